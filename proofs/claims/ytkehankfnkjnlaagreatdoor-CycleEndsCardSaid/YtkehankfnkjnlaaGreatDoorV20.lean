import Derived.Test.YtkehankfnkjnlaaGreatDoorV19
namespace Go.Proofs.YtkehankfnkjnlaaGreatDoor
set_option linter.unusedSimpArgs false
set_option linter.unusedVariables false
set_option maxHeartbeats 16000000
set_option maxRecDepth 20000
open Go.ChangeAt Go.ChangeShapes Go.Joins Go.RowKit Go.WideShapes
variable {h : Hp} {w w' W W' : World} {p q : Option Addr} {n g : Nat} {a : Int} {v : Value}
theorem zgp (e : onP h = none) (n : Nat) (y : Nat → Int) : onH h n y = h ∧ onW h = 0 := by
 constructor
 ·unfold onH; rw [e]
 ·unfold onW; rw [e]
theorem zxa : onP h = none ↔ drH h = 0 := by
 constructor
 ·exact fun e => zrl (zwy e)
 ·intro e
  cases h1 : onP h with
  | none => rfl
  | some p =>
   obtain ⟨hp, hst, -⟩ := zin h1
   have := zwc (s := h.s) hp hst
   unfold drH at e
   omega
structure Rp where
 c : Int
 f : Int
 l : Int
 o : Int
 d : Int
structure Wd where
 c0 : Int
 c1 : Int
 c2 : Int
 c3 : Int
 c4 : Int
 h : Hp
 n : Nat
 z : Nat → Mu
 m : Mk
 ph : Int
 wa : Bool
 cy : Int
 nr : Nat
 rp : Nat → Rp
def caY (z : Nat → Mu) : Nat → Int := fun j => if j % 4 = 0 then (z (j / 4)).c0 else if j % 4 = 1 then (z (j / 4)).c1 else if j % 4 = 2 then (z (j / 4)).c2 else (z (j / 4)).c3
def mayC (c0 c1 c2 c3 c4 : Int) : Bool := decide ((1 ≤ c0 ∧ c0 ≤ 16) ∧ (1 ≤ c1 ∧ c1 ≤ 8) ∧ (1 ≤ c2 ∧ c2 ≤ 8) ∧ (0 ≤ c3 ∧ c3 ≤ 16) ∧ 0 ≤ c4 ∧ c4 ≤ 8)
structure FormW (W : Wd) : Prop where
 may : mayC W.c0 W.c1 W.c2 W.c3 W.c4 = true
 hF : formB W.h = true
 hm : (W.h.m : Int) = W.c0
 hn : (W.n : Int) = W.c1
 ph : 0 ≤ W.ph ∧ W.ph ≤ 2
 st : ∀ i, i < W.n → ((W.z i).n : Int) ≤ W.c2
 ca : rightY W.h W.n (caY W.z) = true
 mr : W.ph = 1 → rightM W.h W.m ∧ W.m.nb = W.n
def zeM : Mk := ⟨⟨0, 0, fun _ => 0⟩, 0, fun _ => ⟨0, 0, fun _ => 0⟩, 0, fun _ => ⟨0, 0⟩, 0, 0, 0, false⟩
def suM (W : Wd) : Wd × Int :=
 if W.ph = 2 then (if drH (onH W.h W.n (caY W.z)) = 0 then ({ W with h := onH W.h W.n (caY W.z), ph := 0 }, 5) else ({ W with h := onH W.h W.n (caY W.z) }, 1)) else (W, 0)
noncomputable def teW (W : Wd) : Rp :=
 ⟨W.cy, (W.h.n : Int) - usH W.h, wdL W.h (bkL W.h), wdL W.h (bkL W.h) - wdL W.h (rcL W.h (vrL (lvF (heldL W.z W.n)) (heldL W.z W.n).length)), usH W.h - wdL W.h (bkL W.h)⟩
noncomputable def tuM (W : Wd) : Wd × Int :=
 if W.ph = 2 then suM W
 else if W.ph = 0 then (if W.wa = true then ({ W with h := flipB W.h, m := newM W.c3 W.n (fun _ => W.c4) (rootL W.h W.z W.n).length (lvF (rootL W.h W.z W.n)), wa := false, ph := 1, cy := wrap64 (W.cy + 1) }, 3) else (W, 0))
 else if (stM W.h W.m).2.2 = true then ({ W with h := bgH W.h, m := zeM, ph := 2, nr := W.nr + 1, rp := fun i => if i = W.nr then teW W else W.rp i }, 4)
 else ({ W with h := (stM W.h W.m).1, m := (stM W.h W.m).2.1 }, 1)
theorem zvn (hF : formB h = true) (m : Mk) : Pnt h (stM h m).1 := by
 have h0 := Pnt.refl hF
 unfold stM
 by_cases h1 : ¬ m.ob = -1
 ·rw [if_pos h1]; exact h0.shade hF m.g _
 rw [if_neg h1]
 by_cases h2 : 0 < m.g.n
 ·rw [if_pos h2]; exact h0
 rw [if_neg h2]
 cases hf : fsB m with
 | some i => exact h0
 | none =>
  simp only []
  by_cases h3 : 0 < m.nr
  ·rw [if_pos h3]; exact h0.shade hF m.g _
  rw [if_neg h3]
  by_cases h4 : ¬ m.cu = -1
  ·rw [if_pos h4]
   cases hl : lbA h m.cu with
   | some a => exact h0
   | none => exact h0
  rw [if_neg h4]
  by_cases h5 : m.ov = true
  ·rw [if_pos h5]; exact h0
  ·rw [if_neg h5]; exact h0
theorem zg7 {g h : Hp} {y : Nat → Int} (hr : rightY h n y = true) (hm : g.m = h.m) (hs : ∀ q : Int, 0 ≤ q → q < h.m → ¬ (spH h q).st = 0 → hasY y q (n * 4) = true → ¬ (spH g q).st = 0 ∧ (spH g q).cl = (spH h q).cl) : rightY g n y = true := by
 rw [zc3] at hr ⊢
 intro j hj
 rcases hr j hj with e | ⟨h0, h1, h2, h3, h4⟩
 ·exact .inl e
 ·obtain ⟨s1, s2⟩ := hs (y j) h0 h1 h2 (zf7 rfl hj)
  exact .inr ⟨h0, by rw [hm]; exact h1, s1, by rw [s2]; exact h3, h4⟩
theorem zu7 (hF : formB h = true) (hw : h.wf) {y : Nat → Int} (hr : rightY h n y = true) : rightY (onH h n y) n y = true := by
 cases e : onP h with
 | none => rw [(zgp e n y).1]; exact hr
 | some p =>
  have O := ond hF hw n y e
  obtain ⟨hp, hst, -⟩ := zin e
  refine zg7 hr O.mm fun q q0 q1 qs qk => ?_
  by_cases eq : q = p
  ·subst eq
   rw [O.mine]
   have hk : keptY n y (p : Int) = true := by unfold keptY; simp [qk]
   rw [hk]
   unfold clS
   rw [if_neg (by simp)]
   have h1 := (swp hF hw hp 32 (Nat.le_refl _)).cl _ q0
   generalize swA h p 32 = g at *
   exact ⟨(by decide : ¬ (1 : Int) = 0), h1⟩
  ·rw [O.oth q q0 eq]
   exact ⟨qs, rfl⟩
theorem zgo {c0 c1 c2 c3 c4 : Int} : mayC c0 c1 c2 c3 c4 = true ↔ (1 ≤ c0 ∧ c0 ≤ 16) ∧ (1 ≤ c1 ∧ c1 ≤ 8) ∧ (1 ≤ c2 ∧ c2 ≤ 8) ∧ (0 ≤ c3 ∧ c3 ≤ 16) ∧ 0 ≤ c4 ∧ c4 ≤ 8 := by simp [mayC]
theorem zi4 {W : Wd} (F : FormW W) (hw : W.h.wf) : FormW (tuM W).1 := by
 obtain ⟨f1, f2, f3, f4, f5, f6, f7, f8⟩ := F
 obtain ⟨-, -, -, ⟨k0, k1⟩, k2, k3⟩ := zgo.1 f1
 unfold tuM
 by_cases h2 : W.ph = 2
 ·rw [if_pos h2]
  unfold suM
  rw [if_pos h2]
  have hm : (onH W.h W.n (caY W.z)).m = W.h.m ∧ formB (onH W.h W.n (caY W.z)) = true := by
   cases e : onP W.h with
   | none => rw [(zgp e _ _).1]; exact ⟨rfl, f2⟩
   | some p => exact ⟨(ond f2 hw _ _ e).mm, (ond f2 hw _ _ e).form⟩
  have hr := zu7 f2 hw f7
  split
  ·exact ⟨f1, hm.2, by show ((onH W.h W.n (caY W.z)).m : Int) = _; rw [hm.1]; exact f3, f4, ⟨Int.le_refl _, by show (0 : Int) ≤ 2; decide⟩, f6, hr, fun e => absurd e (by show ¬ (0 : Int) = 1; decide)⟩
  ·exact ⟨f1, hm.2, by show ((onH W.h W.n (caY W.z)).m : Int) = _; rw [hm.1]; exact f3, f4, f5, f6, hr, fun e => absurd (h2.symm.trans e) (by decide)⟩
 rw [if_neg h2]
 by_cases h0 : W.ph = 0
 ·rw [if_pos h0]
  split
  ·exact ⟨f1, f2, f3, f4, ⟨by show (0 : Int) ≤ 1; decide, by show (1 : Int) ≤ 2; decide⟩, f6, f7, fun _ => ⟨zka k0 k1 fun i hi => ⟨k2, by omega⟩, rfl⟩⟩
  ·exact ⟨f1, f2, f3, f4, f5, f6, f7, f8⟩
 rw [if_neg h0]
 have h1 : W.ph = 1 := by omega
 obtain ⟨g1, g2⟩ := f8 h1
 by_cases hd : (stM W.h W.m).2.2 = true
 ·rw [if_pos hd]
  refine ⟨f1, zd4 f2, f3, f4, ⟨by show (0 : Int) ≤ 2; decide, Int.le_refl _⟩, f6, ?_, fun e => absurd e (by show ¬ (2 : Int) = 1; decide)⟩
  refine zg7 f7 rfl fun q q0 q1 qs _ => ?_
  obtain ⟨b1, -, b3⟩ := bg_sp W.h q
  exact ⟨fun e => qs (b3.1 e), b1⟩
 ·rw [if_neg hd]
  have hd' : (stM W.h W.m).2.2 = false := by simpa using hd
  obtain ⟨-, s2⟩ := zmc f2 g1 hd'
  have hp := zvn f2 W.m
  have hnb : (stM W.h W.m).2.1.nb = W.m.nb := (st_nb W.h W.m).1
  refine ⟨f1, hp.form f2, by show ((stM W.h W.m).1.m : Int) = _; rw [(hp.list f2).2.2.1]; exact f3, f4, f5, f6, ?_, fun _ => ⟨s2, hnb.trans g2⟩⟩
  obtain ⟨P, hP⟩ := hp
  show rightY (stM W.h W.m).1 W.n (caY W.z) = true
  rw [hP]
  exact f7
theorem zxl (ho : obB h a = true) : a % 2 = 0 := by
 have h1 := ob_fi ho
 unfold fiB plB at h1
 simp only [Bool.and_eq_true, decide_eq_true_eq] at h1
 obtain ⟨-, -, -, -, h2, h3⟩ := h1
 generalize (spH h (a / 32)).cl = c at *
 unfold szW at h2 h3
 split at h3
 ·omega
 ·split at h3
  ·omega
  ·split at h3
   ·omega
   ·split at h3
    ·omega
    ·rename_i e0 e1 e2 e3
     rw [if_neg e0, if_neg e1, if_neg e2, if_neg e3] at h2
     exact absurd rfl h2
theorem zne (h : Hp) : ∀ k, (obL h k).length ≤ (k + 1) / 2
 | 0 => by simp [obL]
 | k + 1 => by
  have ih := zne h k
  cases e : obB h k with
  | true =>
   have := zxl e
   rw [zg9 e, List.length_append, List.length_singleton]
   omega
  | false =>
   rw [zjy e]
   omega
theorem zng (hF : formB h = true) : nOb h ≤ h.n / 2 := by
 have h1 := zne h h.n
 have := (zad.1 hF).2.2.1
 unfold nOb
 omega
theorem zwj {b : Nat → Gy} : ∀ {n : Nat}, (∀ i, i < n → (b i).right = true) → smB b n ≤ 16 * n
 | 0, _ => Nat.le_refl _
 | n + 1, h => by
  have ih := zwj (n := n) fun i hi => h i (by omega)
  have h1 := h n (by omega)
  have h2 := (zbe.1 h1).1
  show smB b n + (b n).n ≤ _
  omega
def maN (n nr k : Nat) : Nat := (n / 2 + 3) * (17 * (n / 2) + 8) + nr + 17 * (16 + 16 * k) + 20
theorem mu_le {m : Mk} (hF : formB h = true) (hR : rightM h m) : (muM h m).toNat ≤ maN h.n m.nr m.nb := by
 have h1 := znf hF hR
 have h2 := zng hF
 have h3 := zwj hR.2.1
 have h4 := (zbe.1 hR.1).1
 have h5 : (nOb h + 3) * (17 * nOb h + 8) ≤ (h.n / 2 + 3) * (17 * (h.n / 2) + 8) := Nat.mul_le_mul (by omega) (by omega)
 unfold boM at h1
 unfold maN
 generalize (nOb h + 3) * (17 * nOb h + 8) = A at *
 generalize (h.n / 2 + 3) * (17 * (h.n / 2) + 8) = B at *
 omega
theorem zn2 {b : Nat → Gy} (h : ∀ i, (b i).n = 0) : ∀ n, smB b n = 0
 | 0 => rfl
 | n + 1 => by
  show smB b n + (b n).n = 0
  rw [zn2 h n, h n]
def faN (n : Nat) : Nat := (n / 2 + 3) * (17 * (n / 2) + 8) + 108
theorem mu_new {r : Int} {nb : Nat} {br : Nat → Int} {nr : Nat} {ro : Nat → Vl} (hF : formB h = true) (h0 : 0 ≤ r) (h1 : r ≤ 16) (hb : ∀ i, i < nb → 0 ≤ br i ∧ br i ≤ 16) (hr : nr ≤ 88) : (muM h (newM r nb br nr ro)).toNat ≤ faN h.n := by
 have h2 := znf hF (zka (nr := nr) (ro := ro) h0 h1 hb)
 have h3 := zng hF
 have h5 : (nOb h + 3) * (17 * nOb h + 8) ≤ (h.n / 2 + 3) * (17 * (h.n / 2) + 8) := Nat.mul_le_mul (by omega) (by omega)
 have e : boM h (newM r nb br nr ro) = (nOb h + 3) * (17 * nOb h + 8) + nr + 17 * (0 + smB (newM r nb br nr ro).b nb) + 20 := rfl
 rw [e, zn2 (b := (newM r nb br nr ro).b) (fun _ => rfl) nb] at h2
 unfold faN
 generalize (nOb h + 3) * (17 * nOb h + 8) = A at *
 generalize (h.n / 2 + 3) * (17 * (h.n / 2) + 8) = B at *
 omega
noncomputable def rkW (W : Wd) : Nat :=
 (if W.ph = 2 then drH W.h + 1 else if W.ph = 0 then 0 else (muM W.h W.m).toNat + 18) + (if W.wa = true then faN W.h.n + 19 else 0)
theorem zwq {W : Wd} (F : FormW W) (hw : W.h.wf) (hgo : ¬ (W.ph = 0 ∧ W.wa = false)) : rkW (tuM W).1 + 1 ≤ rkW W ∧ ¬ (tuM W).2 = 0 ∧ (tuM W).1.h.n = W.h.n := by
 obtain ⟨f1, f2, f3, f4, f5, f6, f7, f8⟩ := F
 obtain ⟨g0, g1, g2, ⟨k0, k1⟩, k2, k3⟩ := zgo.1 f1
 obtain ⟨c0, c1, c2, c3, c4, h, n, z, m, ph, wa, cy, nr, rp⟩ := W
 simp only at *
 unfold tuM
 by_cases h2 : ph = 2
 ·subst h2
  rw [if_pos rfl]
  unfold suM
  rw [if_pos rfl]
  cases e : onP h with
  | none =>
   obtain ⟨e1, -⟩ := zgp e n (caY z)
   have e2 := zxa.1 e
   simp only [e1, e2, if_true]
   refine ⟨?_, by simp, by simp⟩
   unfold rkW
   simp only [e2]
   simp
   omega
  | some p =>
   have O := ond f2 hw n (caY z) e
   have hl := O.less
   have hnn := O.nn
   simp only
   split
   ·refine ⟨?_, by simp, hnn⟩
    unfold rkW
    simp only [hnn]
    simp
    omega
   ·refine ⟨?_, by simp, hnn⟩
    unfold rkW
    simp only [hnn]
    simp
    omega
 rw [if_neg h2]
 by_cases h0 : ph = 0
 ·subst h0
  have hwa : wa = true := by
   cases wa with
   | true => rfl
   | false => exact absurd ⟨rfl, rfl⟩ hgo
  subst hwa
  simp only [if_true]
  refine ⟨?_, by simp, rfl⟩
  have hlen : (rootL h z n).length ≤ 88 := by
   unfold rootL
   rw [List.length_append]
   have h1 := zce (z := z) (b := 8) (n := n) fun i hi => by have := f6 i hi; omega
   have h2 := zdv h z n
   omega
  have hmu := mu_new (h := flipB h) (r := c3) (nb := n) (br := fun _ => c4) (nr := (rootL h z n).length) (ro := lvF (rootL h z n)) f2 k0 k1 (fun i hi => ⟨k2, by omega⟩) hlen
  unfold rkW
  simp only
  have e1 : (flipB h).n = h.n := rfl
  rw [e1] at hmu
  simp
  omega
 rw [if_neg h0]
 have h1 : ph = 1 := by omega
 subst h1
 obtain ⟨r1, r2⟩ := f8 rfl
 by_cases hd : (stM h m).2.2 = true
 ·rw [if_pos hd]
  refine ⟨?_, by simp, rfl⟩
  have hdr : drH (bgH h) ≤ h.m := zv0 _ _
  unfold rkW
  simp only
  have e1 : (bgH h).n = h.n := rfl
  rw [e1]
  simp
  omega
 ·rw [if_neg hd]
  have hd' : (stM h m).2.2 = false := by simpa using hd
  obtain ⟨s1, s2⟩ := zmc f2 r1 hd'
  have s3 := zsg s2
  have hp := (zvn f2 m).list f2
  refine ⟨?_, by simp, hp.2.1⟩
  unfold rkW
  simp only [hp.2.1]
  simp
  omega
def boW (W : Wd) : Nat := (W.h.n / 2 + 1 + 3) * (17 * (W.h.n / 2 + 1) + 8) + W.m.nr + 17 * (16 + 16 * W.n) + 100 + 2 * nOb W.h + W.h.m
theorem zu4 {W : Wd} (F : FormW W) : rkW W + 1 ≤ 2 * boW W + 1000 := by
 have h5 : (W.h.n / 2 + 3) * (17 * (W.h.n / 2) + 8) ≤ (W.h.n / 2 + 1 + 3) * (17 * (W.h.n / 2 + 1) + 8) := Nat.mul_le_mul (by omega) (by omega)
 have hdr : drH W.h ≤ W.h.m := zv0 _ _
 have h1 : (if W.ph = 2 then drH W.h + 1 else if W.ph = 0 then 0 else (muM W.h W.m).toNat + 18) ≤ (W.h.n / 2 + 3) * (17 * (W.h.n / 2) + 8) + W.m.nr + 17 * (16 + 16 * W.n) + 38 + W.h.m := by
  split
  ·omega
  ·split
   ·omega
   ·have hp : W.ph = 1 := by have := F.ph; omega
    obtain ⟨r1, r2⟩ := F.mr hp
    have := mu_le F.hF r1
    unfold maN at this
    rw [r2] at this
    omega
 have h2 : (if W.wa = true then faN W.h.n + 19 else 0) ≤ (W.h.n / 2 + 3) * (17 * (W.h.n / 2) + 8) + 127 := by
  unfold faN
  split <;> omega
 unfold rkW boW
 generalize (W.h.n / 2 + 3) * (17 * (W.h.n / 2) + 8) = A at *
 generalize (W.h.n / 2 + 1 + 3) * (17 * (W.h.n / 2 + 1) + 8) = B at *
 omega
def MkC (W : World) (m : Mk) (L : List Value) : Prop := ∃ pg cg pb cb pr cr, L = [.int .i64 m.g.r, .slice pg m.g.n cg, .slice pb m.nb cb, .slice pr m.nr cr, .int .i64 m.ob, .int .i64 m.fi, .int .i64 m.cu, .bool m.ov] ∧
 GrAt W pg cg m.g.n m.g.z ∧ RAt GrC 2 W pb cb m.nb m.b ∧ VAt W pr cr m.nr m.ro ∧ (In64 m.g.r ∧ In64 m.ob ∧ In64 m.fi ∧ In64 m.cu)
section
variable {H : Type} {enc : TypeId × Value → H} {P : Program} {W : World} {base : Nat}
theorem zmf {t e tv : TypeId} {f0 f1 f2 f3 f4 f5 f6 g0 g1 v0 v1 : Field} {fuel : Nat} {cs : List Value} {y : DataW H × List MemPlace} (hs : P.underlying t = some (.struct #[f0, f1, f2, f3, f4, f5, f6])) (hC : P.cellsOf t = 8) 
  (hoff : f0.offset = 0 ∧ f1.offset = 2 ∧ f2.offset = 3 ∧ f3.offset = 4 ∧ f4.offset = 5 ∧ f5.offset = 6 ∧ f6.offset = 7)
  (hcc : P.cellsOf f0.type = 2 ∧ P.cellsOf f1.type = 1 ∧ P.cellsOf f2.type = 1 ∧ P.cellsOf f3.type = 1 ∧ P.cellsOf f4.type = 1 ∧ P.cellsOf f5.type = 1 ∧ P.cellsOf f6.type = 1)
  (hg : P.underlying f0.type = some (.struct #[g0, g1])) (go0 : g0.offset = 0) (go1 : g1.offset = 1) (gc0 : P.cellsOf g0.type = 1) (gc1 : P.cellsOf g1.type = 1) (gu0 : P.underlying g0.type = some (.int .i64)) (gu1 : P.underlying g1.type = some (.slice e)) (he : P.underlying e = some (.int .i64)) (hce : P.cellsOf e = 1)
  (hb : P.underlying f1.type = some (.slice f0.type)) (hr : P.underlying f2.type = some (.slice tv)) (hv : P.underlying tv = some (.struct #[v0, v1])) (hcv : P.cellsOf tv = 2) (hone : Go.Deep.oneCellFields P #[v0, v1] = true) (hv0 : P.underlying v0.type = some (.int .i64)) (hv1 : P.underlying v1.type = some (.int .i64))
  (h3 : P.underlying f3.type = some (.int .i64)) (h4 : P.underlying f4.type = some (.int .i64)) (h5 : P.underlying f5.type = some (.int .i64)) (h6 : P.underlying f6.type = some .bool)
  (h : DataW.trod enc P W 0 (fun _ => true) true fuel t cs = some y) : ∃ m : Mk, MkC W m cs := by
 obtain ⟨hl, hp⟩ := zb8 hs h
 rw [hC] at hl
 obtain ⟨o0, o1, o2, o3, o4, o5, o6⟩ := hoff
 obtain ⟨c0, c1, c2, c3, c4, c5, c6⟩ := hcc
 match cs, hl with
 | [a0, a1, a2, a3, a4, a5, a6, a7], _ =>
  obtain ⟨k0, y0, q0⟩ := hp 0 f0 rfl
  obtain ⟨k1, y1, q1⟩ := hp 1 f1 rfl
  obtain ⟨k2, y2, q2⟩ := hp 2 f2 rfl
  obtain ⟨k3, y3, q3⟩ := hp 3 f3 rfl
  obtain ⟨k4, y4, q4⟩ := hp 4 f4 rfl
  obtain ⟨k5, y5, q5⟩ := hp 5 f5 rfl
  obtain ⟨k6, y6, q6⟩ := hp 6 f6 rfl
  rw [o0, c0] at q0
  rw [o1, c1] at q1
  rw [o2, c2] at q2
  rw [o3, c3] at q3
  rw [o4, c4] at q4
  rw [o5, c5] at q5
  rw [o6, c6] at q6
  simp at q0 q1 q2 q3 q4 q5 q6
  obtain ⟨g, pg, cg, eg, hgg, hgr⟩ := zkg hg go0 go1 c0 gc0 gc1 gu0 gu1 he hce q0
  injection eg with e0 eg
  injection eg with e1 _
  subst e0 e1
  obtain ⟨pb, nb, cb, b, rfl, hbb⟩ := zqf hb hg go0 go1 c0 gc0 gc1 gu0 gu1 he hce q1
  obtain ⟨pr, nr, cr, ro, rfl, hro⟩ := zdp hr hv hcv hone hv0 hv1 q2
  obtain ⟨ob, e3, -, w3⟩ := DataW.trod_int h3 q3
  obtain ⟨fi, e4, -, w4⟩ := DataW.trod_int h4 q4
  obtain ⟨cu, e5, -, w5⟩ := DataW.trod_int h5 q5
  obtain ⟨ov, e6, -⟩ := DataW.trod_bool h6 q6
  simp at e3 e4 e5 e6
  subst e3 e4 e5 e6
  exact ⟨⟨g, nb, b, nr, ro, ob, fi, cu, ov⟩, pg, cg, pb, cb, pr, cr, rfl, hgg, hbb, hro, hgr, zbp w3, zbp w4, zbp w5⟩
end
def Rp.wf (r : Rp) : Prop := In64 r.c ∧ In64 r.f ∧ In64 r.l ∧ In64 r.o ∧ In64 r.d
instance : Inhabited Rp := ⟨⟨0, 0, 0, 0, 0⟩⟩
def RpC (_ : World) (r : Rp) (L : List Value) : Prop := L = [.int .i64 r.c, .int .i64 r.f, .int .i64 r.l, .int .i64 r.o, .int .i64 r.d] ∧ r.wf
theorem zb6 : CBelow RpC := fun _ _ _ _ h _ => h
structure Wp where
 h : Option Addr
 hc : Nat
 s : Option Addr
 sc : Nat
 m : Option Addr
 mc : Nat
 g : Option Addr
 gc : Nat
 b : Option Addr
 bc : Nat
 r : Option Addr
 rc : Nat
 o : Option Addr
 oc : Nat
@[reducible] def Wd.cells (w : Wd) (p : Wp) : List Value :=
 [.int .i64 w.c0, .int .i64 w.c1, .int .i64 w.c2, .int .i64 w.c3, .int .i64 w.c4, .slice p.h w.h.n p.hc, .slice p.s w.h.m p.sc, .bool w.h.b, .slice p.m w.n p.mc,
  .int .i64 w.m.g.r, .slice p.g w.m.g.n p.gc, .slice p.b w.m.nb p.bc, .slice p.r w.m.nr p.rc, .int .i64 w.m.ob, .int .i64 w.m.fi, .int .i64 w.m.cu, .bool w.m.ov, .int .i64 w.ph, .bool w.wa, .int .i64 w.cy, .slice p.o w.nr p.oc]
structure WdIn (W : World) (w : Wd) (p : Wp) : Prop where
 heap : HpAt W p.h p.hc p.s p.sc w.h
 muts : RAt MuC 13 W p.m p.mc w.n w.z
 grey : GrAt W p.g p.gc w.m.g.n w.m.g.z
 bars : RAt GrC 2 W p.b p.bc w.m.nb w.m.b
 roots : VAt W p.r p.rc w.m.nr w.m.ro
 reps : RAt RpC 5 W p.o p.oc w.nr w.rp
 conf : In64 w.c0 ∧ In64 w.c1 ∧ In64 w.c2 ∧ In64 w.c3 ∧ In64 w.c4
 mark : In64 w.m.g.r ∧ In64 w.m.ob ∧ In64 w.m.fi ∧ In64 w.m.cu
 own : In64 w.ph ∧ In64 w.cy
theorem WdIn.below {w : Wd} {p : Wp} (h : WdIn W w p) (hb : Below W.heap.size W W') : WdIn W' w p :=
 ⟨h.heap.below hb, h.muts.below zat hb, h.grey.below hb, h.bars.below za2 hb, h.roots.below hb, h.reps.below zb6 hb, h.conf, h.mark, h.own⟩
section
variable {H : Type} {enc : TypeId × Value → H} {P : Program} {W : World} {base : Nat}
theorem zll {t : TypeId} {f0 f1 f2 f3 f4 : Field} {fuel : Nat} {cs : List Value} {y : DataW H × List MemPlace} (hs : P.underlying t = some (.struct #[f0, f1, f2, f3, f4])) (hC : P.cellsOf t = 5) 
  (ho : f0.offset = 0 ∧ f1.offset = 1 ∧ f2.offset = 2 ∧ f3.offset = 3 ∧ f4.offset = 4) (hcc : P.cellsOf f0.type = 1 ∧ P.cellsOf f1.type = 1 ∧ P.cellsOf f2.type = 1 ∧ P.cellsOf f3.type = 1 ∧ P.cellsOf f4.type = 1)
  (hu : P.underlying f0.type = some (.int .i64) ∧ P.underlying f1.type = some (.int .i64) ∧ P.underlying f2.type = some (.int .i64) ∧ P.underlying f3.type = some (.int .i64) ∧ P.underlying f4.type = some (.int .i64))
  (h : DataW.trod enc P W 0 (fun _ => true) true fuel t cs = some y) : ∃ a b c d e : Int, cs = [.int .i64 a, .int .i64 b, .int .i64 c, .int .i64 d, .int .i64 e] ∧ In64 a ∧ In64 b ∧ In64 c ∧ In64 d ∧ In64 e := by
 obtain ⟨hl, hp⟩ := zb8 hs h
 rw [hC] at hl
 obtain ⟨o0, o1, o2, o3, o4⟩ := ho
 obtain ⟨c0, c1, c2, c3, c4⟩ := hcc
 obtain ⟨u0, u1, u2, u3, u4⟩ := hu
 match cs, hl with
 | [a0, a1, a2, a3, a4], _ =>
  obtain ⟨k0, y0, q0⟩ := hp 0 f0 rfl
  obtain ⟨k1, y1, q1⟩ := hp 1 f1 rfl
  obtain ⟨k2, y2, q2⟩ := hp 2 f2 rfl
  obtain ⟨k3, y3, q3⟩ := hp 3 f3 rfl
  obtain ⟨k4, y4, q4⟩ := hp 4 f4 rfl
  rw [o0, c0] at q0
  rw [o1, c1] at q1
  rw [o2, c2] at q2
  rw [o3, c3] at q3
  rw [o4, c4] at q4
  simp at q0 q1 q2 q3 q4
  obtain ⟨x0, e0, -, w0⟩ := DataW.trod_int u0 q0
  obtain ⟨x1, e1, -, w1⟩ := DataW.trod_int u1 q1
  obtain ⟨x2, e2, -, w2⟩ := DataW.trod_int u2 q2
  obtain ⟨x3, e3, -, w3⟩ := DataW.trod_int u3 q3
  obtain ⟨x4, e4, -, w4⟩ := DataW.trod_int u4 q4
  simp at e0 e1 e2 e3 e4
  subst e0 e1 e2 e3 e4
  exact ⟨x0, x1, x2, x3, x4, rfl, zbp w0, zbp w1, zbp w2, zbp w3, zbp w4⟩
theorem zr7 {t e1 e2 : TypeId} {f0 f1 f2 g0 g1 g2 : Field} {fuel : Nat} {cs : List Value} {y : DataW H × List MemPlace} (hs : P.underlying t = some (.struct #[f0, f1, f2])) (hC : P.cellsOf t = 3) 
  (ho : f0.offset = 0 ∧ f1.offset = 1 ∧ f2.offset = 2) (hcc : P.cellsOf f0.type = 1 ∧ P.cellsOf f1.type = 1 ∧ P.cellsOf f2.type = 1)
  (hu0 : P.underlying f0.type = some (.slice e1)) (he1 : P.underlying e1 = some (.int .u64)) (hc1 : P.cellsOf e1 = 1)
  (hu1 : P.underlying f1.type = some (.slice e2)) (he2 : P.underlying e2 = some (.struct #[g0, g1, g2])) (hc2 : P.cellsOf e2 = 3)
  (hone2 : Go.Deep.oneCellFields P #[g0, g1, g2] = true) (hg0 : P.underlying g0.type = some (.int .i64)) (hg1 : P.underlying g1.type = some (.int .i64)) (hg2 : P.underlying g2.type = some (.int .u32))
  (hu2 : P.underlying f2.type = some .bool)
  (h : DataW.trod enc P W 0 (fun _ => true) true fuel t cs = some y) : ∃ (x : Hp) (p : Option Addr) (c : Nat) (q : Option Addr) (d : Nat), cs = [.slice p x.n c, .slice q x.m d, .bool x.b] ∧ HpAt W p c q d x := by
 obtain ⟨hl, hp⟩ := zb8 hs h
 rw [hC] at hl
 obtain ⟨o0, o1, o2⟩ := ho
 obtain ⟨c0, c1, c2⟩ := hcc
 match cs, hl with
 | [a0, a1, a2], _ =>
  obtain ⟨k0, y0, q0⟩ := hp 0 f0 rfl
  obtain ⟨k1, y1, q1⟩ := hp 1 f1 rfl
  obtain ⟨k2, y2, q2⟩ := hp 2 f2 rfl
  rw [o0, c0] at q0
  rw [o1, c1] at q1
  rw [o2, c2] at q2
  simp at q0 q1 q2
  obtain ⟨p, n, c, z, rfl, hn, hz, hp0, hpc⟩ := zds hu0 he1 hc1 q0
  obtain ⟨q, k, d, s, rfl, hk, hs', hq, hqc⟩ := zf2 hu1 he2 hc2 hone2 hg0 hg1 hg2 q1
  obtain ⟨b, rfl⟩ := zfv hu2 q2
  exact ⟨⟨n, z, k, s, b⟩, p, c, q, d, rfl, hz, hs', hn, hk, hp0, hq, hpc, hqc⟩
end
theorem zfs {H : Type} {enc : TypeId × Value → H} {base : Nat} {d : DataW H} {p : List MemPlace} 
  (hok : Value.okWide Tryz.prog W .any base 38 v) (h : DataW.Trod enc Tryz.prog W 0 (fun _ => true) true 38 v d p) : ∃ (w : Wd) (q : Wp), v = .agg (w.cells q).toArray ∧ WdIn W w q := by
 obtain ⟨cs, rfl, -⟩ := okWide_struct Tryz.underlying38 hok
 obtain ⟨fuel, hf⟩ := h
 obtain ⟨hl, hp⟩ := zb8 Tryz.underlying38 (by simpa [Value.cells] using hf : DataW.trod enc Tryz.prog W 0 (fun _ => true) true fuel 38 cs.toList = some (d, p))
 rw [show Tryz.prog.cellsOf 38 = 21 from by kernel_rfl] at hl
 have hcs : cs = cs.toList.toArray := by simp
 generalize cs.toList = L at *
 subst hcs
 clear hok hf
 match L, hl with
 | [a0, a1, a2, a3, a4, a5, a6, a7, a8, a9, a10, a11, a12, a13, a14, a15, a16, a17, a18, a19, a20], _ =>
  obtain ⟨k0, y0, q0⟩ := hp 0 _ rfl
  obtain ⟨k1, y1, q1⟩ := hp 1 _ rfl
  obtain ⟨k2, y2, q2⟩ := hp 2 _ rfl
  obtain ⟨k3, y3, q3⟩ := hp 3 _ rfl
  obtain ⟨k4, y4, q4⟩ := hp 4 _ rfl
  obtain ⟨k5, y5, q5⟩ := hp 5 _ rfl
  obtain ⟨k6, y6, q6⟩ := hp 6 _ rfl
  obtain ⟨k7, y7, q7⟩ := hp 7 _ rfl
  clear hp
  change DataW.trod enc Tryz.prog W 0 (fun _ => true) true k0 23 ((List.drop 0 [a0, a1, a2, a3, a4, a5, a6, a7, a8, a9, a10, a11, a12, a13, a14, a15, a16, a17, a18, a19, a20]).take (Tryz.prog.cellsOf 23)) = some y0 at q0
  change DataW.trod enc Tryz.prog W 0 (fun _ => true) true k1 27 ((List.drop 5 [a0, a1, a2, a3, a4, a5, a6, a7, a8, a9, a10, a11, a12, a13, a14, a15, a16, a17, a18, a19, a20]).take (Tryz.prog.cellsOf 27)) = some y1 at q1
  change DataW.trod enc Tryz.prog W 0 (fun _ => true) true k2 28 ((List.drop 8 [a0, a1, a2, a3, a4, a5, a6, a7, a8, a9, a10, a11, a12, a13, a14, a15, a16, a17, a18, a19, a20]).take (Tryz.prog.cellsOf 28)) = some y2 at q2
  change DataW.trod enc Tryz.prog W 0 (fun _ => true) true k3 35 ((List.drop 9 [a0, a1, a2, a3, a4, a5, a6, a7, a8, a9, a10, a11, a12, a13, a14, a15, a16, a17, a18, a19, a20]).take (Tryz.prog.cellsOf 35)) = some y3 at q3
  change DataW.trod enc Tryz.prog W 0 (fun _ => true) true k4 3 ((List.drop 17 [a0, a1, a2, a3, a4, a5, a6, a7, a8, a9, a10, a11, a12, a13, a14, a15, a16, a17, a18, a19, a20]).take (Tryz.prog.cellsOf 3)) = some y4 at q4
  change DataW.trod enc Tryz.prog W 0 (fun _ => true) true k5 4 ((List.drop 18 [a0, a1, a2, a3, a4, a5, a6, a7, a8, a9, a10, a11, a12, a13, a14, a15, a16, a17, a18, a19, a20]).take (Tryz.prog.cellsOf 4)) = some y5 at q5
  change DataW.trod enc Tryz.prog W 0 (fun _ => true) true k6 3 ((List.drop 19 [a0, a1, a2, a3, a4, a5, a6, a7, a8, a9, a10, a11, a12, a13, a14, a15, a16, a17, a18, a19, a20]).take (Tryz.prog.cellsOf 3)) = some y6 at q6
  change DataW.trod enc Tryz.prog W 0 (fun _ => true) true k7 36 ((List.drop 20 [a0, a1, a2, a3, a4, a5, a6, a7, a8, a9, a10, a11, a12, a13, a14, a15, a16, a17, a18, a19, a20]).take (Tryz.prog.cellsOf 36)) = some y7 at q7
  rw [show Tryz.prog.cellsOf 23 = 5 from by kernel_rfl] at q0
  rw [show Tryz.prog.cellsOf 27 = 3 from by kernel_rfl] at q1
  rw [show Tryz.prog.cellsOf 28 = 1 from by kernel_rfl] at q2
  rw [show Tryz.prog.cellsOf 35 = 8 from by kernel_rfl] at q3
  rw [show Tryz.prog.cellsOf 3 = 1 from by kernel_rfl] at q4
  rw [show Tryz.prog.cellsOf 4 = 1 from by kernel_rfl] at q5
  rw [show Tryz.prog.cellsOf 3 = 1 from by kernel_rfl] at q6
  rw [show Tryz.prog.cellsOf 36 = 1 from by kernel_rfl] at q7
  simp only [List.drop_succ_cons, List.drop_zero, List.take_succ_cons, List.take_zero] at q0 q1 q2 q3 q4 q5 q6 q7
  obtain ⟨c0, c1, c2, c3, c4, e0, hc⟩ := zll Tryz.underlying23 (by kernel_rfl) ⟨rfl, rfl, rfl, rfl, rfl⟩ ⟨by kernel_rfl, by kernel_rfl, by kernel_rfl, by kernel_rfl, by kernel_rfl⟩ ⟨by kernel_rfl, by kernel_rfl, by kernel_rfl, by kernel_rfl, by kernel_rfl⟩ q0
  obtain ⟨x, ph, ch, pq, dq, e1, hh⟩ := zr7 Tryz.underlying27 (by kernel_rfl) ⟨rfl, rfl, rfl⟩ ⟨by kernel_rfl, by kernel_rfl, by kernel_rfl⟩ Tryz.underlying24 (by kernel_rfl) (by kernel_rfl) Tryz.underlying25 Tryz.underlying51 (by kernel_rfl) (by kernel_rfl) (by kernel_rfl) (by kernel_rfl) (by kernel_rfl) (by kernel_rfl) q1
  obtain ⟨pm, n, cm, z, e2, hm⟩ := zgq (C := MuC) (s := 13) Tryz.underlying28 (by kernel_rfl) (by decide) (fun _ _ _ h _ => zk7 Tryz.underlying73 (by kernel_rfl) ⟨rfl, rfl, rfl, rfl, rfl, rfl⟩ ⟨by kernel_rfl, by kernel_rfl, by kernel_rfl, by kernel_rfl, by kernel_rfl, by kernel_rfl⟩ Tryz.underlying33 Tryz.underlying70 (by kernel_rfl) (by kernel_rfl) (by kernel_rfl) (by kernel_rfl) (by kernel_rfl) (by kernel_rfl) rfl Tryz.underlying68 ⟨rfl, rfl, rfl, rfl⟩ ⟨by kernel_rfl, by kernel_rfl, by kernel_rfl, by kernel_rfl⟩ ⟨by kernel_rfl, by kernel_rfl, by kernel_rfl, by kernel_rfl⟩ ⟨rfl, rfl⟩ ⟨by kernel_rfl, by kernel_rfl⟩ Tryz.underlying71 (by kernel_rfl) (by kernel_rfl) h) q2
  obtain ⟨m, pg, cg, pb, cb, pr, cr, e3, hg, hb, hr, hw⟩ := zmf Tryz.underlying35 (by kernel_rfl) ⟨rfl, rfl, rfl, rfl, rfl, rfl, rfl⟩ ⟨by kernel_rfl, by kernel_rfl, by kernel_rfl, by kernel_rfl, by kernel_rfl, by kernel_rfl, by kernel_rfl⟩ Tryz.underlying31 rfl rfl (by kernel_rfl) (by kernel_rfl) (by kernel_rfl) Tryz.underlying29 (by kernel_rfl) (by kernel_rfl) Tryz.underlying32 Tryz.underlying33 Tryz.underlying70 (by kernel_rfl) (by kernel_rfl) (by kernel_rfl) (by kernel_rfl) (by kernel_rfl) (by kernel_rfl) (by kernel_rfl) (by kernel_rfl) q3
  obtain ⟨x4, e4, -, w4⟩ := DataW.trod_int (show Tryz.prog.underlying 3 = some (.int .i64) from by kernel_rfl) q4
  obtain ⟨b5, e5⟩ := zfv (by kernel_rfl) q5
  obtain ⟨x6, e6, -, w6⟩ := DataW.trod_int (show Tryz.prog.underlying 3 = some (.int .i64) from by kernel_rfl) q6
  obtain ⟨po, nr, co, rp, e7, ho⟩ := zgq (C := RpC) (s := 5) Tryz.underlying36 (by kernel_rfl) (by decide) (fun _ _ _ h _ => by
   obtain ⟨r0, r1, r2, r3, r4, er, hr⟩ := zll Tryz.underlying47 (by kernel_rfl) ⟨rfl, rfl, rfl, rfl, rfl⟩ ⟨by kernel_rfl, by kernel_rfl, by kernel_rfl, by kernel_rfl, by kernel_rfl⟩ ⟨by kernel_rfl, by kernel_rfl, by kernel_rfl, by kernel_rfl, by kernel_rfl⟩ h
   exact ⟨⟨r0, r1, r2, r3, r4⟩, er, hr⟩) q7
  simp only [List.cons.injEq, and_true] at e0 e1 e3 e4 e6
  obtain ⟨rfl, rfl, rfl, rfl, rfl⟩ := e0
  obtain ⟨rfl, rfl, rfl⟩ := e1
  obtain ⟨rfl, rfl, rfl, rfl, rfl, rfl, rfl, rfl⟩ := e3
  subst e2 e4 e5 e6 e7
  exact ⟨⟨c0, c1, c2, c3, c4, x, n, z, m, x4, b5, x6, nr, rp⟩, ⟨ph, ch, pq, dq, pm, cm, pg, cg, pb, cb, pr, cr, po, co⟩, rfl, hh, hm, hg, hb, hr, ho, hc, hw, zbp w4, zbp w6⟩
end Go.Proofs.YtkehankfnkjnlaaGreatDoor
