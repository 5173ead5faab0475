import Derived.Test.YtkehankfnkjnlaaGreatDoorV18
import Derived.ChangeKeysEq
namespace Go.Proofs.YtkehankfnkjnlaaGreatDoor
set_option linter.unusedSimpArgs false
set_option linter.unusedVariables false
set_option maxHeartbeats 16000000
set_option maxRecDepth 20000
open Go.ChangeAt Go.ChangeShapes Go.Joins Go.RowKit Go.WideShapes
variable {h : Hp} {w w' W W' : World} {p q : Option Addr} {n g : Nat} {a : Int} {v : Value}
def Pnt (h0 h : Hp) : Prop := ∃ P : Int → Bool, h = pnH h0 P
theorem Pnt.refl (hF : formB h = true) : Pnt h h := ⟨fun _ => false, (zl3 hF fun _ _ _ => rfl).symm⟩
theorem Pnt.form {h0 h : Hp} (hp : Pnt h0 h) (hF : formB h0 = true) : formB h = true := by
 obtain ⟨P, rfl⟩ := hp
 exact hF
theorem Pnt.list {h0 h : Hp} (hp : Pnt h0 h) (hF : formB h0 = true) : obL h h.n = obL h0 h0.n ∧ h.n = h0.n ∧ h.m = h0.m ∧ h.b = h0.b := by
 obtain ⟨P, rfl⟩ := hp
 exact ⟨zip hF P _, rfl, rfl, rfl⟩
theorem Pnt.shade {h0 h : Hp} (hp : Pnt h0 h) (hF : formB h0 = true) (g : Gy) (v : Vl) : Pnt h0 (shM h g v).h := by
 obtain ⟨Q, e, -⟩ := zwd (hp.form hF) g v
 obtain ⟨P, rfl⟩ := hp
 exact ⟨_, e.trans (zvg hF P Q)⟩
theorem zd5 : (Tryz.prog.info? 70).map (fun i => (i.zero, i.size, i.bytes)) = some (some (.agg #[.int .i64 0, .int .i64 0]), 2, 16) := by kernel_rfl
def vrL (z : Nat → Vl) : Nat → List Int
 | 0 => []
 | n + 1 => if (z n).k = 2 then vrL z n ++ [(z n).n] else vrL z n
def sameV (n : Nat) (z : Nat → Vl) (m : Nat) (y : Nat → Vl) : Bool := decide (n = m ∧ ∀ i, i < n → (z i).k = (y i).k ∧ (z i).n = (y i).n)
theorem zie (n : Nat) (z : Nat → Vl) : sameV n z n z = true := by simp [sameV]
theorem zmk (z : Nat → Vl) : ∀ n, (vrL z n).length ≤ n
 | 0 => Nat.le_refl _
 | n + 1 => by
  have ih := zmk z n
  unfold vrL
  split
  ·rw [List.length_append, List.length_singleton]; omega
  ·omega
theorem zwh {z : Nat → Vl} : ∀ {n : Nat}, (∀ i, i < n → (z i).wf) → ∀ x ∈ vrL z n, (Lit.int .i64 x).wf = true
 | 0, _, x, hx => by cases hx
 | n + 1, h, x, hx => by
  have ih := zwh (n := n) fun i hi => h i (by omega)
  unfold vrL at hx
  split at hx
  ·rcases List.mem_append.1 hx with hx | hx
   ·exact ih x hx
   ·rw [List.mem_singleton.1 hx]; exact (h n (by omega)).2
  ·exact ih x hx
theorem zhx (p q : Option Addr) (n c m d : Nat) (z y : Nat → Vl) (w : World) (hz : VAt w p c n z) (hy : VAt w q d m y) :
  Calls Tryz.prog 83 #[.slice p n c, .slice q m d] w fun e w' => e = .returned (.bool (sameV n z m y)) ∧ Below w.heap.size w w' := by
 have hn := hz.nle
 have hm := hy.nle
 simp only [maxLen] at hn hm
 by_cases hnm : n = m
 ·subst hnm
  go_enter Tryz.func83, Tryz.ntmps83
  go_wp2
  go_loopg [5] n (fun g jv wr => ∃ j : Int, 0 ≤ j ∧ j ≤ n ∧ g = (n - j).toNat ∧ jv = .int .i64 j ∧ (∀ t : Nat, t < j → (z t).k = (y t).k ∧ (z t).n = (y t).n) ∧ Below w.heap.size w wr)
  case atStart => exact ⟨0, by omega, by omega, by omega, rfl, fun t ht => by omega, zr⟩
  case round =>
   obtain ⟨j, jl, jh, rfl, rfl, hall, hbw⟩ := hrel
   by_cases hj : j < n
   ·obtain ⟨⟨b, off, rfl, hlt, u0, u1⟩, -⟩ := (hz.row.below hbw) j.toNat (by omega)
    obtain ⟨⟨b', off', rfl, hlt', v0, v1⟩, -⟩ := (hy.row.below hbw) j.toNat (by omega)
    by_cases e : (z j.toNat).k = (y j.toNat).k ∧ (z j.toNat).n = (y j.toNat).n
    ·have hall2 : Hid (∀ t : Nat, t < j + 1 → (z t).k = (y t).k ∧ (z t).n = (y t).n) := fun t ht => by
      by_cases ht' : (t : Int) < j
      ·exact hall t ht'
      ·obtain rfl : t = j.toNat := by omega
       exact e
     rw [← e.1] at v0
     rw [← e.2] at v1
     clear e hall
     generalize z j.toNat = Z at *
     obtain ⟨Z0, Z1⟩ := Z
     dsimp only at *
     go_upto_region 6 with fail
     go_region
     all_goals
      go_wp2
      go_roundg ((n : Int) - (j + 1)).toNat
      case measure => omega
      case rel => exact ⟨j + 1, by omega, by omega, rfl, rfl, hall2.out, by go_grown⟩
    ·have e' : Hid (sameV n z n y = false) := by
      show sameV n z n y = false
      simp only [sameV, decide_eq_false_iff_not]
      exact fun h => e (h.2 _ (by omega))
     have hne : Hid (¬ ((z j.toNat).k = (y j.toNat).k ∧ (z j.toNat).n = (y j.toNat).n)) := e
     clear e hall
     generalize z j.toNat = Z at *
     generalize y j.toNat = Y at *
     obtain ⟨Z0, Z1⟩ := Z
     obtain ⟨Y0, Y1⟩ := Y
     dsimp only at *
     by_cases h0 : Z0 = Y0
     ·subst h0
      have h1 : ¬ Z1 = Y1 := fun h => hne.out ⟨rfl, h⟩
      clear hne
      go_upto_region 6 with fail
      go_region
      all_goals
       go_wp2
       go_returns
       exact ⟨zab e'.out.symm, by go_grown⟩
     ·clear hne
      go_upto_region 6 with fail
      go_region
      all_goals
       go_wp2
       go_returns
       exact ⟨zab e'.out.symm, by go_grown⟩
   ·have e' : Hid (sameV n z n y = true) := by
     show sameV n z n y = true
     simp only [sameV, decide_eq_true_eq]
     exact ⟨trivial, fun t ht => hall t (by omega)⟩
    go_wp2
    go_returns
    exact ⟨zab e'.out.symm, by go_grown⟩
 ·have e' : sameV n z m y = false := by simp [sameV, hnm]
  have hnm' : ¬ (n : Int) = m := by omega
  rw [e']
  go_enter Tryz.func83, Tryz.ntmps83
  go_wp2
  go_returns
  exact ⟨rfl, by go_grown⟩
def newM (r : Int) (nb : Nat) (br : Nat → Int) (nr : Nat) (ro : Nat → Vl) : Mk := ⟨⟨r, 0, fun _ => 0⟩, nb, fun i => ⟨br i, 0, fun _ => 0⟩, nr, ro, -1, 0, -1, false⟩
theorem zm9 {r : Int} (h0 : 0 ≤ r) (h1 : r ≤ 16) : (⟨r, 0, fun _ => 0⟩ : Gy).right = true := zbe.2 ⟨⟨h0, h1, h0⟩, fun i hi => absurd hi (Nat.not_lt_zero i)⟩
theorem zka {r : Int} {nb : Nat} {br : Nat → Int} {nr : Nat} {ro : Nat → Vl} (h0 : 0 ≤ r) (h1 : r ≤ 16) (hb : ∀ i, i < nb → 0 ≤ br i ∧ br i ≤ 16) : rightM h (newM r nb br nr ro) :=
 ⟨zm9 h0 h1, fun i hi => zm9 (hb i hi).1 (hb i hi).2, ⟨by show (-1 : Int) ≤ -1; omega, by show (-1 : Int) ≤ (h.n : Int); omega⟩, .inl ⟨rfl, rfl⟩⟩
def boM (h : Hp) (m : Mk) : Nat := (nOb h + 3) * (17 * nOb h + 8) + m.nr + 17 * (m.g.n + smB m.b m.nb) + 20
theorem znf {m : Mk} (hF : formB h = true) (hR : rightM h m) : muM h m ≤ boM h m := by
 have h1 : (if m.ob = -1 then 0 else obN h m.ob - m.fi) ≤ 15 := by
  split
  ·omega
  ·have := zgc hF m.ob
   rcases hR.2.2.2 with ⟨e, -⟩ | ⟨-, e⟩
   ·contradiction
   ·have := (zoo e).2.1
    omega
 have h2 : (if m.cu = -1 then 0 else 17 * (afC h m.cu : Int) + 1) ≤ 17 * (nOb h : Int) + 1 := by
  have := zwk h m.cu
  split <;> omega
 have h3 : (if m.ov = true then 17 * (nOb h : Int) + 2 else 0) ≤ 17 * (nOb h : Int) + 2 := by split <;> omega
 have h4 : whC h ≤ nOb h := List.countP_le_length
 have h5 : whC h * (17 * nOb h + 19) ≤ nOb h * (17 * nOb h + 19) := Nat.mul_le_mul_right _ h4
 have h6 : (nOb h + 3) * (17 * nOb h + 8) = nOb h * (17 * nOb h + 19) + (40 * nOb h + 24) := by
  rw [Nat.add_mul, Nat.mul_add, Nat.mul_add (nOb h) (17 * nOb h) 19]
  omega
 unfold muM boM
 rw [h6]
 omega
theorem zsg {m : Mk} (hR : rightM h m) : 0 ≤ muM h m := by
 have h1 : 0 ≤ (if m.ob = -1 then 0 else obN h m.ob - m.fi) := by
  split
  ·omega
  ·rcases hR.2.2.2 with ⟨e, -⟩ | ⟨-, e⟩
   ·contradiction
   ·have := (zoo e).2.2
    omega
 have h2 : 0 ≤ (if m.cu = -1 then 0 else 17 * (afC h m.cu : Int) + 1) := by split <;> omega
 have h3 : 0 ≤ (if m.ov = true then 17 * (nOb h : Int) + 2 else 0) := by split <;> omega
 unfold muM
 omega
theorem zxp (h : Hp) (m : Mk) (a : Int) : (haM h m a).nb = m.nb ∧ (haM h m a).nr = m.nr := by
 rcases zit h m a with e | ⟨-, -, e⟩ <;> rw [e] <;> exact ⟨rfl, rfl⟩
theorem st_nb (h : Hp) (m : Mk) : (stM h m).2.1.nb = m.nb ∧ (stM h m).2.1.nr ≤ m.nr := by
 unfold stM
 by_cases h1 : ¬ m.ob = -1
 ·rw [if_pos h1]
  dsimp only
  by_cases e : m.fi + 1 = obN h m.ob
  ·rw [if_pos e]; exact ⟨rfl, Nat.le_refl _⟩
  ·rw [if_neg e]; exact ⟨rfl, Nat.le_refl _⟩
 ·rw [if_neg h1]
  by_cases h2 : 0 < m.g.n
  ·rw [if_pos h2]
   obtain ⟨e1, e2⟩ := zxp h { m with g := ⟨m.g.r, m.g.n - 1, m.g.z⟩ } (m.g.z (m.g.n - 1))
   exact ⟨e1, Nat.le_of_eq e2⟩
  ·rw [if_neg h2]
   cases hf : fsB m with
   | some i =>
    simp only
    obtain ⟨e1, e2⟩ := zxp h { m with b := setB m.b i ⟨(m.b i).r, (m.b i).n - 1, (m.b i).z⟩ } ((m.b i).z ((m.b i).n - 1))
    exact ⟨e1, Nat.le_of_eq e2⟩
   | none =>
    simp only
    by_cases h3 : 0 < m.nr
    ·rw [if_pos h3]; exact ⟨rfl, Nat.sub_le _ _⟩
    ·rw [if_neg h3]
     by_cases h4 : ¬ m.cu = -1
     ·rw [if_pos h4]
      cases hl : lbA h m.cu with
      | some a =>
       simp only
       obtain ⟨e1, e2⟩ := zxp h { m with cu := a + 1 } a
       exact ⟨e1, Nat.le_of_eq e2⟩
      | none => exact ⟨rfl, Nat.le_refl _⟩
     ·rw [if_neg h4]
      by_cases h5 : m.ov = true
      ·rw [if_pos h5]; exact ⟨rfl, Nat.le_refl _⟩
      ·rw [if_neg h5]; exact ⟨rfl, Nat.le_refl _⟩
def lvF (L : List Vl) : Nat → Vl := fun i => L[i]?.getD ⟨0, 0⟩
def hasY (y : Nat → Int) (x : Int) : Nat → Bool
 | 0 => false
 | j + 1 => hasY y x j || decide (y j = x)
def cntY (y : Nat → Int) (x : Int) : Nat → Int
 | 0 => 0
 | j + 1 => cntY y x j + if y j = x then 1 else 0
theorem zf7 {y : Nat → Int} {x : Int} {j : Nat} (h : y j = x) : ∀ {n : Nat}, j < n → hasY y x n = true
 | 0, hn => by omega
 | n + 1, hn => by
  unfold hasY
  by_cases e : j = n
  ·subst e; simp [h]
  ·rw [zf7 h (by omega : j < n)]; rfl
theorem zq0 {y : Nat → Int} {x : Int} {j : Nat} (h0 : hasY y x j = false) (h : ¬ y j = x) : hasY y x (j + 1) = false := by
 unfold hasY; simp [h0, h]
theorem zjo {y : Nat → Int} {x : Int} {j : Nat} (h : y j = x) : cntY y x (j + 1) = cntY y x j + 1 := by simp [cntY, h]
theorem zk5 {y : Nat → Int} {x : Int} {j : Nat} (h : ¬ y j = x) : cntY y x (j + 1) = cntY y x j := by simp [cntY, h]
theorem zfg (y : Nat → Int) (x : Int) : ∀ j : Nat, 0 ≤ cntY y x j ∧ cntY y x j ≤ j
 | 0 => by simp [cntY]
 | j + 1 => by
  have := zfg y x j
  unfold cntY
  split <;> omega
def keptY (n : Nat) (y : Nat → Int) (x : Int) : Bool := decide (0 ≤ x) && hasY y x (n * 4)
section
variable {H : Type} {enc : TypeId × Value → H} {P : Program} {W : World} {base : Nat}
end
theorem zpq : (Tryz.prog.info? 3).map (fun i => (i.zero, i.size, i.bytes)) = some (some (.int .i64 0), 1, 8) := by kernel_rfl
def okY (h : Hp) (n : Nat) (y : Nat → Int) (j : Nat) : Prop := y j = -1 ∨ (0 ≤ y j ∧ y j < h.m ∧ ¬ (spH h (y j)).st = 0 ∧ (spH h (y j)).cl = (j % 4 : Nat) ∧ cntY y (y j) (n * 4) = 1)
instance (h : Hp) (n : Nat) (y : Nat → Int) (j : Nat) : Decidable (okY h n y j) := by unfold okY; infer_instance
def rightY (h : Hp) (n : Nat) (y : Nat → Int) : Bool := (List.range (n * 4)).all fun j => decide (okY h n y j)
theorem zc3 {y : Nat → Int} : rightY h n y = true ↔ ∀ j, j < n * 4 → okY h n y j := by
 simp [rightY]
theorem zhz {y : Nat → Int} {j : Nat} (hj : j < n * 4) (ho : ¬ okY h n y j) : rightY h n y = false := by
 cases e : rightY h n y with
 | false => rfl
 | true => exact absurd (zc3.1 e j hj) ho
theorem zk9 (p : Option Addr) (c : Nat) (q : Option Addr) (d : Nat) (h : Hp) (pc : Option Addr) (n cc : Nat) (y : Nat → Int) (w : World) (hh : HpAt w p c q d h) (hin : Ints .i64 w pc (n * 4) y) (hn : n ≤ 1000) :
  Calls Tryz.prog 29 #[.agg #[.slice p h.n c, .slice q h.m d, .bool h.b], .slice pc n cc] w fun e w' => e = .returned (.bool (rightY h n y)) ∧ Below w.heap.size w w' := by
 have hmm := hh.mle
 simp only [maxLen] at hmm
 go_enter Tryz.func29, Tryz.ntmps29
 go_upto_region 1 with fail
 obtain ⟨w0, hw0⟩ : ∃ w0, w0 = w.alloc (.cells #[.slice p h.n c, .slice q h.m d, .bool h.b] 27) := ⟨_, rfl⟩
 have hbx : Box3 w.heap.size (.slice p h.n c) (.slice q h.m d) (.bool h.b) w0 := by rw [hw0]; exact Box3.new _ _ _ _ _
 have hbA : Below w.heap.size w w0 := by rw [hw0]; go_grown
 have hsp := hh.spans.below hbA
 have hy := hin.below hbA
 rw [← hw0]
 clear hw0 hh hin
 obtain ⟨hl, k0, k1, k2, -, -, -⟩ := hbx
 clear k0 k2
 go_wp2
 go_loopg [5] n (fun g iv wr => ∃ i : Nat, i ≤ n ∧ g = n - i ∧ iv = .int .i64 i ∧ (∀ j, j < i * 4 → okY h n y j) ∧ Below w0.heap.size w0 wr)
 case atStart => exact ⟨0, by omega, by omega, rfl, fun j hj => by omega, zr⟩
 case round =>
  obtain ⟨i, ih, rfl, rfl, hall, hbw⟩ := hrel
  by_cases hi : i < n
  ·go_wp2
   go_loopg [6] 4 (fun g kv wr => ∃ k : Nat, k ≤ 4 ∧ g = 4 - k ∧ kv = .int .i64 k ∧ (∀ j, j < i * 4 + k → okY h n y j) ∧ Below w0.heap.size w0 wr)
   case atStart => exact ⟨0, by omega, by omega, rfl, hall, hbw⟩
   case round =>
    clear hall hbw
    obtain ⟨k, kh, rfl, rfl, hall, hbw⟩ := hrel
    by_cases hk : k < 4
    ·obtain ⟨⟨b, off, rfl, hlt, hv⟩, -⟩ := (hy.below hbw) (i * 4 + k) (by omega)
     rw [← Nat.add_assoc] at hv
     have hnext : okY h n y (i * 4 + k) → ∀ j, j < i * 4 + (k + 1) → okY h n y j := fun ho j hj => by
      by_cases e : j = i * 4 + k
      ·exact e ▸ ho
      ·exact hall j (by omega)
     have hstop : ¬ okY h n y (i * 4 + k) → rightY h n y = false := fun ho => zhz (by omega) ho
     have hokd : okY h n y (i * 4 + k) ↔ (y (i * 4 + k) = -1 ∨ (0 ≤ y (i * 4 + k) ∧ y (i * 4 + k) < h.m ∧ ¬ (spH h (y (i * 4 + k))).st = 0 ∧ (spH h (y (i * 4 + k))).cl = k ∧ cntY y (y (i * 4 + k)) (n * 4) = 1)) := by
      unfold okY; rw [show (i * 4 + k) % 4 = k by omega]
     clear hall
     generalize y (i * 4 + k) = x at *
     generalize okY h n y (i * 4 + k) = O at *
     by_cases hm1 : x = -1
     ·have hn1 := hnext (hokd.2 (.inl hm1))
      subst hm1
      clear hnext hstop hokd
      go_wp2
      go_roundg (4 - (k + 1))
      case measure => omega
      case rel => exact ⟨k + 1, by omega, rfl, by go_num, hn1, hbw⟩
     ·by_cases hneg : x < 0
      ·have hf0 : Hid (rightY h n y = false) := hstop fun ho => by rcases hokd.1 ho with h1 | h1 <;> omega
       clear hnext hstop hokd
       go_wp2
       go_returns
       exact ⟨by rw [hf0.out]; rfl, bjoin hbw hbA⟩
      ·have k1' : wr.cell? ⟨w.heap.size, 1, none⟩ = some (.slice q h.m d) := zcl hbw hl k1
       have hl' : w.heap.size < wr.heap.size := Nat.lt_of_lt_of_le hl hbw.size
       by_cases hbig : (h.m : Int) ≤ x
       ·have hf0 : Hid (rightY h n y = false) := hstop fun ho => by rcases hokd.1 ho with h1 | h1 <;> omega
        clear hnext hstop hokd
        go_wp2
        go_returns
        exact ⟨by rw [hf0.out]; rfl, bjoin hbw hbA⟩
       ·obtain ⟨⟨bs, os, rfl, hls, s0, s1, -⟩, -⟩ := (hsp.below hbw) x.toNat (by omega)
        have hst : (spH h x).st = (h.s x.toNat).st := rfl
        have hcl : (spH h x).cl = (h.s x.toNat).cl := rfl
        rw [hst, hcl] at hokd
        clear hst hcl
        generalize (h.s x.toNat).st = st at *
        generalize (h.s x.toNat).cl = cl at *
        by_cases h0 : st = 0
        ·have hf0 : Hid (rightY h n y = false) := hstop fun ho => by rcases hokd.1 ho with h1 | ⟨-, -, h1, -⟩; omega; exact h1 h0
         subst h0
         clear hnext hstop hokd
         go_wp2
         go_returns
         exact ⟨by rw [hf0.out]; rfl, bjoin hbw hbA⟩
        ·by_cases h1 : cl = k
         ·have hy0 : Ints .i64 wr (some ⟨b, off, none⟩) (n * 4) y := hy.below hbw
          have hO : Hid (cntY y x (n * 4) = 1 → O) := fun e => hokd.2 (.inr ⟨by omega, by omega, h0, h1, e⟩)
          have hO' : Hid (¬ cntY y x (n * 4) = 1 → ¬ O) := fun e ho => by rcases hokd.1 ho with h2 | ⟨-, -, -, -, h2⟩; omega; exact e h2
          subst h1
          clear hokd
          go_upto_region 13 with fail
          generalize hwr : wr = w1 at *
          clear hwr
          go_loopg [8, 9] n (fun g cv iv wr => ∃ i2 : Nat, i2 ≤ n ∧ g = n - i2 ∧ cv = .int .i64 (cntY y x (i2 * 4)) ∧ iv = .int .i64 i2 ∧ Below w1.heap.size w1 wr)
          case atStart => exact ⟨0, by omega, by omega, rfl, rfl, zr⟩
          case round =>
           obtain ⟨i2, ih2, rfl, rfl, rfl, hbw1⟩ := hrel
           by_cases hi2 : i2 < n
           ·go_wp2
            go_loopg [8, 10] 4 (fun g cv kv wr => ∃ k2 : Nat, k2 ≤ 4 ∧ g = 4 - k2 ∧ cv = .int .i64 (cntY y x (i2 * 4 + k2)) ∧ kv = .int .i64 k2 ∧ Below w1.heap.size w1 wr)
            case atStart => exact ⟨0, by omega, by omega, rfl, rfl, hbw1⟩
            case round =>
             clear hbw1
             obtain ⟨k2, kh2, rfl, rfl, rfl, hbw1⟩ := hrel
             by_cases hk2 : k2 < 4
             ·obtain ⟨⟨b', off', e, hlt', hv'⟩, -⟩ := (hy0.below hbw1) (i2 * 4 + k2) (by omega)
              injection e with e
              injection e with e1 e2
              subst e1 e2
              rw [← Nat.add_assoc] at hv'
              have hcb := zfg y x (i2 * 4 + k2)
              have hcb1 := hcb.1
              have hcb2 := hcb.2
              have hcb3 : cntY y x (i2 * 4 + k2) ≤ 4000 := by omega
              have hit : Hid (y (i2 * 4 + k2) = x → cntY y x (i2 * 4 + (k2 + 1)) = cntY y x (i2 * 4 + k2) + 1) := fun e => zjo e
              have hmiss : Hid (¬ y (i2 * 4 + k2) = x → cntY y x (i2 * 4 + (k2 + 1)) = cntY y x (i2 * 4 + k2)) := fun e => zk5 e
              clear hcb hcb2
              generalize cntY y x (i2 * 4 + k2) = C at *
              generalize y (i2 * 4 + k2) = yv at *
              by_cases hyx : yv = x
              ·have hC := hit.out hyx
               have hC' : Hid (cntY y x (i2 * 4 + (k2 + 1)) = C + 1) := hC
               clear hC hit hmiss
               subst hyx
               go_wp2
               go_roundg (4 - (k2 + 1))
               case measure => omega
               case rel => exact ⟨k2 + 1, by omega, rfl, by rw [hC'.out], by go_num, hbw1⟩
              ·have hC' : Hid (cntY y x (i2 * 4 + (k2 + 1)) = C) := hmiss.out hyx
               clear hit hmiss
               go_wp2
               go_roundg (4 - (k2 + 1))
               case measure => omega
               case rel => exact ⟨k2 + 1, by omega, rfl, by rw [hC'.out], by go_num, hbw1⟩
             ·obtain rfl : k2 = 4 := by omega
              go_wp2
              go_roundg (n - (i2 + 1))
              case measure => omega
              case rel => exact ⟨i2 + 1, by omega, rfl, by rw [show (i2 + 1) * 4 = i2 * 4 + 4 by omega], by go_num, hbw1⟩
           ·obtain rfl : n = i2 := by omega
            by_cases hc1 : cntY y x (n * 4) = 1
            ·have hn1 := hnext (hO.out hc1)
             rw [hc1]
             clear hc1 hnext hstop hO hO'
             go_wp2
             go_roundg (4 - (k + 1))
             case measure => omega
             case rel => exact ⟨k + 1, by omega, rfl, by go_num, hn1, bjoin hbw1 hbw⟩
            ·have hf0 : Hid (rightY h n y = false) := hstop (hO'.out hc1)
             have d1 : (cntY y x (n * 4) != 1) = true := by simp [hc1]
             clear hnext hstop hO hO' hc1
             generalize cntY y x (n * 4) = C at *
             go_wp2
             go_returns
             exact ⟨by rw [hf0.out]; rfl, bjoin hbw1 (bjoin hbw hbA)⟩
         ·have hf0 : Hid (rightY h n y = false) := hstop fun ho => by rcases hokd.1 ho with h2 | ⟨-, -, -, h2, -⟩; omega; exact h1 h2
          have d1 : (cl != (k : Int)) = true := by simp [h1]
          clear hnext hstop hokd h1
          go_wp2
          go_returns
          exact ⟨by rw [hf0.out]; rfl, bjoin hbw hbA⟩
    ·obtain rfl : k = 4 := by omega
     go_wp2
     go_roundg (n - (i + 1))
     case measure => omega
     case rel => exact ⟨i + 1, by omega, rfl, by go_num, by rw [show (i + 1) * 4 = i * 4 + 4 by omega]; exact hall, hbw⟩
  ·obtain rfl : n = i := by omega
   have hf0 : Hid (rightY h n y = true) := zc3.2 hall
   clear hall
   go_wp2
   go_returns
   exact ⟨by rw [hf0.out]; rfl, bjoin hbw hbA⟩
theorem zkq (i : Nat) (Y : Nat → Int) : vals .i64 (i * 4) Y ++ [.int .i64 (Y (i * 4)), .int .i64 (Y (i * 4 + 1)), .int .i64 (Y (i * 4 + 2)), .int .i64 (Y (i * 4 + 3))] = vals .i64 ((i + 1) * 4) Y := by
 rw [show (i + 1) * 4 = i * 4 + 1 + 1 + 1 + 1 by omega]
 simp [vals, List.range_succ]
theorem zfj {base : Nat} {e : TypeId} {k : IntKind} {n cap : Nat} {z : Nat → Int} (h : w.ownsRow base e 4 (.slice p n cap) n (vals k (n * 4) z)) (hw : ∀ i, i < n * 4 → (Lit.int k (z i)).wf = true) : Ints k w p (n * 4) z ∧ (p = none → n = 0 ∧ cap = 0) := by
 rcases h.2 with ⟨hv, h0⟩ | ⟨g, cap', cur, hv, hb, hg, hn, hm, hs, ht⟩
 ·injection hv with e1 e2 e3
  exact ⟨fun i hi => by omega, fun _ => ⟨h0, e3⟩⟩
 ·have e0 : p = some ⟨g, 0, none⟩ := by injection hv
  subst e0
  refine ⟨fun i hi => ⟨⟨g, 0, rfl, ?_, ?_⟩, hw i hi⟩, fun e => by cases e⟩
  ·rcases Nat.lt_or_ge g w.heap.size with h' | h'
   ·exact h'
   ·rw [Array.getElem?_eq_none h'] at hg; cases hg
  ·rw [Nat.zero_add, cell_of_row w g i cur e (0, 0) hg]
   have := za4 k z hi
   rw [← ht, List.getElem?_take, if_pos (by omega)] at this
   simpa using this
theorem zlc : (Tryz.prog.info? 71).map (fun i => (i.zero, i.size, i.bytes)) = some (some (.agg #[.int .i64 0, .int .i64 0, .int .i64 0, .int .i64 0]), 4, 32) := by kernel_rfl
theorem zm0 (w : World) (a b c d : Value) (t : TypeId) : ∀ j u, [a, b, c, d][j]? = some u → (w.alloc (.cells #[a, b, c, d] t)).cell? ((⟨w.heap.size, 0, none⟩ : Addr).add j) = some u := by
 intro j u hj
 match j, hj with
 | 0, hj => simp at hj; subst hj; simp [Addr.add]
 | 1, hj => simp at hj; subst hj; simp [Addr.add]
 | 2, hj => simp at hj; subst hj; simp [Addr.add]
 | 3, hj => simp at hj; subst hj; simp [Addr.add]
section
variable {w : World} {p : Option Addr} {n c : Nat} {q : Option Addr} {m d : Nat} {b : Bool} {h : Hp} {pc : Option Addr} {k cc : Nat} {y : Nat → Int}
end
def bgS (s : Sp) : Sp := if s.st = 1 then ⟨2, s.cl, s.fr⟩ else s
def bgH (h : Hp) : Hp := { h with s := fun i => bgS (h.s i) }
def drT (s : Nat → Sp) : Nat → Nat
 | 0 => 0
 | k + 1 => drT s k + if (s k).st = 2 then 1 else 0
def drH (h : Hp) : Nat := drT h.s h.m
def whB (h : Hp) (a : Int) : Bool := obB h a && !blB h a
def swA (h : Hp) (p : Nat) : Nat → Hp × Int
 | 0 => (h, 0)
 | k + 1 => if whB (swA h p k).1 (32 * p + k) = true ∧ frB (swA h p k).1 (32 * p + k) = true then (frH (swA h p k).1 (32 * p + k), (swA h p k).2 + szW (h.s p).cl) else swA h p k
def clS (kept : Bool) (s : Sp) : Sp := if countW s.fr = blW s.cl ∧ kept = false then ⟨0, 0, 0⟩ else ⟨1, s.cl, s.fr⟩
def onP (h : Hp) : Option Nat := (List.range h.m).find? fun p => decide ((h.s p).st = 2)
def onH (h : Hp) (n : Nat) (y : Nat → Int) : Hp := match onP h with
 | some p => withS (swA h p 32).1 p (clS (keptY n y p) (spH (swA h p 32).1 p))
 | none => h
def onW (h : Hp) : Int := match onP h with
 | some p => (swA h p 32).2
 | none => 0
theorem zvm (s : Sp) (h : s.right = true) : (bgS s).right = true := by
 obtain ⟨st, cl, fr⟩ := s
 unfold bgS
 split
 ·rename_i e
  simp only at e
  subst e
  simpa [Sp.right, rightB, useB] using h
 ·exact h
theorem zd4 (hF : formB h = true) : formB (bgH h) = true := by
 obtain ⟨a, b, c, d⟩ := zad.1 hF
 exact zad.2 ⟨a, b, c, fun i hi => zvm _ (d i hi)⟩
theorem zvh (hw : h.wf) : (bgH h).wf := by
 refine ⟨hw.1, fun i hi => ?_⟩
 show (bgS (h.s i)).wf
 have := hw.2 i hi
 unfold bgS
 split
 ·exact ⟨⟨by show (-9223372036854775808 : Int) ≤ 2; decide, by show (2 : Int) ≤ 9223372036854775807; decide⟩, this.2⟩
 ·exact this
theorem bg_sp (h : Hp) (q : Int) : (spH (bgH h) q).cl = (spH h q).cl ∧ (spH (bgH h) q).fr = (spH h q).fr ∧ ((spH (bgH h) q).st = 0 ↔ (spH h q).st = 0) := by
 show (bgS (h.s q.toNat)).cl = _ ∧ (bgS (h.s q.toNat)).fr = _ ∧ ((bgS (h.s q.toNat)).st = 0 ↔ _)
 unfold bgS
 split
 ·rename_i e
  refine ⟨rfl, rfl, ?_⟩
  show (2 : Int) = 0 ↔ (h.s q.toNat).st = 0
  omega
 ·exact ⟨rfl, rfl, Iff.rfl⟩
theorem sw_n (h : Hp) (p : Nat) : ∀ k, (swA h p k).1.n = h.n ∧ (swA h p k).1.m = h.m ∧ (swA h p k).1.b = h.b
 | 0 => ⟨rfl, rfl, rfl⟩
 | k + 1 => by
  unfold swA
  split
  ·have := sw_n h p k
   have f := fr_n (swA h p k).1 (32 * p + k)
   exact ⟨f.1.trans this.1, f.2.1.trans this.2.1, f.2.2.trans this.2.2⟩
  ·exact sw_n h p k
theorem zuo {k : Bool} {s : Sp} (hs : s.right = true) (h0 : ¬ s.st = 0) : (clS k s).right = true := by
 obtain ⟨st, cl, fr⟩ := s
 unfold clS
 split
 ·decide
 ·rcases zaz.1 hs with ⟨h1, -⟩ | ⟨h1, c0, c1, h2⟩
  ·exact absurd h1 h0
  ·exact zaz.2 (.inr ⟨.inl rfl, c0, c1, h2⟩)
structure Frd (h : Hp) (a : Int) : Prop where
 begins : fiB h a = true
 z : (frH h a).z = zerZ h.z a (szW (spH h (a / 32)).cl)
 st : ∀ q, 0 ≤ q → (spH (frH h a) q).st = (spH h q).st
 cl : ∀ q, 0 ≤ q → (spH (frH h a) q).cl = (spH h q).cl
 oth : ∀ q, 0 ≤ q → ¬ q = a / 32 → spH (frH h a) q = spH h q
 fi : ∀ b, fiB (frH h a) b = fiB h b
 used : ∀ b, usedB (frH h a) b = (usedB h b && !decide (b = a))
 count : countW (spH (frH h a) (a / 32)).fr = countW (spH h (a / 32)).fr + 1
 sum : usH (frH h a) = usH h - szW (spH h (a / 32)).cl
theorem frd (hf : formB h = true) (hw : h.wf) (e : frB h a = true) : Frd h a := by
 obtain ⟨ef, hg, hno⟩ := zt8 hf hw e
 obtain ⟨p0, p1, p2, hst, hpl, i0, i1, -⟩ := zbd hf ef
 have hm := zdn hw p0 p1
 have hb := zbc (spH h (a / 32)).cl
 have el : frH h a = { withS h (a / 32) ⟨(spH h (a / 32)).st, (spH h (a / 32)).cl, withW (spH h (a / 32)).fr (plI (spH h (a / 32)).cl a)⟩ with z := zerZ h.z a (szW (spH h (a / 32)).cl) } := by
  unfold frH; rw [if_pos e]
 have hsp : spH (frH h a) (a / 32) = ⟨(spH h (a / 32)).st, (spH h (a / 32)).cl, withW (spH h (a / 32)).fr (plI (spH h (a / 32)).cl a)⟩ := by
  rw [el]; exact ze3 h _ p0
 have hoth : ∀ q, 0 ≤ q → ¬ q = a / 32 → spH (frH h a) q = spH h q := by
  intro q q0 hq; rw [el]; exact zjt h _ q0 hq
 have hcl : ∀ q, 0 ≤ q → (spH (frH h a) q).cl = (spH h q).cl := by
  intro q q0
  by_cases hq : q = a / 32
  ·rw [hq, hsp]
  ·rw [hoth q q0 hq]
 have hstt : ∀ q, 0 ≤ q → (spH (frH h a) q).st = (spH h q).st := by
  intro q q0
  by_cases hq : q = a / 32
  ·rw [hq, hsp]
  ·rw [hoth q q0 hq]
 have hmm : (frH h a).m = h.m := by rw [el]; rfl
 have hz : (frH h a).z = zerZ h.z a (szW (spH h (a / 32)).cl) := by rw [el]
 have hfi : ∀ b, fiB (frH h a) b = fiB h b := by
  intro b
  unfold fiB
  by_cases b0 : 0 ≤ b
  ·by_cases hq : b / 32 = a / 32
   ·rw [hq, hsp, hmm]
   ·rw [hoth _ (by omega) hq, hmm]
  ·rw [show inI (32 * (frH h a).m) b = false from zgg (by omega), show inI (32 * h.m) b = false from zgg (by omega)]
   rfl
 have hcount : countW (withW (spH h (a / 32)).fr (plI (spH h (a / 32)).cl a)) = countW (spH h (a / 32)).fr + 1 := zos i0 (by omega) hno
 refine ⟨ef, hz, hstt, hcl, hoth, hfi, fun b => ?_, by rw [hsp]; exact hcount, ?_⟩
 ·by_cases hq : b / 32 = a / 32
  ·unfold usedB
   rw [hfi, hq, hsp]
   cases eb : fiB h b with
   | false => rfl
   | true =>
    simp only [Bool.true_and]
    rw [zd6, zbz i0 (by omega)]
    have : (plI (spH h (a / 32)).cl b = plI (spH h (a / 32)).cl a) ↔ b = a := by
     constructor
     ·intro h1
      have e1 := zgi hf eb hq (i := plI (spH h (a / 32)).cl a) (by rw [hq]; exact h1)
      have e2 := zgi hf ef rfl rfl
      omega
     ·rintro rfl; rfl
    rw [show decide (plI (spH h (a / 32)).cl b = plI (spH h (a / 32)).cl a) = decide (b = a) from decide_eq_decide.2 this]
    cases hasB (spH h (a / 32)).fr (plI (spH h (a / 32)).cl b) <;> cases decide (b = a) <;> rfl
  ·have : ¬ b = a := fun h => hq (by rw [h])
   rw [zo6 (h := h) hmm fun q0 => hoth _ q0 hq]
   simp [this]
 ·rw [el]
  show usH (withS h (a / 32) _) = _
  rw [ztz p0 p1]
  simp only [usS, usedN]
  rw [(zg2 _).2 hst, if_pos rfl, if_pos rfl, hcount]
  have := zkw (blW (spH h (a / 32)).cl - (countW (spH h (a / 32)).fr + 1)) (szW (spH h (a / 32)).cl)
  rw [show blW (spH h (a / 32)).cl - (countW (spH h (a / 32)).fr + 1) + 1 = blW (spH h (a / 32)).cl - countW (spH h (a / 32)).fr by omega] at this
  omega
theorem zly {a b : Int} (hf : formB h = true) (hw : h.wf) (e : frB h a = true) (hb : fiB h b = true) (hne : ¬ b = a) {k : Int} (k0 : 0 ≤ k) (k1 : k < szW (spH h (b / 32)).cl) : (frH h a).z (b + k).toNat = h.z (b + k).toNat := by
 have F := frd hf hw e
 have b0 := (zb4 hf hb).1
 rw [F.z]
 unfold zerZ
 rw [if_neg ?_]
 rcases zj0 hf hb F.begins hne with h1 | h1 <;> omega
theorem ob_fi (e : obB h a = true) : fiB h a = true := by
 simp only [obB, Bool.and_eq_true] at e
 exact e.1
theorem fr_ob {a b : Int} (hf : formB h = true) (hw : h.wf) (e : frB h a = true) (hne : ¬ b = a) : obB (frH h a) b = obB h b ∧ (fiB h b = true → woH (frH h a) b = woH h b) := by
 have F := frd hf hw e
 have hword : fiB h b = true → woH (frH h a) b = woH h b := fun hb => by
  have := zly hf hw e hb hne (k := 0) (Int.le_refl _) (by have := zb4 hf hb; omega)
  simpa [woH] using this
 refine ⟨?_, hword⟩
 unfold obB
 rw [F.fi]
 cases hb : fiB h b with
 | false => rfl
 | true => rw [hword hb]
theorem zxw (hf : formB h = true) (hw : h.wf) (e : frB h a = true) : obB (frH h a) a = false := by
 have F := frd hf hw e
 have b0 := zb4 hf F.begins
 have : woH (frH h a) a = 0 := by
  unfold woH
  rw [F.z]
  unfold zerZ
  rw [if_pos (by omega)]
 unfold obB
 rw [this]
 have hg : gU 0 = false := by decide
 simp [hg]
def goB (h : Hp) (p k : Nat) (b : Int) : Bool := decide (32 * (p : Int) ≤ b ∧ b < 32 * p + k) && (whB h b && usedB h b)
theorem zrx (h : Hp) (p k : Nat) (b : Int) : goB h p (k + 1) b = (goB h p k b || (decide (b = 32 * p + k) && (whB h b && usedB h b))) := by
 unfold goB
 have : decide (32 * (p : Int) ≤ b ∧ b < 32 * p + (k + 1 : Nat)) = (decide (32 * (p : Int) ≤ b ∧ b < 32 * p + k) || decide (b = 32 * p + k)) := by
  rw [← Bool.decide_or]
  exact decide_eq_decide.2 (by constructor <;> intro h <;> omega)
 rw [this]
 cases decide (32 * (p : Int) ≤ b ∧ b < 32 * p + k) <;> cases decide (b = 32 * p + k) <;> cases whB h b && usedB h b <;> rfl
theorem zwu (h : Hp) (p k : Nat) : goB h p k (32 * p + k) = false := by
 unfold goB
 rw [show decide (32 * (p : Int) ≤ 32 * p + k ∧ (32 * (p : Int) + k) < 32 * p + k) = false from decide_eq_false (by omega)]
 rfl
structure Swp (h : Hp) (p k : Nat) (g : Hp) (w : Int) : Prop where
 form : formB g = true
 wf : g.wf
 nn : g.n = h.n
 mm : g.m = h.m
 bb : g.b = h.b
 fi : ∀ b, fiB g b = fiB h b
 st : ∀ q, 0 ≤ q → (spH g q).st = (spH h q).st
 cl : ∀ q, 0 ≤ q → (spH g q).cl = (spH h q).cl
 oth : ∀ q : Int, 0 ≤ q → ¬ q = p → spH g q = spH h q
 used : ∀ b, usedB g b = (usedB h b && !goB h p k b)
 ob : ∀ b, obB g b = (obB h b && !goB h p k b)
 word : ∀ b, fiB h b = true → goB h p k b = false → ∀ j : Int, 0 ≤ j → j < szW (spH h (b / 32)).cl → g.z (b + j).toNat = h.z (b + j).toNat
 zero : ∀ b, fiB h b = true → goB h p k b = true → ∀ j : Int, 0 ≤ j → j < szW (spH h (b / 32)).cl → g.z (b + j).toNat = 0
 out : ∀ j : Nat, ¬ j / 32 = p → g.z j = h.z j
 sum : usH g + w = usH h
 pos : 0 ≤ w
theorem swp (hF : formB h = true) (hw : h.wf) {p : Nat} (hp : p < h.m) : ∀ k : Nat, k ≤ 32 → Swp h p k (swA h p k).1 (swA h p k).2
 | 0, _ => by
  have g0 : ∀ b, goB h p 0 b = false := fun b => by
   unfold goB
   rw [show decide (32 * (p : Int) ≤ b ∧ b < 32 * p + (0 : Nat)) = false from decide_eq_false (by omega)]
   rfl
  exact {
   form := hF, wf := hw, nn := rfl, mm := rfl, bb := rfl, fi := fun _ => rfl, st := fun _ _ => rfl, cl := fun _ _ => rfl, oth := fun _ _ _ => rfl
   used := fun b => by rw [g0]; simp [swA]
   ob := fun b => by rw [g0]; simp [swA]
   word := fun _ _ _ _ _ _ => rfl
   zero := fun b _ hg => by rw [g0] at hg; cases hg
   out := fun _ _ => rfl
   sum := by simp [swA]
   pos := by simp [swA] }
 | k + 1, hk => by
  have S := swp hF hw hp k (by omega)
  generalize hr : swA h p k = r at S
  have hgo := zwu h p k
  have hob : obB r.1 (32 * p + k) = obB h (32 * p + k) := by rw [S.ob, hgo]; simp
  have hus : usedB r.1 (32 * p + k) = usedB h (32 * p + k) := by rw [S.used, hgo]; simp
  have hwo : fiB h (32 * p + k) = true → woH r.1 (32 * p + k) = woH h (32 * p + k) := fun hf => by
   have := S.word _ hf hgo 0 (Int.le_refl _) (by have := zb4 hF hf; omega)
   simpa [woH] using this
  have hwh : whB r.1 (32 * p + k) = whB h (32 * p + k) := by
   unfold whB blB obC
   rw [hob, S.bb]
   cases ho : obB h (32 * p + k) with
   | false => rfl
   | true => rw [hwo (ob_fi ho)]
  have hfr : frB r.1 (32 * p + k) = usedB h (32 * p + k) := by rw [fr_iff S.form, hus]
  have hsw : swA h p (k + 1) = if whB h (32 * p + k) = true ∧ usedB h (32 * p + k) = true then (frH r.1 (32 * p + k), r.2 + szW (h.s p).cl) else r := by
   rw [← hwh, ← hfr, ← hr]; rfl
  rw [hsw]
  by_cases hc : whB h (32 * p + k) = true ∧ usedB h (32 * p + k) = true
  ·rw [if_pos hc]
   have hdiv : (32 * (p : Int) + k) / 32 = p := by omega
   have he : frB r.1 (32 * p + k) = true := by rw [hfr]; exact hc.2
   have F := frd S.form S.wf he
   have hn := fr_n r.1 (32 * p + k)
   have hnx : ∀ b, goB h p (k + 1) b = (goB h p k b || decide (b = 32 * p + k)) := fun b => by
    rw [zrx]
    by_cases hb : b = 32 * p + k
    ·subst hb; simp [hc.1, hc.2]
    ·simp [hb]
   have hcl : szW (spH r.1 ((32 * (p : Int) + k) / 32)).cl = szW (h.s p).cl := by
    rw [hdiv, S.cl _ (by omega)]; rfl
   have hszp : 0 ≤ szW (h.s p).cl := by have := zaq (h.s p).cl; omega
   exact {
    form := zs3 S.form S.wf _
    wf := zws S.wf _
    nn := hn.1.trans S.nn
    mm := hn.2.1.trans S.mm
    bb := hn.2.2.trans S.bb
    fi := fun b => (F.fi b).trans (S.fi b)
    st := fun q q0 => (F.st q q0).trans (S.st q q0)
    cl := fun q q0 => (F.cl q q0).trans (S.cl q q0)
    oth := fun q q0 hq => (F.oth q q0 (by rw [hdiv]; exact hq)).trans (S.oth q q0 hq)
    used := fun b => by
     rw [F.used, S.used, hnx]
     cases usedB h b <;> cases goB h p k b <;> cases decide (b = 32 * p + k) <;> rfl
    ob := fun b => by
     rw [hnx]
     by_cases hb : b = 32 * p + k
     ·subst hb
      rw [zxw S.form S.wf he]
      simp
     ·rw [(fr_ob S.form S.wf he hb).1, S.ob]
      simp [hb]
    word := fun b hb hg j j0 j1 => by
     rw [hnx, Bool.or_eq_false_iff] at hg
     have hb' : ¬ b = 32 * p + k := by simpa using hg.2
     rw [← S.word b hb hg.1 j j0 j1]
     refine zly S.form S.wf he (by rw [S.fi]; exact hb) hb' j0 ?_
     have b0 := (zb4 hF hb).1
     rw [S.cl _ (by omega)]
     exact j1
    zero := fun b hb hg j j0 j1 => by
     have b0 := (zb4 hF hb).1
     by_cases hb' : b = 32 * p + k
     ·show (frH r.1 (32 * p + k)).z (b + j).toNat = 0
      rw [F.z]
      unfold zerZ
      rw [if_pos ?_]
      rw [hcl]
      rw [hb', hdiv] at j1
      have j2 : j < szW (h.s p).cl := j1
      omega
     ·have hg' : goB h p k b = true := by rw [hnx] at hg; simpa [hb'] using hg
      rw [← S.zero b hb hg' j j0 j1]
      refine zly S.form S.wf he (by rw [S.fi]; exact hb) hb' j0 ?_
      rw [S.cl _ (by omega)]
      exact j1
    out := fun j hj => by
     rw [← S.out j hj, F.z]
     unfold zerZ
     have hblk := zb4 S.form F.begins
     rw [hdiv] at hblk ⊢
     rw [if_neg (by omega)]
    sum := by
     have h1 := F.sum
     rw [hcl] at h1
     have h2 := S.sum
     show usH (frH r.1 (32 * p + k)) + (r.2 + szW (h.s p).cl) = usH h
     omega
    pos := by have := S.pos; show 0 ≤ r.2 + szW (h.s p).cl; omega }
  ·rw [if_neg hc]
   have hnx : ∀ b, goB h p (k + 1) b = goB h p k b := fun b => by
    rw [zrx]
    by_cases hb : b = 32 * p + k
    ·subst hb
     have : (whB h (32 * p + k) && usedB h (32 * p + k)) = false := by
      cases h1 : whB h (32 * p + k) <;> cases h2 : usedB h (32 * p + k) <;> first | rfl | exact absurd ⟨h1, h2⟩ hc
     rw [this]
     simp
    ·simp [hb]
   exact { S with used := fun b => by rw [hnx]; exact S.used b, ob := fun b => by rw [hnx]; exact S.ob b, word := fun b hb hg => S.word b hb (by rw [← hnx]; exact hg), zero := fun b hb hg => S.zero b hb (by rw [← hnx]; exact hg) }
theorem zin {p : Nat} (e : onP h = some p) : p < h.m ∧ (h.s p).st = 2 ∧ ∀ j, j < p → ¬ (h.s j).st = 2 := by
 unfold onP at e
 rw [List.find?_range_eq_some] at e
 exact ⟨List.mem_range.1 e.2.1, by simpa using e.1, fun j hj => by simpa using e.2.2 j hj⟩
theorem zwy (e : onP h = none) : ∀ j, j < h.m → ¬ (h.s j).st = 2 := fun j hj => by
 unfold onP at e
 rw [List.find?_eq_none] at e
 simpa using e j (List.mem_range.2 hj)
theorem znx {s t : Nat → Sp} : ∀ {k : Nat}, (∀ i, i < k → s i = t i) → drT s k = drT t k
 | 0, _ => rfl
 | k + 1, h => by
  simp only [drT]
  rw [znx (k := k) fun i hi => h i (by omega), h k (by omega)]
theorem zt2 (s : Nat → Sp) (p : Nat) (x : Sp) : ∀ {k : Nat}, p < k → drT (setS s p x) k + (if (s p).st = 2 then 1 else 0) = drT s k + (if x.st = 2 then 1 else 0)
 | 0, h => by omega
 | k + 1, h => by
  simp only [drT]
  by_cases e : p = k
  ·subst e
   have h1 : setS s p x p = x := by unfold setS; rw [if_pos rfl]
   rw [znx (s := setS s p x) (t := s) fun i hi => by unfold setS; rw [if_neg (by omega)], h1]
   omega
  ·have h1 : setS s p x k = s k := by unfold setS; rw [if_neg (by omega)]
   rw [h1]
   have := zt2 s p x (k := k) (by omega)
   omega
theorem zrl {s : Nat → Sp} : ∀ {k : Nat}, (∀ i, i < k → ¬ (s i).st = 2) → drT s k = 0
 | 0, _ => rfl
 | k + 1, h => by
  simp only [drT]
  rw [zrl (k := k) fun i hi => h i (by omega), if_neg (h k (by omega))]
theorem zwc {s : Nat → Sp} {p : Nat} : ∀ {k : Nat}, p < k → (s p).st = 2 → 1 ≤ drT s k
 | 0, h, _ => by omega
 | k + 1, h, e => by
  simp only [drT]
  by_cases hp : p = k
  ·subst hp; rw [if_pos e]; omega
  ·have := zwc (k := k) (by omega) e
   omega
structure Ond (h : Hp) (n : Nat) (y : Nat → Int) (p : Nat) : Prop where
 form : formB (onH h n y) = true
 wf : (onH h n y).wf
 nn : (onH h n y).n = h.n
 mm : (onH h n y).m = h.m
 bb : (onH h n y).b = h.b
 oth : ∀ q : Int, 0 ≤ q → ¬ q = p → spH (onH h n y) q = spH h q
 mine : spH (onH h n y) p = clS (keptY n y p) (spH (swA h p 32).1 p)
 z : (onH h n y).z = (swA h p 32).1.z
 less : drH (onH h n y) + 1 = drH h
 sum : usH (onH h n y) + onW h = usH h
 pos : 0 ≤ onW h
theorem cl_st (k : Bool) (s : Sp) : (clS k s).st = 0 ∨ (clS k s).st = 1 := by
 unfold clS
 split
 ·exact .inl rfl
 ·exact .inr rfl
theorem cl_us (k : Bool) (s : Sp) (h : s.st = 1 ∨ s.st = 2) : usS (clS k s) = usS s := by
 obtain ⟨st, cl, fr⟩ := s
 have hu : useB st = true := (zg2 st).2 h
 unfold clS
 split
 ·rename_i e
  simp only at e
  simp [usS, usedN, hu, e.1, useB]
 ·have h' : st = 1 ∨ st = 2 := h
  simp [usS, usedN, useB, h']
theorem ond (hF : formB h = true) (hw : h.wf) (n : Nat) (y : Nat → Int) {p : Nat} (e : onP h = some p) : Ond h n y p := by
 obtain ⟨hp, hst, -⟩ := zin e
 have S := swp hF hw hp 32 (Nat.le_refl _)
 have eH : onH h n y = withS (swA h p 32).1 p (clS (keptY n y p) (spH (swA h p 32).1 p)) := by unfold onH; rw [e]
 have eW : onW h = (swA h p 32).2 := by unfold onW; rw [e]
 generalize hr : swA h p 32 = r at S eH eW
 have p0 : (0 : Int) ≤ p := by omega
 have pm : (p : Int) < r.1.m := by have := S.mm; omega
 have hst2 : (spH r.1 p).st = 2 := by rw [S.st _ p0]; exact hst
 have hright : (spH r.1 p).right = true := zcx S.form p0 pm
 have hmask := zdn S.wf p0 pm
 refine ⟨?_, ?_, ?_, ?_, ?_, ?_, ?_, ?_, ?_, ?_, by rw [eW]; exact S.pos⟩
 ·rw [eH]; exact zgn S.form (zuo hright (by omega))
 ·rw [eH]
  have hsw := S.wf.2 p (by omega)
  refine zqx S.wf ?_
  show (clS (keptY n y p) (r.1.s (p : Int).toNat)).wf
  rw [Int.toNat_natCast]
  unfold clS
  split
  ·exact zqw
  ·exact ⟨⟨by show (-9223372036854775808 : Int) ≤ 1; decide, by show (1 : Int) ≤ 9223372036854775807; decide⟩, hsw.2⟩
 ·rw [eH]; exact S.nn
 ·rw [eH]; exact S.mm
 ·rw [eH]; exact S.bb
 ·intro q q0 hq
  rw [eH, zjt _ _ q0 hq]
  exact S.oth q q0 hq
 ·rw [eH, hr]; exact ze3 _ _ p0
 ·rw [eH, hr]; rfl
 ·rw [eH]
  show drT (setS r.1.s p _) r.1.m + 1 = drT h.s h.m
  have h1 := zt2 r.1.s p (clS (keptY n y p) (spH r.1 p)) (k := r.1.m) (by omega)
  have h2 : drT r.1.s r.1.m = drT h.s h.m := by
   have : ∀ k, drT r.1.s k = drT h.s k := by
    intro k
    induction k with
    | zero => rfl
    | succ k ih =>
     simp only [drT]
     have := S.st (k : Int) (by omega)
     rw [show spH r.1 (k : Int) = r.1.s k from rfl, show spH h (k : Int) = h.s k from rfl] at this
     rw [ih, this]
   rw [this, S.mm]
  have h3 : (r.1.s p).st = 2 := hst2
  rw [if_pos h3] at h1
  have h4 : ¬ (clS (keptY n y p) (spH r.1 p)).st = 2 := by rcases cl_st (keptY n y p) (spH r.1 p) with h | h <;> rw [h] <;> decide
  rw [if_neg h4] at h1
  omega
 ·rw [eH, eW, ztz p0 pm, cl_us _ _ (.inr hst2)]
  have := S.sum
  omega
theorem zv0 (s : Nat → Sp) : ∀ k, drT s k ≤ k
 | 0 => Nat.le_refl _
 | k + 1 => by
  simp only [drT]
  have := zv0 s k
  split <;> omega
end Go.Proofs.YtkehankfnkjnlaaGreatDoor
