/- Contracts of the reference's roots (chapter 14), and of its comparisons of values and numbers. -/
import Derived.Test.YtiofeebiejkajaaDoorA19
import Derived.Test.YtiofeebiejkajaaDoorA23
import Derived.Deep.Cut
import Derived.Test.YtiofeebiejkajaaDoorA32
namespace Go.Proofs.YtiofeebiejkajaaDoor
set_option linter.unusedSimpArgs false
set_option linter.unusedVariables false
open Go.ChangeShapes Go.WideShapes Go.ChangeAt Go.RowKit Go.Joins

theorem val_info : (Tryd.prog.info? 38).map (fun i => (i.zero, i.size, i.bytes)) = some (some (.agg #[.int .i64 0, .int .i64 0]), 2, 16) := by kernel_rfl
/-- Refs: the numbers of the first n that refer to something. -/
def vrL (z : Nat → Vl) : Nat → List Int
  | 0 => []
  | n + 1 => if (z n).k = 2 then vrL z n ++ [(z n).n] else vrL z n
def sameV (n : Nat) (z : Nat → Vl) (m : Nat) (y : Nat → Vl) : Bool := decide (n = m ∧ ∀ i, i < n → (z i).k = (y i).k ∧ (z i).n = (y i).n)
theorem sameV_self (n : Nat) (z : Nat → Vl) : sameV n z n z = true := by simp [sameV]
set_option maxHeartbeats 1000000 in
theorem rvsame_any (p q : Option Addr) (n c m d : Nat) (z y : Nat → Vl) (w : World) (hz : VAt w p c n z) (hy : VAt w q d m y) :
    Calls Tryd.prog 46 #[.slice p n c, .slice q m d] w fun e w' => e = .returned (.bool (sameV n z m y)) ∧ Below w.heap.size w w' := by
  have hn := hz.nle
  have hm := hy.nle
  simp only [maxLen] at hn hm
  by_cases hnm : n = m
  · subst hnm
    go_enter Tryd.func46, Tryd.ntmps46
    go_wp2
    go_loopg [5] n (fun g jv wr => ∃ j : Int, 0 ≤ j ∧ j ≤ n ∧ g = (n - j).toNat ∧ jv = .int .i64 j ∧ (∀ t : Nat, t < j → (z t).k = (y t).k ∧ (z t).n = (y t).n) ∧ Below w.heap.size w wr)
    case atStart => exact ⟨0, by omega, by omega, by omega, rfl, fun t ht => by omega, Below.refl _ _⟩
    case round =>
      obtain ⟨j, jl, jh, rfl, rfl, hall, hbw⟩ := hrel
      by_cases hj : j < n
      · obtain ⟨⟨b, off, rfl, hlt, u0, u1⟩, -⟩ := (hz.row.below hbw) j.toNat (by omega)
        obtain ⟨⟨b', off', rfl, hlt', v0, v1⟩, -⟩ := (hy.row.below hbw) j.toNat (by omega)
        by_cases e : (z j.toNat).k = (y j.toNat).k ∧ (z j.toNat).n = (y j.toNat).n
        · have hall2 : Hid (∀ t : Nat, t < j + 1 → (z t).k = (y t).k ∧ (z t).n = (y t).n) := fun t ht => by
            by_cases ht' : (t : Int) < j
            · exact hall t ht'
            · obtain rfl : t = j.toNat := by omega
              exact e
          rw [← e.1] at v0
          rw [← e.2] at v1
          clear e hall
          generalize z j.toNat = Z at *
          obtain ⟨Z0, Z1⟩ := Z
          dsimp only at *
          go_upto_region 6 with fail
          go_region
          all_goals
            go_wp2
            go_roundg ((n : Int) - (j + 1)).toNat
            case measure => omega
            case rel => exact ⟨j + 1, by omega, by omega, rfl, rfl, hall2.out, by go_grown⟩
        · have e' : Hid (sameV n z n y = false) := by
            show sameV n z n y = false
            simp only [sameV, decide_eq_false_iff_not]
            exact fun h => e (h.2 _ (by omega))
          have hne : Hid (¬ ((z j.toNat).k = (y j.toNat).k ∧ (z j.toNat).n = (y j.toNat).n)) := e
          clear e hall
          generalize z j.toNat = Z at *
          generalize y j.toNat = Y at *
          obtain ⟨Z0, Z1⟩ := Z
          obtain ⟨Y0, Y1⟩ := Y
          dsimp only at *
          by_cases h0 : Z0 = Y0
          · subst h0
            have h1 : ¬ Z1 = Y1 := fun h => hne.out ⟨rfl, h⟩
            clear hne
            go_upto_region 6 with fail
            go_region
            all_goals
              go_wp2
              go_returns
              exact ⟨ret_bool e'.out.symm, by go_grown⟩
          · clear hne
            go_upto_region 6 with fail
            go_region
            all_goals
              go_wp2
              go_returns
              exact ⟨ret_bool e'.out.symm, by go_grown⟩
      · have e' : Hid (sameV n z n y = true) := by
          show sameV n z n y = true
          simp only [sameV, decide_eq_true_eq]
          exact ⟨trivial, fun t ht => hall t (by omega)⟩
        go_wp2
        go_returns
        exact ⟨ret_bool e'.out.symm, by go_grown⟩
  · have e' : sameV n z m y = false := by simp [sameV, hnm]
    have hnm' : ¬ (n : Int) = m := by omega
    rw [e']
    go_enter Tryd.func46, Tryd.ntmps46
    go_wp2
    go_returns
    exact ⟨rfl, by go_grown⟩
end Go.Proofs.YtiofeebiejkajaaDoor
namespace Go.Proofs.YtiofeebiejkajaaDoor
set_option linter.unusedSimpArgs false
set_option linter.unusedVariables false
open Go.ChangeShapes Go.WideShapes Go.ChangeAt Go.RowKit

theorem st_done {h : Hp} {m : Mk} (hd : (stM h m).2.2 = true) : stM h m = (h, m, true) := by
  unfold stM at hd ⊢
  by_cases h1 : ¬ m.ob = -1
  · rw [if_pos h1] at hd; cases hd
  rw [if_neg h1] at hd ⊢
  by_cases h2 : 0 < m.g.n
  · rw [if_pos h2] at hd; cases hd
  rw [if_neg h2] at hd ⊢
  cases hf : fsB m with
  | some i => simp only [hf] at hd; cases hd
  | none =>
    simp only [hf] at hd ⊢
    by_cases h3 : 0 < m.nr
    · rw [if_pos h3] at hd; cases hd
    rw [if_neg h3] at hd ⊢
    by_cases h4 : ¬ m.cu = -1
    · rw [if_pos h4] at hd
      cases hl : lbA h m.cu with
      | some a => simp only [hl] at hd; cases hd
      | none => simp only [hl] at hd; cases hd
    rw [if_neg h4] at hd ⊢
    by_cases h5 : m.ov = true
    · rw [if_pos h5] at hd; cases hd
    rw [if_neg h5]
/-- A value that a mutator notes. -/
def noM (h : Hp) (m : Mk) (i : Nat) (v : Vl) : Hp × Mk := ((shM h (m.b i) v).h, { m with b := setB m.b i ((shM h (m.b i) v).gy (m.b i).r), ov := m.ov || (shM h (m.b i) v).o })
theorem no_right {h : Hp} {m : Mk} (hF : formB h = true) (hR : rightM h m) {i : Nat} (hi : i < m.nb) (v : Vl) : rightM (noM h m i v).1 (noM h m i v).2 := by
  obtain ⟨s1, s2, s3, -, -⟩ := shM_same hF (m.b i) v
  have sr := shM_right hF v (hR.2.1 i hi)
  exact right_pn s2 s3 ⟨hR.1, setB_right hR.2.1 sr, hR.2.2.1, hR.2.2.2⟩
theorem no_mu {h : Hp} {m : Mk} (hF : formB h = true) {i : Nat} (hi : i < m.nb) (v : Vl) : muM (noM h m i v).1 (noM h m i v).2 ≤ muM h m := by
  have hw := (whC_shade hF (m.b i) v).2
  obtain ⟨s1, s2, s3, s4, s5⟩ := shM_same hF (m.b i) v
  have hs := smB_set m.b i ((shM h (m.b i) v).gy (m.b i).r) m.nb
  rw [if_pos hi, if_pos hi] at hs
  unfold noM muM
  dsimp only
  generalize shM h (m.b i) v = S at *
  have hSn : (S.gy (m.b i).r).n = S.n := rfl
  rw [hSn] at hs
  rw [s4, s5, (s3 m.ob).2]
  have : (if (m.ov || S.o) = true then 17 * (nOb h : Int) + 2 else 0) ≤ (if m.ov = true then 17 * (nOb h : Int) + 2 else 0) + ((if S.o = true then 17 * nOb h + 2 else 0 : Nat) : Int) := by
    cases m.ov <;> cases S.o <;> simp <;> omega
  omega
theorem MkU.note {h0 : Hp} {R : Int → Prop} {h : Hp} {m : Mk} (hu : MkU h0 R h m) (hF : formB h0 = true) {i : Nat} (hi : i < m.nb) {v : Vl} (hv : v.k = 2 → obB h0 v.n = true → R v.n) : MkU h0 R (noM h m i v).1 (noM h m i v).2 := by
  have hrow := (shM_row (hu.pn.form hF) (m.b i) v).2.2
  refine ⟨hu.pn.shade hF _ _, hu.shade hF _ hv, hu.upo, fun a ha ho => ?_, hu.upv⟩
  rcases ha with ha | ⟨k, hk, ha⟩
  · exact hu.upr a (.inl ha) ho
  · replace ha : (setB m.b i ((shM h (m.b i) v).gy (m.b i).r) k).mem a := ha
    unfold setB at ha
    by_cases e : k = i
    · rw [if_pos e] at ha
      rcases hrow a ha with ha | ⟨rfl, h2⟩
      · exact hu.upr a (.inr ⟨i, hi, ha⟩) ho
      · exact hv h2 ho
    · rw [if_neg e] at ha
      exact hu.upr a (.inr ⟨k, hk, ha⟩) ho
theorem MkL.note {h0 : Hp} {T : Int → Prop} {h : Hp} {m : Mk} (hl : MkL h0 T h m) (hF : formB h0 = true) {i : Nat} (hi : i < m.nb) (v : Vl) : MkL h0 T (noM h m i v).1 (noM h m i v).2 := by
  have hFh := hl.pn.form hF
  obtain ⟨hn, hkeep, -⟩ := shM_row hFh (m.b i) v
  have hst := fun a (hb : blB h a = true) => shM_stays hFh (m.b i) v hb
  have hin : ∀ a, inRow m a → inRow (noM h m i v).2 a := fun a ha => by
    rcases ha with ha | ⟨k, hk, ha⟩
    · exact .inl ha
    · refine .inr ⟨k, hk, ?_⟩
      show (setB m.b i ((shM h (m.b i) v).gy (m.b i).r) k).mem a
      unfold setB
      by_cases e : k = i
      · subst e; rw [if_pos rfl]; exact hkeep a ha
      · rw [if_neg e]; exact ha
  refine ⟨hl.pn.shade hF _ _, fun a ha j hj hk ho => ?_, fun x hx ho => (hl.ro x hx ho).imp (hst x) id⟩
  by_cases hb : blB h a = true
  · rcases hl.lo a hb j hj hk ho with h1 | h1 | h1 | h1 | h1
    · exact .inl (hst _ h1)
    · exact .inr (.inl h1)
    · exact .inr (.inr (.inl (hin a h1)))
    · exact .inr (.inr (.inr (.inl (by show (m.ov || _) = true; rw [h1]; rfl))))
    · exact .inr (.inr (.inr (.inr h1)))
  · rcases hn a ha with h1 | h1 | h1
    · exact absurd h1 hb
    · exact .inr (.inr (.inl (.inr ⟨i, hi, by show (setB m.b i _ i).mem a; unfold setB; rw [if_pos rfl]; exact h1⟩)))
    · exact .inr (.inr (.inr (.inl (by show (m.ov || _) = true; rw [h1]; simp))))
/-- A new marker. -/
def newM (r : Int) (nb : Nat) (br : Nat → Int) (nr : Nat) (ro : Nat → Vl) : Mk := ⟨⟨r, 0, fun _ => 0⟩, nb, fun i => ⟨br i, 0, fun _ => 0⟩, nr, ro, -1, 0, -1, false⟩
theorem gy_empty {r : Int} (h0 : 0 ≤ r) (h1 : r ≤ 16) : (⟨r, 0, fun _ => 0⟩ : Gy).right = true := rightG_iff.2 ⟨⟨h0, h1, h0⟩, fun i hi => absurd hi (Nat.not_lt_zero i)⟩
theorem new_right {h : Hp} {r : Int} {nb : Nat} {br : Nat → Int} {nr : Nat} {ro : Nat → Vl} (h0 : 0 ≤ r) (h1 : r ≤ 16) (hb : ∀ i, i < nb → 0 ≤ br i ∧ br i ≤ 16) : rightM h (newM r nb br nr ro) :=
  ⟨gy_empty h0 h1, fun i hi => gy_empty (hb i hi).1 (hb i hi).2, ⟨by show (-1 : Int) ≤ -1; omega, by show (-1 : Int) ≤ (h.n : Int); omega⟩, .inl ⟨rfl, rfl⟩⟩
theorem new_row {r : Int} {nb : Nat} {br : Nat → Int} {nr : Nat} {ro : Nat → Vl} {a : Int} (h : inRow (newM r nb br nr ro) a) : False := by
  rcases h with ⟨t, t1, -⟩ | ⟨i, -, t, t1, -⟩
  · exact Nat.not_lt_zero t t1
  · exact Nat.not_lt_zero t t1
theorem new_u {h : Hp} (hF : formB h = true) {R : Int → Prop} (hw : ∀ a, blB h a = false) {r : Int} {nb : Nat} {br : Nat → Int} {nr : Nat} {ro : Nat → Vl} (hv : ∀ i, i < nr → (ro i).k = 2 → obB h (ro i).n = true → R (ro i).n) : MkU h R h (newM r nb br nr ro) :=
  ⟨.refl hF, (fun a ha => by rw [hw a] at ha; cases ha), fun h => absurd rfl h, fun a ha => (new_row ha).elim, hv⟩
theorem vrL_mem {z : Nat → Vl} {x : Int} : ∀ {n : Nat}, x ∈ vrL z n ↔ ∃ i, i < n ∧ (z i).k = 2 ∧ (z i).n = x
  | 0 => by simp [vrL]
  | n + 1 => by
    have ih := vrL_mem (z := z) (x := x) (n := n)
    unfold vrL
    by_cases e : (z n).k = 2
    · rw [if_pos e, List.mem_append, ih, List.mem_singleton]
      constructor
      · rintro (⟨i, h1, h2⟩ | rfl)
        · exact ⟨i, by omega, h2⟩
        · exact ⟨n, by omega, e, rfl⟩
      · rintro ⟨i, h1, h2, h3⟩
        by_cases ei : i = n
        · subst ei; exact .inr h3.symm
        · exact .inl ⟨i, by omega, h2, h3⟩
    · rw [if_neg e, ih]
      constructor
      · rintro ⟨i, h1, h2⟩; exact ⟨i, by omega, h2⟩
      · rintro ⟨i, h1, h2, h3⟩
        by_cases ei : i = n
        · subst ei; exact absurd h2 e
        · exact ⟨i, by omega, h2, h3⟩
theorem new_l {h : Hp} (hF : formB h = true) (hw : ∀ a, blB h a = false) {r : Int} {nb : Nat} {br : Nat → Int} {nr : Nat} {ro : Nat → Vl} : MkL h (fun x => x ∈ vrL ro nr) h (newM r nb br nr ro) :=
  ⟨.refl hF, fun a ha => (by rw [hw a] at ha; cases ha), fun x hx _ => .inr (vrL_mem.1 hx)⟩
/-- As marking is done, black is just what is reached from the roots. -/
theorem mark_exact {h0 h : Hp} {m : Mk} {S : List Int} (hF : formB h0 = true) (hu : MkU h0 (Rch h0 S) h m) (hl : MkL h0 (fun x => x ∈ S) h m) (hd : (stM h m).2.2 = true) (a : Int) : blB h a = true ↔ Rch h0 S a := by
  obtain ⟨h1, h2⟩ := hl.done hd
  exact ⟨hu.up a, fun hr => hr (fun x => blB h x = true) (fun x hx ho => h2 x hx ho) (fun x y hx hy ho => h1 x hx y hy ho)⟩
theorem mark_black {h0 h : Hp} {m : Mk} {S : List Int} (hF : formB h0 = true) (hu : MkU h0 (Rch h0 S) h m) (hl : MkL h0 (fun x => x ∈ S) h m) (hd : (stM h m).2.2 = true) : bkL h = rcL h0 S := by
  unfold bkL rcL
  rw [(hu.pn.list hF).1]
  refine List.filter_congr fun a _ => ?_
  rw [Bool.eq_iff_iff]
  simp only [decide_eq_true_eq]
  exact mark_exact hF hu hl hd a
/-- What is reached is closed. -/
theorem rch_closed {h : Hp} {S : List Int} : ∀ x y, Rch h S x → y ∈ rfH h x → obB h y = true → Rch h S y := fun _ _ hx hy ho => hx.step hy ho
/-- How many steps there are, at most. -/
def boM (h : Hp) (m : Mk) : Nat := (nOb h + 3) * (17 * nOb h + 8) + m.nr + 17 * (m.g.n + smB m.b m.nb) + 20
theorem mu_bound {h : Hp} {m : Mk} (hF : formB h = true) (hR : rightM h m) : muM h m ≤ boM h m := by
  have h1 : (if m.ob = -1 then 0 else obN h m.ob - m.fi) ≤ 15 := by
    split
    · omega
    · have := obN_bound hF m.ob
      rcases hR.2.2.2 with ⟨e, -⟩ | ⟨-, e⟩
      · contradiction
      · have := (fd_ok e).2.1
        omega
  have h2 : (if m.cu = -1 then 0 else 17 * (afC h m.cu : Int) + 1) ≤ 17 * (nOb h : Int) + 1 := by
    have := afC_le h m.cu
    split <;> omega
  have h3 : (if m.ov = true then 17 * (nOb h : Int) + 2 else 0) ≤ 17 * (nOb h : Int) + 2 := by split <;> omega
  have h4 : whC h ≤ nOb h := List.countP_le_length
  have h5 : whC h * (17 * nOb h + 19) ≤ nOb h * (17 * nOb h + 19) := Nat.mul_le_mul_right _ h4
  have h6 : (nOb h + 3) * (17 * nOb h + 8) = nOb h * (17 * nOb h + 19) + (40 * nOb h + 24) := by
    rw [Nat.add_mul, Nat.mul_add, Nat.mul_add (nOb h) (17 * nOb h) 19]
    omega
  unfold muM boM
  rw [h6]
  omega
theorem mu_nonneg {h : Hp} {m : Mk} (hR : rightM h m) : 0 ≤ muM h m := by
  have h1 : 0 ≤ (if m.ob = -1 then 0 else obN h m.ob - m.fi) := by
    split
    · omega
    · rcases hR.2.2.2 with ⟨e, -⟩ | ⟨-, e⟩
      · contradiction
      · have := (fd_ok e).2.2
        omega
  have h2 : 0 ≤ (if m.cu = -1 then 0 else 17 * (afC h m.cu : Int) + 1) := by split <;> omega
  have h3 : 0 ≤ (if m.ov = true then 17 * (nOb h : Int) + 2 else 0) := by split <;> omega
  unfold muM
  omega
end Go.Proofs.YtiofeebiejkajaaDoor
