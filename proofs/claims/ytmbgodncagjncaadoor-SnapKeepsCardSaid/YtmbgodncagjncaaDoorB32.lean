/- Contracts of the reference's roots (chapter 14), and of its comparisons of values and numbers. -/
import Derived.Test.YtmbgodncagjncaaDoorB10
import Derived.Test.YtmbgodncagjncaaDoorB20
import Derived.Test.YtmbgodncagjncaaDoorB19
import Derived.Deep.Cut
import Derived.Test.YtmbgodncagjncaaDoorB31
import Derived.Test.YtmbgodncagjncaaDoorB23
import Derived.Test.YtmbgodncagjncaaDoorB28
import Derived.Test.YtmbgodncagjncaaDoorB21
namespace Go.Proofs.YtmbgodncagjncaaDoor
set_option linter.unusedSimpArgs false
set_option linter.unusedVariables false
open Go.ChangeShapes Go.WideShapes Go.ChangeAt Go.RowKit Go.Joins

theorem val_info : (Tryd.prog.info? 46).map (fun i => (i.zero, i.size, i.bytes)) = some (some (.agg #[.int .i64 0, .int .i64 0]), 2, 16) := by kernel_rfl
def sameV (n : Nat) (z : Nat → Vl) (m : Nat) (y : Nat → Vl) : Bool := decide (n = m ∧ ∀ i, i < n → (z i).k = (y i).k ∧ (z i).n = (y i).n)
theorem sameV_self (n : Nat) (z : Nat → Vl) : sameV n z n z = true := by simp [sameV]
set_option maxHeartbeats 1000000 in
theorem rvsame_any (p q : Option Addr) (n c m d : Nat) (z y : Nat → Vl) (w : World) (hz : VAt w p c n z) (hy : VAt w q d m y) :
    Calls Tryd.prog 20 #[.slice p n c, .slice q m d] w fun e w' => e = .returned (.bool (sameV n z m y)) ∧ Below w.heap.size w w' := by
  have hn := hz.nle
  have hm := hy.nle
  simp only [maxLen] at hn hm
  by_cases hnm : n = m
  · subst hnm
    go_enter Tryd.func20, Tryd.ntmps20
    go_wp2
    go_loopg [5] n (fun g jv wr => ∃ j : Int, 0 ≤ j ∧ j ≤ n ∧ g = (n - j).toNat ∧ jv = .int .i64 j ∧ (∀ t : Nat, t < j → (z t).k = (y t).k ∧ (z t).n = (y t).n) ∧ Below w.heap.size w wr)
    case atStart => exact ⟨0, by omega, by omega, by omega, rfl, fun t ht => by omega, Below.refl _ _⟩
    case round =>
      obtain ⟨j, jl, jh, rfl, rfl, hall, hbw⟩ := hrel
      by_cases hj : j < n
      · obtain ⟨⟨b, off, rfl, hlt, u0, u1⟩, -⟩ := (hz.row.below hbw) j.toNat (by omega)
        obtain ⟨⟨b', off', rfl, hlt', v0, v1⟩, -⟩ := (hy.row.below hbw) j.toNat (by omega)
        by_cases e : (z j.toNat).k = (y j.toNat).k ∧ (z j.toNat).n = (y j.toNat).n
        · have hall2 : Hid (∀ t : Nat, t < j + 1 → (z t).k = (y t).k ∧ (z t).n = (y t).n) := fun t ht => by
            by_cases ht' : (t : Int) < j
            · exact hall t ht'
            · obtain rfl : t = j.toNat := by omega
              exact e
          rw [← e.1] at v0
          rw [← e.2] at v1
          clear e hall
          generalize z j.toNat = Z at *
          obtain ⟨Z0, Z1⟩ := Z
          dsimp only at *
          go_upto_region 6 with fail
          go_region
          all_goals
            go_wp2
            go_roundg ((n : Int) - (j + 1)).toNat
            case measure => omega
            case rel => exact ⟨j + 1, by omega, by omega, rfl, rfl, hall2.out, by go_grown⟩
        · have e' : Hid (sameV n z n y = false) := by
            show sameV n z n y = false
            simp only [sameV, decide_eq_false_iff_not]
            exact fun h => e (h.2 _ (by omega))
          have hne : Hid (¬ ((z j.toNat).k = (y j.toNat).k ∧ (z j.toNat).n = (y j.toNat).n)) := e
          clear e hall
          generalize z j.toNat = Z at *
          generalize y j.toNat = Y at *
          obtain ⟨Z0, Z1⟩ := Z
          obtain ⟨Y0, Y1⟩ := Y
          dsimp only at *
          by_cases h0 : Z0 = Y0
          · subst h0
            have h1 : ¬ Z1 = Y1 := fun h => hne.out ⟨rfl, h⟩
            clear hne
            go_upto_region 6 with fail
            go_region
            all_goals
              go_wp2
              go_returns
              exact ⟨ret_bool e'.out.symm, by go_grown⟩
          · clear hne
            go_upto_region 6 with fail
            go_region
            all_goals
              go_wp2
              go_returns
              exact ⟨ret_bool e'.out.symm, by go_grown⟩
      · have e' : Hid (sameV n z n y = true) := by
          show sameV n z n y = true
          simp only [sameV, decide_eq_true_eq]
          exact ⟨trivial, fun t ht => hall t (by omega)⟩
        go_wp2
        go_returns
        exact ⟨ret_bool e'.out.symm, by go_grown⟩
  · have e' : sameV n z m y = false := by simp [sameV, hnm]
    have hnm' : ¬ (n : Int) = m := by omega
    rw [e']
    go_enter Tryd.func20, Tryd.ntmps20
    go_wp2
    go_returns
    exact ⟨rfl, by go_grown⟩
end Go.Proofs.YtmbgodncagjncaaDoor
namespace Go.Proofs.YtmbgodncagjncaaDoor
set_option linter.unusedSimpArgs false
set_option linter.unusedVariables false
open Go.ChangeShapes Go.WideShapes Go.ChangeAt Go.RowKit

/-- A new marker. -/
def newM (r : Int) (nb : Nat) (br : Nat → Int) (nr : Nat) (ro : Nat → Vl) : Mk := ⟨⟨r, 0, fun _ => 0⟩, nb, fun i => ⟨br i, 0, fun _ => 0⟩, nr, ro, -1, 0, -1, false⟩
end Go.Proofs.YtmbgodncagjncaaDoor
namespace Go.Proofs.YtmbgodncagjncaaDoor
set_option linter.unusedSimpArgs false
set_option linter.unusedVariables false
open Go.ChangeShapes Go.WideShapes Go.ChangeAt Go.RowKit

/-- A list of values as a row. -/
def lvF (L : List Vl) : Nat → Vl := fun i => L[i]?.getD ⟨0, 0⟩
end Go.Proofs.YtmbgodncagjncaaDoor
namespace Go.Proofs.YtmbgodncagjncaaDoor
set_option linter.unusedSimpArgs false
set_option linter.unusedVariables false
open Go.ChangeShapes Go.WideShapes Go.ChangeAt Go.RowKit

theorem fv_wf {h : Hp} (hF : formB h = true) (hw : h.wf) (a i : Int) : (⟨getK (fdX h a i), getN (fdX h a i)⟩ : Vl).wf := by
  have hx : 0 ≤ fdX h a i ∧ fdX h a i ≤ 18446744073709551615 := by
    rcases fd_cases h a i with ⟨ho, i0, i1, -, e⟩ | ⟨-, -, -, e⟩ | ⟨-, -, e⟩
    · rw [e]
      obtain ⟨-, -, a0, a1, a5, a6, -, -, eN, -⟩ := ob_spec hF ho
      rw [eN] at i1
      have hlt : (a + 1 + i).toNat < h.n := by omega
      have := hw.1 _ hlt
      have e2 : woH h (a + 1 + i) = h.z (a + 1 + i).toNat := rfl
      rw [e2]
      simp [Lit.wf, IntKind.min, IntKind.max, IntKind.signed, IntKind.bits] at this
      omega
    · rw [e]; omega
    · rw [e]; omega
  generalize fdX h a i = x at *
  refine ⟨wf_i64_of ?_ ?_, wf_i64_of ?_ ?_⟩ <;> unfold getK <;> (try unfold getN) <;> dsimp only <;> (repeat (first | split | omega))
end Go.Proofs.YtmbgodncagjncaaDoor
namespace Go.Proofs.YtmbgodncagjncaaDoor
set_option linter.unusedSimpArgs false
set_option linter.unusedVariables false
open Go.ChangeShapes Go.WideShapes Go.ChangeAt Go.RowKit Go.Joins

/-- The cells of a list of values. -/
def LV (L : List Vl) : List Value := vlVals L.length fun i => L[i]?.getD ⟨0, 0⟩
theorem LV_snoc (L : List Vl) (v : Vl) : LV L ++ v.vals = LV (L ++ [v]) := by
  unfold LV
  rw [List.length_append, List.length_singleton, ← vlVals_snoc]
  congr 1
  · exact vlVals_congr fun i hi => by rw [List.getElem?_append_left hi]
  · rw [List.getElem?_append_right (Nat.le_refl _), Nat.sub_self]; rfl
theorem LV_range (n : Nat) (z : Nat → Vl) : LV ((List.range n).map z) = vlVals n z := by
  unfold LV
  rw [List.length_map, List.length_range]
  exact vlVals_congr fun i hi => by simp [hi]
theorem va_list {W : World} {N : Nat} {p : Option Addr} {c : Nat} {L : List Vl} (h : W.ownsRow N 46 2 (.slice p L.length c) L.length (LV L)) (hn : L.length ≤ maxLen) (hw : ∀ v ∈ L, v.wf) : VAt W p c L.length fun i => L[i]?.getD ⟨0, 0⟩ :=
  va_owned h hn fun i hi => by rw [List.getElem?_eq_getElem hi]; exact hw _ (List.getElem_mem hi)
theorem LV_flat : ∀ (k : Nat) (L : List Vl), L.length = k → LV L = L.flatMap Vl.vals
  | 0, L, h => by
    obtain rfl := List.eq_nil_of_length_eq_zero h
    rfl
  | k + 1, L, h => by
    obtain ⟨L', v, rfl⟩ : ∃ L' v, L = L' ++ [v] := ⟨L.dropLast, L.getLast (by intro e; rw [e] at h; cases h), (List.dropLast_concat_getLast _).symm⟩
    rw [← LV_snoc, LV_flat k L' (by simpa using h)]
    simp
theorem LV_append (A B : List Vl) : LV A ++ LV B = LV (A ++ B) := by
  rw [LV_flat _ A rfl, LV_flat _ B rfl, LV_flat _ _ rfl, List.flatMap_append]
theorem LV_length (L : List Vl) : (LV L).length = L.length * 2 := vlVals_length _ _
theorem LV_one (L : List Vl) : ∀ u ∈ LV L, u.oneCell' = true := vlVals_one _ _
end Go.Proofs.YtmbgodncagjncaaDoor
namespace Go.Proofs.YtmbgodncagjncaaDoor
set_option linter.unusedSimpArgs false
set_option linter.unusedVariables false
open Go.ChangeShapes Go.WideShapes Go.ChangeAt Go.RowKit Go.Joins

end Go.Proofs.YtmbgodncagjncaaDoor
