/- Rows of numbers, compared; rows of numbers that a call makes, as lists. -/
import Derived.Test.YtokbggokkjefhaaDoorTBox
import Derived.Deep.Cut
namespace Go.Proofs.YtokbggokkjefhaaDoor
set_option linter.unusedSimpArgs false
set_option linter.unusedVariables false
open Go.ChangeShapes Go.WideShapes Go.ChangeAt Go.RowKit Go.Joins

def sameI (n : Nat) (z : Nat → Int) (m : Nat) (y : Nat → Int) : Bool := decide (n = m ∧ ∀ i, i < n → z i = y i)
theorem sameI_self (n : Nat) (z : Nat → Int) : sameI n z n z = true := by simp [sameI]
theorem sameI_of {n : Nat} {z y : Nat → Int} (h : ∀ i, i < n → z i = y i) : sameI n z n y = true := by simp [sameI]; exact h
set_option maxHeartbeats 1000000 in
theorem rintsG_any (p q : Option Addr) (n cap m cap' : Nat) (z y : Nat → Int) (w : World) (hz : Ints .i64 w p n z) (hy : Ints .i64 w q m y) (hn : n ≤ maxLen) (hm : m ≤ maxLen) :
    Calls Tryd.prog 12 #[.slice p n cap, .slice q m cap'] w fun e w' => e = .returned (.bool (sameI n z m y)) ∧ Below w.heap.size w w' := by
  simp only [maxLen] at hn hm
  by_cases hnm : n = m
  · subst hnm
    go_enter Tryd.func12, Tryd.ntmps12
    go_wp2
    go_loopg [5] n (fun g jv wr => ∃ j : Int, 0 ≤ j ∧ j ≤ n ∧ g = (n - j).toNat ∧ jv = .int .i64 j ∧ (∀ t : Nat, t < j → z t = y t) ∧ Below w.heap.size w wr)
    case atStart => exact ⟨0, by omega, by omega, by omega, rfl, fun t ht => by omega, Below.refl _ _⟩
    case round =>
      obtain ⟨j, jl, jh, rfl, rfl, hall, hbw⟩ := hrel
      by_cases hj : j < n
      · obtain ⟨⟨b, off, rfl, hlt, hcell⟩, hwf⟩ := (hz.below hbw) j.toNat (by omega)
        obtain ⟨⟨b', off', rfl, hlt', hcell'⟩, hwf'⟩ := (hy.below hbw) j.toNat (by omega)
        by_cases e : z j.toNat = y j.toNat
        · go_wp2
          go_region
          all_goals
            go_wp2
            go_roundg ((n : Int) - (j + 1)).toNat
            case measure => omega
            case rel => exact ⟨j + 1, by omega, by omega, rfl, rfl, fun t ht => by
              by_cases ht' : (t : Int) < j
              · exact hall t ht'
              · obtain rfl : t = j.toNat := by omega
                exact e, by go_grown⟩
        · have e' : sameI n z n y = false := by
            simp only [sameI, decide_eq_false_iff_not]
            exact fun h => e (h.2 _ (by omega))
          go_wp2
          go_region
          all_goals
            go_wp2
            go_returns
            exact ⟨ret_bool (by simp [e']), by go_grown⟩
      · have e' : sameI n z n y = true := by
          simp only [sameI, decide_eq_true_eq]
          exact ⟨trivial, fun t ht => hall t (by omega)⟩
        go_wp2
        go_returns
        exact ⟨ret_bool (by simp [e']), by go_grown⟩
  · have e' : sameI n z m y = false := by simp [sameI, hnm]
    have hnm' : ¬ (n : Int) = m := by omega
    go_enter Tryd.func12, Tryd.ntmps12
    go_wp2
    go_returns
    exact ⟨ret_bool (by simp [e']), by go_grown⟩
/-- A list of numbers, as a function. -/
def liI (L : List Int) : Nat → Int := fun i => L.getD i 0
theorem li_vals (L : List Int) : vals .i64 L.length (liI L) = L.map (Value.int .i64) := by
  apply List.ext_getElem?
  intro j
  by_cases h : j < L.length
  · rw [vals_get _ _ h, List.getElem?_map, List.getElem?_eq_getElem h]
    simp [liI, h]
  · rw [List.getElem?_eq_none (by rw [vals_length]; omega), List.getElem?_eq_none (by simp; omega)]
theorem li_ints {w : World} {N : Nat} {p : Option Addr} {c : Nat} {L : List Int} (h : w.ownsRow N 3 1 (.slice p L.length c) L.length (L.map (Value.int .i64))) (hw : ∀ x ∈ L, (Lit.int .i64 x).wf = true) : Ints .i64 w p L.length (liI L) := by
  rw [← li_vals] at h
  exact ints_owned h fun i hi => hw _ (by
    unfold liI
    rw [List.getD_eq_getElem?_getD, List.getElem?_eq_getElem hi]
    exact List.getElem_mem hi)
theorem int_infoL : (Tryd.prog.info? 3).map (fun i => (i.zero, i.size, i.bytes)) = some (some (.int .i64 0), 1, 8) := by kernel_rfl
end Go.Proofs.YtokbggokkjefhaaDoor
