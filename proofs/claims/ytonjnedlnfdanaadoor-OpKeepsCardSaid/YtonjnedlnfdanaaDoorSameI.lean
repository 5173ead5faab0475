/- Rows of numbers, compared; rows of numbers that a call makes, as lists. -/
import Derived.Test.YtonjnedlnfdanaaDoorTBox
import Derived.Deep.Cut
namespace Go.Proofs.YtonjnedlnfdanaaDoor
set_option linter.unusedSimpArgs false
set_option linter.unusedVariables false
open Go.ChangeShapes Go.WideShapes Go.ChangeAt Go.RowKit Go.Joins

def sameI (n : Nat) (z : Nat → Int) (m : Nat) (y : Nat → Int) : Bool := decide (n = m ∧ ∀ i, i < n → z i = y i)
theorem sameI_self (n : Nat) (z : Nat → Int) : sameI n z n z = true := by simp [sameI]
theorem sameI_of {n : Nat} {z y : Nat → Int} (h : ∀ i, i < n → z i = y i) : sameI n z n y = true := by simp [sameI]; exact h
/-- A list of numbers, as a function. -/
def liI (L : List Int) : Nat → Int := fun i => L.getD i 0
theorem li_vals (L : List Int) : vals .i64 L.length (liI L) = L.map (Value.int .i64) := by
  apply List.ext_getElem?
  intro j
  by_cases h : j < L.length
  · rw [vals_get _ _ h, List.getElem?_map, List.getElem?_eq_getElem h]
    simp [liI, h]
  · rw [List.getElem?_eq_none (by rw [vals_length]; omega), List.getElem?_eq_none (by simp; omega)]
theorem li_ints {w : World} {N : Nat} {p : Option Addr} {c : Nat} {L : List Int} (h : w.ownsRow N 3 1 (.slice p L.length c) L.length (L.map (Value.int .i64))) (hw : ∀ x ∈ L, (Lit.int .i64 x).wf = true) : Ints .i64 w p L.length (liI L) := by
  rw [← li_vals] at h
  exact ints_owned h fun i hi => hw _ (by
    unfold liI
    rw [List.getD_eq_getElem?_getD, List.getElem?_eq_getElem hi]
    exact List.getElem_mem hi)
theorem int_infoL : (Tryd.prog.info? 3).map (fun i => (i.zero, i.size, i.bytes)) = some (some (.int .i64 0), 1, 8) := by kernel_rfl
end Go.Proofs.YtonjnedlnfdanaaDoor
