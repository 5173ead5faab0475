/- Contracts of the reference's roots (chapter 14), and of its comparisons of values and numbers. -/
import Derived.Test.YtonjnedlnfdanaaDoorVals
import Derived.Test.YtonjnedlnfdanaaDoorSoftS
import Derived.Test.YtonjnedlnfdanaaDoorSameI
import Derived.Deep.Cut
namespace Go.Proofs.YtonjnedlnfdanaaDoor
set_option linter.unusedSimpArgs false
set_option linter.unusedVariables false
open Go.ChangeShapes Go.WideShapes Go.ChangeAt Go.RowKit Go.Joins

theorem val_info : (Tryd.prog.info? 30).map (fun i => (i.zero, i.size, i.bytes)) = some (some (.agg #[.int .i64 0, .int .i64 0]), 2, 16) := by kernel_rfl
/-- A value at the end. -/
def pvZ (z : Nat → Vl) (n : Nat) (v : Vl) : Nat → Vl := fun i => if i = n then v else z i
theorem pv_vals (z : Nat → Vl) (n : Nat) (v : Vl) : vlVals n z ++ v.vals = vlVals (n + 1) (pvZ z n v) := by
  rw [← vlVals_snoc]
  congr 1
  · exact vlVals_congr fun i hi => by unfold pvZ; rw [if_neg (by omega)]
  · unfold pvZ; rw [if_pos rfl]
theorem pv_wf {z : Nat → Vl} {n : Nat} {v : Vl} (hz : ∀ i, i < n → (z i).wf) (hv : v.wf) : ∀ i, i < n + 1 → (pvZ z n v i).wf := fun i hi => by
  unfold pvZ
  split
  · exact hv
  · exact hz i (by omega)
/-- Push: is there room? The stack then, and the error. -/
def vpB (n : Nat) (r : Int) : Bool := decide ((n : Int) < r)
def vpN (n : Nat) (r : Int) : Nat := if vpB n r = true then n + 1 else n
def vpZ (n : Nat) (r : Int) (z : Nat → Vl) (v : Vl) : Nat → Vl := if vpB n r = true then pvZ z n v else z
def vpE (n : Nat) (r : Int) : Int := if vpB n r = true then 0 else 5
/-- Pop: the value, the error. -/
def vqX (n : Nat) (z : Nat → Vl) : Vl := if n = 0 then ⟨0, 0⟩ else z (n - 1)
def vqE (n : Nat) : Int := if n = 0 then 3 else 0
/-- Slot: the value, the error. -/
def vsX (n : Nat) (z : Nat → Vl) (i : Int) : Vl := if 0 ≤ i ∧ i < n then z i.toNat else ⟨0, 0⟩
def vsE (n : Nat) (i : Int) : Int := if 0 ≤ i ∧ i < n then 0 else 3
/-- Object. -/
def voE (n : Nat) (z : Nat → Vl) (i : Int) : Int := if 0 ≤ i ∧ i < n then (if (z i.toNat).k = 0 then 2 else if (z i.toNat).k = 2 then 0 else 7) else 3
def voX (n : Nat) (z : Nat → Vl) (i : Int) : Int := if voE n z i = 0 then (z i.toNat).n else 0
/-- Refs: the numbers of the first n that refer to something. -/
def vrL (z : Nat → Vl) : Nat → List Int
  | 0 => []
  | n + 1 => if (z n).k = 2 then vrL z n ++ [(z n).n] else vrL z n
def sameV (n : Nat) (z : Nat → Vl) (m : Nat) (y : Nat → Vl) : Bool := decide (n = m ∧ ∀ i, i < n → (z i).k = (y i).k ∧ (z i).n = (y i).n)
theorem sameV_self (n : Nat) (z : Nat → Vl) : sameV n z n z = true := by simp [sameV]
theorem vrL_len (z : Nat → Vl) : ∀ n, (vrL z n).length ≤ n
  | 0 => Nat.le_refl _
  | n + 1 => by
    have ih := vrL_len z n
    unfold vrL
    split
    · rw [List.length_append, List.length_singleton]; omega
    · omega
theorem vrL_wf {z : Nat → Vl} : ∀ {n : Nat}, (∀ i, i < n → (z i).wf) → ∀ x ∈ vrL z n, (Lit.int .i64 x).wf = true
  | 0, _, x, hx => by cases hx
  | n + 1, h, x, hx => by
    have ih := vrL_wf (n := n) fun i hi => h i (by omega)
    unfold vrL at hx
    split at hx
    · rcases List.mem_append.1 hx with hx | hx
      · exact ih x hx
      · rw [List.mem_singleton.1 hx]; exact (h n (by omega)).2
    · exact ih x hx
end Go.Proofs.YtonjnedlnfdanaaDoor
