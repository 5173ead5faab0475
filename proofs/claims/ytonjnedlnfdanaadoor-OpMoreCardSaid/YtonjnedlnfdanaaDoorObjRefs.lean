/- To what an object refers; two rows of numbers compared (chapter 8). -/
import Derived.Test.YtonjnedlnfdanaaDoorObject
namespace Go.Proofs.YtonjnedlnfdanaaDoor
set_option linter.unusedSimpArgs false
set_option linter.unusedVariables false
open Go.ChangeShapes Go.WideShapes Go.ChangeAt Go.RowKit Go.Joins

/-- The first k fields' references. -/
def rfL (h : Hp) (a : Int) : Nat → List Int
  | 0 => []
  | k + 1 => if getK (woH h (a + 1 + k)) = 2 then rfL h a k ++ [getN (woH h (a + 1 + k))] else rfL h a k
theorem rfL_yes {h : Hp} {a : Int} {k : Nat} (e : getK (woH h (a + 1 + k)) = 2) : rfL h a (k + 1) = rfL h a k ++ [getN (woH h (a + 1 + k))] := by simp only [rfL]; rw [if_pos e]
theorem rfL_no {h : Hp} {a : Int} {k : Nat} (e : ¬ getK (woH h (a + 1 + k)) = 2) : rfL h a (k + 1) = rfL h a k := by simp only [rfL]; rw [if_neg e]
theorem rfL_len (h : Hp) (a : Int) : ∀ k, (rfL h a k).length ≤ k
  | 0 => by simp [rfL]
  | k + 1 => by
    have := rfL_len h a k
    by_cases e : getK (woH h (a + 1 + k)) = 2
    · rw [rfL_yes e]; simp; omega
    · rw [rfL_no e]; omega
def rfH (h : Hp) (a : Int) : List Int := rfL h a (obN h a).toNat
theorem int_info' : (Tryd.prog.info? 3).map (fun i => (i.zero, i.size, i.bytes)) = some (some (.int .i64 0), 1, 8) := by kernel_rfl

theorem ob_room {h : Hp} {a : Int} (hF : formB h = true) (e : obB h a = true) : a + 1 < h.n := by
  obtain ⟨hf, -, a0, a1, -, a3, -⟩ := ob_spec hF e
  obtain ⟨-, -, -, -, -, i0, i1, ea⟩ := fi_spec hF hf
  rcases cl_cases (spH h (a / 32)).cl with ⟨-, e1, e2, -⟩ | ⟨-, e1, e2, -⟩ | ⟨-, e1, e2, -⟩ | ⟨-, e1, e2, -⟩ | ⟨-, e1, e2, -⟩
  all_goals
    rw [e1] at ea
    rw [e2] at i1
    omega
end Go.Proofs.YtonjnedlnfdanaaDoor
