/- Contracts of the code's object.store, object.Set, object.Paint (chapter 8). -/
import Derived.Test.YtmbgodncagjncaaDoorB26
import Derived.RangeFuncBox
import Derived.RangeFuncNested
import Derived.RangeFuncLeaves
import Derived.RangeFuncCalls
import Derived.Shelf.Abstract
import Derived.WalkKit
import Derived.OwnWalkIn
import Derived.TacticsInMore
import Derived.LoopNIn
import Derived.LoopIn
import Derived.Maps.AppendAt
namespace Go.Proofs.YtmbgodncagjncaaDoor
set_option linter.unusedSimpArgs false
set_option linter.unusedVariables false
open Go.ChangeShapes Go.WideShapes Go.ChangeAt Go.RowKit Go.Joins

end Go.Proofs.YtmbgodncagjncaaDoor
namespace Go.Proofs.YtmbgodncagjncaaDoor
set_option linter.unusedSimpArgs false
set_option linter.unusedVariables false
open Go.ChangeShapes Go.WideShapes Go.ChangeAt Go.RowKit Go.Joins

attribute [local go_sem] Oper.semAt_some

def obL (h : Hp) : Nat → List Int
  | 0 => []
  | k + 1 => if obB h k = true then obL h k ++ [(k : Int)] else obL h k
theorem obL_yes {h : Hp} {k : Nat} (e : obB h k = true) : obL h (k + 1) = obL h k ++ [(k : Int)] := by simp [obL, e]
theorem obL_no {h : Hp} {k : Nat} (e : obB h k = false) : obL h (k + 1) = obL h k := by simp [obL, e]
theorem obL_mem (h : Hp) (x : Int) : ∀ k : Nat, x ∈ obL h k ↔ 0 ≤ x ∧ x < k ∧ obB h x = true
  | 0 => by simp [obL]; omega
  | k + 1 => by
    have ih := obL_mem h x k
    by_cases e : obB h k = true
    · rw [obL_yes e, List.mem_append, ih]
      simp only [List.mem_cons, List.not_mem_nil, or_false]
      constructor
      · rintro (⟨a, b, c⟩ | rfl)
        · exact ⟨a, by omega, c⟩
        · exact ⟨by omega, by omega, e⟩
      · rintro ⟨a, b, c⟩
        by_cases ex : x = k
        · exact .inr ex
        · exact .inl ⟨a, by omega, c⟩
    · rw [obL_no (by simpa using e), ih]
      constructor
      · rintro ⟨a, b, c⟩; exact ⟨a, by omega, c⟩
      · rintro ⟨a, b, c⟩
        by_cases ex : x = k
        · subst ex; exact absurd c e
        · exact ⟨a, by omega, c⟩
theorem obL_rise (h : Hp) : ∀ k : Nat, (obL h k).Pairwise (· < ·)
  | 0 => by simp [obL]
  | k + 1 => by
    have ih := obL_rise h k
    by_cases e : obB h k = true
    · rw [obL_yes e, List.pairwise_append]
      refine ⟨ih, by simp, fun a ha b hb => ?_⟩
      simp only [List.mem_cons, List.not_mem_nil, or_false] at hb
      subst hb
      exact ((obL_mem h a k).1 ha).2.1
    · rw [obL_no (by simpa using e)]; exact ih
end Go.Proofs.YtmbgodncagjncaaDoor
namespace Go.Proofs.YtmbgodncagjncaaDoor
set_option linter.unusedSimpArgs false
set_option linter.unusedVariables false
open Go.ChangeShapes Go.WideShapes Go.ChangeAt Go.RowKit Go.Joins

/-- The first k fields' references. -/
def rfL (h : Hp) (a : Int) : Nat → List Int
  | 0 => []
  | k + 1 => if getK (woH h (a + 1 + k)) = 2 then rfL h a k ++ [getN (woH h (a + 1 + k))] else rfL h a k
theorem rfL_yes {h : Hp} {a : Int} {k : Nat} (e : getK (woH h (a + 1 + k)) = 2) : rfL h a (k + 1) = rfL h a k ++ [getN (woH h (a + 1 + k))] := by simp only [rfL]; rw [if_pos e]
theorem rfL_no {h : Hp} {a : Int} {k : Nat} (e : ¬ getK (woH h (a + 1 + k)) = 2) : rfL h a (k + 1) = rfL h a k := by simp only [rfL]; rw [if_neg e]
def rfH (h : Hp) (a : Int) : List Int := rfL h a (obN h a).toNat
theorem int_info' : (Tryd.prog.info? 3).map (fun i => (i.zero, i.size, i.bytes)) = some (some (.int .i64 0), 1, 8) := by kernel_rfl

end Go.Proofs.YtmbgodncagjncaaDoor
