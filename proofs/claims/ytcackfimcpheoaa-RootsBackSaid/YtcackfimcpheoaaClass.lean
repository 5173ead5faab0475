/- Contracts of class.Words, class.Blocks, class.Fields, class.Of and of the reference's Words, Blocks, Of, for every number. -/
import Derived.Test.YtcackfimcpheoaaBase
namespace Go.Proofs.Ytcackfimcpheoaa
set_option linter.unusedSimpArgs false
set_option linter.unusedVariables false
open Go.ChangeShapes Go.WideShapes Go.ChangeAt Go.RowKit Go.Joins

def szW (c : Int) : Int := if c = 0 then 2 else if c = 1 then 4 else if c = 2 then 8 else if c = 3 then 16 else 0
def blW (c : Int) : Int := if c = 0 then 16 else if c = 1 then 8 else if c = 2 then 4 else if c = 3 then 2 else 0
def flW (c : Int) : Int := if c = 0 then 1 else if c = 1 then 3 else if c = 2 then 7 else if c = 3 then 15 else 0
def ofC (n : Int) : Int := if n ≤ 1 then 0 else if n ≤ 3 then 1 else if n ≤ 7 then 2 else if n ≤ 15 then 3 else 0
def ofB (n : Int) : Bool := decide (0 ≤ n) && decide (n ≤ 15)


theorem cl_cases (c : Int) : c = 0 ∧ szW c = 2 ∧ blW c = 16 ∧ flW c = 1 ∨ c = 1 ∧ szW c = 4 ∧ blW c = 8 ∧ flW c = 3 ∨ c = 2 ∧ szW c = 8 ∧ blW c = 4 ∧ flW c = 7 ∨ c = 3 ∧ szW c = 16 ∧ blW c = 2 ∧ flW c = 15 ∨ ¬ (0 ≤ c ∧ c < 4) ∧ szW c = 0 ∧ blW c = 0 ∧ flW c = 0 := by
  by_cases h : 0 ≤ c ∧ c < 4
  · obtain rfl | rfl | rfl | rfl : c = 0 ∨ c = 1 ∨ c = 2 ∨ c = 3 := by omega
    all_goals simp [szW, blW, flW]
  · refine .inr (.inr (.inr (.inr ⟨h, ?_, ?_, ?_⟩)))
    · unfold szW; (repeat' split) <;> omega
    · unfold blW; (repeat' split) <;> omega
    · unfold flW; (repeat' split) <;> omega

theorem of_none {n : Int} (h : ofB n = false) : ofC n = 0 ∨ n < 0 := by
  simp [ofB] at h
  by_cases h0 : n < 0
  · exact .inr h0
  · left; unfold ofC; (repeat' split) <;> omega

theorem sz_next {c : Int} (h : 0 ≤ c) (h' : c < 3) : 2 * szW c = szW (c + 1) := by
  obtain rfl | rfl | rfl : c = 0 ∨ c = 1 ∨ c = 2 := by omega
  all_goals rfl
theorem bl_next {c : Int} (h : 0 ≤ c) (h' : c < 3) : blW c = 2 * blW (c + 1) := by
  obtain rfl | rfl | rfl : c = 0 ∨ c = 1 ∨ c = 2 := by omega
  all_goals rfl

end Go.Proofs.Ytcackfimcpheoaa
