/- Contracts of span.*, of right spans (span.Right and span.New of any). -/
import Derived.Test.YtonjnedlnfdanaaDoorBits
import Derived.Test.YtonjnedlnfdanaaDoorSpans
namespace Go.Proofs.YtonjnedlnfdanaaDoor
set_option linter.unusedSimpArgs false
set_option linter.unusedVariables false
open Go.ChangeShapes Go.WideShapes Go.ChangeAt Go.RowKit

def nwS (c : Int) : Int := if clB c = true then 1 else 0
def nwC (c : Int) : Int := if clB c = true then c else 0
def nwF (c : Int) : Int := if clB c = true then wholeW (blW c) else 0
theorem nw_yes {c : Int} (h : clB c = true) : nwS c = 1 ∧ nwC c = c ∧ nwF c = wholeW (blW c) := by simp [nwS, nwC, nwF, h]
theorem nw_no {c : Int} (h : clB c = false) : nwS c = 0 ∧ nwC c = 0 ∧ nwF c = 0 := by simp [nwS, nwC, nwF, h]
theorem cl_bl (c : Int) : clB c = true ∧ 0 < blW c ∨ clB c = false ∧ blW c = 0 := by
  have e : clB c = true ↔ 0 ≤ c ∧ c < 4 := by simp [clB]
  have := cl_cases c
  cases h : clB c with
  | true => exact .inl ⟨rfl, by have := e.1 h; omega⟩
  | false => exact .inr ⟨rfl, by have : ¬ (0 ≤ c ∧ c < 4) := fun x => by rw [e.2 x] at h; cases h
                                 omega⟩

/-- The states that a right span has. -/
structure OkS (st : Int) : Prop where
  out : st = 0 ∨ st = 1 ∨ st = 2
theorem right_ok {st cl fr : Int} (h : rightB st cl fr = true) : OkS st := by
  rcases right_iff.1 h with ⟨h, -⟩ | ⟨h | h, -⟩
  · exact ⟨.inl h⟩
  · exact ⟨.inr (.inl h)⟩
  · exact ⟨.inr (.inr h)⟩

theorem whole_bl (c : Int) : (wholeW (blW c) == 0) = !clB c := by
  rcases cl_cases c with ⟨h, -, e, -⟩ | ⟨h, -, e, -⟩ | ⟨h, -, e, -⟩ | ⟨h, -, e, -⟩ | ⟨h, -, e, -⟩
  all_goals
    rw [e]
    have : clB c = _ := show (decide (0 ≤ c) && decide (c < 4)) = _ from rfl
    simp [clB, wholeW]
    omega
theorem whole_bl_ne (c : Int) : (wholeW (blW c) != 0) = clB c := by
  rw [bne, whole_bl, Bool.not_not]
theorem has_all (c i : Int) : hasB (wholeW (blW c)) i = (decide (0 ≤ i) && decide (i < blW c)) := by
  have hb := bl_bound c
  by_cases h : 0 ≤ i ∧ i < 32
  · rw [has_whole _ h.1 h.2, decide_eq_true h.1, Bool.true_and]
  · rw [has_out h]
    by_cases h0 : 0 ≤ i
    · rw [decide_eq_false (show ¬ i < blW c by omega), Bool.and_false]
    · rw [decide_eq_false h0]; rfl
theorem with_same {m i : Int} (hm : Mask m) (h0 : 0 ≤ i) (h1 : i < 32) : withW m i = m ↔ hasB m i = true := by
  constructor
  · intro h
    have := has_with m i i
    rw [h, inB_yes h0 h1] at this
    simpa using this
  · intro h
    refine mask_ext (mask_with hm) hm fun j j0 j1 => ?_
    rw [has_with, inB_yes h0 h1]
    by_cases e : j = i
    · subst e; simp [h]
    · simp [e]

theorem right_zero (cl fr : Int) : rightB 0 cl fr = (decide (cl = 0) && decide (fr = 0)) := by simp [rightB]
theorem right_else {st : Int} (cl fr : Int) (h : ¬ st = 0) : rightB st cl fr = (useB st && (clB cl && smallB cl fr)) := by simp [rightB, h]
end Go.Proofs.YtonjnedlnfdanaaDoor
