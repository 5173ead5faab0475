/- The addresses of all objects, rising (chapter 8): a range over a function. -/
import Derived.RangeFuncBox
import Derived.RangeFuncNested
import Derived.RangeFuncLeaves
import Derived.RangeFuncCalls
import Derived.Shelf.Abstract
import Derived.WalkKit
import Derived.OwnWalkIn
import Derived.TacticsInMore
import Derived.LoopNIn
import Derived.LoopIn
import Derived.Maps.AppendAt
import Derived.Test.YtonjnedlnfdanaaDoorObject
namespace Go.Proofs.YtonjnedlnfdanaaDoor
set_option linter.unusedSimpArgs false
set_option linter.unusedVariables false
open Go.ChangeShapes Go.WideShapes Go.ChangeAt Go.RowKit Go.Joins

attribute [local go_sem] Oper.semAt_some

def obL (h : Hp) : Nat → List Int
  | 0 => []
  | k + 1 => if obB h k = true then obL h k ++ [(k : Int)] else obL h k
theorem obL_yes {h : Hp} {k : Nat} (e : obB h k = true) : obL h (k + 1) = obL h k ++ [(k : Int)] := by simp [obL, e]
theorem obL_no {h : Hp} {k : Nat} (e : obB h k = false) : obL h (k + 1) = obL h k := by simp [obL, e]
theorem obL_len (h : Hp) : ∀ k, (obL h k).length ≤ k
  | 0 => by simp [obL]
  | k + 1 => by
    have := obL_len h k
    unfold obL
    split
    · simp; omega
    · omega
theorem obL_mem (h : Hp) (x : Int) : ∀ k : Nat, x ∈ obL h k ↔ 0 ≤ x ∧ x < k ∧ obB h x = true
  | 0 => by simp [obL]; omega
  | k + 1 => by
    have ih := obL_mem h x k
    by_cases e : obB h k = true
    · rw [obL_yes e, List.mem_append, ih]
      simp only [List.mem_cons, List.not_mem_nil, or_false]
      constructor
      · rintro (⟨a, b, c⟩ | rfl)
        · exact ⟨a, by omega, c⟩
        · exact ⟨by omega, by omega, e⟩
      · rintro ⟨a, b, c⟩
        by_cases ex : x = k
        · exact .inr ex
        · exact .inl ⟨a, by omega, c⟩
    · rw [obL_no (by simpa using e), ih]
      constructor
      · rintro ⟨a, b, c⟩; exact ⟨a, by omega, c⟩
      · rintro ⟨a, b, c⟩
        by_cases ex : x = k
        · subst ex; exact absurd c e
        · exact ⟨a, by omega, c⟩
theorem obL_rise (h : Hp) : ∀ k : Nat, (obL h k).Pairwise (· < ·)
  | 0 => by simp [obL]
  | k + 1 => by
    have ih := obL_rise h k
    by_cases e : obB h k = true
    · rw [obL_yes e, List.pairwise_append]
      refine ⟨ih, by simp, fun a ha b hb => ?_⟩
      simp only [List.mem_cons, List.not_mem_nil, or_false] at hb
      subst hb
      exact ((obL_mem h a k).1 ha).2.1
    · rw [obL_no (by simpa using e)]; exact ih
theorem map_vals (k : IntKind) (L : List Int) : L.map (Value.int k) = vals k L.length fun i => L[i]?.getD 0 := by
  apply List.ext_getElem
  · simp [vals]
  · intro i h1 h2
    have : i < L.length := by simpa using h1
    simp [vals, this]

theorem below_grows {w w' : World} (h : Below w.heap.size w w') : w.grownBy w' none := ⟨h.os, h.tape, h.output, h.size, fun k hk _ => h.block k hk⟩

theorem int_info : (Tryd.prog.info? 3).map (fun i => (i.zero, i.size, i.bytes)) = some (some (.int .i64 0), 1, 8) := by kernel_rfl
/-- The box stays. -/
def KeepsBox (n₀ Bn : Nat) (x y z : Value) (A B : World) : Prop := Below n₀ A B ∧ (Box3 Bn x y z A → Box3 Bn x y z B)
theorem box_putObj {b l : Nat} {x y z : Value} {W : World} (h : Box3 b x y z W) (hl : b < l) (o : Obj) : Box3 b x y z (W.putObj l o) :=
  h.grown (grownBy_putObj' W l o) (by simp; omega)
end Go.Proofs.YtonjnedlnfdanaaDoor
