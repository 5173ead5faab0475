/- Regions that draw their order and lay a variable of a row of numbers (XLate), the row told by its block's age or its elements' type. -/
import Derived.Test.YtokbggokkjefhaaDoorVarT
namespace Go.Proofs.YtokbggokkjefhaaDoor
set_option linter.unusedSimpArgs false
set_option linter.unusedVariables false
open Go.ChangeShapes Go.WideShapes Go.ChangeAt Go.RowKit Go.Joins

/-- A row beside other values, as one call answers them. -/
def GreyTE (N : Nat) (K : Int) (k : Nat) (z : Nat → Int) (ts : List Value) (v : Value) (w : World) : Prop := ∃ p c, v = .tuple (#[.agg #[.int .i64 K, .slice p k c]] ++ ts.toArray) ∧ GrAt w p c k z ∧ RowE N 3 k p w
section
variable {T : TypeId} {N m g : Nat} {K : Int} {k : Nat} {z : Nat → Int} {ts : List Value} {v : Value} {w w' : World}
theorem GreyTE.below (h : GreyTE N K k z ts v w) (hb : Below w.heap.size w w') : GreyTE N K k z ts v w' := by
  obtain ⟨p, c, e, h, ht⟩ := h
  exact ⟨p, c, e, h.below hb, ht.below hb⟩
theorem GreyTE.putsV (h : GreyTE N K k z ts v w) (hv : VarT T m g w) (hT : ¬ 3 = T) (hg : N ≤ g) (ys : List Value) : GreyTE N K k z ts v (putsL g 0 ys w) := by
  obtain ⟨p, c, e, h, ht⟩ := h
  exact ⟨p, c, e, grAt_puts h ht hv hT hg ys, ht.puts hv hT hg ys⟩
end
end Go.Proofs.YtokbggokkjefhaaDoor
