import Derived.Test.YtkehankfnkjnlaaGreatDoorV17
namespace Go.Proofs.YtkehankfnkjnlaaGreatDoor
set_option linter.unusedSimpArgs false
set_option linter.unusedVariables false
set_option maxHeartbeats 16000000
set_option maxRecDepth 20000
open Go.ChangeAt Go.ChangeShapes Go.Joins Go.RowKit Go.WideShapes
variable {h : Hp} {w w' W W' : World} {p q : Option Addr} {n g : Nat} {a : Int} {v : Value}
def GreyTE (N : Nat) (K : Int) (k : Nat) (z : Nat → Int) (ts : List Value) (v : Value) (w : World) : Prop := ∃ p c, v = .tuple (#[.agg #[.int .i64 K, .slice p k c]] ++ ts.toArray) ∧ GrAt w p c k z ∧ RowE N 3 k p w
section
variable {T : TypeId} {N m g : Nat} {K : Int} {k : Nat} {z : Nat → Int} {ts : List Value} {v : Value} {w w' : World}
theorem GreyTE.below (h : GreyTE N K k z ts v w) (hb : Below w.heap.size w w') : GreyTE N K k z ts v w' := by
 obtain ⟨p, c, e, h, ht⟩ := h
 exact ⟨p, c, e, h.below hb, ht.below hb⟩
theorem GreyTE.putsV (h : GreyTE N K k z ts v w) (hv : VarT T m g w) (hT : ¬ 3 = T) (hg : N ≤ g) (ys : List Value) : GreyTE N K k z ts v (putsL g 0 ys w) := by
 obtain ⟨p, c, e, h, ht⟩ := h
 exact ⟨p, c, e, zbt h ht hv hT hg ys, ht.puts hv hT hg ys⟩
end
end Go.Proofs.YtkehankfnkjnlaaGreatDoor
