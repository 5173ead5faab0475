/- Regions that draw their order and lay a variable of a struct (XLate): rows that are still to be scanned. -/
import Derived.Test.YtonjnedlnfdanaaDoorGreyFn
namespace Go.Proofs.YtonjnedlnfdanaaDoor
set_option linter.unusedSimpArgs false
set_option linter.unusedVariables false
open Go.ChangeShapes Go.WideShapes Go.ChangeAt Go.RowKit Go.Joins

theorem GrAt.of_block {w w' : World} {p : Option Addr} {c n : Nat} {z : Nat → Int} (h : GrAt w p c n z) (hl : w.heap.size ≤ w'.heap.size) (e : 0 < n → ∀ b off sp, p = some ⟨b, off, sp⟩ → w'.heap[b]? = w.heap[b]?) : GrAt w' p c n z := ⟨h.ints.of_block hl e, h.nle, h.pnil, h.ncap⟩
theorem GrAt.putsL {w : World} {p : Option Addr} {c n : Nat} {z : Nat → Int} (h : GrAt w p c n z) {N : Nat} {T : TypeId} (ht : NoTag N T n p w) {m g : Nat} (hs : ShapeT T m g w) (hg : N ≤ g) (xs : List Value) : GrAt (putsL g 0 xs w) p c n z :=
  h.of_block (by rw [putsL_size]; exact Nat.le_refl _) fun h0 b off sp e => putsL_other (ht.ne hs hg h0 e) xs 0 w
/-- A row that a call answers, as data: N the heap's size ahead, T the variable's type. -/
def GreyA (N : Nat) (T : TypeId) (K : Int) (n : Nat) (z : Nat → Int) (v : Value) (w : World) : Prop := ∃ p c, v = .agg #[.int .i64 K, .slice p n c] ∧ GrAt w p c n z ∧ NoTag N T n p w
def GreyT (N : Nat) (T : TypeId) (K : Int) (n : Nat) (z : Nat → Int) (ts : List Value) (v : Value) (w : World) : Prop := ∃ p c, v = .tuple (#[.agg #[.int .i64 K, .slice p n c]] ++ ts.toArray) ∧ GrAt w p c n z ∧ NoTag N T n p w
def FullG (N : Nat) (T : TypeId) (K : Int) (n : Nat) (z : Nat → Int) (g : Nat) (w : World) : Prop := ∃ p c, TBox T g #[.int .i64 K, .slice p n c] w ∧ GrAt w p c n z ∧ NoTag N T n p w
theorem GreyA.below {N : Nat} {T : TypeId} {K : Int} {n : Nat} {z : Nat → Int} {v : Value} {w w' : World} (h : GreyA N T K n z v w) (hb : Below w.heap.size w w') : GreyA N T K n z v w' := by
  obtain ⟨p, c, e, h, ht⟩ := h
  exact ⟨p, c, e, h.below hb, ht.below hb⟩
theorem GreyT.below {N : Nat} {T : TypeId} {K : Int} {n : Nat} {z : Nat → Int} {ts : List Value} {v : Value} {w w' : World} (h : GreyT N T K n z ts v w) (hb : Below w.heap.size w w') : GreyT N T K n z ts v w' := by
  obtain ⟨p, c, e, h, ht⟩ := h
  exact ⟨p, c, e, h.below hb, ht.below hb⟩
theorem fullG_below {N : Nat} {T : TypeId} {K : Int} {n : Nat} {z : Nat → Int} (g : Nat) (w w' : World) (h : FullG N T K n z g w) (hb : Below w.heap.size w w') : FullG N T K n z g w' := by
  obtain ⟨p, c, e, h, ht⟩ := h
  exact ⟨p, c, e.below hb, h.below hb, ht.below hb⟩
theorem GreyA.puts {N : Nat} {T : TypeId} {K : Int} {n : Nat} {z : Nat → Int} {v : Value} {w : World} (h : GreyA N T K n z v w) {m g : Nat} (hs : ShapeT T m g w) (hg : N ≤ g) (xs : List Value) : GreyA N T K n z v (putsL g 0 xs w) := by
  obtain ⟨p, c, e, h, ht⟩ := h
  exact ⟨p, c, e, h.putsL ht hs hg xs, ht.puts hs hg xs⟩
theorem GreyT.puts {N : Nat} {T : TypeId} {K : Int} {n : Nat} {z : Nat → Int} {ts : List Value} {v : Value} {w : World} (h : GreyT N T K n z ts v w) {m g : Nat} (hs : ShapeT T m g w) (hg : N ≤ g) (xs : List Value) : GreyT N T K n z ts v (putsL g 0 xs w) := by
  obtain ⟨p, c, e, h, ht⟩ := h
  exact ⟨p, c, e, h.putsL ht hs hg xs, ht.puts hs hg xs⟩
theorem fullG_puts {N : Nat} {T : TypeId} {K : Int} {n : Nat} {z : Nat → Int} {p : Option Addr} {c : Nat} {w : World} (h : GrAt w p c n z) (ht : NoTag N T n p w) {g : Nat} (hs : ShapeT T 2 g w) (hg : N ≤ g) : FullG N T K n z g (putsL g 0 [.int .i64 K, .slice p n c] w) :=
  ⟨p, c, hs.full2 _ _, h.putsL ht hs hg _, ht.puts hs hg _⟩
end Go.Proofs.YtonjnedlnfdanaaDoor
