/- Small lemmas on endings and worlds, for all contracts of this seat. -/
import Derived.Handy
import Derived.Lib.Hide
import Derived.Deep.QuietTactic
import Derived.BigQuiet
import Derived.Deep.LoopGhost
namespace Go.Proofs.YtjlflbaglaillaaDoor
set_option linter.unusedSimpArgs false
set_option linter.unusedVariables false
open Go.ChangeShapes Go.WideShapes Go.ChangeAt Go.RowKit

theorem ret_bool {a b : Bool} (h : a = b) : Ending.returned (.bool a) = .returned (.bool b) := by rw [h]
theorem ret_int {k : IntKind} {a b : Int} (h : a = b) : Ending.returned (.int k a) = .returned (.int k b) := by rw [h]
theorem ret_int_bool {k : IntKind} {a b : Int} {c d : Bool} (h : a = b) (h' : c = d) : Ending.returned (.tuple #[.int k a, .bool c]) = .returned (.tuple #[.int k b, .bool d]) := by rw [h, h']
theorem ret_val {k n k' n' : Int} (h : k = k') (h' : n = n') : Ending.returned (.agg #[.int .i64 k, .int .i64 n]) = .returned (.agg #[.int .i64 k', .int .i64 n']) := by rw [h, h']

theorem under {b n : Nat} (h : (⟨b + 1 - n, 0, none⟩ : Addr) = ⟨0, 0, none⟩) : b < n := by
  have := congrArg Addr.block h
  simp at this
  omega
/-- A cell that was there behind a new block: where the walk's arithmetic must find out that it was. -/
@[go_sem] theorem cell_alloc_far (w : World) (o : Obj) (b off : Nat) (h : (⟨b + 1 - w.heap.size, 0, none⟩ : Addr) = ⟨0, 0, none⟩) : (w.alloc o).cell? ⟨b, off, none⟩ = w.cell? ⟨b, off, none⟩ :=
  World.cell?_of_block (w := w) (Below.heap_alloc w o b (under h))
@[go_sem] theorem frozen_alloc_far (w : World) (o : Obj) (b off : Nat) (h : (⟨b + 1 - w.heap.size, 0, none⟩ : Addr) = ⟨0, 0, none⟩) : (w.alloc o).frozen? ⟨b, off, none⟩ = w.frozen? ⟨b, off, none⟩ :=
  ((Below.refl w.heap.size w).alloc (Nat.le_refl _) o).frozen (p := ⟨b, off, none⟩) (under h)
/-- What stays behind a call that only made new memory. (A block's number below n is said as an equation of addresses: the walk's own arithmetic decides those.) -/
theorem bstep {w W w1 : World} (hb : Below W.heap.size W w1) (h : Below w.heap.size w W) :
    (∀ b o, (⟨b + 1 - W.heap.size, 0, none⟩ : Addr) = ⟨0, 0, none⟩ → w1.cell? ⟨b, o, none⟩ = W.cell? ⟨b, o, none⟩) ∧ (∀ b o, (⟨b + 1 - W.heap.size, 0, none⟩ : Addr) = ⟨0, 0, none⟩ → w1.frozen? ⟨b, o, none⟩ = W.frozen? ⟨b, o, none⟩) ∧ Below w.heap.size w w1 ∧ W.heap.size ≤ w1.heap.size :=
  ⟨fun b o h => hb.cell (p := ⟨b, o, none⟩) (under h), fun b o h => hb.frozen (p := ⟨b, o, none⟩) (under h), h.trans (hb.mono h.size), hb.size⟩

theorem bjoin {w W w1 : World} (hb : Below W.heap.size W w1) (h : Below w.heap.size w W) : Below w.heap.size w w1 := h.trans (hb.mono h.size)

/-! ### A region that draws its order, whose operations read and call what makes new memory alone: one walk, in the order of the text. -/
open Classical in
/-- x, where x is W with new memory; else W. -/
noncomputable def plus (W x : World) : World := if Below W.heap.size W x then x else W
theorem plus_below (W x : World) : Below W.heap.size W (plus W x) := by
  unfold plus
  split
  · assumption
  · exact Below.refl _ _
theorem plus_cell (W x : World) (b o : Nat) (h : (⟨b + 1 - W.heap.size, 0, none⟩ : Addr) = ⟨0, 0, none⟩) : (plus W x).cell? ⟨b, o, none⟩ = W.cell? ⟨b, o, none⟩ := (plus_below W x).cell (p := ⟨b, o, none⟩) (under h)
theorem plus_frozen (W x : World) (b o : Nat) (h : (⟨b + 1 - W.heap.size, 0, none⟩ : Addr) = ⟨0, 0, none⟩) : (plus W x).frozen? ⟨b, o, none⟩ = W.frozen? ⟨b, o, none⟩ := (plus_below W x).frozen (p := ⟨b, o, none⟩) (under h)
theorem plus_of {W w' : World} (h : Below W.heap.size W w') : ∃ x, w' = plus W x := ⟨w', by unfold plus; rw [if_pos h]⟩
theorem quiet_plus {P : Program} {f : FuncId} {args : Array Value} {W x : World} {v : Value}
    (h : Calls P f args (plus W x) fun e w' => e = .returned v ∧ Below (plus W x).heap.size (plus W x) w') : Calls P f args (plus W x) fun e w'' => e = .returned v ∧ ∃ m, w'' = plus W m :=
  h.mono fun _ _ ⟨he, hb⟩ => ⟨he, plus_of (bjoin hb (plus_below W x))⟩
theorem wp_region_plus {P : Program} {id : Nat} {Q : Exit → Act → World → Prop} {a : Act} {W : World} {l : List Oper} (hm : P.follows .mixedOrders = true) (hB : Region.lexB .any l.toArray = true)
    (h : (∀ (x : World) (b o : Nat), (⟨b + 1 - W.heap.size, 0, none⟩ : Addr) = ⟨0, 0, none⟩ → (plus W x).cell? ⟨b, o, none⟩ = W.cell? ⟨b, o, none⟩) →
      wpQuiet P l.toArray (fun w' => ∃ x, w' = plus W x) (fun a' => ∀ w', Below W.heap.size W w' → Q .normal a' w') l a) : (Code.region id l.toArray true).wp P Q a W :=
  wp_region_quiet (C := fun w' => ∃ x, w' = plus W x) hm hB (plus_of ⟨rfl, rfl, rfl, Nat.le_refl _, fun _ _ => rfl⟩) (by
    have e : (fun a' => ∀ w', Below W.heap.size W w' → Q .normal a' w') = (fun a' => ∀ w', (∃ x, w' = plus W x) → Q .normal a' w') := by
      funext a'
      refine propext ⟨fun h w' ⟨x, e⟩ => h w' (e ▸ plus_below W x), fun h w' hb => h _ (plus_of hb)⟩
    rw [← e]
    simpa using h (plus_cell W))
end Go.Proofs.YtjlflbaglaillaaDoor
