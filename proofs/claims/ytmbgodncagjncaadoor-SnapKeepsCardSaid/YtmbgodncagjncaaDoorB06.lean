/- A region that draws its order, each operation told by itself, stores too: what it leaves ('Per'), and what stays of what others have left; variables of four cells. -/
import Derived.Test.YtmbgodncagjncaaDoorB05
import Derived.Test.YtmbgodncagjncaaDoorB02
import Derived.BigRegion
namespace Go.Proofs.YtmbgodncagjncaaDoor
set_option linter.unusedSimpArgs false
set_option linter.unusedVariables false
open Go.ChangeShapes Go.WideShapes Go.ChangeAt Go.RowKit

def slotVals (a : Act) (ds : List (Option Nat)) : Nat → Value := fun j => match ds[j]? with | some (some d) => a.tmps.getD d undef | _ => undef
def upd (V : Nat → Value) (i : Nat) (v : Value) : Nat → Value := fun k => if k = i then v else V k
def valOf (o : Oper) (v : Value) : Value := if o.dst.isSome then v else undef
theorem upd_self (V : Nat → Value) (i : Nat) (v : Value) : upd V i v i = v := by unfold upd; rw [if_pos rfl]
theorem upd_other (V : Nat → Value) {i k : Nat} (v : Value) (h : ¬ k = i) : upd V i v k = V k := by unfold upd; rw [if_neg h]
section
variable {P : Program} {l : List Oper} {Q : Exit → Act → World → Prop} {a : Act} {ds : List (Option Nat)} {Φ : Nat → (Nat → Value) → World → Prop} {R : World → Prop} {Per : Nat → World → World → Prop}
theorem slotVals_put {i : Nat} {o : Oper} {a' : Act} (hd : ds[i]? = some o.dst) (hnd : ∀ (j k : Nat) (d : Nat), ds[j]? = some (some d) → ds[k]? = some (some d) → j = k) (hsz : ∀ d, o.dst = some d → d < a'.tmps.size) (v : Value) :
    slotVals (a'.put o.dst v) ds = upd (slotVals a' ds) i (valOf o v) := by
  funext k
  unfold upd
  cases ho : o.dst with
  | none =>
    have e : valOf o v = undef := by unfold valOf; rw [ho]; rfl
    rw [ho] at hd
    show slotVals a' ds k = _
    by_cases hk : k = i
    · subst hk; rw [if_pos rfl, e]; unfold slotVals; rw [hd]
    · rw [if_neg hk]
  | some d =>
    have e : valOf o v = v := by unfold valOf; rw [ho]; rfl
    rw [ho] at hd
    have hdl := hsz d ho
    by_cases hk : k = i
    · subst hk
      rw [if_pos rfl, e]
      unfold slotVals
      rw [hd]
      show (a'.tmps.setIfInBounds d v).getD d undef = v
      simp [Array.getD_eq_getD_getElem?, hdl]
    · rw [if_neg hk]
      unfold slotVals
      cases hk' : ds[k]? with
      | none => rfl
      | some x =>
        cases x with
        | none => rfl
        | some d' =>
          have hne : d ≠ d' := fun h => hk (hnd k i d' hk' (by rw [hd, h]))
          show (a'.tmps.setIfInBounds d v).getD d' undef = a'.tmps.getD d' undef
          rw [Array.getD_eq_getD_getElem?, Array.getD_eq_getD_getElem?, Array.getElem?_setIfInBounds_ne hne]
end
end Go.Proofs.YtmbgodncagjncaaDoor
namespace Go.Proofs.YtmbgodncagjncaaDoor
set_option linter.unusedSimpArgs false
set_option linter.unusedVariables false
open Go.ChangeShapes Go.WideShapes Go.ChangeAt Go.RowKit Go.Joins

/-- A variable of four cells. -/
structure Box4 (b : Nat) (x0 x1 x2 x3 : Value) (W : World) : Prop where
  lt : b < W.heap.size
  c0 : W.cell? ⟨b, 0, none⟩ = some x0
  c1 : W.cell? ⟨b, 1, none⟩ = some x1
  c2 : W.cell? ⟨b, 2, none⟩ = some x2
  c3 : W.cell? ⟨b, 3, none⟩ = some x3
  f0 : W.frozen? ⟨b, 0, none⟩ = false
  f1 : W.frozen? ⟨b, 1, none⟩ = false
  f2 : W.frozen? ⟨b, 2, none⟩ = false
  f3 : W.frozen? ⟨b, 3, none⟩ = false
theorem Box4.of_block {b : Nat} {x0 x1 x2 x3 : Value} {W W' : World} (h : Box4 b x0 x1 x2 x3 W) (e : W'.heap[b]? = W.heap[b]?) (hl : W.heap.size ≤ W'.heap.size) : Box4 b x0 x1 x2 x3 W' :=
  ⟨Nat.lt_of_lt_of_le h.lt hl, by rw [World.cell?_of_block (w := W) (a := ⟨b, 0, none⟩) e]; exact h.c0, by rw [World.cell?_of_block (w := W) (a := ⟨b, 1, none⟩) e]; exact h.c1, by rw [World.cell?_of_block (w := W) (a := ⟨b, 2, none⟩) e]; exact h.c2, by rw [World.cell?_of_block (w := W) (a := ⟨b, 3, none⟩) e]; exact h.c3,
    by rw [World.frozen?_of_block (w := W) (a := ⟨b, 0, none⟩) e]; exact h.f0, by rw [World.frozen?_of_block (w := W) (a := ⟨b, 1, none⟩) e]; exact h.f1, by rw [World.frozen?_of_block (w := W) (a := ⟨b, 2, none⟩) e]; exact h.f2, by rw [World.frozen?_of_block (w := W) (a := ⟨b, 3, none⟩) e]; exact h.f3⟩
theorem Box4.below {b : Nat} {x0 x1 x2 x3 : Value} {W W' : World} (h : Box4 b x0 x1 x2 x3 W) (hb : Below W.heap.size W W') : Box4 b x0 x1 x2 x3 W' := h.of_block (hb.block b h.lt) hb.size
theorem Box4.new (W : World) (x0 x1 x2 x3 : Value) (t : TypeId) : Box4 W.heap.size x0 x1 x2 x3 (W.alloc (.cells #[x0, x1, x2, x3] t)) := by
  refine ⟨by simp, ?_, ?_, ?_, ?_, ?_, ?_, ?_, ?_⟩ <;> simp [go_sem]
def puts4 (b : Nat) (y0 y1 y2 y3 : Value) (W : World) : World := (((W.setCell ⟨b, 0, none⟩ y0).setCell ⟨b, 1, none⟩ y1).setCell ⟨b, 2, none⟩ y2).setCell ⟨b, 3, none⟩ y3
theorem Box4.put {b : Nat} {x0 x1 x2 x3 : Value} {W : World} (h : Box4 b x0 x1 x2 x3 W) (y0 y1 y2 y3 : Value) : Box4 b y0 y1 y2 y3 (puts4 b y0 y1 y2 y3 W) := by
  obtain ⟨h0, h1, h2, h3, h4, h5, h6, h7, h8⟩ := h
  unfold puts4
  refine ⟨by simpa [World.setCell] using h0, ?_, ?_, ?_, ?_, ?_, ?_, ?_, ?_⟩ <;> simp [go_sem, *]
end Go.Proofs.YtmbgodncagjncaaDoor
namespace Go.Proofs.YtmbgodncagjncaaDoor
set_option linter.unusedSimpArgs false
set_option linter.unusedVariables false
open Go.ChangeShapes Go.WideShapes Go.ChangeAt Go.RowKit

/-- Each waits for earlier ones alone; a guard is among them. -/
def depsGB (ops : Array Oper) : Bool := (List.range ops.size).all fun i => match ops[i]? with | some o => (match o.guard with | none => true | some (g, _) => o.after.any fun e => Region.binds .any e && e.on == g) && o.after.all fun e => !Region.binds .any e || decide (e.on < i) | none => false
section
variable {P : Program} {l : List Oper} {Q : Exit → Act → World → Prop} {a : Act} {ds : List (Option Nat)} {Φ : Nat → Value → Prop} {skip : Nat → Bool} {W : World}
end
end Go.Proofs.YtmbgodncagjncaaDoor
