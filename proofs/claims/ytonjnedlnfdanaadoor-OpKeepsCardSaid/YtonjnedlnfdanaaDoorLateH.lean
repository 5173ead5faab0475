/- Regions that draw their order and lay a variable of a heap (XLate): heaps that calls answer. -/
import Derived.Test.YtonjnedlnfdanaaDoorLate
import Derived.Test.YtonjnedlnfdanaaDoorRowOne
namespace Go.Proofs.YtonjnedlnfdanaaDoor
set_option linter.unusedSimpArgs false
set_option linter.unusedVariables false
open Go.ChangeShapes Go.WideShapes Go.ChangeAt Go.RowKit

/-! A variable of a heap, told apart from a heap's rows by what its cells hold. -/
def ShapeH (g : Nat) (w : World) : Prop := (∃ p n c q m d b, Box3 g (.slice p n c) (.slice q m d) (.bool b) w) ∧ ∀ k, 3 ≤ k → w.cell? ⟨g, k, none⟩ = none
theorem shapeH_below (g : Nat) (w w' : World) (h : ShapeH g w) (hb : Below w.heap.size w w') : ShapeH g w' := by
  obtain ⟨⟨p, n, c, q, m, d, b, h⟩, hk⟩ := h
  refine ⟨⟨p, n, c, q, m, d, b, h.below hb⟩, fun k hk' => ?_⟩
  rw [hb.cell (p := ⟨g, k, none⟩) h.1]
  exact hk k hk'
theorem shapeH_new (W : World) (t : TypeId) : ShapeH W.heap.size (W.alloc (.cells #[.slice none 0 0, .slice none 0 0, .bool false] t)) := by
  refine ⟨⟨none, 0, 0, none, 0, 0, false, Box3.new _ _ _ _ _⟩, fun k hk => ?_⟩
  have hg := heap_alloc_new W (.cells #[.slice none 0 0, .slice none 0 0, .bool false] t)
  rw [cell_of_row _ _ _ _ _ _ hg]
  simp
  omega
theorem shapeH_clear {g : Nat} {w : World} {p : Option Addr} {n c : Nat} {q : Option Addr} {m d : Nat} {b : Bool} {h : Hp} (hs : ShapeH g w) (hh : HpIn w p n c q m d b h) (hn : 0 < n) (hm : 0 < m) : Clear g p q := by
  obtain ⟨⟨p', n', c', q', m', d', b', hB⟩, hk⟩ := hs
  obtain ⟨-, k0, k1, k2, -, -, -⟩ := hB
  obtain ⟨rfl, rfl, rfl, hat⟩ := hh
  have hno : ∀ (k : Nat) (kd : IntKind) (x : Int), ¬ w.cell? ⟨g, k, none⟩ = some (.int kd x) := fun k kd x e => by
    match k, e with
    | 0, e => rw [k0] at e; cases e
    | 1, e => rw [k1] at e; cases e
    | 2, e => rw [k2] at e; cases e
    | k + 3, e => rw [hk (k + 3) (by omega)] at e; cases e
  constructor
  · intro b off sp e he
    obtain ⟨⟨b1, off1, e1, -, v⟩, -⟩ := hat.ints 0 hn
    rw [e] at e1
    injection e1 with e1
    injection e1 with e1 e2 e3
    subst e1 e2 e3
    subst he
    exact hno _ _ _ v
  · intro b off sp e he
    obtain ⟨⟨b1, off1, e1, -, v, -, -⟩, -⟩ := hat.spans 0 hm
    rw [e] at e1
    injection e1 with e1
    injection e1 with e1 e2 e3
    subst e1 e2 e3
    subst he
    exact hno _ _ _ v
theorem cell_set_ne (W : World) (x y : Addr) (v : Value) (h : x ≠ y) : (W.setCell x v).cell? y = W.cell? y := World.cell?_setCell_other W x y v h
theorem shapeH_puts {b : Nat} {x0 x1 x2 : Value} {W : World} (h : Box3 b x0 x1 x2 W) (hk : ∀ k, 3 ≤ k → W.cell? ⟨b, k, none⟩ = none) (p : Option Addr) (n c : Nat) (q : Option Addr) (m d : Nat) (bb : Bool) (g' : Nat) (hs : ShapeH g' W) : ShapeH g' (puts3 b (.slice p n c) (.slice q m d) (.bool bb) W) := by
  by_cases e : b = g'
  · subst e
    refine ⟨⟨p, n, c, q, m, d, bb, h.puts _ _ _⟩, fun k hk' => ?_⟩
    unfold puts3
    rw [cell_set_ne _ _ _ _ (by intro e; injection e with e1 e2; omega), cell_set_ne _ _ _ _ (by intro e; injection e with e1 e2; omega), cell_set_ne _ _ _ _ (by intro e; injection e with e1 e2; omega)]
    exact hk k hk'
  · obtain ⟨⟨p', n', c', q', m', d', b', hz⟩, hk'⟩ := hs
    refine ⟨⟨p', n', c', q', m', d', b', puts3_other hz e _ _ _⟩, fun k h3 => ?_⟩
    unfold puts3
    rw [cell_set_ne _ _ _ _ (by intro h; injection h with e1 e2; omega), cell_set_ne _ _ _ _ (by intro h; injection h with e1 e2; omega), cell_set_ne _ _ _ _ (by intro h; injection h with e1 e2; omega)]
    exact hk' k h3
/-- A heap that a call answers, as data. -/
def HpV (n m : Nat) (b : Bool) (H : Hp) (v : Value) (w : World) : Prop := ∃ p c q d, v = .agg #[.slice p n c, .slice q m d, .bool b] ∧ HpIn w p n c q m d b H
def HpT (n m : Nat) (b : Bool) (H : Hp) (t : Value) (v : Value) (w : World) : Prop := ∃ p c q d, v = .tuple #[.agg #[.slice p n c, .slice q m d, .bool b], t] ∧ HpIn w p n c q m d b H
def FullH (n m : Nat) (b : Bool) (H : Hp) (g : Nat) (w : World) : Prop := ∃ p c q d, Box3 g (.slice p n c) (.slice q m d) (.bool b) w ∧ HpIn w p n c q m d b H
theorem HpV.below {n m : Nat} {b : Bool} {H : Hp} {v : Value} {w w' : World} (h : HpV n m b H v w) (hb : Below w.heap.size w w') : HpV n m b H v w' := by
  obtain ⟨p, c, q, d, e, h⟩ := h
  exact ⟨p, c, q, d, e, h.below hb⟩
theorem HpT.below {n m : Nat} {b : Bool} {H : Hp} {t v : Value} {w w' : World} (h : HpT n m b H t v w) (hb : Below w.heap.size w w') : HpT n m b H t v w' := by
  obtain ⟨p, c, q, d, e, h⟩ := h
  exact ⟨p, c, q, d, e, h.below hb⟩
theorem fullH_below {n m : Nat} {b : Bool} {H : Hp} (g : Nat) (w w' : World) (h : FullH n m b H g w) (hb : Below w.heap.size w w') : FullH n m b H g w' := by
  obtain ⟨p, c, q, d, e, h⟩ := h
  exact ⟨p, c, q, d, e.below hb, h.below hb⟩
theorem HpV.puts {n m : Nat} {b : Bool} {H : Hp} {v : Value} {w : World} (h : HpV n m b H v w) {g : Nat} (hs : ShapeH g w) (hn : 0 < n) (hm : 0 < m) (y0 y1 y2 : Value) : HpV n m b H v (puts3 g y0 y1 y2 w) := by
  obtain ⟨p, c, q, d, e, h⟩ := h
  exact ⟨p, c, q, d, e, h.stores (shapeH_clear hs h hn hm) _ _ _⟩
theorem HpT.puts {n m : Nat} {b : Bool} {H : Hp} {t v : Value} {w : World} (h : HpT n m b H t v w) {g : Nat} (hs : ShapeH g w) (hn : 0 < n) (hm : 0 < m) (y0 y1 y2 : Value) : HpT n m b H t v (puts3 g y0 y1 y2 w) := by
  obtain ⟨p, c, q, d, e, h⟩ := h
  exact ⟨p, c, q, d, e, h.stores (shapeH_clear hs h hn hm) _ _ _⟩
end Go.Proofs.YtonjnedlnfdanaaDoor
