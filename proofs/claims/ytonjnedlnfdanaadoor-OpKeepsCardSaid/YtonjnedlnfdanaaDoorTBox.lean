/- A variable's block whole, with its type; variables told apart from rows by the type of their elements. -/
import Derived.Test.YtonjnedlnfdanaaDoorSoftV
import Derived.Laws.OwnMore
namespace Go.Proofs.YtonjnedlnfdanaaDoor
set_option linter.unusedSimpArgs false
set_option linter.unusedVariables false
open Go.ChangeShapes Go.WideShapes Go.ChangeAt Go.RowKit Go.Joins

/-- A variable's block, whole. -/
def TBox (T : TypeId) (g : Nat) (xs : Array Value) (w : World) : Prop := w.heap[g]? = some (.cells xs T (0, 0))
theorem TBox.lt {T : TypeId} {g : Nat} {xs : Array Value} {w : World} (h : TBox T g xs w) : g < w.heap.size := (Array.getElem?_eq_some_iff.1 h).1
theorem TBox.cell {T : TypeId} {g : Nat} {xs : Array Value} {w : World} (h : TBox T g xs w) (k : Nat) : w.cell? ⟨g, k, none⟩ = xs[k]? := cell_of_row _ _ _ _ _ _ h
theorem TBox.frozen {T : TypeId} {g : Nat} {xs : Array Value} {w : World} (h : TBox T g xs w) (k : Nat) : w.frozen? ⟨g, k, none⟩ = false := frozen_of_row _ _ _ _ _ h
theorem TBox.of_block {T : TypeId} {g : Nat} {xs : Array Value} {w w' : World} (h : TBox T g xs w) (e : w'.heap[g]? = w.heap[g]?) : TBox T g xs w' := e.trans h
theorem TBox.below {T : TypeId} {g : Nat} {xs : Array Value} {w w' : World} (h : TBox T g xs w) (hb : Below w.heap.size w w') : TBox T g xs w' := (hb.block g h.lt).trans h
theorem TBox.new (T : TypeId) (W : World) (xs : Array Value) : TBox T W.heap.size xs (W.alloc (.cells xs T)) := heap_alloc_new W (.cells xs T)
theorem TBox.other {T : TypeId} {g : Nat} {xs : Array Value} {w : World} (h : TBox T g xs w) {b : Nat} (hb : ¬ b = g) (k : Nat) (u : Value) : TBox T g xs (w.setCell ⟨b, k, none⟩ u) := (Below.heap_setCell w _ u g (fun e => hb e.symm)).trans h
theorem TBox.set {T : TypeId} {g : Nat} {xs : Array Value} {w : World} (h : TBox T g xs w) (k : Nat) (u : Value) : TBox T g (xs.setIfInBounds k u) (w.setCell ⟨g, k, none⟩ u) := heap_setCell_same w g k xs T u h
/-- Values put into a variable, one by one. -/
def putsL (g : Nat) : Nat → List Value → World → World
  | _, [], w => w
  | k, x :: xs, w => putsL g (k + 1) xs (w.setCell ⟨g, k, none⟩ x)
def setFrom : Array Value → Nat → List Value → Array Value
  | ys, _, [] => ys
  | ys, k, x :: xs => setFrom (ys.setIfInBounds k x) (k + 1) xs
theorem TBox.putsL {T : TypeId} {g : Nat} : ∀ (xs : List Value) (k : Nat) {ys : Array Value} {w : World}, TBox T g ys w → TBox T g (setFrom ys k xs) (putsL g k xs w)
  | [], _, _, _, h => h
  | x :: xs, k, _, _, h => TBox.putsL xs (k + 1) (h.set k x)
theorem putsL_other {g b : Nat} (hb : ¬ b = g) : ∀ (xs : List Value) (k : Nat) (w : World), (putsL g k xs w).heap[b]? = w.heap[b]?
  | [], _, _ => rfl
  | x :: xs, k, w => (putsL_other hb xs (k + 1) _).trans (Below.heap_setCell w _ x b hb)
theorem putsL_size {g : Nat} : ∀ (xs : List Value) (k : Nat) (w : World), (putsL g k xs w).heap.size = w.heap.size
  | [], _, _ => rfl
  | x :: xs, k, w => (putsL_size xs (k + 1) _).trans (by simp [World.setCell])
theorem putsL_below {n g : Nat} (hn : n ≤ g) : ∀ (xs : List Value) (k : Nat) (w : World), Below n w (putsL g k xs w)
  | [], _, _ => Below.refl _ _
  | x :: xs, k, w => ((Below.refl n w).setCell hn x).trans (putsL_below hn xs (k + 1) _)
theorem setFrom_size : ∀ (xs : List Value) (k : Nat) (ys : Array Value), (setFrom ys k xs).size = ys.size
  | [], _, _ => rfl
  | x :: xs, k, ys => (setFrom_size xs (k + 1) _).trans (by simp)
/-- A variable of a type, of so many cells. -/
def ShapeT (T : TypeId) (m : Nat) (g : Nat) (w : World) : Prop := ∃ xs : Array Value, xs.size = m ∧ TBox T g xs w
theorem shapeT_below {T : TypeId} {m : Nat} (g : Nat) (w w' : World) (h : ShapeT T m g w) (hb : Below w.heap.size w w') : ShapeT T m g w' := by
  obtain ⟨xs, e, h⟩ := h
  exact ⟨xs, e, h.below hb⟩
theorem shapeT_new {T : TypeId} {m : Nat} (W : World) (xs : Array Value) (e : xs.size = m) : ShapeT T m W.heap.size (W.alloc (.cells xs T)) := ⟨xs, e, TBox.new _ _ _⟩
theorem shapeT_puts {T : TypeId} {m g : Nat} (xs : List Value) {w : World} (g' : Nat) (h : ShapeT T m g' w) : ShapeT T m g' (putsL g 0 xs w) := by
  obtain ⟨ys, e, h⟩ := h
  by_cases hg : g' = g
  · subst hg
    exact ⟨_, (setFrom_size xs 0 ys).trans e, h.putsL xs 0⟩
  · exact ⟨ys, e, h.of_block (putsL_other hg xs 0 w)⟩
/-- What a variable of two cells gives a store. -/
theorem ShapeT.two {T : TypeId} {g : Nat} {w : World} (h : ShapeT T 2 g w) : ∃ x0 x1, g < w.heap.size ∧ w.cell? ⟨g, 0, none⟩ = some x0 ∧ w.cell? ⟨g, 1, none⟩ = some x1 ∧ w.frozen? ⟨g, 0, none⟩ = false ∧ w.frozen? ⟨g, 1, none⟩ = false := by
  obtain ⟨xs, e, h⟩ := h
  match xs, e with
  | ⟨[x, y]⟩, _ => exact ⟨x, y, h.lt, by rw [h.cell]; rfl, by rw [h.cell]; rfl, h.frozen 0, h.frozen 1⟩
theorem ShapeT.full2 {T : TypeId} {g : Nat} {w : World} (h : ShapeT T 2 g w) (a b : Value) : TBox T g #[a, b] (putsL g 0 [a, b] w) := by
  obtain ⟨xs, e, h⟩ := h
  match xs, e with
  | ⟨[x, y]⟩, _ => exact h.putsL [a, b] 0
/-- A row's block is old, or no variable of that type. -/
def NoTag (N : Nat) (T : TypeId) (n : Nat) (p : Option Addr) (w : World) : Prop := 0 < n → ∀ b off sp, p = some ⟨b, off, sp⟩ → b < w.heap.size ∧ (b < N ∨ ∃ cs E, E ≠ T ∧ w.heap[b]? = some (.cells cs E (0, 0)))
theorem NoTag.below {N : Nat} {T : TypeId} {n : Nat} {p : Option Addr} {w w' : World} (h : NoTag N T n p w) (hb : Below w.heap.size w w') : NoTag N T n p w' := fun h0 b off sp e => by
  obtain ⟨hl, h1⟩ := h h0 b off sp e
  refine ⟨Nat.lt_of_lt_of_le hl hb.size, ?_⟩
  rcases h1 with h1 | ⟨cs, E, hE, h1⟩
  · exact .inl h1
  · exact .inr ⟨cs, E, hE, (hb.block b hl).trans h1⟩
theorem NoTag.ne {N : Nat} {T : TypeId} {n : Nat} {p : Option Addr} {w : World} (h : NoTag N T n p w) {m g : Nat} (hs : ShapeT T m g w) (hg : N ≤ g) (h0 : 0 < n) {b off : Nat} {sp : Option Nat} (e : p = some ⟨b, off, sp⟩) : b ≠ g := by
  obtain ⟨xs, -, hx⟩ := hs
  rcases (h h0 b off sp e).2 with h1 | ⟨cs, E, hE, h1⟩
  · omega
  · rintro rfl
    have := h1.symm.trans hx
    injection this with this
    injection this with _ this
    exact hE this
theorem NoTag.puts {N : Nat} {T : TypeId} {n : Nat} {p : Option Addr} {w : World} (h : NoTag N T n p w) {m g : Nat} (hs : ShapeT T m g w) (hg : N ≤ g) (xs : List Value) : NoTag N T n p (putsL g 0 xs w) := fun h0 b off sp e => by
  obtain ⟨hl, h1⟩ := h h0 b off sp e
  refine ⟨by rw [putsL_size]; exact hl, ?_⟩
  rcases h1 with h1 | ⟨cs, E, hE, h1⟩
  · exact .inl h1
  · exact .inr ⟨cs, E, hE, (putsL_other (h.ne hs hg h0 e) xs 0 w).trans h1⟩
/-- Rows of numbers that lie aside of what is stored. -/
theorem Ints.of_block {k : IntKind} {w w' : World} {p : Option Addr} {n : Nat} {z : Nat → Int} (h : Ints k w p n z) (hl : w.heap.size ≤ w'.heap.size) (e : 0 < n → ∀ b off sp, p = some ⟨b, off, sp⟩ → w'.heap[b]? = w.heap[b]?) : Ints k w' p n z := fun i hi => by
  obtain ⟨⟨b, off, ep, hlt, hc⟩, hw⟩ := h i hi
  exact ⟨⟨b, off, ep, Nat.lt_of_lt_of_le hlt hl, by rw [World.cell?_of_block (w := w) (a := ⟨b, off + i, none⟩) (e (by omega) b off none ep)]; exact hc⟩, hw⟩
theorem TBox.stores {T : TypeId} {g : Nat} {x y : Value} {w : World} (h : TBox T g #[x, y] w) (a b : Value) : TBox T g #[a, b] ((w.setCell ⟨g, 0, none⟩ a).setCell ⟨g, 1, none⟩ b) := (h.set 0 a).set 1 b
theorem owned_tag {w : World} {base : Nat} {e : TypeId} {size : Nat} {p : Option Addr} {n c m : Nat} {xs : List Value} (h : w.ownsRow base e size (.slice p n c) m xs) : ∀ b off sp, p = some ⟨b, off, sp⟩ → ∃ cs, w.heap[b]? = some (.cells cs e (0, 0)) := fun b off sp ep => by
  subst ep
  rcases h.2 with ⟨hv, -⟩ | ⟨g, cap', cur, hv, -, hg, -⟩
  · cases hv
  · injection hv with hv
    injection hv with hv
    injection hv with h1 h2 h3
    subst h1
    exact ⟨cur, hg⟩
theorem one_newG (w : World) (x : Value) (t : TypeId) : ∀ j u, [x][j]? = some u → (w.alloc (.cells #[x] t)).cell? ((⟨w.heap.size, 0, none⟩ : Addr).add j) = some u := by
  intro j u h
  match j, h with
  | 0, h =>
    obtain rfl : x = u := by simpa using h
    exact cell_of_row _ _ _ _ _ _ (heap_alloc_new w (.cells #[x] t))
theorem tl_nil (N : Nat) (T : TypeId) (n : Nat) (w : World) : NoTag N T n none w := fun _ b off sp e => by cases e
theorem setCells_putsL (g : Nat) : ∀ (xs : List Value) (k : Nat) (w : World), w.setCells g k xs = putsL g k xs w
  | [], _, _ => rfl
  | x :: xs, k, w => setCells_putsL g xs (k + 1) _
end Go.Proofs.YtonjnedlnfdanaaDoor
