/- What the operations of a region leave that makes memory (XSoft): slices of nothing, of one, rows of the call's own, structs that hold them; rows of the call's own may grow in place. -/
import Derived.Test.YtiofeebiejkajaaDoorB11
import Derived.Test.YtiofeebiejkajaaDoorB21
import Derived.Deep.RegionLaw
import Derived.Deep.RegionLawGrows
import Derived.ArgAppend
import Derived.Laws.OwnMore
namespace Go.Proofs.YtiofeebiejkajaaDoor
set_option linter.unusedSimpArgs false
set_option linter.unusedVariables false
open Go.ChangeShapes Go.WideShapes Go.ChangeAt Go.RowKit Go.Joins

section
variable {P : Program} {l : List Oper} {Q : Exit → Act → World → Prop} {a : Act} {ds : List Nat} {Φ : Nat → Value → World → Prop} {W : World} {n : Nat} {S : World → World → Prop}
end
def NilsV (N : Nat) (e : TypeId) (size : Nat) (v : Value) (w : World) : Prop := w.ownsRow N e size v 0 [] ∧ ∃ ao, v = .slice ao 0 0
theorem NilsV.below {N : Nat} {e : TypeId} {size : Nat} {v : Value} {w w' : World} (h : NilsV N e size v w) (hb : Below w.heap.size w w') : NilsV N e size v w' := ⟨owned_below h.1 hb, h.2⟩
def OneV (N : Nat) (x : Value) (v : Value) (w : World) : Prop := ∃ ad : Addr, v = .slice (some ad) 1 1 ∧ (N ≤ ad.block ∧ ad.block < w.heap.size) ∧ ∀ j u, [x][j]? = some u → w.cell? (ad.add j) = some u
theorem addr_add_block (ad : Addr) (j : Nat) : (ad.add j).block = ad.block := by
  obtain ⟨b, o, s⟩ := ad
  unfold Addr.add
  split <;> rfl
theorem OneV.below {N : Nat} {x v : Value} {w w' : World} (h : OneV N x v w) (hb : Below w.heap.size w w') : OneV N x v w' := by
  obtain ⟨ad, e, ⟨hn, hl⟩, hc⟩ := h
  exact ⟨ad, e, ⟨hn, Nat.lt_of_lt_of_le hl hb.size⟩, fun j u hj => (hb.cell (p := ad.add j) (by rw [addr_add_block]; exact hl)).trans (hc j u hj)⟩
def OwnV (N : Nat) (e : TypeId) (size n : Nat) (xs : List Value) (v : Value) (w : World) : Prop := w.ownsRow N e size v n xs
theorem OwnV.below {N : Nat} {e : TypeId} {size n : Nat} {xs : List Value} {v : Value} {w w' : World} (h : OwnV N e size n xs v w) (hb : Below w.heap.size w w') : OwnV N e size n xs v w' := owned_below h hb
def PutV (N : Nat) (e : TypeId) (size n : Nat) (xs A B : List Value) (v : Value) (w : World) : Prop := ∃ p c, v = .agg (A ++ [Value.slice p n c] ++ B).toArray ∧ w.ownsRow N e size (.slice p n c) n xs
theorem PutV.below {N : Nat} {e : TypeId} {size n : Nat} {xs A B : List Value} {v : Value} {w w' : World} (h : PutV N e size n xs A B v w) (hb : Below w.heap.size w w') : PutV N e size n xs A B v w' := by
  obtain ⟨p, c, e, h⟩ := h
  exact ⟨p, c, e, owned_below h hb⟩
/-! Rows of the call's own, one cell stored. -/
theorem own_set {w : World} {base : Nat} {e : TypeId} {v : Value} {n : Nat} {xs : List Value} (h : w.ownsRow base e 1 v n xs) {g k : Nat} {u : Value} (hu : ∀ y, xs[k]? = some y → y = u) : (w.setCell ⟨g, k, none⟩ u).ownsRow base e 1 v n xs := by
  by_cases hg : v.ownBlock = some g
  · obtain ⟨p, cap, rfl, -⟩ := owned_new h
    rcases h.2 with ⟨hv, h0⟩ | ⟨g', cap', cur, hv, -⟩
    · injection hv with hv
      subst hv
      cases hg
    · injection hv with hv
      subst hv
      obtain rfl : g' = g := Option.some.inj hg
      have h2 := (h.stored k u).1
      have hs : xs.set k u = xs := by
        apply List.ext_getElem?
        intro j
        rw [List.getElem?_set]
        by_cases e : k = j
        · subst e
          rw [if_pos rfl]
          by_cases hk : k < xs.length
          · rw [if_pos hk, List.getElem?_eq_getElem hk, hu _ (List.getElem?_eq_getElem hk)]
          · rw [if_neg hk, List.getElem?_eq_none (by omega)]
        · rw [if_neg e]
      rwa [hs] at h2
  · exact owned_setCell h hg k u
theorem OneV.set {N : Nat} {x v : Value} {w : World} (h : OneV N x v w) (g k : Nat) : OneV N x v (w.setCell ⟨g, k, none⟩ x) := by
  obtain ⟨ad, e, hl, hc⟩ := h
  refine ⟨ad, e, by simpa [World.setCell] using hl, fun j u hj => ?_⟩
  have hu : x = u := by
    match j, hj with
    | 0, hj => simpa using hj
  subst hu
  have hcj := hc j _ hj
  by_cases ea : (⟨g, k, none⟩ : Addr) = ad.add j
  · rw [← ea] at hcj ⊢
    exact World.cell?_setCell_same w ⟨g, k, none⟩ x hcj
  · rw [World.cell?_setCell_other w _ _ _ (fun h => ea h)]
    exact hcj
theorem NilsV.set {N : Nat} {e : TypeId} {v : Value} {w : World} (h : NilsV N e 1 v w) (g k : Nat) (u : Value) : NilsV N e 1 v (w.setCell ⟨g, k, none⟩ u) := ⟨own_set h.1 (fun y hy => by simp at hy), h.2⟩
theorem OwnV.set {N : Nat} {e : TypeId} {n : Nat} {xs : List Value} {v : Value} {w : World} (h : OwnV N e 1 n xs v w) {g k : Nat} {u : Value} (hu : ∀ y, xs[k]? = some y → y = u) : OwnV N e 1 n xs v (w.setCell ⟨g, k, none⟩ u) := own_set h hu
theorem PutV.set {N : Nat} {e : TypeId} {n : Nat} {xs A B : List Value} {v : Value} {w : World} (h : PutV N e 1 n xs A B v w) {g k : Nat} {u : Value} (hu : ∀ y, xs[k]? = some y → y = u) : PutV N e 1 n xs A B v (w.setCell ⟨g, k, none⟩ u) := by
  obtain ⟨p, c, e, h⟩ := h
  exact ⟨p, c, e, own_set h hu⟩
/-! A store into a variable that lies below. -/
theorem OneV.under {N : Nat} {x v : Value} {w : World} (h : OneV N x v w) {g : Nat} (hg : g < N) (k : Nat) (u : Value) : OneV N x v (w.setCell ⟨g, k, none⟩ u) := by
  obtain ⟨ad, e, hl, hc⟩ := h
  refine ⟨ad, e, by simpa [World.setCell] using hl, fun j y hj => ?_⟩
  rw [World.cell?_setCell_other w _ _ _ (fun h => by have h2 := congrArg Addr.block h; rw [addr_add_block] at h2; have h3 : g = ad.block := h2; omega)]
  exact hc j y hj
theorem OwnV.under {N : Nat} {e : TypeId} {size n : Nat} {xs : List Value} {v : Value} {w : World} (h : OwnV N e size n xs v w) {g : Nat} (hg : g < N) (k : Nat) (u : Value) : OwnV N e size n xs v (w.setCell ⟨g, k, none⟩ u) :=
  owned_setCell h (fun e => by have := (World.ownsRow.lt h g e).1; omega) k u
theorem NilsV.under {N : Nat} {e : TypeId} {size : Nat} {v : Value} {w : World} (h : NilsV N e size v w) {g : Nat} (hg : g < N) (k : Nat) (u : Value) : NilsV N e size v (w.setCell ⟨g, k, none⟩ u) := ⟨OwnV.under (n := 0) (xs := []) h.1 hg k u, h.2⟩
theorem PutV.under {N : Nat} {e : TypeId} {size n : Nat} {xs A B : List Value} {v : Value} {w : World} (h : PutV N e size n xs A B v w) {g : Nat} (hg : g < N) (k : Nat) (u : Value) : PutV N e size n xs A B v (w.setCell ⟨g, k, none⟩ u) := by
  obtain ⟨p, c, e, h⟩ := h
  exact ⟨p, c, e, OwnV.under h hg k u⟩
/-! A region that draws its order, each operation told by itself, stores into what lies below too. -/
/-- A variable of n cells, to be written. -/
def ShapeN (g n : Nat) (w : World) : Prop := g < w.heap.size ∧ ∀ j, j < n → (∃ y, w.cell? ⟨g, j, none⟩ = some y) ∧ w.frozen? ⟨g, j, none⟩ = false
theorem ShapeN.below {g n : Nat} {w w' : World} (h : ShapeN g n w) (hb : Below w.heap.size w w') : ShapeN g n w' :=
  ⟨Nat.lt_of_lt_of_le h.1 hb.size, fun j hj => by
    obtain ⟨⟨y, hy⟩, hf⟩ := h.2 j hj
    exact ⟨⟨y, (hb.cell (p := ⟨g, j, none⟩) h.1).trans hy⟩, (hb.frozen (p := ⟨g, j, none⟩) h.1).trans hf⟩⟩
theorem ShapeN.set {g n : Nat} {w : World} (h : ShapeN g n w) (b k : Nat) (u : Value) : ShapeN g n (w.setCell ⟨b, k, none⟩ u) :=
  ⟨by simpa [World.setCell] using h.1, fun j hj => by
    obtain ⟨⟨y, hy⟩, hf⟩ := h.2 j hj
    refine ⟨?_, by rw [World.frozen?_setCell]; exact hf⟩
    by_cases e : (⟨b, k, none⟩ : Addr) = ⟨g, j, none⟩
    · rw [e]; exact ⟨u, World.cell?_setCell_same w _ _ hy⟩
    · exact ⟨y, (World.cell?_setCell_other w _ _ _ e).trans hy⟩⟩
/-- What a variable holds. -/
def CellsV (g : Nat) (xs : List Value) (_ : Value) (w : World) : Prop := g < w.heap.size ∧ ∀ j u, xs[j]? = some u → w.cell? ⟨g, j, none⟩ = some u
theorem CellsV.below {g : Nat} {xs : List Value} {v : Value} {w w' : World} (h : CellsV g xs v w) (hb : Below w.heap.size w w') : CellsV g xs v w' :=
  ⟨Nat.lt_of_lt_of_le h.1 hb.size, fun j u hj => (hb.cell (p := ⟨g, j, none⟩) h.1).trans (h.2 j u hj)⟩
theorem CellsV.far {g : Nat} {xs : List Value} {v : Value} {w : World} (h : CellsV g xs v w) {b : Nat} (hb : ¬ b = g) (k : Nat) (u : Value) : CellsV g xs v (w.setCell ⟨b, k, none⟩ u) :=
  ⟨by simpa [World.setCell] using h.1, fun j y hj => (World.cell?_setCell_other w _ _ _ (fun e => hb (congrArg Addr.block e))).trans (h.2 j y hj)⟩
/-- What a variable holds: a struct with a row of the call's own. -/
def StoreV (g N : Nat) (e : TypeId) (size n : Nat) (xs A B : List Value) (v : Value) (w : World) : Prop := ∃ p c, CellsV g (A ++ [Value.slice p n c] ++ B) v w ∧ w.ownsRow N e size (.slice p n c) n xs
theorem StoreV.below {g N : Nat} {e : TypeId} {size n : Nat} {xs A B : List Value} {v : Value} {w w' : World} (h : StoreV g N e size n xs A B v w) (hb : Below w.heap.size w w') : StoreV g N e size n xs A B v w' := by
  obtain ⟨p, c, h1, h2⟩ := h
  exact ⟨p, c, h1.below hb, owned_below h2 hb⟩
theorem StoreV.far {g N : Nat} {e : TypeId} {n : Nat} {xs A B : List Value} {v : Value} {w : World} (h : StoreV g N e 1 n xs A B v w) {b k : Nat} (hb : ¬ b = g) {u : Value} (hu : ∀ y, xs[k]? = some y → y = u) : StoreV g N e 1 n xs A B v (w.setCell ⟨b, k, none⟩ u) := by
  obtain ⟨p, c, h1, h2⟩ := h
  exact ⟨p, c, h1.far hb k u, own_set h2 hu⟩
/-- The nil slice is a row of the call's own, without elements. -/
theorem nilsV_nil (N : Nat) (e : TypeId) (size : Nat) (w : World) : NilsV N e size (.slice none 0 0) w := ⟨⟨by simp, .inl ⟨rfl, rfl⟩⟩, none, rfl⟩
end Go.Proofs.YtiofeebiejkajaaDoor
namespace Go.Proofs.YtiofeebiejkajaaDoor
set_option linter.unusedSimpArgs false
set_option linter.unusedVariables false
open Go.ChangeShapes Go.WideShapes Go.ChangeAt Go.RowKit Go.Joins

/-- A variable's block, whole. -/
def TBox (T : TypeId) (g : Nat) (xs : Array Value) (w : World) : Prop := w.heap[g]? = some (.cells xs T (0, 0))
theorem TBox.lt {T : TypeId} {g : Nat} {xs : Array Value} {w : World} (h : TBox T g xs w) : g < w.heap.size := (Array.getElem?_eq_some_iff.1 h).1
theorem TBox.cell {T : TypeId} {g : Nat} {xs : Array Value} {w : World} (h : TBox T g xs w) (k : Nat) : w.cell? ⟨g, k, none⟩ = xs[k]? := cell_of_row _ _ _ _ _ _ h
theorem TBox.frozen {T : TypeId} {g : Nat} {xs : Array Value} {w : World} (h : TBox T g xs w) (k : Nat) : w.frozen? ⟨g, k, none⟩ = false := frozen_of_row _ _ _ _ _ h
theorem TBox.of_block {T : TypeId} {g : Nat} {xs : Array Value} {w w' : World} (h : TBox T g xs w) (e : w'.heap[g]? = w.heap[g]?) : TBox T g xs w' := e.trans h
theorem TBox.below {T : TypeId} {g : Nat} {xs : Array Value} {w w' : World} (h : TBox T g xs w) (hb : Below w.heap.size w w') : TBox T g xs w' := (hb.block g h.lt).trans h
theorem TBox.new (T : TypeId) (W : World) (xs : Array Value) : TBox T W.heap.size xs (W.alloc (.cells xs T)) := heap_alloc_new W (.cells xs T)
theorem TBox.other {T : TypeId} {g : Nat} {xs : Array Value} {w : World} (h : TBox T g xs w) {b : Nat} (hb : ¬ b = g) (k : Nat) (u : Value) : TBox T g xs (w.setCell ⟨b, k, none⟩ u) := (Below.heap_setCell w _ u g (fun e => hb e.symm)).trans h
theorem TBox.set {T : TypeId} {g : Nat} {xs : Array Value} {w : World} (h : TBox T g xs w) (k : Nat) (u : Value) : TBox T g (xs.setIfInBounds k u) (w.setCell ⟨g, k, none⟩ u) := heap_setCell_same w g k xs T u h
/-- Values put into a variable, one by one. -/
def putsL (g : Nat) : Nat → List Value → World → World
  | _, [], w => w
  | k, x :: xs, w => putsL g (k + 1) xs (w.setCell ⟨g, k, none⟩ x)
def setFrom : Array Value → Nat → List Value → Array Value
  | ys, _, [] => ys
  | ys, k, x :: xs => setFrom (ys.setIfInBounds k x) (k + 1) xs
theorem TBox.putsL {T : TypeId} {g : Nat} : ∀ (xs : List Value) (k : Nat) {ys : Array Value} {w : World}, TBox T g ys w → TBox T g (setFrom ys k xs) (putsL g k xs w)
  | [], _, _, _, h => h
  | x :: xs, k, _, _, h => TBox.putsL xs (k + 1) (h.set k x)
theorem putsL_other {g b : Nat} (hb : ¬ b = g) : ∀ (xs : List Value) (k : Nat) (w : World), (putsL g k xs w).heap[b]? = w.heap[b]?
  | [], _, _ => rfl
  | x :: xs, k, w => (putsL_other hb xs (k + 1) _).trans (Below.heap_setCell w _ x b hb)
theorem putsL_size {g : Nat} : ∀ (xs : List Value) (k : Nat) (w : World), (putsL g k xs w).heap.size = w.heap.size
  | [], _, _ => rfl
  | x :: xs, k, w => (putsL_size xs (k + 1) _).trans (by simp [World.setCell])
theorem putsL_below {n g : Nat} (hn : n ≤ g) : ∀ (xs : List Value) (k : Nat) (w : World), Below n w (putsL g k xs w)
  | [], _, _ => Below.refl _ _
  | x :: xs, k, w => ((Below.refl n w).setCell hn x).trans (putsL_below hn xs (k + 1) _)
theorem setFrom_size : ∀ (xs : List Value) (k : Nat) (ys : Array Value), (setFrom ys k xs).size = ys.size
  | [], _, _ => rfl
  | x :: xs, k, ys => (setFrom_size xs (k + 1) _).trans (by simp)
/-- A variable of a type, of so many cells. -/
def ShapeT (T : TypeId) (m : Nat) (g : Nat) (w : World) : Prop := ∃ xs : Array Value, xs.size = m ∧ TBox T g xs w
theorem shapeT_below {T : TypeId} {m : Nat} (g : Nat) (w w' : World) (h : ShapeT T m g w) (hb : Below w.heap.size w w') : ShapeT T m g w' := by
  obtain ⟨xs, e, h⟩ := h
  exact ⟨xs, e, h.below hb⟩
theorem shapeT_new {T : TypeId} {m : Nat} (W : World) (xs : Array Value) (e : xs.size = m) : ShapeT T m W.heap.size (W.alloc (.cells xs T)) := ⟨xs, e, TBox.new _ _ _⟩
theorem shapeT_puts {T : TypeId} {m g : Nat} (xs : List Value) {w : World} (g' : Nat) (h : ShapeT T m g' w) : ShapeT T m g' (putsL g 0 xs w) := by
  obtain ⟨ys, e, h⟩ := h
  by_cases hg : g' = g
  · subst hg
    exact ⟨_, (setFrom_size xs 0 ys).trans e, h.putsL xs 0⟩
  · exact ⟨ys, e, h.of_block (putsL_other hg xs 0 w)⟩
/-- What a variable of two cells gives a store. -/
theorem ShapeT.two {T : TypeId} {g : Nat} {w : World} (h : ShapeT T 2 g w) : ∃ x0 x1, g < w.heap.size ∧ w.cell? ⟨g, 0, none⟩ = some x0 ∧ w.cell? ⟨g, 1, none⟩ = some x1 ∧ w.frozen? ⟨g, 0, none⟩ = false ∧ w.frozen? ⟨g, 1, none⟩ = false := by
  obtain ⟨xs, e, h⟩ := h
  match xs, e with
  | ⟨[x, y]⟩, _ => exact ⟨x, y, h.lt, by rw [h.cell]; rfl, by rw [h.cell]; rfl, h.frozen 0, h.frozen 1⟩
theorem ShapeT.full2 {T : TypeId} {g : Nat} {w : World} (h : ShapeT T 2 g w) (a b : Value) : TBox T g #[a, b] (putsL g 0 [a, b] w) := by
  obtain ⟨xs, e, h⟩ := h
  match xs, e with
  | ⟨[x, y]⟩, _ => exact h.putsL [a, b] 0
/-- A row's block is old, or no variable of that type. -/
def NoTag (N : Nat) (T : TypeId) (n : Nat) (p : Option Addr) (w : World) : Prop := 0 < n → ∀ b off sp, p = some ⟨b, off, sp⟩ → b < w.heap.size ∧ (b < N ∨ ∃ cs E, E ≠ T ∧ w.heap[b]? = some (.cells cs E (0, 0)))
theorem NoTag.below {N : Nat} {T : TypeId} {n : Nat} {p : Option Addr} {w w' : World} (h : NoTag N T n p w) (hb : Below w.heap.size w w') : NoTag N T n p w' := fun h0 b off sp e => by
  obtain ⟨hl, h1⟩ := h h0 b off sp e
  refine ⟨Nat.lt_of_lt_of_le hl hb.size, ?_⟩
  rcases h1 with h1 | ⟨cs, E, hE, h1⟩
  · exact .inl h1
  · exact .inr ⟨cs, E, hE, (hb.block b hl).trans h1⟩
theorem NoTag.ne {N : Nat} {T : TypeId} {n : Nat} {p : Option Addr} {w : World} (h : NoTag N T n p w) {m g : Nat} (hs : ShapeT T m g w) (hg : N ≤ g) (h0 : 0 < n) {b off : Nat} {sp : Option Nat} (e : p = some ⟨b, off, sp⟩) : b ≠ g := by
  obtain ⟨xs, -, hx⟩ := hs
  rcases (h h0 b off sp e).2 with h1 | ⟨cs, E, hE, h1⟩
  · omega
  · rintro rfl
    have := h1.symm.trans hx
    injection this with this
    injection this with _ this
    exact hE this
theorem NoTag.puts {N : Nat} {T : TypeId} {n : Nat} {p : Option Addr} {w : World} (h : NoTag N T n p w) {m g : Nat} (hs : ShapeT T m g w) (hg : N ≤ g) (xs : List Value) : NoTag N T n p (putsL g 0 xs w) := fun h0 b off sp e => by
  obtain ⟨hl, h1⟩ := h h0 b off sp e
  refine ⟨by rw [putsL_size]; exact hl, ?_⟩
  rcases h1 with h1 | ⟨cs, E, hE, h1⟩
  · exact .inl h1
  · exact .inr ⟨cs, E, hE, (putsL_other (h.ne hs hg h0 e) xs 0 w).trans h1⟩
/-- Rows of numbers that lie aside of what is stored. -/
theorem Ints.of_block {k : IntKind} {w w' : World} {p : Option Addr} {n : Nat} {z : Nat → Int} (h : Ints k w p n z) (hl : w.heap.size ≤ w'.heap.size) (e : 0 < n → ∀ b off sp, p = some ⟨b, off, sp⟩ → w'.heap[b]? = w.heap[b]?) : Ints k w' p n z := fun i hi => by
  obtain ⟨⟨b, off, ep, hlt, hc⟩, hw⟩ := h i hi
  exact ⟨⟨b, off, ep, Nat.lt_of_lt_of_le hlt hl, by rw [World.cell?_of_block (w := w) (a := ⟨b, off + i, none⟩) (e (by omega) b off none ep)]; exact hc⟩, hw⟩
theorem TBox.stores {T : TypeId} {g : Nat} {x y : Value} {w : World} (h : TBox T g #[x, y] w) (a b : Value) : TBox T g #[a, b] ((w.setCell ⟨g, 0, none⟩ a).setCell ⟨g, 1, none⟩ b) := (h.set 0 a).set 1 b
theorem owned_tag {w : World} {base : Nat} {e : TypeId} {size : Nat} {p : Option Addr} {n c m : Nat} {xs : List Value} (h : w.ownsRow base e size (.slice p n c) m xs) : ∀ b off sp, p = some ⟨b, off, sp⟩ → ∃ cs, w.heap[b]? = some (.cells cs e (0, 0)) := fun b off sp ep => by
  subst ep
  rcases h.2 with ⟨hv, -⟩ | ⟨g, cap', cur, hv, -, hg, -⟩
  · cases hv
  · injection hv with hv
    injection hv with hv
    injection hv with h1 h2 h3
    subst h1
    exact ⟨cur, hg⟩
theorem one_newG (w : World) (x : Value) (t : TypeId) : ∀ j u, [x][j]? = some u → (w.alloc (.cells #[x] t)).cell? ((⟨w.heap.size, 0, none⟩ : Addr).add j) = some u := by
  intro j u h
  match j, h with
  | 0, h =>
    obtain rfl : x = u := by simpa using h
    exact cell_of_row _ _ _ _ _ _ (heap_alloc_new w (.cells #[x] t))
end Go.Proofs.YtiofeebiejkajaaDoor
