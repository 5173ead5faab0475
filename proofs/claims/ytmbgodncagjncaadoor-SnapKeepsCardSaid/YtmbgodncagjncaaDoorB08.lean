/- What the operations of a region leave that makes memory (XSoft): slices of nothing, of one, rows of the call's own, structs that hold them; rows of the call's own may grow in place. -/
import Derived.Test.YtmbgodncagjncaaDoorB02
import Derived.Test.YtmbgodncagjncaaDoorB07
import Derived.Deep.RegionLaw
import Derived.Deep.RegionLawGrows
import Derived.ArgAppend
import Derived.Laws.OwnMore
namespace Go.Proofs.YtmbgodncagjncaaDoor
set_option linter.unusedSimpArgs false
set_option linter.unusedVariables false
open Go.ChangeShapes Go.WideShapes Go.ChangeAt Go.RowKit Go.Joins

section
variable {P : Program} {l : List Oper} {Q : Exit → Act → World → Prop} {a : Act} {ds : List Nat} {Φ : Nat → Value → World → Prop} {W : World} {n : Nat} {S : World → World → Prop}
end
def NilsV (N : Nat) (e : TypeId) (size : Nat) (v : Value) (w : World) : Prop := w.ownsRow N e size v 0 [] ∧ ∃ ao, v = .slice ao 0 0
theorem NilsV.below {N : Nat} {e : TypeId} {size : Nat} {v : Value} {w w' : World} (h : NilsV N e size v w) (hb : Below w.heap.size w w') : NilsV N e size v w' := ⟨owned_below h.1 hb, h.2⟩
def OneV (N : Nat) (x : Value) (v : Value) (w : World) : Prop := ∃ ad : Addr, v = .slice (some ad) 1 1 ∧ (N ≤ ad.block ∧ ad.block < w.heap.size) ∧ ∀ j u, [x][j]? = some u → w.cell? (ad.add j) = some u
theorem addr_add_block (ad : Addr) (j : Nat) : (ad.add j).block = ad.block := by
  obtain ⟨b, o, s⟩ := ad
  unfold Addr.add
  split <;> rfl
theorem OneV.below {N : Nat} {x v : Value} {w w' : World} (h : OneV N x v w) (hb : Below w.heap.size w w') : OneV N x v w' := by
  obtain ⟨ad, e, ⟨hn, hl⟩, hc⟩ := h
  exact ⟨ad, e, ⟨hn, Nat.lt_of_lt_of_le hl hb.size⟩, fun j u hj => (hb.cell (p := ad.add j) (by rw [addr_add_block]; exact hl)).trans (hc j u hj)⟩
def OwnV (N : Nat) (e : TypeId) (size n : Nat) (xs : List Value) (v : Value) (w : World) : Prop := w.ownsRow N e size v n xs
theorem OwnV.below {N : Nat} {e : TypeId} {size n : Nat} {xs : List Value} {v : Value} {w w' : World} (h : OwnV N e size n xs v w) (hb : Below w.heap.size w w') : OwnV N e size n xs v w' := owned_below h hb
def PutV (N : Nat) (e : TypeId) (size n : Nat) (xs A B : List Value) (v : Value) (w : World) : Prop := ∃ p c, v = .agg (A ++ [Value.slice p n c] ++ B).toArray ∧ w.ownsRow N e size (.slice p n c) n xs
theorem PutV.below {N : Nat} {e : TypeId} {size n : Nat} {xs A B : List Value} {v : Value} {w w' : World} (h : PutV N e size n xs A B v w) (hb : Below w.heap.size w w') : PutV N e size n xs A B v w' := by
  obtain ⟨p, c, e, h⟩ := h
  exact ⟨p, c, e, owned_below h hb⟩
/-! Rows of the call's own, one cell stored. -/
theorem own_set {w : World} {base : Nat} {e : TypeId} {v : Value} {n : Nat} {xs : List Value} (h : w.ownsRow base e 1 v n xs) {g k : Nat} {u : Value} (hu : ∀ y, xs[k]? = some y → y = u) : (w.setCell ⟨g, k, none⟩ u).ownsRow base e 1 v n xs := by
  by_cases hg : v.ownBlock = some g
  · obtain ⟨p, cap, rfl, -⟩ := owned_new h
    rcases h.2 with ⟨hv, h0⟩ | ⟨g', cap', cur, hv, -⟩
    · injection hv with hv
      subst hv
      cases hg
    · injection hv with hv
      subst hv
      obtain rfl : g' = g := Option.some.inj hg
      have h2 := (h.stored k u).1
      have hs : xs.set k u = xs := by
        apply List.ext_getElem?
        intro j
        rw [List.getElem?_set]
        by_cases e : k = j
        · subst e
          rw [if_pos rfl]
          by_cases hk : k < xs.length
          · rw [if_pos hk, List.getElem?_eq_getElem hk, hu _ (List.getElem?_eq_getElem hk)]
          · rw [if_neg hk, List.getElem?_eq_none (by omega)]
        · rw [if_neg e]
      rwa [hs] at h2
  · exact owned_setCell h hg k u
theorem OneV.set {N : Nat} {x v : Value} {w : World} (h : OneV N x v w) (g k : Nat) : OneV N x v (w.setCell ⟨g, k, none⟩ x) := by
  obtain ⟨ad, e, hl, hc⟩ := h
  refine ⟨ad, e, by simpa [World.setCell] using hl, fun j u hj => ?_⟩
  have hu : x = u := by
    match j, hj with
    | 0, hj => simpa using hj
  subst hu
  have hcj := hc j _ hj
  by_cases ea : (⟨g, k, none⟩ : Addr) = ad.add j
  · rw [← ea] at hcj ⊢
    exact World.cell?_setCell_same w ⟨g, k, none⟩ x hcj
  · rw [World.cell?_setCell_other w _ _ _ (fun h => ea h)]
    exact hcj
theorem NilsV.set {N : Nat} {e : TypeId} {v : Value} {w : World} (h : NilsV N e 1 v w) (g k : Nat) (u : Value) : NilsV N e 1 v (w.setCell ⟨g, k, none⟩ u) := ⟨own_set h.1 (fun y hy => by simp at hy), h.2⟩
theorem OwnV.set {N : Nat} {e : TypeId} {n : Nat} {xs : List Value} {v : Value} {w : World} (h : OwnV N e 1 n xs v w) {g k : Nat} {u : Value} (hu : ∀ y, xs[k]? = some y → y = u) : OwnV N e 1 n xs v (w.setCell ⟨g, k, none⟩ u) := own_set h hu
theorem PutV.set {N : Nat} {e : TypeId} {n : Nat} {xs A B : List Value} {v : Value} {w : World} (h : PutV N e 1 n xs A B v w) {g k : Nat} {u : Value} (hu : ∀ y, xs[k]? = some y → y = u) : PutV N e 1 n xs A B v (w.setCell ⟨g, k, none⟩ u) := by
  obtain ⟨p, c, e, h⟩ := h
  exact ⟨p, c, e, own_set h hu⟩
/-- 'append(s, x...)' of an x of nothing: s. -/
theorem run_append_zero {P : Program} {w : World} (t ty e : TypeId) (i : TypeInfo) (ht : P.underlying t = some (.slice e)) (hi : P.info? e = some i) (ao : Option Addr) (n cap : Nat) (hnc : n ≤ cap) (q : Option Addr) (c : Nat) :
    (Builtin.append_ #[t, t] ty #[.slice ao n cap, .slice q 0 c]).run P w = .ok (.slice ao n cap) w := by
  have hfc : (Builtin.firstCells i.size 0 (.slice q 0 c)).run P w = .ok #[] w := by
    cases q with
    | none => simp [Builtin.firstCells]
    | some a => exact run_firstCells_some (P := P) w i.size 0 a 0 c [] (by simp) (fun j u hj => by simp at hj)
  cases ao <;> simp [Builtin.append_, run_underlying ht, sizeOf, typeInfo, hi, Builtin.lenOf, hnc, hfc, storeCells]
/-! A store into a variable that lies below. -/
theorem OneV.under {N : Nat} {x v : Value} {w : World} (h : OneV N x v w) {g : Nat} (hg : g < N) (k : Nat) (u : Value) : OneV N x v (w.setCell ⟨g, k, none⟩ u) := by
  obtain ⟨ad, e, hl, hc⟩ := h
  refine ⟨ad, e, by simpa [World.setCell] using hl, fun j y hj => ?_⟩
  rw [World.cell?_setCell_other w _ _ _ (fun h => by have h2 := congrArg Addr.block h; rw [addr_add_block] at h2; have h3 : g = ad.block := h2; omega)]
  exact hc j y hj
theorem OwnV.under {N : Nat} {e : TypeId} {size n : Nat} {xs : List Value} {v : Value} {w : World} (h : OwnV N e size n xs v w) {g : Nat} (hg : g < N) (k : Nat) (u : Value) : OwnV N e size n xs v (w.setCell ⟨g, k, none⟩ u) :=
  owned_setCell h (fun e => by have := (World.ownsRow.lt h g e).1; omega) k u
theorem NilsV.under {N : Nat} {e : TypeId} {size : Nat} {v : Value} {w : World} (h : NilsV N e size v w) {g : Nat} (hg : g < N) (k : Nat) (u : Value) : NilsV N e size v (w.setCell ⟨g, k, none⟩ u) := ⟨OwnV.under (n := 0) (xs := []) h.1 hg k u, h.2⟩
theorem PutV.under {N : Nat} {e : TypeId} {size n : Nat} {xs A B : List Value} {v : Value} {w : World} (h : PutV N e size n xs A B v w) {g : Nat} (hg : g < N) (k : Nat) (u : Value) : PutV N e size n xs A B v (w.setCell ⟨g, k, none⟩ u) := by
  obtain ⟨p, c, e, h⟩ := h
  exact ⟨p, c, e, OwnV.under h hg k u⟩
/-! A region that draws its order, each operation told by itself, stores into what lies below too. -/
/-- A variable of n cells, to be written. -/
def ShapeN (g n : Nat) (w : World) : Prop := g < w.heap.size ∧ ∀ j, j < n → (∃ y, w.cell? ⟨g, j, none⟩ = some y) ∧ w.frozen? ⟨g, j, none⟩ = false
theorem ShapeN.below {g n : Nat} {w w' : World} (h : ShapeN g n w) (hb : Below w.heap.size w w') : ShapeN g n w' :=
  ⟨Nat.lt_of_lt_of_le h.1 hb.size, fun j hj => by
    obtain ⟨⟨y, hy⟩, hf⟩ := h.2 j hj
    exact ⟨⟨y, (hb.cell (p := ⟨g, j, none⟩) h.1).trans hy⟩, (hb.frozen (p := ⟨g, j, none⟩) h.1).trans hf⟩⟩
theorem ShapeN.set {g n : Nat} {w : World} (h : ShapeN g n w) (b k : Nat) (u : Value) : ShapeN g n (w.setCell ⟨b, k, none⟩ u) :=
  ⟨by simpa [World.setCell] using h.1, fun j hj => by
    obtain ⟨⟨y, hy⟩, hf⟩ := h.2 j hj
    refine ⟨?_, by rw [World.frozen?_setCell]; exact hf⟩
    by_cases e : (⟨b, k, none⟩ : Addr) = ⟨g, j, none⟩
    · rw [e]; exact ⟨u, World.cell?_setCell_same w _ _ hy⟩
    · exact ⟨y, (World.cell?_setCell_other w _ _ _ e).trans hy⟩⟩
/-- What a variable holds. -/
def CellsV (g : Nat) (xs : List Value) (_ : Value) (w : World) : Prop := g < w.heap.size ∧ ∀ j u, xs[j]? = some u → w.cell? ⟨g, j, none⟩ = some u
theorem CellsV.below {g : Nat} {xs : List Value} {v : Value} {w w' : World} (h : CellsV g xs v w) (hb : Below w.heap.size w w') : CellsV g xs v w' :=
  ⟨Nat.lt_of_lt_of_le h.1 hb.size, fun j u hj => (hb.cell (p := ⟨g, j, none⟩) h.1).trans (h.2 j u hj)⟩
theorem CellsV.far {g : Nat} {xs : List Value} {v : Value} {w : World} (h : CellsV g xs v w) {b : Nat} (hb : ¬ b = g) (k : Nat) (u : Value) : CellsV g xs v (w.setCell ⟨b, k, none⟩ u) :=
  ⟨by simpa [World.setCell] using h.1, fun j y hj => (World.cell?_setCell_other w _ _ _ (fun e => hb (congrArg Addr.block e))).trans (h.2 j y hj)⟩
/-- What a variable holds: a struct with a row of the call's own. -/
def StoreV (g N : Nat) (e : TypeId) (size n : Nat) (xs A B : List Value) (v : Value) (w : World) : Prop := ∃ p c, CellsV g (A ++ [Value.slice p n c] ++ B) v w ∧ w.ownsRow N e size (.slice p n c) n xs
theorem StoreV.below {g N : Nat} {e : TypeId} {size n : Nat} {xs A B : List Value} {v : Value} {w w' : World} (h : StoreV g N e size n xs A B v w) (hb : Below w.heap.size w w') : StoreV g N e size n xs A B v w' := by
  obtain ⟨p, c, h1, h2⟩ := h
  exact ⟨p, c, h1.below hb, owned_below h2 hb⟩
theorem StoreV.far {g N : Nat} {e : TypeId} {n : Nat} {xs A B : List Value} {v : Value} {w : World} (h : StoreV g N e 1 n xs A B v w) {b k : Nat} (hb : ¬ b = g) {u : Value} (hu : ∀ y, xs[k]? = some y → y = u) : StoreV g N e 1 n xs A B v (w.setCell ⟨b, k, none⟩ u) := by
  obtain ⟨p, c, h1, h2⟩ := h
  exact ⟨p, c, h1.far hb k u, own_set h2 hu⟩
end Go.Proofs.YtmbgodncagjncaaDoor
