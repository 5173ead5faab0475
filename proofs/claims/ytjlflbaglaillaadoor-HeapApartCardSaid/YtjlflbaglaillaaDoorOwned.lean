/- Rows of integers that a call makes: what it owns, read as data. -/
import Derived.Test.YtjlflbaglaillaaDoorInts
import Derived.OwnWalk
import Derived.Laws.CopyOwn
import Derived.Laws.AppendOwnNone
namespace Go.Proofs.YtjlflbaglaillaaDoor
set_option linter.unusedSimpArgs false
set_option linter.unusedVariables false
open Go.ChangeShapes Go.WideShapes Go.ChangeAt Go.RowKit Go.Joins

/-- The cells of n integers. -/
def vals (k : IntKind) (n : Nat) (z : Nat → Int) : List Value := (List.range n).map fun i => .int k (z i)
theorem vals_length (k : IntKind) (n : Nat) (z : Nat → Int) : (vals k n z).length = n := by simp [vals]
theorem vals_get (k : IntKind) {n : Nat} (z : Nat → Int) {i : Nat} (h : i < n) : (vals k n z)[i]? = some (.int k (z i)) := by simp [vals, h]
theorem vals_one (k : IntKind) (n : Nat) (z : Nat → Int) : ∀ u ∈ vals k n z, u.oneCell' = true := by
  intro u hu
  obtain ⟨_, _, rfl⟩ := List.mem_map.1 hu
  rfl
theorem vals_const (k : IntKind) (n : Nat) (c : Int) : List.replicate n (.int k c) = vals k n (fun _ => c) := by
  apply List.ext_getElem?
  intro j
  by_cases h : j < n <;> simp [vals, h]
theorem vals_set (k : IntKind) (n : Nat) (z : Nat → Int) (j : Nat) (v : Int) : (vals k n z).set j (.int k v) = vals k n (fun i => if i = j then v else z i) := by
  apply List.ext_getElem?
  intro i
  by_cases h : i < n
  · by_cases e : i = j
    · subst e; simp [vals, h]
    · rw [List.getElem?_set_ne (Ne.symm e), vals_get k z h, vals_get k _ h]; simp [e]
  · rw [List.getElem?_eq_none (by rw [List.length_set, vals_length]; omega), List.getElem?_eq_none (by rw [vals_length]; omega)]
theorem vals_snoc (k : IntKind) (n : Nat) (z : Nat → Int) : vals k n z ++ [.int k (z n)] = vals k (n + 1) z := by simp [vals, List.range_succ]
theorem vals_congr (k : IntKind) {n : Nat} {z y : Nat → Int} (h : ∀ i, i < n → z i = y i) : vals k n z = vals k n y := by
  apply List.map_congr_left
  intro i hi
  rw [h i (by simpa using hi)]
theorem splice_all {α : Type} (L cs : List α) (h : cs.length = L.length) : splice L 0 cs = cs := by
  simp [splice, h]

theorem add_none (b off j : Nat) : (⟨b, off, none⟩ : Addr).add j = ⟨b, off + j, none⟩ := by unfold Addr.add; split <;> simp_all

/-- What a call owns, as data. -/
theorem ints_owned {w : World} {base : Nat} {e : TypeId} {k : IntKind} {p : Option Addr} {n cap : Nat} {z : Nat → Int} (h : w.ownsRow base e 1 (.slice p n cap) n (vals k n z)) (hw : ∀ i, i < n → (Lit.int k (z i)).wf = true) : Ints k w p n z := by
  intro i hi
  refine ⟨?_, hw i hi⟩
  rcases h.2 with ⟨-, h0⟩ | ⟨g, cap', cur, hv, hb, hg, hn, hm, hs, ht⟩
  · omega
  · have e0 : p = some ⟨g, 0, none⟩ := by injection hv
    subst e0
    refine ⟨g, 0, rfl, ?_, ?_⟩
    · rcases Nat.lt_or_ge g w.heap.size with h' | h'
      · exact h'
      · rw [Array.getElem?_eq_none h'] at hg; cases hg
    · rw [Nat.zero_add, cell_of_row w g i cur e (0, 0) hg]
      have := vals_get k z hi
      rw [← ht, List.getElem?_take, if_pos (by omega)] at this
      simpa using this
theorem owned_new {w : World} {base : Nat} {e : TypeId} {size : Nat} {v : Value} {n : Nat} {xs : List Value} (h : w.ownsRow base e size v n xs) : ∃ p cap, v = .slice p n cap ∧ (∀ b off sp, p = some ⟨b, off, sp⟩ → base ≤ b) := by
  rcases h.2 with ⟨rfl, rfl⟩ | ⟨g, cap', cur, rfl, hb, -⟩
  · exact ⟨none, 0, rfl, fun b off sp e => by cases e⟩
  · exact ⟨_, _, rfl, fun b off sp e => by injection e with e; injection e with e; omega⟩

/-- A row that is known whole. -/
def RowAt (k : IntKind) (e : TypeId) (w : World) (g n : Nat) (z : Nat → Int) : Prop := w.heap[g]? = some (.cells (vals k n z).toArray e (0, 0))
theorem RowAt.lt {k : IntKind} {e : TypeId} {w : World} {g n : Nat} {z : Nat → Int} (h : RowAt k e w g n z) : g < w.heap.size := by
  rcases Nat.lt_or_ge g w.heap.size with h' | h'
  · exact h'
  · unfold RowAt at h; rw [Array.getElem?_eq_none h'] at h; cases h
theorem RowAt.cell {k : IntKind} {e : TypeId} {w : World} {g n : Nat} {z : Nat → Int} (h : RowAt k e w g n z) {i : Nat} (hi : i < n) : w.cell? ⟨g, i, none⟩ = some (.int k (z i)) := by
  rw [cell_of_row w g i _ e (0, 0) h]
  simpa using vals_get k z hi
theorem RowAt.frozen {k : IntKind} {e : TypeId} {w : World} {g n : Nat} {z : Nat → Int} (h : RowAt k e w g n z) (i : Nat) : w.frozen? ⟨g, i, none⟩ = false := frozen_of_row w g i _ e h
theorem RowAt.ints {k : IntKind} {e : TypeId} {w : World} {g n : Nat} {z : Nat → Int} (h : RowAt k e w g n z) (hw : ∀ i, i < n → (Lit.int k (z i)).wf = true) : Ints k w (some ⟨g, 0, none⟩) n z :=
  fun i hi => ⟨⟨g, 0, rfl, h.lt, by rw [Nat.zero_add]; exact h.cell hi⟩, hw i hi⟩
theorem RowAt.below {k : IntKind} {e : TypeId} {w w' : World} {g n : Nat} {z : Nat → Int} (h : RowAt k e w g n z) (hb : Below w.heap.size w w') : RowAt k e w' g n z := by
  unfold RowAt
  rw [hb.block g h.lt]
  exact h
theorem RowAt.set {k : IntKind} {e : TypeId} {w : World} {g n : Nat} {z : Nat → Int} (h : RowAt k e w g n z) (j : Nat) (v : Int) : RowAt k e (w.setCell ⟨g, j, none⟩ (.int k v)) g n (fun i => if i = j then v else z i) := by
  unfold RowAt
  rw [heap_setCell_same w g j _ e (.int k v) h, ← vals_set]
  simp
theorem rowAt_owned {w : World} {base : Nat} {e : TypeId} {k : IntKind} {g n : Nat} {z : Nat → Int} (h : w.ownsRow base e 1 (.slice (some ⟨g, 0, none⟩) n n) n (vals k n z)) : RowAt k e w g n z := by
  rcases h.2 with ⟨h', -⟩ | ⟨g', cap', cur, hv, -, hg, -, -, hs, ht⟩
  · simp at h'
  · simp only [Value.slice.injEq, Option.some.injEq, Addr.mk.injEq, and_true, true_and] at hv
    obtain ⟨rfl, rfl⟩ := hv
    unfold RowAt
    rw [hg, ← ht, List.take_of_length_le (by simp [hs])]
/-- A write into a new block leaves old rows of integers as they read. -/
theorem Ints.setCell {k : IntKind} {w : World} {p : Option Addr} {n : Nat} {z : Nat → Int} (h : Ints k w p n z) {g : Nat} (hg : ∀ b off, p = some ⟨b, off, none⟩ → b ≠ g) (j : Nat) (u : Value) : Ints k (w.setCell ⟨g, j, none⟩ u) p n z := fun i hi => by
  obtain ⟨⟨b, off, e, hlt, hc⟩, hw⟩ := h i hi
  refine ⟨⟨b, off, e, by simpa [World.setCell] using hlt, ?_⟩, hw⟩
  rw [World.cell?_of_block (w := w) (a := ⟨b, off + i, none⟩) (Below.heap_setCell w _ u b (hg b off e))]
  exact hc
theorem Ints.congr {k : IntKind} {w : World} {p : Option Addr} {n : Nat} {z y : Nat → Int} (h : Ints k w p n z) (e : ∀ i, i < n → z i = y i) : Ints k w p n y := fun i hi => by rw [← e i hi]; exact h i hi
theorem Ints.wf {k : IntKind} {w : World} {p : Option Addr} {n : Nat} {z : Nat → Int} (h : Ints k w p n z) : ∀ i, i < n → (Lit.int k (z i)).wf = true := fun i hi => (h i hi).2
/-- The cells where a copy or an append looks for them. -/
theorem Ints.cells {k : IntKind} {w : World} {p : Option Addr} {n : Nat} {z : Nat → Int} (h : Ints k w p n z) (h0 : 0 < n) : ∃ ad, p = some ad ∧ ∀ j v, (vals k n z)[j]? = some v → w.cell? (ad.add j) = some v := by
  obtain ⟨⟨b, off, e, -, -⟩, -⟩ := h 0 h0
  refine ⟨_, e, fun j v hv => ?_⟩
  have hj : j < n := by
    have := (List.getElem?_eq_some_iff.1 hv).1
    rwa [vals_length] at this
  obtain ⟨⟨b', off', e', -, hc⟩, -⟩ := h j hj
  rw [e] at e'
  injection e' with e'
  injection e' with e1 e2
  subst e1 e2
  rw [add_none, hc, ← vals_get k z hj]
  exact hv
/-- 'append(s, x...)', s the call's own, x integers that came in: nil, empty or not. -/
theorem wpList_append_ints {P : Program} {w : World} {ops : Array Oper} {rest : List Oper} {o : Oper} {a : Act} {Q : Exit → Act → World → Prop} (hgd : o.guard = none) (s x : Operand) (t : TypeId)
    (ho : o.op = .call { callee := .builtin .append, args := #[s, x], argTypes := #[t, t] })
    (base : Nat) (e : TypeId) (i : TypeInfo) (z0 : Value) (bytes : Nat) (ht : P.underlying t = some (.slice e)) (hi : P.info? e = some i) (hz : i.zero = some z0) (hsize : i.size = 1) (hby : i.bytes = bytes) (hzs : z0.cells.size = 1)
    (v : Value) (m : Nat) (xs : List Value) (hs : a.eval s = v) (hown : w.ownsRow base e 1 v m xs)
    (k : IntKind) (p : Option Addr) (n cap : Nat) (z : Nat → Int) (hx : a.eval x = .slice p n cap) (hin : Ints k w p n z) (hq : p = none → n = 0 ∧ cap = 0)
    (h63 : m + n ≤ maxLen) (hbytes : (m + n) * bytes ≤ 140737488355328) (hbase : base ≤ w.heap.size)
    (h : ∀ v' w', w'.ownsRow base e 1 v' (m + n) (xs ++ vals k n z) → w.grownBy w' v.ownBlock → wpList P ops Q rest (a.put o.dst v') w') : wpList P ops Q (o :: rest) a w := by
  cases p with
  | none =>
    obtain ⟨rfl, rfl⟩ := hq rfl
    exact wpList_append_own_none hgd s x t ho base e i 1 ht hi v m xs hs hown hx (h v w (by simpa [vals] using hown) (World.grownBy.refl _ _))
  | some ad =>
    refine wpList_append_own _ hgd s x t ho base e i z0 1 bytes ht hi hz hsize hby hzs (by decide) v m xs hs hown ad n cap (vals k n z) hx (by simp [vals_length]) ?_ (vals_one _ _ _) h63 hbytes hbase (fun v' w' h1 h2 _ => h v' w' h1 h2)
    intro j u hj
    have hjn : j < n := by
      have := (List.getElem?_eq_some_iff.1 hj).1
      rwa [vals_length] at this
    obtain ⟨ad', e', hc⟩ := hin.cells (by omega)
    injection e' with e'
    subst e'
    exact hc j u hj
theorem owned_below {w w' : World} {base : Nat} {e : TypeId} {size : Nat} {v : Value} {n : Nat} {xs : List Value} (h : w.ownsRow base e size v n xs) (hb : Below w.heap.size w w') : w'.ownsRow base e size v n xs := by
  obtain ⟨hl, h0 | ⟨g, cap, cur, hv, hg, hh, r⟩⟩ := h
  · exact ⟨hl, .inl h0⟩
  · refine ⟨hl, .inr ⟨g, cap, cur, hv, hg, ?_, r⟩⟩
    rw [hb.block g ?_]
    · exact hh
    · rcases Nat.lt_or_ge g w.heap.size with h1 | h1
      · exact h1
      · rw [Array.getElem?_eq_none h1] at hh; cases hh
end Go.Proofs.YtjlflbaglaillaaDoor
