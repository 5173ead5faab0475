/- Rows of elements of whatever size, made and grown within a region that draws its order: copies of rows, one element more. -/
import Derived.Test.YtonjnedlnfdanaaDoorTBox
namespace Go.Proofs.YtonjnedlnfdanaaDoor
set_option linter.unusedSimpArgs false
set_option linter.unusedVariables false
open Go.ChangeShapes Go.WideShapes Go.ChangeAt Go.RowKit Go.Joins

theorem setFrom_take : ∀ (ys : List Value) (k : Nat) (cur : Array Value), k + ys.length ≤ cur.size → (setFrom cur k ys).toList.take (k + ys.length) = cur.toList.take k ++ ys
  | [], k, cur, _ => by simp [setFrom]
  | y :: ys, k, cur, h => by
    simp only [List.length_cons] at h
    have ih := setFrom_take ys (k + 1) (cur.setIfInBounds k y) (by simp; omega)
    rw [setFrom, List.length_cons, show k + (ys.length + 1) = k + 1 + ys.length by omega, ih, Array.toList_setIfInBounds]
    have e : (cur.toList.set k y).take (k + 1) = cur.toList.take k ++ [y] := by
      rw [List.take_succ_eq_append_getElem (by simp; omega)]
      simp [List.take_set]
      exact List.set_eq_of_length_le (by simp; omega)
    rw [e]
    simp
theorem setFrom_prefix : ∀ (ys : List Value) (k m : Nat) (cur : Array Value), m ≤ k → (setFrom cur k ys).toList.take m = cur.toList.take m
  | [], _, _, _, _ => rfl
  | y :: ys, k, m, cur, h => by
    rw [setFrom, setFrom_prefix ys (k + 1) m _ (by omega), Array.toList_setIfInBounds, List.take_set, List.set_eq_of_length_le (by simp; omega)]
/-- A slice of no elements; of one element, of such cells; a copy of a row. -/
def NilB (N : Nat) (T : TypeId) (v : Value) (w : World) : Prop := ∃ g, v = .slice (some ⟨g, 0, none⟩) 0 0 ∧ N ≤ g ∧ TBox T g #[] w
def OneB (N : Nat) (T : TypeId) (ys : List Value) (v : Value) (w : World) : Prop := ∃ g, v = .slice (some ⟨g, 0, none⟩) 1 1 ∧ N ≤ g ∧ TBox T g ys.toArray w
def CopyB (N : Nat) (T : TypeId) (s n : Nat) (xs : List Value) (v : Value) (w : World) : Prop := w.ownsRow N T s v n xs ∧ (n = 0 → ∃ ao, v = .slice ao 0 0)
theorem NilB.below {N : Nat} {T : TypeId} {v : Value} {w w' : World} (h : NilB N T v w) (hb : Below w.heap.size w w') : NilB N T v w' := by
  obtain ⟨g, e, hn, h⟩ := h
  exact ⟨g, e, hn, h.below hb⟩
theorem OneB.below {N : Nat} {T : TypeId} {ys : List Value} {v : Value} {w w' : World} (h : OneB N T ys v w) (hb : Below w.heap.size w w') : OneB N T ys v w' := by
  obtain ⟨g, e, hn, h⟩ := h
  exact ⟨g, e, hn, h.below hb⟩
theorem CopyB.below {N : Nat} {T : TypeId} {s n : Nat} {xs : List Value} {v : Value} {w w' : World} (h : CopyB N T s n xs v w) (hb : Below w.heap.size w w') : CopyB N T s n xs v w' := ⟨owned_below h.1 hb, h.2⟩
theorem nilB_new {N : Nat} (W : World) (T : TypeId) (hN : N ≤ W.heap.size) : NilB N T (.slice (some ⟨W.heap.size, 0, none⟩) 0 0) (W.alloc (.cells #[] T)) := ⟨_, rfl, hN, TBox.new _ _ _⟩
theorem oneB_new {N : Nat} (W : World) (T : TypeId) (ys : List Value) (hN : N ≤ W.heap.size) : OneB N T ys (.slice (some ⟨W.heap.size, 0, none⟩) 1 1) (W.alloc (.cells ys.toArray T)) := ⟨_, rfl, hN, TBox.new _ _ _⟩
theorem NilB.under {N : Nat} {T : TypeId} {v : Value} {w : World} (h : NilB N T v w) {g : Nat} (hg : g < N) (k : Nat) (u : Value) : NilB N T v (w.setCell ⟨g, k, none⟩ u) := by
  obtain ⟨b, e, hn, h⟩ := h
  exact ⟨b, e, hn, h.other (by omega) k u⟩
theorem OneB.under {N : Nat} {T : TypeId} {ys : List Value} {v : Value} {w : World} (h : OneB N T ys v w) {g : Nat} (hg : g < N) (k : Nat) (u : Value) : OneB N T ys v (w.setCell ⟨g, k, none⟩ u) := by
  obtain ⟨b, e, hn, h⟩ := h
  exact ⟨b, e, hn, h.other (by omega) k u⟩
theorem CopyB.under {N : Nat} {T : TypeId} {s n : Nat} {xs : List Value} {v : Value} {w : World} (h : CopyB N T s n xs v w) {g : Nat} (hg : g < N) (k : Nat) (u : Value) : CopyB N T s n xs v (w.setCell ⟨g, k, none⟩ u) := ⟨OwnV.under h.1 hg k u, h.2⟩
theorem NilB.owns {N : Nat} {T : TypeId} {v : Value} {w : World} (h : NilB N T v w) (s : Nat) : CopyB N T s 0 [] v w := by
  obtain ⟨g, rfl, hn, h⟩ := h
  exact ⟨⟨by simp, .inr ⟨g, 0, #[], rfl, hn, h, Nat.le_refl _, by decide, by simp, by simp⟩⟩, fun _ => ⟨_, rfl⟩⟩
theorem copyB_nil (N : Nat) (T : TypeId) (s : Nat) (w : World) : CopyB N T s 0 [] (.slice none 0 0) w := ⟨⟨by simp, .inl ⟨rfl, rfl⟩⟩, fun _ => ⟨_, rfl⟩⟩
/-- An element stored in place, behind a row. -/
def InPl (N : Nat) (T : TypeId) (s n k : Nat) (ys : List Value) (v : Value) (w w' : World) : Prop := ∃ g cap cur, v = .slice (some ⟨g, 0, none⟩) n cap ∧ N ≤ g ∧ TBox T g cur w ∧ cur.size = cap * s ∧ (n + k ≤ cap ∧ 1 ≤ k) ∧ 1 ≤ n ∧ w' = putsL g (n * s) ys w
section
variable {N : Nat} {T : TypeId} {s n k : Nat} {ys : List Value} {v : Value} {w w' : World}
theorem InPl.lower (h : InPl N T s n k ys v w w') : Below N w w' := by
  obtain ⟨g, cap, cur, -, hN, -, -, -, -, rfl⟩ := h
  exact putsL_below hN _ _ _
theorem InPl.size (h : InPl N T s n k ys v w w') : w'.heap.size = w.heap.size := by
  obtain ⟨g, cap, cur, -, hN, -, -, -, -, rfl⟩ := h
  exact putsL_size _ _ _
theorem NilB.inPl {v0 : Value} (h0 : NilB N T v0 w) (h : InPl N T s n k ys v w w') (hs : 1 ≤ s) : NilB N T v0 w' := by
  obtain ⟨b, e, hn, hb⟩ := h0
  obtain ⟨g, cap, cur, -, hN, hg, hc, h1, h2, rfl⟩ := h
  refine ⟨b, e, hn, hb.of_block (putsL_other ?_ _ _ _)⟩
  rintro rfl
  have := hb.symm.trans hg
  injection this with this
  injection this with this
  have h3 : cur.size = 0 := by rw [← this]; rfl
  have h4 : 1 * 1 ≤ cap * s := Nat.mul_le_mul (by omega) hs
  omega
theorem OneB.inPl {y0 : List Value} {v0 : Value} (h0 : OneB N T y0 v0 w) (h : InPl N T s n k ys v w w') (hs : 1 ≤ s) (hl : y0.length = s) : OneB N T y0 v0 w' := by
  obtain ⟨b, e, hn, hb⟩ := h0
  obtain ⟨g, cap, cur, -, hN, hg, hc, h1, h2, rfl⟩ := h
  refine ⟨b, e, hn, hb.of_block (putsL_other ?_ _ _ _)⟩
  rintro rfl
  have := hb.symm.trans hg
  injection this with this
  injection this with this
  have h3 : cur.size = s := by rw [← this]; simpa using hl
  have h4 : 2 * s ≤ cap * s := Nat.mul_le_mul_right s (by omega)
  omega
theorem own_inPl {m : Nat} {zs : List Value} {v0 : Value} (h0 : w.ownsRow N T s v0 m zs) (h : InPl N T s n k ys v w w') (hl : ys.length = k * s) (hm : m ≤ n ∨ ∃ xs, m = n + k ∧ zs = xs ++ ys) : w'.ownsRow N T s v0 m zs := by
  obtain ⟨g, cap, cur, -, hN, hg, hc, h1, h2, rfl⟩ := h
  rcases h0.2 with ⟨hv, e⟩ | ⟨b, cap', cur', hv, hb, hgb, hnc, hcm, hcs, htk⟩
  · exact ⟨h0.1, .inl ⟨hv, e⟩⟩
  · by_cases e : b = g
    · subst e
      have := hg.symm.trans hgb
      injection this with this
      injection this with this
      subst this
      refine ⟨h0.1, .inr ⟨b, cap', _, hv, hb, hg.putsL ys (n * s), hnc, hcm, by rw [setFrom_size]; exact hcs, ?_⟩⟩
      rcases hm with hm | ⟨xs, rfl, rfl⟩
      · rw [setFrom_prefix ys (n * s) (m * s) cur (Nat.mul_le_mul_right s hm)]
        exact htk
      · have e1 : (n + k) * s = n * s + ys.length := by rw [Nat.add_mul, hl]
        have hxl : xs.length = n * s := by
          have := h0.1
          rw [List.length_append, e1] at this
          omega
        have hle : n * s + ys.length ≤ cur.size := by rw [← e1, hc]; exact Nat.mul_le_mul_right s h1.1
        rw [e1, setFrom_take ys (n * s) cur hle]
        congr 1
        have h5 := congrArg (List.take (n * s)) htk
        rw [List.take_take, e1, Nat.min_eq_left (Nat.le_add_right _ _), List.take_append_of_le_length (Nat.le_of_eq hxl.symm)] at h5
        rw [h5, List.take_of_length_le (Nat.le_of_eq hxl)]
    · exact ⟨h0.1, .inr ⟨b, cap', cur', hv, hb, (putsL_other e _ _ _).trans hgb, hnc, hcm, hcs, htk⟩⟩
theorem CopyB.inPl {xs : List Value} {v0 : Value} (h0 : CopyB N T s n xs v0 w) (h : InPl N T s n k ys v w w') (hl : ys.length = k * s) : CopyB N T s n xs v0 w' := ⟨own_inPl h0.1 h hl (.inl (Nat.le_refl _)), h0.2⟩
theorem CellsV.inPl {g : Nat} {xs : List Value} {v0 : Value} (h0 : CellsV g xs v0 w) (h : InPl N T s n k ys v w w') (hg : g < N) : CellsV g xs v0 w' := by
  obtain ⟨b, cap, cur, -, hN, -, -, -, -, rfl⟩ := h
  have hne : ¬ g = b := by omega
  exact ⟨by rw [putsL_size]; exact h0.1, fun j u hj => by rw [World.cell?_of_block (w := w) (a := ⟨g, j, none⟩) (putsL_other hne _ _ _)]; exact h0.2 j u hj⟩
theorem ShapeN.inPl {g m : Nat} (h0 : ShapeN g m w) (h : InPl N T s n k ys v w w') (hg : g < N) : ShapeN g m w' := by
  obtain ⟨b, cap, cur, -, hN, -, -, -, -, rfl⟩ := h
  have hne : ¬ g = b := by omega
  refine ⟨by rw [putsL_size]; exact h0.1, fun j hj => ?_⟩
  rw [World.cell?_of_block (w := w) (a := ⟨g, j, none⟩) (putsL_other hne _ _ _), World.frozen?_of_block (w := w) (a := ⟨g, j, none⟩) (putsL_other hne _ _ _)]
  exact h0.2 j hj
end
section
variable {P : Program} {o : Oper} {a : Act} {w : World} {K : Act → World → Prop} {Q : Exit → Act → World → Prop}
/-- 'append([]T{}, x...)' as one step of a region. -/
theorem step_copy (hg : o.guard = none) (so x : Operand) (t : TypeId) (hop : o.op = Op.call { callee := Callee.builtin Builtin.append, args := #[so, x], argTypes := #[t, t] })
    (e : TypeId) (i : TypeInfo) (z0 : Value) (s bytes : Nat) (h1 : P.underlying t = some (.slice e)) (h2 : P.info? e = some i) (h3 : i.zero = some z0) (h4 : i.size = s) (h5 : i.bytes = bytes) (h6 : z0.cells.size = s) (h7 : 0 < s)
    (N : Nat) (v : Value) (hs : a.eval so = v) (hown : CopyB N e s 0 [] v w) (p : Option Addr) (n c : Nat) (xs : List Value) (hx : a.eval x = .slice p n c) (hl : xs.length = n * s) (hnil : p = none → n = 0)
    (hcells : ∀ ad, p = some ad → ∀ j u, xs[j]? = some u → w.cell? (ad.add j) = some u) (h1c : ∀ u ∈ xs, u.oneCell' = true)
    (b1 : n ≤ maxLen) (b2 : n * bytes ≤ 140737488355328) (hN : N ≤ w.heap.size)
    (hK : ∀ v' w', CopyB N e s n xs v' w' → Below w.heap.size w w' → K (a.put o.dst v') w') : o.wp P a w K Q := by
  obtain ⟨ho, hv0⟩ := hown
  obtain ⟨ao, rfl⟩ := hv0 rfl
  by_cases h0 : n = 0
  · subst h0
    have hrun := run_append_zero (P := P) (w := w) t o.type e i h1 h2 ao 0 0 (Nat.le_refl _) p c
    unfold Oper.wp
    simp [execOp, hop, resolve, invoke, builtin, hs, hx, hrun, Result.andThen]
    obtain rfl : xs = [] := List.eq_nil_of_length_eq_zero (by omega)
    exact hK _ _ ⟨ho, fun _ => ⟨_, rfl⟩⟩ (Below.refl _ _)
  · cases p with
    | none => exact absurd (hnil rfl) h0
    | some ad =>
      refine wp_wanted hg (step_append_grows hg so x t hop e i z0 s bytes h1 h2 h3 h4 h5 h6 h7 ao 0 0 [] hs (fun _ => ⟨rfl, rfl⟩) (by simp) (fun b _ j u hj => by simp at hj) ad n c xs hx hl (hcells ad rfl) h1c (by omega) (by rw [Nat.zero_add]; exact b1) (by rw [Nat.zero_add]; exact b2) fun v' w' h hgr => ?_)
      rw [Nat.zero_add, List.nil_append] at h
      exact hK v' w' ⟨owned_base h hN, fun e => absurd e h0⟩ ((Below.refl _ _).grown hgr (Nat.le_refl _) (fun k hk => by cases hk))
/-- 'append(s, x...)', s a copy, as one step of a region: in place, or a new row. -/
theorem step_many (hg : o.guard = none) (so x : Operand) (t : TypeId) (hop : o.op = Op.call { callee := Callee.builtin Builtin.append, args := #[so, x], argTypes := #[t, t] })
    (e : TypeId) (i : TypeInfo) (z0 : Value) (s bytes : Nat) (h1 : P.underlying t = some (.slice e)) (h2 : P.info? e = some i) (h3 : i.zero = some z0) (h4 : i.size = s) (h5 : i.bytes = bytes) (h6 : z0.cells.size = s) (h7 : 0 < s)
    (N : Nat) (v : Value) (n : Nat) (xs : List Value) (hs : a.eval so = v) (hown : CopyB N e s n xs v w) (p : Option Addr) (m c : Nat) (ys : List Value) (hx : a.eval x = .slice p m c) (hyl : ys.length = m * s) (hnil : p = none → m = 0)
    (hcells : ∀ ad, p = some ad → ∀ j u, ys[j]? = some u → w.cell? (ad.add j) = some u) (h1c : ∀ y ∈ ys, y.oneCell' = true)
    (b1 : n + m ≤ maxLen) (b2 : (n + m) * bytes ≤ 140737488355328) (hN : N ≤ w.heap.size)
    (hK : ∀ v' w', w'.ownsRow N e s v' (n + m) (xs ++ ys) → (Below w.heap.size w w' ∨ InPl N e s n m ys v w w') → K (a.put o.dst v') w') : o.wp P a w K Q := by
  obtain ⟨hown, hz⟩ := hown
  have hlen := hown.1
  by_cases hm0 : m = 0
  · subst hm0
    obtain rfl : ys = [] := List.eq_nil_of_length_eq_zero (by omega)
    obtain ⟨ao, cap, hv, hcap⟩ : ∃ ao cap, v = .slice ao n cap ∧ n ≤ cap := by
      rcases hown.2 with ⟨hv, h0⟩ | ⟨g, cap, cur, hv, -, -, hnc, -⟩
      · exact ⟨none, 0, by rw [hv, h0], by omega⟩
      · exact ⟨_, cap, hv, hnc⟩
    subst hv
    have hrun := run_append_zero (P := P) (w := w) t o.type e i h1 h2 ao n cap hcap p c
    unfold Oper.wp
    simp [execOp, hop, resolve, invoke, builtin, hs, hx, hrun, Result.andThen]
    exact hK _ _ (by simpa using hown) (.inl (Below.refl _ _))
  · cases p with
    | none => exact absurd (hnil rfl) hm0
    | some ad =>
    have hc := hcells ad rfl
    rcases hown.2 with ⟨hv, h0⟩ | ⟨g, cap, cur, hv, hb, hg', hnc, hcm, hcs, htake⟩
    · subst h0
      obtain rfl : xs = [] := List.eq_nil_of_length_eq_zero (by omega)
      refine wp_wanted hg (step_append_grows hg so x t hop e i z0 s bytes h1 h2 h3 h4 h5 h6 h7 none 0 0 [] (hs.trans hv) (fun _ => ⟨rfl, rfl⟩) (by simp) (fun b hb => by cases hb) ad m c ys hx hyl hc h1c (by omega) b1 b2 fun v' w' ho hgr => ?_)
      exact hK v' w' (owned_base (by simpa using ho) hN) (.inl ((Below.refl _ _).grown hgr (Nat.le_refl _) (fun k hk => by cases hk)))
    · by_cases hr : n + m ≤ cap
      · have hn1 : 1 ≤ n := by
          rcases Nat.eq_zero_or_pos n with h0 | h0
          · obtain ⟨ao, e'⟩ := hz h0
            rw [hv] at e'
            injection e' with _ _ e'
            omega
          · exact h0
        have e1 : (n + m) * s = n * s + ys.length := by rw [Nat.add_mul, hyl]
        have hle : n * s + ys.length ≤ cur.size := by
          rw [hcs, ← e1]
          exact Nat.mul_le_mul_right s hr
        have hspare : ∀ j, j < ys.length → (w.cell? ⟨g, 0 + n * s + j, none⟩).isSome = true ∧ w.frozen? ⟨g, 0 + n * s + j, none⟩ = false := fun j hj => by
          refine ⟨?_, frozen_of_row w g _ cur e hg'⟩
          rw [cell_of_row w g _ cur e _ hg', Array.getElem?_eq_getElem (show 0 + n * s + j < cur.size by omega)]
          rfl
        refine wp_wanted hg (step_append_room hg so x t hop e i s h1 h2 h4 g 0 n cap (hs.trans hv) ad m c ys hx hyl hc h1c hr hspare ?_)
        rw [setCells_putsL, Nat.zero_add]
        have hin : InPl N e s n m ys v w (putsL g (n * s) ys w) := ⟨g, cap, cur, hv, hb, hg', hcs, ⟨hr, by omega⟩, hn1, rfl⟩
        refine hK _ _ ⟨by rw [List.length_append, hlen, e1], .inr ⟨g, cap, _, rfl, hb, TBox.putsL (T := e) ys (n * s) hg', hr, hcm, by rw [setFrom_size]; exact hcs, ?_⟩⟩ (.inr hin)
        rw [e1, setFrom_take ys (n * s) cur hle, htake]
      · refine wp_wanted hg (step_append_grows hg so x t hop e i z0 s bytes h1 h2 h3 h4 h5 h6 h7 (some ⟨g, 0, none⟩) n cap xs (hs.trans hv) (fun h => by cases h) hlen (fun b hb' j y hj => ?_) ad m c ys hx hyl hc h1c (by omega) b1 b2 fun v' w' ho hgr => ?_)
        · injection hb' with hb'
          subst hb'
          have hjn : j < n * s := by have := (List.getElem?_eq_some_iff.1 hj).1; omega
          rw [add_none, Nat.zero_add, cell_of_row w g _ cur e _ hg', ← Array.getElem?_toList]
          rw [← htake, List.getElem?_take, if_pos hjn] at hj
          exact hj
        · exact hK v' w' (owned_base ho hN) (.inl ((Below.refl _ _).grown hgr (Nat.le_refl _) (fun k hk => by cases hk)))
/-- .. and of one element. -/
theorem step_more (hg : o.guard = none) (so x : Operand) (t : TypeId) (hop : o.op = Op.call { callee := Callee.builtin Builtin.append, args := #[so, x], argTypes := #[t, t] })
    (e : TypeId) (i : TypeInfo) (z0 : Value) (s bytes : Nat) (h1 : P.underlying t = some (.slice e)) (h2 : P.info? e = some i) (h3 : i.zero = some z0) (h4 : i.size = s) (h5 : i.bytes = bytes) (h6 : z0.cells.size = s) (h7 : 0 < s)
    (N : Nat) (v : Value) (n : Nat) (xs : List Value) (hs : a.eval so = v) (hown : CopyB N e s n xs v w) (u : Value) (ys : List Value) (hx : a.eval x = u) (hone : OneB N e ys u w) (hyl : ys.length = s) (h1c : ∀ y ∈ ys, y.oneCell' = true)
    (b1 : n + 1 ≤ maxLen) (b2 : (n + 1) * bytes ≤ 140737488355328) (hN : N ≤ w.heap.size)
    (hK : ∀ v' w', w'.ownsRow N e s v' (n + 1) (xs ++ ys) → (Below w.heap.size w w' ∨ InPl N e s n 1 ys v w w') → K (a.put o.dst v') w') : o.wp P a w K Q := by
  obtain ⟨ad, rfl, -, hT⟩ := hone
  refine step_many hg so x t hop e i z0 s bytes h1 h2 h3 h4 h5 h6 h7 N v n xs hs hown (some ⟨ad, 0, none⟩) 1 1 ys hx (by omega) (fun h => by cases h) (fun b hb j y hj => ?_) h1c b1 b2 hN hK
  injection hb with hb
  subst hb
  rw [add_off, Nat.zero_add, hT.cell]
  simpa using hj
end
end Go.Proofs.YtonjnedlnfdanaaDoor
