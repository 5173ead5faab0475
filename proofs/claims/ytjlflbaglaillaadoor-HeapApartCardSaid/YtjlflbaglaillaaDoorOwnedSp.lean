/- Rows of spans that a call makes: what it owns, read as data. -/
import Derived.Test.YtjlflbaglaillaaDoorOwned
import Derived.Test.YtjlflbaglaillaaDoorSpans
namespace Go.Proofs.YtjlflbaglaillaaDoor
set_option linter.unusedSimpArgs false
set_option linter.unusedVariables false
open Go.ChangeShapes Go.WideShapes Go.ChangeAt Go.RowKit Go.Joins

def Sp.vals (s : Sp) : List Value := [.int .i64 s.st, .int .i64 s.cl, .int .u32 s.fr]
/-- The cells of n spans. -/
def spVals (n : Nat) (s : Nat → Sp) : List Value := (List.range n).flatMap fun i => (s i).vals
theorem spVals_snoc (n : Nat) (s : Nat → Sp) : spVals n s ++ (s n).vals = spVals (n + 1) s := by simp [spVals, List.range_succ]
theorem spVals_length (n : Nat) (s : Nat → Sp) : (spVals n s).length = n * 3 := by
  induction n with
  | zero => rfl
  | succ n ih => rw [← spVals_snoc, List.length_append, ih]; simp [Sp.vals]; omega
theorem spVals_get (s : Nat → Sp) : ∀ {n i : Nat}, i < n → (spVals n s)[i * 3]? = some (.int .i64 (s i).st) ∧ (spVals n s)[i * 3 + 1]? = some (.int .i64 (s i).cl) ∧ (spVals n s)[i * 3 + 2]? = some (.int .u32 (s i).fr)
  | 0, i, h => by omega
  | n + 1, i, h => by
    rw [← spVals_snoc]
    have hl := spVals_length n s
    by_cases e : i = n
    · subst e
      refine ⟨?_, ?_, ?_⟩
      · rw [List.getElem?_append_right (by omega), hl]; simp [Sp.vals]
      · rw [List.getElem?_append_right (by omega), hl, show i * 3 + 1 - i * 3 = 1 by omega]; rfl
      · rw [List.getElem?_append_right (by omega), hl, show i * 3 + 2 - i * 3 = 2 by omega]; rfl
    · have ih := spVals_get s (n := n) (i := i) (by omega)
      refine ⟨?_, ?_, ?_⟩
      · rw [List.getElem?_append_left (by omega)]; exact ih.1
      · rw [List.getElem?_append_left (by omega)]; exact ih.2.1
      · rw [List.getElem?_append_left (by omega)]; exact ih.2.2
theorem spVals_congr {n : Nat} {s t : Nat → Sp} (h : ∀ i, i < n → s i = t i) : spVals n s = spVals n t := by
  induction n with
  | zero => rfl
  | succ n ih => rw [← spVals_snoc, ← spVals_snoc, ih fun i hi => h i (by omega), h n (by omega)]
theorem vals_oneCell (s : Sp) : ∀ u ∈ s.vals, u.oneCell' = true := by
  intro u hu
  simp [Sp.vals] at hu
  rcases hu with rfl | rfl | rfl <;> rfl
/-- What a call owns, as spans. -/
theorem spans_owned {w : World} {base : Nat} {e : TypeId} {p : Option Addr} {n cap : Nat} {s : Nat → Sp} (h : w.ownsRow base e 3 (.slice p n cap) n (spVals n s)) (hw : ∀ i, i < n → (s i).wf) : Spans w p n s := by
  intro i hi
  refine ⟨?_, hw i hi⟩
  rcases h.2 with ⟨-, h0⟩ | ⟨g, cap', cur, hv, hb, hg, hn, hm, hs, ht⟩
  · omega
  · have e0 : p = some ⟨g, 0, none⟩ := by injection hv
    subst e0
    have hlt : g < w.heap.size := by
      rcases Nat.lt_or_ge g w.heap.size with h' | h'
      · exact h'
      · rw [Array.getElem?_eq_none h'] at hg; cases hg
    obtain ⟨a0, a1, a2⟩ := spVals_get s hi
    rw [← ht] at a0 a1 a2
    rw [List.getElem?_take, if_pos (by omega)] at a0 a1 a2
    refine ⟨g, 0, rfl, hlt, ?_, ?_, ?_⟩
    · rw [Nat.zero_add, cell_of_row w g _ cur e (0, 0) hg]; simpa using a0
    · rw [Nat.zero_add, cell_of_row w g _ cur e (0, 0) hg]; simpa using a1
    · rw [Nat.zero_add, cell_of_row w g _ cur e (0, 0) hg]; simpa using a2
/-- What stays behind a write into another row. -/
theorem grown_heap {w w' : World} {row : Option Nat} (hg : w.grownBy w' row) {b : Nat} (hl : b < w.heap.size) (hne : row ≠ some b) : w'.heap[b]? = w.heap[b]? := hg.block b hl (fun e => hne e.symm)
theorem Box3.grown {b : Nat} {x y z : Value} {w w' : World} {row : Option Nat} (h : Box3 b x y z w) (hg : w.grownBy w' row) (hne : row ≠ some b) : Box3 b x y z w' := by
  obtain ⟨h0, h1, h2, h3, h4, h5, h6⟩ := h
  have e := grown_heap hg h0 hne
  refine ⟨Nat.lt_of_lt_of_le h0 hg.size, ?_, ?_, ?_, ?_, ?_, ?_⟩
  · rw [World.cell?_of_block (w := w) (a := ⟨b, _, none⟩) e]; exact h1
  · rw [World.cell?_of_block (w := w) (a := ⟨b, _, none⟩) e]; exact h2
  · rw [World.cell?_of_block (w := w) (a := ⟨b, _, none⟩) e]; exact h3
  · rw [World.frozen?_of_block (w := w) (a := ⟨b, _, none⟩) e]; exact h4
  · rw [World.frozen?_of_block (w := w) (a := ⟨b, _, none⟩) e]; exact h5
  · rw [World.frozen?_of_block (w := w) (a := ⟨b, _, none⟩) e]; exact h6
theorem SpBox.grown {b : Nat} {st cl fr : Int} {w w' : World} {row : Option Nat} (h : SpBox b st cl fr w) (hg : w.grownBy w' row) (hne : row ≠ some b) : SpBox b st cl fr w' := Box3.grown (x := .int .i64 st) (y := .int .i64 cl) (z := .int .u32 fr) h hg hne
theorem three_new (w : World) (a b c : Value) (t : TypeId) : ∀ j u, [a, b, c][j]? = some u → (w.alloc (.cells #[a, b, c] t)).cell? ((⟨w.heap.size, 0, none⟩ : Addr).add j) = some u := by
  intro j u hj
  match j, hj with
  | 0, hj => simp at hj; subst hj; simp [Addr.add]
  | 1, hj => simp at hj; subst hj; simp [Addr.add]
  | 2, hj => simp at hj; subst hj; simp [Addr.add]
end Go.Proofs.YtjlflbaglaillaaDoor
