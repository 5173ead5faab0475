/- Rows of values (two cells each), as data. -/
import Derived.Test.YtonjnedlnfdanaaDoorTBox
namespace Go.Proofs.YtonjnedlnfdanaaDoor
set_option linter.unusedSimpArgs false
set_option linter.unusedVariables false
open Go.ChangeShapes Go.WideShapes Go.ChangeAt Go.RowKit Go.Joins

/-- A value: its kind, its number. -/
structure Vl where
  k : Int
  n : Int
instance : Inhabited Vl := ⟨⟨0, 0⟩⟩
def Vl.wf (v : Vl) : Prop := (Lit.int .i64 v.k).wf = true ∧ (Lit.int .i64 v.n).wf = true
def Vl.agg (v : Vl) : Value := .agg #[.int .i64 v.k, .int .i64 v.n]
def Vl.vals (v : Vl) : List Value := [.int .i64 v.k, .int .i64 v.n]
def Valr (W : World) (p : Option Addr) (n : Nat) (s : Nat → Vl) : Prop :=
  ∀ i, i < n → (∃ b off, p = some ⟨b, off, none⟩ ∧ b < W.heap.size ∧ W.cell? ⟨b, off + i * 2, none⟩ = some (.int .i64 (s i).k) ∧ W.cell? ⟨b, off + i * 2 + 1, none⟩ = some (.int .i64 (s i).n)) ∧ (s i).wf
theorem Valr.below {W W' : World} {p : Option Addr} {n : Nat} {s : Nat → Vl} (h : Valr W p n s) (hb : Below W.heap.size W W') : Valr W' p n s := fun i hi => by
  obtain ⟨⟨b, off, e, hlt, h0, h1⟩, hw⟩ := h i hi
  exact ⟨⟨b, off, e, Nat.lt_of_lt_of_le hlt hb.size, by rw [hb.cell (p := ⟨b, _, none⟩) hlt]; exact h0, by rw [hb.cell (p := ⟨b, _, none⟩) hlt]; exact h1⟩, hw⟩
theorem Valr.congr {W : World} {p : Option Addr} {n : Nat} {s s' : Nat → Vl} (h : Valr W p n s) (e : ∀ i, i < n → s i = s' i) : Valr W p n s' := fun i hi => by rw [← e i hi]; exact h i hi
theorem Valr.wf {W : World} {p : Option Addr} {n : Nat} {s : Nat → Vl} (h : Valr W p n s) : ∀ i, i < n → (s i).wf := fun i hi => (h i hi).2
theorem Valr.less {W : World} {p : Option Addr} {n m : Nat} {s : Nat → Vl} (h : Valr W p n s) (hm : m ≤ n) : Valr W p m s := fun i hi => h i (by omega)
theorem Valr.of_block {w w' : World} {p : Option Addr} {n : Nat} {s : Nat → Vl} (h : Valr w p n s) (hl : w.heap.size ≤ w'.heap.size) (e : 0 < n → ∀ b off sp, p = some ⟨b, off, sp⟩ → w'.heap[b]? = w.heap[b]?) : Valr w' p n s := fun i hi => by
  obtain ⟨⟨b, off, ep, hlt, h0, h1⟩, hw⟩ := h i hi
  have hb := e (by omega) b off none ep
  exact ⟨⟨b, off, ep, Nat.lt_of_lt_of_le hlt hl, by rw [World.cell?_of_block (w := w) (a := ⟨b, _, none⟩) hb]; exact h0, by rw [World.cell?_of_block (w := w) (a := ⟨b, _, none⟩) hb]; exact h1⟩, hw⟩
/-- The cells of n values. -/
def vlVals (n : Nat) (s : Nat → Vl) : List Value := (List.range n).flatMap fun i => (s i).vals
theorem vlVals_snoc (n : Nat) (s : Nat → Vl) : vlVals n s ++ (s n).vals = vlVals (n + 1) s := by simp [vlVals, List.range_succ]
theorem vlVals_length (n : Nat) (s : Nat → Vl) : (vlVals n s).length = n * 2 := by
  induction n with
  | zero => rfl
  | succ n ih => rw [← vlVals_snoc, List.length_append, ih]; simp [Vl.vals]; omega
theorem vlVals_get (s : Nat → Vl) : ∀ {n i : Nat}, i < n → (vlVals n s)[i * 2]? = some (.int .i64 (s i).k) ∧ (vlVals n s)[i * 2 + 1]? = some (.int .i64 (s i).n)
  | 0, i, h => by omega
  | n + 1, i, h => by
    rw [← vlVals_snoc]
    have hl := vlVals_length n s
    by_cases e : i = n
    · subst e
      refine ⟨?_, ?_⟩
      · rw [List.getElem?_append_right (by omega), hl]; simp [Vl.vals]
      · rw [List.getElem?_append_right (by omega), hl, show i * 2 + 1 - i * 2 = 1 by omega]; rfl
    · have ih := vlVals_get s (n := n) (i := i) (by omega)
      exact ⟨by rw [List.getElem?_append_left (by omega)]; exact ih.1, by rw [List.getElem?_append_left (by omega)]; exact ih.2⟩
theorem vlVals_congr {n : Nat} {s t : Nat → Vl} (h : ∀ i, i < n → s i = t i) : vlVals n s = vlVals n t := by
  induction n with
  | zero => rfl
  | succ n ih => rw [← vlVals_snoc, ← vlVals_snoc, ih fun i hi => h i (by omega), h n (by omega)]
theorem vl_one (v : Vl) : ∀ u ∈ v.vals, u.oneCell' = true := by
  intro u hu
  simp [Vl.vals] at hu
  rcases hu with rfl | rfl <;> rfl
theorem vlVals_one (n : Nat) (s : Nat → Vl) : ∀ u ∈ vlVals n s, u.oneCell' = true := by
  intro u hu
  obtain ⟨i, -, h⟩ := List.mem_flatMap.1 hu
  exact vl_one _ u h
/-- The cells where an append looks for them. -/
theorem Valr.cells {W : World} {p : Option Addr} {n : Nat} {s : Nat → Vl} (h : Valr W p n s) : ∀ ad, p = some ad → ∀ j u, (vlVals n s)[j]? = some u → W.cell? (ad.add j) = some u := fun ad e j u hj => by
  have hjn : j < n * 2 := by have := (List.getElem?_eq_some_iff.1 hj).1; rwa [vlVals_length] at this
  obtain ⟨⟨b, off, e', -, h0, h1⟩, -⟩ := h (j / 2) (by omega)
  rw [e] at e'
  injection e' with e'
  subst e'
  obtain ⟨g0, g1⟩ := vlVals_get s (n := n) (i := j / 2) (by omega)
  rw [add_off]
  by_cases hj2 : j % 2 = 0
  · have e2 : j = j / 2 * 2 := by omega
    rw [e2, g0] at hj
    rw [show off + j = off + j / 2 * 2 by omega]
    exact h0.trans hj
  · have e2 : j = j / 2 * 2 + 1 := by omega
    rw [e2] at hj
    rw [g1] at hj
    rw [show off + j = off + j / 2 * 2 + 1 by omega]
    exact h1.trans hj
/-- What a call owns, as values. -/
theorem valr_owned {w : World} {base : Nat} {e : TypeId} {p : Option Addr} {n cap : Nat} {s : Nat → Vl} (h : w.ownsRow base e 2 (.slice p n cap) n (vlVals n s)) (hw : ∀ i, i < n → (s i).wf) : Valr w p n s := by
  intro i hi
  refine ⟨?_, hw i hi⟩
  rcases h.2 with ⟨-, h0⟩ | ⟨g, cap', cur, hv, hb, hg, hn, hm, hs, ht⟩
  · omega
  · have e0 : p = some ⟨g, 0, none⟩ := by injection hv
    subst e0
    have hlt : g < w.heap.size := (Array.getElem?_eq_some_iff.1 hg).1
    obtain ⟨a0, a1⟩ := vlVals_get s hi
    rw [← ht] at a0 a1
    rw [List.getElem?_take, if_pos (by omega)] at a0 a1
    refine ⟨g, 0, rfl, hlt, ?_, ?_⟩
    · rw [Nat.zero_add, cell_of_row w g _ cur e (0, 0) hg]; simpa using a0
    · rw [Nat.zero_add, cell_of_row w g _ cur e (0, 0) hg]; simpa using a1
/-- What a row's slice reads as. -/
structure VAt (W : World) (p : Option Addr) (c n : Nat) (z : Nat → Vl) : Prop where
  row : Valr W p n z
  nle : n ≤ maxLen
  pnil : p = none → n = 0 ∧ c = 0
  ncap : n ≤ c ∧ c ≤ maxLen
theorem VAt.below {W W' : World} {p : Option Addr} {c n : Nat} {z : Nat → Vl} (h : VAt W p c n z) (hb : Below W.heap.size W W') : VAt W' p c n z := ⟨h.row.below hb, h.nle, h.pnil, h.ncap⟩
theorem VAt.of_block {w w' : World} {p : Option Addr} {c n : Nat} {z : Nat → Vl} (h : VAt w p c n z) (hl : w.heap.size ≤ w'.heap.size) (e : 0 < n → ∀ b off sp, p = some ⟨b, off, sp⟩ → w'.heap[b]? = w.heap[b]?) : VAt w' p c n z := ⟨h.row.of_block hl e, h.nle, h.pnil, h.ncap⟩
theorem VAt.setCell {w : World} {p : Option Addr} {c n : Nat} {z : Nat → Vl} (h : VAt w p c n z) {g : Nat} (hg : 0 < n → ∀ b off sp, p = some ⟨b, off, sp⟩ → b ≠ g) (j : Nat) (u : Value) : VAt (w.setCell ⟨g, j, none⟩ u) p c n z :=
  h.of_block (by simp [World.setCell]) fun h0 b off sp e => Below.heap_setCell w _ u b (hg h0 b off sp e)
theorem va_nil (W : World) (z : Nat → Vl) : VAt W none 0 0 z := ⟨fun i hi => by omega, by decide, fun _ => ⟨rfl, rfl⟩, Nat.le_refl _, by decide⟩
theorem va_owned {W : World} {N : Nat} {p : Option Addr} {c n : Nat} {z : Nat → Vl} (h : W.ownsRow N 30 2 (.slice p n c) n (vlVals n z)) (hn : n ≤ maxLen) (hw : ∀ i, i < n → (z i).wf) : VAt W p c n z where
  row := valr_owned h hw
  nle := hn
  pnil := fun e => by
    subst e
    rcases h.2 with ⟨hv, h0⟩ | ⟨g, cap', cur, hv, -⟩
    · injection hv with _ _ e; exact ⟨h0, e⟩
    · injection hv with e; cases e
  ncap := by
    rcases h.2 with ⟨hv, h0⟩ | ⟨g, cap', cur, hv, -, -, h1, h2, -⟩
    · injection hv with _ _ e; rw [h0, e]; exact ⟨Nat.le_refl _, by decide⟩
    · injection hv with _ _ e; subst e; exact ⟨h1, h2⟩
theorem VAt.lt {W : World} {p : Option Addr} {c n : Nat} {z : Nat → Vl} (h : VAt W p c n z) (h0 : 0 < n) : ∀ b off sp, p = some ⟨b, off, sp⟩ → b < W.heap.size := fun b off sp e => by
  obtain ⟨⟨b1, o1, e1, hl, -⟩, -⟩ := h.row 0 h0
  rw [e] at e1
  injection e1 with e1
  injection e1 with e1
  omega
section
variable {H : Type} {enc : TypeId × Value → H} {P : Program} {W : World} {base : Nat}
theorem trod_slice_vals {t e : TypeId} {f0 f1 : Field} {fuel : Nat} {v : Value} {y : DataW H × List MemPlace} (ht : P.underlying t = some (.slice e)) (he : P.underlying e = some (.struct #[f0, f1])) (hc : P.cellsOf e = 2)
    (hone : Go.Deep.oneCellFields P #[f0, f1] = true) (hu0 : P.underlying f0.type = some (.int .i64)) (hu1 : P.underlying f1.type = some (.int .i64))
    (hf : DataW.trod enc P W 0 (fun _ => true) true fuel t [v] = some y) :
    ∃ (p : Option Addr) (n cap : Nat) (s : Nat → Vl), v = .slice p n cap ∧ VAt W p cap n s := by
  rcases Go.Deep.open_slice ht hf with ⟨hcs, -⟩ | ⟨a, len, cap, m, nf, D, Pl, hcs, -, hl, hm, hmm, -, hx⟩
  · simp at hcs
    subst hcs
    exact ⟨none, 0, 0, fun _ => ⟨0, 0⟩, rfl, va_nil _ _⟩
  · simp at hcs
    subst hcs
    simp only [if_true] at hmm
    rw [hc] at hx
    have each : ∀ i, i < len → ∃ q : Vl, q.wf ∧ W.cell? (a.add (i * 2)) = some (.int .i64 q.k) ∧ W.cell? (a.add (i * 2 + 1)) = some (.int .i64 q.n) := by
      intro i hi
      obtain ⟨cs', h1, h2⟩ := hx i (by omega)
      obtain ⟨-, hlen, hcell⟩ := World.cells?_some h1
      obtain ⟨xs, k, -, -, -, hxl, hfl⟩ := DataW.trod_struct he h2
      match xs, hxl, cs', hlen with
      | [y0, y1], _, [v0, v1], _ =>
        have g0 := hfl 0 f0 rfl
        have g1 := hfl 1 f1 rfl
        obtain ⟨o0, k0⟩ := Go.Deep.hone_of hone 0 f0 rfl
        obtain ⟨o1, k1⟩ := Go.Deep.hone_of hone 1 f1 rfl
        simp [o0, k0] at g0
        simp [o1, k1] at g1
        obtain ⟨a0, e', -, wa⟩ := DataW.trod_int hu0 g0
        simp at e'
        subst e'
        obtain ⟨b0, e, -, wb⟩ := DataW.trod_int hu1 g1
        simp at e
        subst e
        have e0 := hcell 0 (by omega)
        have e1 := hcell 1 (by omega)
        rw [Go.Deep.add_add] at e0 e1
        exact ⟨⟨a0, b0⟩, ⟨wa, wb⟩, by simpa using e0, by simpa using e1⟩
    obtain ⟨q, hq⟩ := Go.Deep.choose_lt (α := Vl) (h := each)
    refine ⟨some a, len, cap, q, rfl, fun i hi => ?_, by omega, fun h => (by cases h), hl, hm⟩
    obtain ⟨hw, h0, h1⟩ := hq i hi
    obtain ⟨b, off, sp⟩ := a
    have hz := (hq 0 (by omega)).2.1
    rw [Nat.zero_mul, add_zero_self] at hz
    obtain rfl := no_spot hz
    rw [add_off] at h0 h1
    exact ⟨⟨b, off, rfl, World.block_lt_of_cell? W _ h0, h0, by rw [← Nat.add_assoc] at h1; exact h1⟩, hw⟩
theorem open_vals {t e : TypeId} {f0 f1 : Field} {v : Value} {d : DataW H} {p : List MemPlace} (ht : P.underlying t = some (.slice e)) (he : P.underlying e = some (.struct #[f0, f1])) (hc : P.cellsOf e = 2)
    (hone : Go.Deep.oneCellFields P #[f0, f1] = true) (hu0 : P.underlying f0.type = some (.int .i64)) (hu1 : P.underlying f1.type = some (.int .i64))
    (hok : Value.okWide P W .any base t v) (h : DataW.Trod enc P W 0 (fun _ => true) true t v d p) : ∃ (p : Option Addr) (n cap : Nat) (s : Nat → Vl), v = .slice p n cap ∧ VAt W p cap n s := by
  obtain ⟨p, n, cap, rfl⟩ := okWide_slice ht hok
  obtain ⟨fuel, hf⟩ := h
  exact trod_slice_vals ht he hc hone hu0 hu1 (by simpa [Value.cells] using hf)
end
theorem two_new (w : World) (a b : Value) (t : TypeId) : ∀ j u, [a, b][j]? = some u → (w.alloc (.cells #[a, b] t)).cell? ((⟨w.heap.size, 0, none⟩ : Addr).add j) = some u := by
  intro j u hj
  match j, hj with
  | 0, hj => simp at hj; subst hj; simp [Addr.add]
  | 1, hj => simp at hj; subst hj; simp [Addr.add]
end Go.Proofs.YtonjnedlnfdanaaDoor
