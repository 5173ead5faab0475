/- What stays where a call writes into some older blocks too, and a span stored into a row of one's own. -/
import Derived.Test.YtjlflbaglaillaaDoorHeapIn
namespace Go.Proofs.YtjlflbaglaillaaDoor
set_option linter.unusedSimpArgs false
set_option linter.unusedVariables false
open Go.ChangeShapes Go.WideShapes Go.ChangeAt Go.RowKit Go.Joins

/-- All blocks but some stay. -/
structure Aside (T : Nat → Prop) (W W' : World) : Prop where
  os : W'.os = W.os
  tape : W'.tape = W.tape
  output : W'.output = W.output
  size : W.heap.size ≤ W'.heap.size
  block : ∀ k, k < W.heap.size → ¬ T k → W'.heap[k]? = W.heap[k]?
theorem Aside.of {T : Nat → Prop} {W W' : World} (h : Below W.heap.size W W') : Aside T W W' := ⟨h.os, h.tape, h.output, h.size, fun k hk _ => h.block k hk⟩
theorem Aside.trans {T : Nat → Prop} {a b c : World} (h : Aside T a b) (k : Aside T b c) : Aside T a c :=
  ⟨k.os.trans h.os, k.tape.trans h.tape, k.output.trans h.output, Nat.le_trans h.size k.size, fun i hi ht => (k.block i (Nat.lt_of_lt_of_le hi h.size) ht).trans (h.block i hi ht)⟩
theorem Aside.below {T : Nat → Prop} {W W' : World} (h : Aside T W W') {n : Nat} (hn : n ≤ W.heap.size) (hT : ∀ k, T k → n ≤ k) : Below n W W' :=
  ⟨h.os, h.tape, h.output, h.size, fun k hk => h.block k (Nat.lt_of_lt_of_le hk hn) fun t => Nat.lt_irrefl _ (Nat.lt_of_lt_of_le hk (hT k t))⟩
theorem Aside.pure {W W' : World} (h : Aside (fun _ => False) W W') : Below W.heap.size W W' := h.below (Nat.le_refl _) fun _ t => t.elim
theorem Aside.setCell {T : Nat → Prop} {W W' : World} (h : Aside T W W') {g : Nat} (hg : T g) (i : Nat) (u : Value) : Aside T W (W'.setCell ⟨g, i, none⟩ u) :=
  ⟨h.os, h.tape, h.output, by simpa [World.setCell] using h.size, fun k hk hne => (Below.heap_setCell W' _ u k (fun e => hne (by rw [e]; exact hg))).trans (h.block k hk hne)⟩
theorem Box3.aside {T : Nat → Prop} {b : Nat} {x y z : Value} {W W' : World} (h : Box3 b x y z W) (ha : Aside T W W') (hT : ¬ T b) : Box3 b x y z W' := by
  obtain ⟨l, c0, c1, c2, f0, f1, f2⟩ := h
  have hb := ha.block b l hT
  exact ⟨Nat.lt_of_lt_of_le l ha.size, by rw [World.cell?_of_block (w := W) (a := ⟨b, 0, none⟩) hb]; exact c0, by rw [World.cell?_of_block (w := W) (a := ⟨b, 1, none⟩) hb]; exact c1, by rw [World.cell?_of_block (w := W) (a := ⟨b, 2, none⟩) hb]; exact c2,
    by rw [World.frozen?_of_block (w := W) (a := ⟨b, 0, none⟩) hb]; exact f0, by rw [World.frozen?_of_block (w := W) (a := ⟨b, 1, none⟩) hb]; exact f1, by rw [World.frozen?_of_block (w := W) (a := ⟨b, 2, none⟩) hb]; exact f2⟩
theorem Ints.aside {T : Nat → Prop} {k : IntKind} {W W' : World} {p : Option Addr} {n : Nat} {z : Nat → Int} (h : Ints k W p n z) (ha : Aside T W W') (hT : ∀ g, T g → ∀ b off sp, p = some ⟨b, off, sp⟩ → b ≠ g) : Ints k W' p n z := fun i hi => by
  obtain ⟨⟨b, off, e, hlt, hc⟩, hw⟩ := h i hi
  have hb := ha.block b hlt fun t => hT b t b off none e rfl
  exact ⟨⟨b, off, e, Nat.lt_of_lt_of_le hlt ha.size, by rw [World.cell?_of_block (w := W) (a := ⟨b, _, none⟩) hb]; exact hc⟩, hw⟩
theorem Spans.aside {T : Nat → Prop} {W W' : World} {p : Option Addr} {n : Nat} {s : Nat → Sp} (h : Spans W p n s) (ha : Aside T W W') (hT : ∀ g, T g → ∀ b off sp, p = some ⟨b, off, sp⟩ → b ≠ g) : Spans W' p n s := fun i hi => by
  obtain ⟨⟨b, off, e, hlt, h0, h1, h2⟩, hw⟩ := h i hi
  have hb := ha.block b hlt fun t => hT b t b off none e rfl
  exact ⟨⟨b, off, e, Nat.lt_of_lt_of_le hlt ha.size, by rw [World.cell?_of_block (w := W) (a := ⟨b, _, none⟩) hb]; exact h0, by rw [World.cell?_of_block (w := W) (a := ⟨b, _, none⟩) hb]; exact h1, by rw [World.cell?_of_block (w := W) (a := ⟨b, _, none⟩) hb]; exact h2⟩, hw⟩
theorem HpAt.aside {T : Nat → Prop} {W W' : World} {p : Option Addr} {c : Nat} {q : Option Addr} {d : Nat} {h : Hp} (hh : HpAt W p c q d h) (ha : Aside T W W') (hT : ∀ g, T g → Clear g p q) : HpAt W' p c q d h :=
  ⟨hh.ints.aside ha fun g t => (hT g t).1, hh.spans.aside ha fun g t => (hT g t).2, hh.nle, hh.mle, hh.pnil, hh.qnil⟩

theorem spVals_at (s : Nat → Sp) {n j : Nat} (h : j < n * 3) : (spVals n s)[j]? = some (if j % 3 = 0 then .int .i64 (s (j / 3)).st else if j % 3 = 1 then .int .i64 (s (j / 3)).cl else .int .u32 (s (j / 3)).fr) := by
  obtain ⟨a0, a1, a2⟩ := spVals_get s (n := n) (i := j / 3) (by omega)
  have hr : j % 3 = 0 ∨ j % 3 = 1 ∨ j % 3 = 2 := by omega
  rcases hr with hr | hr | hr
  · rw [show j / 3 * 3 = j by omega] at a0; rw [a0, if_pos hr]
  · rw [show j / 3 * 3 + 1 = j by omega] at a1; rw [a1, if_neg (by omega), if_pos hr]
  · rw [show j / 3 * 3 + 2 = j by omega] at a2; rw [a2, if_neg (by omega), if_neg (by omega)]
theorem spVals_set (s : Nat → Sp) {n : Nat} {i : Int} (h0 : 0 ≤ i) (h : i < n) (x : Sp) :
    (((spVals n s).set (i.toNat * 3) (.int .i64 x.st)).set (i.toNat * 3 + 1) (.int .i64 x.cl)).set (i.toNat * 3 + 2) (.int .u32 x.fr) = spVals n (setS s i x) := by
  apply List.ext_getElem?
  intro j
  by_cases hj : j < n * 3
  · rw [spVals_at _ hj]
    simp only [List.getElem?_set, List.length_set, spVals_length, spVals_at s hj]
    unfold setS
    by_cases e2 : i.toNat * 3 + 2 = j
    · rw [if_pos e2, if_pos (by omega), if_neg (by omega), if_neg (by omega), if_pos (by omega)]
    · rw [if_neg e2]
      by_cases e1 : i.toNat * 3 + 1 = j
      · rw [if_pos e1, if_pos (by omega), if_neg (by omega), if_pos (by omega), if_pos (by omega)]
      · rw [if_neg e1]
        by_cases e0 : i.toNat * 3 = j
        · rw [if_pos e0, if_pos (by omega), if_pos (by omega), if_pos (by omega)]
        · rw [if_neg e0, if_neg (show ¬ ((j / 3 : Nat) : Int) = i by omega)]
  · rw [List.getElem?_eq_none (by simp [spVals_length]; omega), List.getElem?_eq_none (by rw [spVals_length]; omega)]
section
variable {W : World} {base : Nat} {p : Option Addr} {c : Nat} {d : Nat} {h : Hp}
/-- A span stored. -/
theorem HpOwn.storeS {g : Nat} (o : HpOwn W base p c (some ⟨g, 0, none⟩) d h) {i : Int} {x : Sp} (h0 : 0 ≤ i) (hi : i < h.m) (hx : x.wf) :
    (W.cell? ⟨g, i.toNat * 3, none⟩ = some (.int .i64 (h.s i.toNat).st) ∧ W.cell? ⟨g, i.toNat * 3 + 1, none⟩ = some (.int .i64 (h.s i.toNat).cl) ∧ W.cell? ⟨g, i.toNat * 3 + 2, none⟩ = some (.int .u32 (h.s i.toNat).fr)) ∧
    (∀ j, W.frozen? ⟨g, j, none⟩ = false) ∧
    HpOwn (((W.setCell ⟨g, i.toNat * 3, none⟩ (.int .i64 x.st)).setCell ⟨g, i.toNat * 3 + 1, none⟩ (.int .i64 x.cl)).setCell ⟨g, i.toNat * 3 + 2, none⟩ (.int .u32 x.fr)) base p c (some ⟨g, 0, none⟩) d (withS h i x) := by
  obtain ⟨a0, a1, a2⟩ := spVals_get h.s (n := h.m) (i := i.toNat) (by omega)
  refine ⟨⟨?_, ?_, ?_⟩, fun j => o.spans.frozenAt _, ?_⟩
  · rw [o.spans.cellAt _ (by omega)]; exact a0
  · rw [o.spans.cellAt _ (by omega)]; exact a1
  · rw [o.spans.cellAt _ (by omega)]; exact a2
  · have hs := (((o.spans.stored (i.toNat * 3) (.int .i64 x.st)).1.stored (i.toNat * 3 + 1) (.int .i64 x.cl)).1.stored (i.toNat * 3 + 2) (.int .u32 x.fr)).1
    rw [spVals_set h.s h0 hi x] at hs
    have hne : ∀ e, (Value.slice p h.n c).ownBlock ≠ some e ∨ e ≠ g := fun e => by
      by_cases e' : e = g
      · subst e'; exact .inl fun e'' => o.ne e e e'' rfl rfl
      · exact .inr e'
    have hw : (Value.slice p h.n c).ownBlock ≠ some g := fun e => o.ne g g e rfl rfl
    refine ⟨owned_setCell (owned_setCell (owned_setCell o.words hw _ _) hw _ _) hw _ _, hs, o.ne, ⟨o.wf.1, fun j hj => ?_⟩, o.nle, o.mle⟩
    show (setS h.s i x j).wf
    unfold setS; split
    · exact hx
    · exact o.wf.2 j hj
/-- So many words from a place on become 0. -/
theorem HpOwn.clearN {g : Nat} : ∀ (n : Nat) {W : World} {h : Hp} {q : Option Addr} {a : Int}, HpOwn W base (some ⟨g, 0, none⟩) c q d h → 0 ≤ a → a + n ≤ h.n →
    HpOwn (W.setCells g a.toNat (List.replicate n (.int .u64 0))) base (some ⟨g, 0, none⟩) c q d { h with z := zerZ h.z a n }
  | 0, W, h, q, a, o, h0, h1 => by
    rw [show ((0 : Nat) : Int) = 0 from rfl, zer_none]
    exact o
  | n + 1, W, h, q, a, o, h0, h1 => by
    have h1' : a + (n + 1 : Int) ≤ h.n := by omega
    have o1 := (o.store (i := a) (v := 0) h0 (by omega) (by decide)).2.2
    have o2 := HpOwn.clearN n (a := a + 1) o1 (by omega) (by show a + 1 + (n : Int) ≤ h.n; omega)
    rw [List.replicate_succ]
    show HpOwn ((W.setCell ⟨g, a.toNat, none⟩ (.int .u64 0)).setCells g (a.toNat + 1) (List.replicate n (.int .u64 0))) _ _ _ _ _ _
    rw [show a.toNat + 1 = (a + 1).toNat by omega]
    refine (o2.congr (z := zerZ h.z a (n + 1 : Nat)) (s := h.s) (b := h.b) (fun i hi => ?_) fun i _ => rfl)
    show zerZ (putZ h.z a 0) (a + 1) n i = zerZ h.z a (n + 1 : Nat) i
    unfold zerZ putZ
    by_cases e1 : (i : Int) = a
    · rw [if_neg (by omega), if_pos e1, if_pos (by omega)]
    · by_cases e2 : a + 1 ≤ (i : Int) ∧ (i : Int) < a + 1 + n
      · rw [if_pos e2, if_pos (by omega)]
      · rw [if_neg e2, if_neg e1, if_neg (by omega)]
end
/-- A variable of one cell. -/
def Box1 (b : Nat) (x : Value) (W : World) : Prop := b < W.heap.size ∧ W.cell? ⟨b, 0, none⟩ = some x ∧ W.frozen? ⟨b, 0, none⟩ = false
theorem Box1.below {b : Nat} {x : Value} {W W' : World} (h : Box1 b x W) (hb : Below W.heap.size W W') : Box1 b x W' := by
  obtain ⟨l, c0, f0⟩ := h
  have e := hb.block b l
  exact ⟨Nat.lt_of_lt_of_le l hb.size, by rw [World.cell?_of_block (w := W) (a := ⟨b, 0, none⟩) e]; exact c0, by rw [World.frozen?_of_block (w := W) (a := ⟨b, 0, none⟩) e]; exact f0⟩
theorem Box1.aside {T : Nat → Prop} {b : Nat} {x : Value} {W W' : World} (h : Box1 b x W) (ha : Aside T W W') (hT : ¬ T b) : Box1 b x W' := by
  obtain ⟨l, c0, f0⟩ := h
  have e := ha.block b l hT
  exact ⟨Nat.lt_of_lt_of_le l ha.size, by rw [World.cell?_of_block (w := W) (a := ⟨b, 0, none⟩) e]; exact c0, by rw [World.frozen?_of_block (w := W) (a := ⟨b, 0, none⟩) e]; exact f0⟩
theorem Box1.low {n b : Nat} {x : Value} {W W' : World} (h : Box1 b x W) (hb : Below n W W') (hn : b < n) : Box1 b x W' := by
  obtain ⟨l, c0, f0⟩ := h
  have e := hb.block b hn
  exact ⟨Nat.lt_of_lt_of_le l hb.size, by rw [World.cell?_of_block (w := W) (a := ⟨b, 0, none⟩) e]; exact c0, by rw [World.frozen?_of_block (w := W) (a := ⟨b, 0, none⟩) e]; exact f0⟩
theorem Box1.setCells {b : Nat} {x : Value} {g : Nat} (hg : ¬ g = b) : ∀ (vs : List Value) (w : World) (o : Nat), Box1 b x w → Box1 b x (w.setCells g o vs)
  | [], _, _, h => h
  | v :: r, w, o, h => Box1.setCells hg r _ _ (by
    obtain ⟨l, c0, f0⟩ := h
    have e := Below.heap_setCell w ⟨g, o, none⟩ v b (fun e => hg (by rw [e]))
    exact ⟨by simpa [World.setCell] using l, by rw [World.cell?_of_block (w := w) (a := ⟨b, 0, none⟩) e]; exact c0, by rw [World.frozen?_of_block (w := w) (a := ⟨b, 0, none⟩) e]; exact f0⟩)
theorem Box1.new (W : World) (x : Value) (t : TypeId) : Box1 W.heap.size x (W.alloc (.cells #[x] t)) := by
  have hg := heap_alloc_new W (.cells #[x] t)
  exact ⟨by simp, by rw [cell_of_row _ _ _ _ _ _ hg]; rfl, frozen_of_row _ _ _ _ _ hg⟩
theorem Box1.other {b : Nat} {x : Value} {W : World} (h : Box1 b x W) {g : Nat} (hg : ¬ g = b) (o : Nat) (u : Value) : Box1 b x (W.setCell ⟨g, o, none⟩ u) := by
  obtain ⟨l, c0, f0⟩ := h
  have e := Below.heap_setCell W ⟨g, o, none⟩ u b (fun e => hg (by rw [e]))
  exact ⟨by simpa [World.setCell] using l, by rw [World.cell?_of_block (w := W) (a := ⟨b, 0, none⟩) e]; exact c0, by rw [World.frozen?_of_block (w := W) (a := ⟨b, 0, none⟩) e]; exact f0⟩
theorem Box1.store {b : Nat} {x : Value} {W : World} (h : Box1 b x W) (y : Value) : Box1 b y (W.setCell ⟨b, 0, none⟩ y) := by
  obtain ⟨l, c0, f0⟩ := h
  exact ⟨by simpa [World.setCell] using l, by simp [go_sem, c0], by simp [go_sem, f0]⟩
theorem size_setCells : ∀ (vs : List Value) (w : World) (g o : Nat), (w.setCells g o vs).heap.size = w.heap.size
  | [], _, _, _ => rfl
  | v :: r, w, g, o => by
    show ((w.setCell ⟨g, o, none⟩ v).setCells g (o + 1) r).heap.size = _
    rw [size_setCells r]; simp [World.setCell]
theorem below_setCells {n : Nat} {W : World} {g : Nat} (hg : n ≤ g) : ∀ (vs : List Value) (w : World) (o : Nat), Below n W w → Below n W (w.setCells g o vs)
  | [], _, _, h => h
  | v :: r, w, o, h => below_setCells hg r _ _ (h.setCell hg v)
theorem Box3.setCells {b : Nat} {x y z : Value} {g : Nat} (hg : ¬ g = b) : ∀ (vs : List Value) (w : World) (o : Nat), Box3 b x y z w → Box3 b x y z (w.setCells g o vs)
  | [], _, _, h => h
  | v :: r, w, o, h => Box3.setCells hg r _ _ (h.other hg o v)
end Go.Proofs.YtjlflbaglaillaaDoor
