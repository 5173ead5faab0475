/- Heaps in memory of the call's own: what stays of them, what a store makes of them; the reference's with, so said. -/
import Derived.Test.YtjlflbaglaillaaDoorRef07b
namespace Go.Proofs.YtjlflbaglaillaaDoor
set_option linter.unusedSimpArgs false
set_option linter.unusedVariables false
open Go.ChangeShapes Go.WideShapes Go.ChangeAt Go.RowKit Go.Joins

structure HpOwn (W : World) (base : Nat) (p : Option Addr) (c : Nat) (q : Option Addr) (d : Nat) (h : Hp) : Prop where
  words : W.ownsRow base 50 1 (.slice p h.n c) h.n (vals .u64 h.n h.z)
  spans : W.ownsRow base 49 3 (.slice q h.m d) h.m (spVals h.m h.s)
  ne : ∀ b b', (Value.slice p h.n c).ownBlock = some b → (Value.slice q h.m d).ownBlock = some b' → b ≠ b'
  wf : h.wf
  nle : h.n ≤ maxLen
  mle : h.m ≤ maxLen
section
variable {W W' : World} {base : Nat} {p : Option Addr} {c : Nat} {q : Option Addr} {d : Nat} {h : Hp}
theorem HpOwn.at (o : HpOwn W base p c q d h) : HpAt W p c q d h := at_with o.words o.spans o.wf o.nle o.mle
theorem HpOwn.below (o : HpOwn W base p c q d h) (hb : Below W.heap.size W W') : HpOwn W' base p c q d h := ⟨owned_below o.words hb, owned_below o.spans hb, o.ne, o.wf, o.nle, o.mle⟩
theorem HpOwn.lower (o : HpOwn W base p c q d h) {base' : Nat} (hb : base' ≤ base) : HpOwn W base' p c q d h := ⟨owned_base o.words hb, owned_base o.spans hb, o.ne, o.wf, o.nle, o.mle⟩
theorem HpOwn.newW (o : HpOwn W base p c q d h) : NewV base (.slice p h.n c) := owned_newV o.words
theorem HpOwn.newS (o : HpOwn W base p c q d h) : NewV base (.slice q h.m d) := owned_newV o.spans
/-- A write into another block. -/
theorem HpOwn.other (o : HpOwn W base p c q d h) {g : Nat} (h1 : (Value.slice p h.n c).ownBlock ≠ some g) (h2 : (Value.slice q h.m d).ownBlock ≠ some g) (i : Nat) (u : Value) : HpOwn (W.setCell ⟨g, i, none⟩ u) base p c q d h :=
  ⟨owned_setCell o.words h1 i u, owned_setCell o.spans h2 i u, o.ne, o.wf, o.nle, o.mle⟩
theorem HpOwn.under (o : HpOwn W base p c q d h) {g : Nat} (hg : g < base) (i : Nat) (u : Value) : HpOwn (W.setCell ⟨g, i, none⟩ u) base p c q d h :=
  o.other (fun e => by have := o.newW g e; omega) (fun e => by have := o.newS g e; omega) i u
/-- The block of the words. -/
theorem HpOwn.word (o : HpOwn W base p c q d h) (h0 : 0 < h.n) : ∃ g, p = some ⟨g, 0, none⟩ ∧ base ≤ g ∧ g < W.heap.size := by
  rcases o.words.2 with ⟨-, h1⟩ | ⟨g, cap', cur, hv, hbg, hg, -⟩
  · omega
  · injection hv with hv
    refine ⟨g, hv, hbg, ?_⟩
    rcases Nat.lt_or_ge g W.heap.size with h' | h'
    · exact h'
    · rw [Array.getElem?_eq_none h'] at hg; cases hg
theorem HpOwn.span (o : HpOwn W base p c q d h) (h0 : 0 < h.m) : ∃ g, q = some ⟨g, 0, none⟩ ∧ base ≤ g ∧ g < W.heap.size := by
  rcases o.spans.2 with ⟨-, h1⟩ | ⟨g, cap', cur, hv, hbg, hg, -⟩
  · omega
  · injection hv with hv
    refine ⟨g, hv, hbg, ?_⟩
    rcases Nat.lt_or_ge g W.heap.size with h' | h'
    · exact h'
    · rw [Array.getElem?_eq_none h'] at hg; cases hg
theorem vals_putZ (k : IntKind) (n : Nat) (z : Nat → Int) (i : Int) (h0 : 0 ≤ i) (v : Int) : (vals k n z).set i.toNat (.int k v) = vals k n (putZ z i v) := by
  rw [vals_set]
  refine vals_congr k fun j _ => ?_
  unfold putZ
  by_cases e : (j : Int) = i
  · rw [if_pos (by omega), if_pos e]
  · rw [if_neg (by omega), if_neg e]
/-- A word stored. -/
theorem HpOwn.store {g : Nat} (o : HpOwn W base (some ⟨g, 0, none⟩) c q d h) {i v : Int} (h0 : 0 ≤ i) (hi : i < h.n) (hw : (Lit.int .u64 v).wf = true) :
    (∃ u, W.cell? ⟨g, i.toNat, none⟩ = some (.int .u64 u)) ∧ W.frozen? ⟨g, i.toNat, none⟩ = false ∧ HpOwn (W.setCell ⟨g, i.toNat, none⟩ (.int .u64 v)) base (some ⟨g, 0, none⟩) c q d { h with z := putZ h.z i v } := by
  refine ⟨⟨h.z i.toNat, ?_⟩, o.words.frozenAt _, ?_⟩
  · rw [o.words.cellAt _ (by omega)]; exact vals_get .u64 h.z (by omega)
  · obtain ⟨hs, -⟩ := o.words.stored i.toNat (.int .u64 v)
    rw [vals_putZ .u64 h.n h.z i h0 v] at hs
    refine ⟨hs, owned_setCell o.spans (fun e => o.ne g g rfl e rfl) _ _, o.ne, ⟨fun j hj => ?_, o.wf.2⟩, o.nle, o.mle⟩
    show (Lit.int .u64 (putZ h.z i v j)).wf = true
    unfold putZ; split
    · exact hw
    · exact o.wf.1 j hj
theorem HpOwn.congr (o : HpOwn W base p c q d h) {z : Nat → Int} {s : Nat → Sp} {b : Bool} (hz : ∀ i, i < h.n → h.z i = z i) (hs : ∀ i, i < h.m → h.s i = s i) : HpOwn W base p c q d { n := h.n, z := z, m := h.m, s := s, b := b } :=
  ⟨by rw [← vals_congr .u64 hz]; exact o.words, by rw [← spVals_congr hs]; exact o.spans, o.ne, ⟨fun i hi => by show (Lit.int .u64 (z i)).wf = true; rw [← hz i hi]; exact o.wf.1 i hi, fun i hi => by show (s i).wf; rw [← hs i hi]; exact o.wf.2 i hi⟩, o.nle, o.mle⟩
end
theorem zer_none (z : Nat → Int) (a : Int) : zerZ z a 0 = z := by
  funext j; unfold zerZ; rw [if_neg (by omega)]
theorem zer_next (z : Nat → Int) (a k : Int) (h : 0 ≤ k) : putZ (zerZ z a k) (a + k) 0 = zerZ z a (k + 1) := by
  funext j; unfold putZ zerZ
  by_cases e : (j : Int) = a + k
  · rw [if_pos e, if_pos (by omega)]
  · rw [if_neg e]
    by_cases e2 : a ≤ (j : Int) ∧ (j : Int) < a + k
    · rw [if_pos e2, if_pos (by omega)]
    · rw [if_neg e2, if_neg (by omega)]
theorem rwithO_any (p : Option Addr) (c : Nat) (q : Option Addr) (d : Nat) (h : Hp) (g : Int) (x : Sp) (w : World) (hh : HpAt w p c q d h) (hx : x.wf) (hF : formB h = true) :
    Calls Tryd.prog 42 #[.agg #[.slice p h.n c, .slice q h.m d, .bool h.b], .int .i64 g, .agg #[.int .i64 x.st, .int .i64 x.cl, .int .u32 x.fr]] w fun e w' => ∃ p' c' q' d', e = .returned (.agg #[.slice p' h.n c', .slice q' h.m d', .bool h.b]) ∧ HpOwn w' w.heap.size p' c' q' d' (withS h g x) ∧ Below w.heap.size w w' := by
  obtain ⟨-, h2, h3, -⟩ := form_iff.1 hF
  refine Calls.mono (rwithH_any p c q d h g x w hh hx (by omega) h2) ?_
  rintro e w' ⟨p', c', q', d', rfl, hoW, hoS, hne, hb⟩
  exact ⟨p', c', q', d', rfl, ⟨hoW, hoS, hne, wf_with hh.wf hx, hh.nle, hh.mle⟩, hb⟩
end Go.Proofs.YtjlflbaglaillaaDoor
