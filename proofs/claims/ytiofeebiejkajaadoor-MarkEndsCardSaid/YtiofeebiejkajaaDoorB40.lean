/- Contracts of the code's marking (chapter 17): a mutator's row put into its place, in a list of the call's own. -/
import Derived.Test.YtiofeebiejkajaaDoorB37
import Derived.Test.YtiofeebiejkajaaDoorB39
import Derived.Test.YtiofeebiejkajaaDoorB18
import Derived.Test.YtiofeebiejkajaaDoorB23
import Derived.Test.YtiofeebiejkajaaDoorB38
namespace Go.Proofs.YtiofeebiejkajaaDoor
set_option linter.unusedSimpArgs false
set_option linter.unusedVariables false
open Go.ChangeShapes Go.WideShapes Go.ChangeAt Go.RowKit Go.Joins

theorem rowE_neT {N g : Nat} {E T : TypeId} {n : Nat} {p : Option Addr} {cur : Array Value} {w : World} (h : RowE N E n p w) (hv : TBox T g cur w) (hT : ¬ E = T) (hg : N ≤ g) (h0 : 0 < n) {b off : Nat} {sp : Option Nat} (e : p = some ⟨b, off, sp⟩) : ¬ b = g := by
  rcases (h h0 b off sp e).2 with h1 | ⟨cs, h1⟩
  · omega
  · rintro rfl
    have := h1.symm.trans hv
    injection this with this
    injection this with _ this
    exact hT this
theorem gr_stays {N g : Nat} {T : TypeId} {n c : Nat} {z : Nat → Int} {p : Option Addr} {cur : Array Value} {w : World} (h : GrAt w p c n z) (he : RowE N 3 n p w) (hv : TBox T g cur w) (hT : ¬ 3 = T) (hg : N ≤ g) (i : Nat) (u : Value) :
    GrAt (w.setCell ⟨g, i, none⟩ u) p c n z ∧ RowE N 3 n p (w.setCell ⟨g, i, none⟩ u) :=
  ⟨h.of_block (by simp [World.setCell]) fun h0 b off sp e => Below.heap_setCell w _ u b (rowE_neT he hv hT hg h0 e), fun h0 b off sp e => by
    obtain ⟨hl, h1⟩ := he h0 b off sp e
    refine ⟨by simpa [World.setCell] using hl, ?_⟩
    rcases h1 with h1 | ⟨cs, h1⟩
    · exact .inl h1
    · exact .inr ⟨cs, (Below.heap_setCell w _ u b (rowE_neT he hv hT hg h0 e)).trans h1⟩⟩
/-- An own row of rows with their rooms, by its block's cells. -/
def GyRow (N g n : Nat) (z : Nat → Gy) (w : World) : Prop :=
  ∃ cur : Array Value, TBox 28 g cur w ∧ ∀ t, t < n → ∃ p c, cur[t * 2]? = some (.int .i64 (z t).r) ∧ cur[t * 2 + 1]? = some (.slice p (z t).n c) ∧ GrAt w p c (z t).n (z t).z ∧ RowE N 3 (z t).n p w ∧ In64 (z t).r
section
variable {N g n : Nat} {z : Nat → Gy} {w w' : World}
theorem GyRow.below (h : GyRow N g n z w) (hb : Below w.heap.size w w') : GyRow N g n z w' := by
  obtain ⟨cur, hv, hc⟩ := h
  refine ⟨cur, hv.below hb, fun t ht => ?_⟩
  obtain ⟨p, c, h1, h2, h3, h4, h5⟩ := hc t ht
  exact ⟨p, c, h1, h2, h3.below hb, h4.below hb, h5⟩
theorem GyRow.lt (h : GyRow N g n z w) : g < w.heap.size := by
  obtain ⟨cur, hv, hc⟩ := h
  exact hv.lt
theorem GyRow.at (h : GyRow N g n z w) {t : Nat} (ht : t < n) : ∃ p c, w.cell? ⟨g, t * 2, none⟩ = some (.int .i64 (z t).r) ∧ w.cell? ⟨g, t * 2 + 1, none⟩ = some (.slice p (z t).n c) ∧ w.frozen? ⟨g, t * 2, none⟩ = false ∧ w.frozen? ⟨g, t * 2 + 1, none⟩ = false ∧ GrAt w p c (z t).n (z t).z ∧ RowE N 3 (z t).n p w ∧ In64 (z t).r := by
  obtain ⟨cur, hv, hc⟩ := h
  obtain ⟨p, c, h1, h2, h3, h4, h5⟩ := hc t ht
  exact ⟨p, c, (hv.cell _).trans h1, (hv.cell _).trans h2, hv.frozen _, hv.frozen _, h3, h4, h5⟩
theorem GyRow.rat (h : GyRow N g n z w) {c : Nat} (hn : n ≤ c ∧ c ≤ maxLen) : RAt (GrE N) 2 w (some ⟨g, 0, none⟩) c n z := by
  have hlt := h.lt
  refine ⟨fun i hi => ?_, Nat.le_trans hn.1 hn.2, fun e => (by cases e), hn⟩
  obtain ⟨p, c', h1, h2, -, -, h3, h4, h5⟩ := h.at hi
  refine ⟨g, 0, [.int .i64 (z i).r, .slice p (z i).n c'], rfl, hlt, rfl, fun k u hk => ?_, p, c', rfl, h3, h4, h5⟩
  match k, hk with
  | 0, hk => obtain rfl : Value.int .i64 (z i).r = u := by simpa using hk
             rw [Nat.zero_add, Nat.add_zero]; exact h1
  | 1, hk => obtain rfl : Value.slice p (z i).n c' = u := by simpa using hk
             rw [Nat.zero_add]; exact h2
theorem GyRow.tag (h : GyRow N g n z w) : ∃ cs, w.heap[g]? = some (.cells cs 28 (0, 0)) := by
  obtain ⟨cur, hv, -⟩ := h
  exact ⟨cur, hv⟩
theorem GyRow.item (h : GyRow N g n z w) (hg : N ≤ g) {j : Nat} (hj : j < n) {p : Option Addr} {c : Nat} (hz : GrAt w p c (z j).n (z j).z) (hr : RowE N 3 (z j).n p w) : GyRow N g n z (w.setCell ⟨g, j * 2 + 1, none⟩ (.slice p (z j).n c)) := by
  obtain ⟨cur, hv, hc⟩ := h
  have hjl : j * 2 + 1 < cur.size := by
    obtain ⟨_, _, _, h2, _⟩ := hc j hj
    exact (Array.getElem?_eq_some_iff.1 h2).1
  refine ⟨cur.setIfInBounds (j * 2 + 1) _, hv.set _ _, fun t ht => ?_⟩
  obtain ⟨p1, c1, h1, h2, h3, h4, h5⟩ := hc t ht
  by_cases e : t = j
  · subst e
    obtain ⟨s1, s2⟩ := gr_stays hz hr hv (by decide) hg (t * 2 + 1) (.slice p (z t).n c)
    exact ⟨p, c, by rw [Array.getElem?_setIfInBounds, if_neg (by omega)]; exact h1, by rw [Array.getElem?_setIfInBounds, if_pos rfl, if_pos hjl], s1, s2, h5⟩
  · obtain ⟨s1, s2⟩ := gr_stays h3 h4 hv (by decide) hg (j * 2 + 1) (.slice p (z j).n c)
    exact ⟨p1, c1, by rw [Array.getElem?_setIfInBounds, if_neg (by omega)]; exact h1, by rw [Array.getElem?_setIfInBounds, if_neg (by omega)]; exact h2, s1, s2, h5⟩
theorem GyRow.put (h : GyRow N g n z w) (hg : N ≤ g) {j : Nat} (hj : j < n) {r : Int} {K : Nat} {y : Nat → Int} {p : Option Addr} {c : Nat} (hz : GrAt w p c K y) (hr : RowE N 3 K p w) (h64 : In64 r) :
    GyRow N g n (setB z j ⟨r, K, y⟩) ((w.setCell ⟨g, j * 2, none⟩ (.int .i64 r)).setCell ⟨g, j * 2 + 1, none⟩ (.slice p K c)) := by
  obtain ⟨cur, hv, hc⟩ := h
  have hjl : j * 2 + 1 < cur.size := by
    obtain ⟨_, _, _, h2, _⟩ := hc j hj
    exact (Array.getElem?_eq_some_iff.1 h2).1
  have hv1 := hv.set (j * 2) (.int .i64 r)
  refine ⟨(cur.setIfInBounds (j * 2) _).setIfInBounds (j * 2 + 1) _, hv1.set _ _, fun t ht => ?_⟩
  obtain ⟨p1, c1, h1, h2, h3, h4, h5⟩ := hc t ht
  by_cases e : t = j
  · subst e
    have e1 : setB z t ⟨r, K, y⟩ t = ⟨r, K, y⟩ := by simp [setB]
    rw [e1]
    obtain ⟨s1, s2⟩ := gr_stays hz hr hv (by decide) hg (t * 2) (.int .i64 r)
    obtain ⟨s1, s2⟩ := gr_stays s1 s2 hv1 (by decide) hg (t * 2 + 1) (.slice p K c)
    exact ⟨p, c, by rw [Array.getElem?_setIfInBounds, if_neg (by omega), Array.getElem?_setIfInBounds, if_pos rfl, if_pos (by omega)], by rw [Array.getElem?_setIfInBounds, if_pos rfl, if_pos (by simpa using hjl)], s1, s2, h64⟩
  · have e1 : setB z j ⟨r, K, y⟩ t = z t := by simp [setB, e]
    rw [e1]
    obtain ⟨s1, s2⟩ := gr_stays h3 h4 hv (by decide) hg (j * 2) (.int .i64 r)
    obtain ⟨s1, s2⟩ := gr_stays s1 s2 hv1 (by decide) hg (j * 2 + 1) (.slice p K c)
    exact ⟨p1, c1, by rw [Array.getElem?_setIfInBounds, if_neg (by omega), Array.getElem?_setIfInBounds, if_neg (by omega)]; exact h1, by rw [Array.getElem?_setIfInBounds, if_neg (by omega), Array.getElem?_setIfInBounds, if_neg (by omega)]; exact h2, s1, s2, h5⟩
theorem gy_of {M : Nat} {v : Value} (h : GrowR M 28 2 (GrE N) n z v w) (h0 : 0 < n) : ∃ g c, v = .slice (some ⟨g, 0, none⟩) n c ∧ M ≤ g ∧ (n ≤ c ∧ c ≤ maxLen) ∧ GyRow N g n z w := by
  obtain ⟨L, h1, h2, ⟨h3, -⟩, h4⟩ := h
  rcases h3.2 with ⟨-, e⟩ | ⟨g, cap, cur, hv, hb, hg, hnc, hm, hs, ht⟩
  · omega
  · refine ⟨g, cap, hv, hb, ⟨hnc, hm⟩, cur, hg, fun t htn => ?_⟩
    obtain ⟨l, hl⟩ : ∃ l, L[t]? = some l := ⟨L[t]'(by omega), List.getElem?_eq_getElem _⟩
    obtain ⟨p, c, rfl, h5, h6, h7⟩ := h4 t l hl
    have at' : ∀ k u, ([.int .i64 (z t).r, .slice p (z t).n c] : List Value)[k]? = some u → k < 2 → cur[t * 2 + k]? = some u := fun k u hk hk2 => by
      have hf := flatten_get L t k _ h2 hl hk2
      rw [hk, ← ht, List.getElem?_take] at hf
      split at hf
      · simpa using hf
      · cases hf
    exact ⟨p, c, at' 0 _ rfl (by omega), at' 1 _ rfl (by omega), h5, h6, h7⟩
end
set_option maxHeartbeats 8000000 in
set_option maxRecDepth 20000 in
/-- A mutator's row put into its place. -/
theorem msetb_any (N B n k : Nat) (b : Bool) (h : Hp) (m : Mk) (i : Nat) (r : Int) (pq : Option Addr) (K cq : Nat) (z : Nat → Int) (w : World) (hN : N ≤ B) (hst : StV N B n k b h m w) (hF : formB h = true) (hi : i < m.nb) (hnb : m.nb ≤ 1000000)
    (hrows : ∀ t, t < m.nb → (m.b t).n ≤ 1000000) (hg : GrAt w pq cq K z) (hR : RowE N 3 K pq w) (hr : In64 r) (hK : K ≤ 1000000) :
    Calls Tryd.prog 42 #[.pointer (some ⟨B, 0, none⟩), .int .i64 i, .agg #[.int .i64 r, .slice pq K cq]] w fun e w' => e = .returned (.tuple #[]) ∧ StV N B n k b h { m with b := setB m.b i ⟨r, K, z⟩ } w' ∧ Aside (fun k => k = B) w w' := by
  obtain ⟨hn32, hk0⟩ := hst.room hF
  have hlBw := hst.lt
  obtain ⟨w0, hw0⟩ : ∃ w0, w0 = w.alloc (.cells #[.int .i64 r, .slice pq K cq] 28) := ⟨_, rfl⟩
  have hb0 : Below w.heap.size w w0 := by rw [hw0]; exact (Below.refl _ _).alloc (Nat.le_refl _) _
  have gR : TBox 28 w.heap.size #[.int .i64 r, .slice pq K cq] w0 := by rw [hw0]; exact TBox.new _ _ _
  have hNw : N ≤ w.heap.size := by omega
  have hst0 := hst
  replace hst := hst.below hb0
  replace hg := hg.below hb0
  replace hR := hR.below hb0
  obtain ⟨p, c, q, d, pg, cg, pb, cb, pv, cv, g0, hh, hM⟩ := hst
  have hC := clone_greys N pb m.nb cb m.b w0 hM.b (by omega) hnb
  obtain ⟨hlB, -, -, x2, -, -, -, -, -, -, -, -⟩ := st_cells g0
  go_enter Tryd.func42, Tryd.ntmps42
  go_upto_region 1 with fail
  rw [← hw0]
  clear hw0
  go_upto_region 2 with (first
    | (go_at_call 63; refine Calls.mono (hC) ?_; rintro e w' ⟨v, rfl, hG, hb⟩; obtain ⟨hc, hf, hb, hz⟩ := bstep hb (w := w0) (by go_grown); try simp only [World.size_alloc, World.size_setCell, World.size_drew] at hc hf hz)
  )
  obtain ⟨g, cap, rfl, hgw, hcap, hy⟩ := gy_of hG (by omega)
  have hwg : w.heap.size ≤ g := Nat.le_trans hb0.size hgw
  have hNg : N ≤ g := Nat.le_trans hNw hwg
  replace gR := gR.below hb
  replace hg := hg.below hb
  replace hR := hR.below hb
  replace g0 := g0.below hb
  replace hh := hh.below hb
  replace hM := hM.below hb
  have hbw := bjoin hb hb0
  clear hC hG hb x2 hlB hb0 hc hf hz
  generalize w' = w1 at *
  have r0 := gR.cell 0
  have r1 := gR.cell 1
  simp only [List.getElem?_toArray, List.getElem?_cons_zero, List.getElem?_cons_succ] at r0 r1
  have lR := gR.lt
  have lg := hy.lt
  obtain ⟨p1, c1, y0, y1, f0, f1, -, -, -⟩ := hy.at hi
  go_upto_region 3 with fail
  have hy2 := hy.put hNg hi hg hR hr
  have hbw2 : Below w.heap.size w ((w1.setCell ⟨g, i * 2, none⟩ (.int .i64 r)).setCell ⟨g, i * 2 + 1, none⟩ (.slice pq K cq)) := (hbw.setCell hwg _).setCell hwg _
  have hn2 : ∀ t, t < m.nb → (setB m.b i ⟨r, K, z⟩ t).n ≤ 1000000 := fun t ht => by
    unfold setB
    split
    · exact hK
    · exact hrows t ht
  generalize ((w1.setCell ⟨g, i * 2, none⟩ (.int .i64 r)).setCell ⟨g, i * 2 + 1, none⟩ (.slice pq K cq)) = w2 at *
  clear hy hbw r0 r1 lR lg y0 y1 f0 f1 gR hg hR g0 hh hM
  generalize hZ : setB m.b i ⟨r, K, z⟩ = Z at *
  go_wp2
  go_loopg [20] m.nb (fun gh iv wr => ∃ j : Nat, j ≤ m.nb ∧ gh = m.nb - j ∧ iv = .int .i64 j ∧ GyRow N g m.nb Z wr ∧ Below w.heap.size w wr)
  case atStart => exact ⟨0, by omega, by omega, rfl, hy2, hbw2⟩
  case round =>
    clear hy2 hbw2
    obtain ⟨j, jh, rfl, rfl, hy, hbr⟩ := hrel
    have lg := hy.lt
    by_cases hj : j < m.nb
    · obtain ⟨pj, cj, y0, y1, f0, f1, hgj, -, -⟩ := hy.at hj
      have hCl := clone_ints pj (Z j).n cj (Z j).z wr hgj (hn2 j hj)
      generalize hnj : (Z j).n = nj at y1 hCl
      clear hst0
      go_wp2_with (first
    | (go_at_call 64; refine Calls.mono (hCl) ?_; rintro e w' ⟨p9, c9, rfl, hg9, ht9, hb⟩; obtain ⟨hc, hf, hb, hz⟩ := bstep hb (w := wr) (by go_grown); try simp only [World.size_alloc, World.size_setCell, World.size_drew] at hc hf hz)
      )
      have hZ9 : GrAt w' p9 c9 (Z j).n (Z j).z := by rw [hnj]; exact hg9
      have hR9 : RowE N 3 (Z j).n p9 w' := fun _ bb off sp e => by
        obtain ⟨-, cs, h1⟩ := ht9 bb off sp e
        exact ⟨(Array.getElem?_eq_some_iff.1 h1).1, .inr ⟨cs, h1⟩⟩
      have hy' := (hy.below hb).item hNg hj hZ9 hR9
      rw [hnj] at hy'
      have hbr' : Below w.heap.size w (w'.setCell ⟨g, j * 2 + 1, none⟩ (.slice p9 nj c9)) := (bjoin hb hbr).setCell hwg _
      go_roundg (m.nb - (j + 1))
      case measure => omega
      case rel => exact ⟨j + 1, by omega, rfl, by go_num, hy', hbr'⟩
    · replace hst0 := hst0.below hbr
      obtain ⟨p, c, q, d, pg, cg, pb, cb, pv, cv, g0, hh, hM⟩ := hst0
      obtain ⟨hlB, -, -, x2, -, -, -, -, -, -, -, -⟩ := st_cells g0
      obtain ⟨-, -, f2, -⟩ := st_frozen g0
      have vB : VarT 73 11 B wr := ⟨_, rfl, plain_st _ _ _ _ _ _ _ _ _ _ _ _ _ _, g0⟩
      have hbe : RowE N 28 m.nb (some ⟨g, 0, none⟩) wr := fun _ b1 off sp e => by
        injection e with e
        injection e with e
        subst e
        exact ⟨hy.lt, .inr hy.tag⟩
      have hrt := hy.rat hcap
      have hrt2 := rat_putsL hrt hbe vB (by decide) (by decide) hN 2 [.slice (some ⟨g, 0, none⟩) m.nb cap]
      have hbe2 := row_putsL (k := 2) hbe vB (by decide) hN [.slice (some ⟨g, 0, none⟩) m.nb cap]
      have hM2 := hM.putsL vB (by decide) (by decide) (by decide) hN 2 [.slice (some ⟨g, 0, none⟩) m.nb cap]
      have hh2 := hpIn_puts (vB.clear hh hn32 hk0) [.slice (some ⟨g, 0, none⟩) m.nb cap] 2 hh
      have g02 := g0.putsL [.slice (some ⟨g, 0, none⟩) m.nb cap] 2
      simp only [setFrom, List.setIfInBounds_toArray, List.set_cons_succ, List.set_cons_zero, Nat.reduceAdd] at g02
      simp only [putsL, Nat.reduceAdd] at hrt2 hbe2 hM2 hh2 g02
      clear hrt hbe hM hh g0 vB hy
      go_wp2
      go_returns
      subst hZ
      exact ⟨rfl, ⟨p, c, q, d, pg, cg, some ⟨g, 0, none⟩, cap, pv, cv, g02, hh2, ⟨hM2.g, hM2.ge, hrt2, hbe2, hM2.r, hM2.re⟩⟩, aside_set (Aside.of hbr) 2 _⟩
end Go.Proofs.YtiofeebiejkajaaDoor
namespace Go.Proofs.YtiofeebiejkajaaDoor
set_option linter.unusedSimpArgs false
set_option linter.unusedVariables false
open Go.ChangeShapes Go.WideShapes Go.ChangeAt Go.RowKit

theorem fv_wf {h : Hp} (hF : formB h = true) (hw : h.wf) (a i : Int) : (⟨getK (fdX h a i), getN (fdX h a i)⟩ : Vl).wf := by
  have hx : 0 ≤ fdX h a i ∧ fdX h a i ≤ 18446744073709551615 := by
    rcases fd_cases h a i with ⟨ho, i0, i1, -, e⟩ | ⟨-, -, -, e⟩ | ⟨-, -, e⟩
    · rw [e]
      obtain ⟨-, -, a0, a1, a5, a6, -, -, eN, -⟩ := ob_spec hF ho
      rw [eN] at i1
      have hlt : (a + 1 + i).toNat < h.n := by omega
      have := hw.1 _ hlt
      have e2 : woH h (a + 1 + i) = h.z (a + 1 + i).toNat := rfl
      rw [e2]
      simp [Lit.wf, IntKind.min, IntKind.max, IntKind.signed, IntKind.bits] at this
      omega
    · rw [e]; omega
    · rw [e]; omega
  generalize fdX h a i = x at *
  refine ⟨wf_i64_of ?_ ?_, wf_i64_of ?_ ?_⟩ <;> unfold getK <;> (try unfold getN) <;> dsimp only <;> (repeat (first | split | omega))
end Go.Proofs.YtiofeebiejkajaaDoor
namespace Go.Proofs.YtiofeebiejkajaaDoor
set_option linter.unusedSimpArgs false
set_option linter.unusedVariables false
open Go.ChangeShapes Go.WideShapes Go.ChangeAt Go.RowKit Go.Joins

section
variable {N B n k : Nat} {b : Bool} {h : Hp} {m : Mk} {w : World}
/-- The marker's own row put anew. -/
theorem StV.setG (s : StV N B n k b h m w) (hN : N ≤ B) (hn : 32 ≤ n) (hk : 0 < k) {p : Option Addr} {c K : Nat} {z : Nat → Int} (hz : GrAt w p c K z) (hr : RowE N 3 K p w) :
    StV N B n k b h { m with g := ⟨m.g.r, K, z⟩ } ((w.setCell ⟨B, 0, none⟩ (.int .i64 m.g.r)).setCell ⟨B, 1, none⟩ (.slice p K c)) := by
  obtain ⟨ph, ch, q, d, pg, cg, pb, cb, pr, cr, g0, hh, hM⟩ := s
  have vB : VarT 73 11 B w := ⟨_, rfl, plain_st _ _ _ _ _ _ _ _ _ _ _ _ _ _, g0⟩
  have g1 := g0.putsL [.int .i64 m.g.r, .slice p K c] 0
  have hM1 := hM.putsL vB (by decide) (by decide) (by decide) hN 0 [.int .i64 m.g.r, .slice p K c]
  have hz1 := gr_putsL (k := 0) hz hr vB (by decide) hN [.int .i64 m.g.r, .slice p K c]
  have hr1 := row_putsL (k := 0) hr vB (by decide) hN [.int .i64 m.g.r, .slice p K c]
  have hh1 := hpIn_puts (vB.clear hh hn hk) [.int .i64 m.g.r, .slice p K c] 0 hh
  simp only [setFrom, List.setIfInBounds_toArray, List.set_cons_succ, List.set_cons_zero, Nat.reduceAdd] at g1
  exact ⟨ph, ch, q, d, p, c, pb, cb, pr, cr, g1, hh1, ⟨hz1, hr1, hM1.b, hM1.be, hM1.r, hM1.re⟩⟩
/-- The roots put anew. -/
theorem StV.setR (s : StV N B n k b h m w) (hN : N ≤ B) (hn : 32 ≤ n) (hk : 0 < k) {p : Option Addr} {c K : Nat} {z : Nat → Vl} (hz : VAt w p c K z) (hr : RowE N 38 K p w) :
    StV N B n k b h { m with nr := K, ro := z } (w.setCell ⟨B, 3, none⟩ (.slice p K c)) := by
  obtain ⟨ph, ch, q, d, pg, cg, pb, cb, pr, cr, g0, hh, hM⟩ := s
  have vB : VarT 73 11 B w := ⟨_, rfl, plain_st _ _ _ _ _ _ _ _ _ _ _ _ _ _, g0⟩
  have g1 := g0.putsL [.slice p K c] 3
  have hM1 := hM.putsL vB (by decide) (by decide) (by decide) hN 3 [.slice p K c]
  have hz1 := vat_putsL hz hr vB (by decide) hN 3 [.slice p K c]
  have hr1 := row_putsL (k := 3) hr vB (by decide) hN [.slice p K c]
  have hh1 := hpIn_puts (vB.clear hh hn hk) [.slice p K c] 3 hh
  simp only [setFrom, List.setIfInBounds_toArray, List.set_cons_succ, List.set_cons_zero, Nat.reduceAdd] at g1
  exact ⟨ph, ch, q, d, pg, cg, pb, cb, p, c, g1, hh1, ⟨hM1.g, hM1.ge, hM1.b, hM1.be, hz1, hr1⟩⟩
/-- A row that was popped. -/
theorem rowE_pop {N K : Nat} {p p' : Option Addr} {w w' : World} (hR : RowE N 3 K p w) (h0 : 0 < K) (hT : 0 < K → ∀ b off sp, p' = some ⟨b, off, sp⟩ → ∃ cs, w'.heap[b]? = some (.cells cs 3 (0, 0))) : RowE N 3 (K - 1) p' w' := fun _ b off sp e => by
  obtain ⟨cs, h1⟩ := hT h0 b off sp e
  exact ⟨(Array.getElem?_eq_some_iff.1 h1).1, .inr ⟨cs, h1⟩⟩
end

set_option maxHeartbeats 4000000 in
set_option maxRecDepth 20000 in
/-- The step 2, where the marker's row is empty. -/
theorem mgrey_no (N B n k : Nat) (b : Bool) (h : Hp) (m : Mk) (w : World) (hst : StV N B n k b h m w) (h0 : m.g.n = 0) :
    Calls Tryd.prog 31 #[.pointer (some ⟨B, 0, none⟩)] w fun e w' => e = .returned (.bool false) ∧ Below w.heap.size w w' := by
  obtain ⟨p, c, q, d, pg, cg, pb, cb, pr, cr, g0, hh, hM⟩ := hst
  obtain ⟨hlB, x0, x1, -, -, -, -, -, -, -, -, -⟩ := st_cells g0
  have hC := gpop_tag m.g.r pg m.g.n cg m.g.z w hM.g (by omega)
  rw [show decide (0 < m.g.n) = false by simp [h0]] at hC
  generalize m.g.n = K at *
  generalize m.g.r = R at *
  generalize gqX K m.g.z = X at *
  generalize K - 1 = K1 at *
  clear g0 hh hM h0
  go_enter Tryd.func31, Tryd.ntmps31
  go_wp2_with (first
    | (go_at_call 54; refine Calls.mono (hC) ?_; rintro e w' ⟨p', c', rfl, -, -, hb, -⟩; obtain ⟨hc, hf, hb, hz⟩ := bstep hb (w := w) (by go_grown); try simp only [World.size_alloc, World.size_setCell, World.size_drew] at hc hf hz)
  )
  go_returns
  exact ⟨rfl, by go_grown⟩
set_option maxHeartbeats 4000000 in
set_option maxRecDepth 20000 in
/-- .. where it isn't. -/
theorem mgrey_yes (N B n k : Nat) (b : Bool) (h : Hp) (m : Mk) (w : World) (hS : Sz w) (hSB : ¬ 0 = B) (hN : N ≤ B) (hst : StV N B n k b h m w) (hF : formB h = true) (h0 : 0 < m.g.n) (h1 : m.g.n ≤ 1000000) :
    Calls Tryd.prog 31 #[.pointer (some ⟨B, 0, none⟩)] w fun e w' => e = .returned (.bool true) ∧ StV N B n k b h (haM h { m with g := ⟨m.g.r, m.g.n - 1, m.g.z⟩ } (m.g.z (m.g.n - 1))) w' ∧ Aside (fun k => k = B) w w' := by
  obtain ⟨hn32, hk0⟩ := hst.room hF
  obtain ⟨p, c, q, d, pg, cg, pb, cb, pr, cr, g0, hh, hM⟩ := id hst
  obtain ⟨hlB, x0, x1, -, -, -, -, -, -, -, -, -⟩ := st_cells g0
  have hC := gpop_tag m.g.r pg m.g.n cg m.g.z w hM.g h1
  rw [show decide (0 < m.g.n) = true by simp [h0], show gqX m.g.n m.g.z = m.g.z (m.g.n - 1) by unfold gqX; rw [if_neg (by omega)]] at hC
  have hge := hM.ge
  have hH := fun (W : World) (a : Int) (h1 : Sz W) (h3 : StV N B n k b h { m with g := ⟨m.g.r, m.g.n - 1, m.g.z⟩ } W) => mhand_any N B n k b h { m with g := ⟨m.g.r, m.g.n - 1, m.g.z⟩ } a W h1 hN h3 hF
  generalize hX : m.g.z (m.g.n - 1) = X at *
  clear g0 hh hM
  go_enter Tryd.func31, Tryd.ntmps31
  go_upto_region 2 with (first
    | (go_at_call 54; refine Calls.mono (hC) ?_; rintro e w' ⟨p', c', rfl, hZ, -, hb, hT⟩; obtain ⟨hc, hf, hb, hz⟩ := bstep hb (w := w) (by go_grown); try simp only [World.size_alloc, World.size_setCell, World.size_drew] at hc hf hz)
  )
  obtain ⟨w1, hw1⟩ : ∃ W, W = w'.alloc (.cells #[.int .i64 m.g.r, .slice p' (m.g.n - 1) c'] 28) := ⟨_, rfl⟩
  have hb1 : Below w'.heap.size w' w1 := by rw [hw1]; exact (Below.refl _ _).alloc (Nat.le_refl _) _
  have gX : TBox 28 w'.heap.size #[.int .i64 m.g.r, .slice p' (m.g.n - 1) c'] w1 := by rw [hw1]; exact TBox.new _ _ _
  rw [← hw1]
  have hR1 := (rowE_pop hge h0 hT).below hb1
  have hZ1 := hZ.below hb1
  have hbw := bjoin hb1 hb
  replace hst := hst.below hbw
  have v0 := gX.cell 0
  have v1 := gX.cell 1
  simp only [List.getElem?_toArray, List.getElem?_cons_zero, List.getElem?_cons_succ] at v0 v1
  have lX := gX.lt
  clear hw1 hc hf hb hz hb1 gX x0 x1 hlB hC hT hZ hge
  generalize w'.heap.size = XX at *
  obtain ⟨p, c, q, d, pg, cg, pb, cb, pr, cr, g0, hh, hM⟩ := id hst
  obtain ⟨hlB, x0, x1, -, -, -, -, -, -, -, -, -⟩ := st_cells g0
  obtain ⟨f0, f1, -, -, -, -, -, -, -, -, -⟩ := st_frozen g0
  clear g0 hh hM
  have s2 := hst.setG hN hn32 hk0 hZ1 hR1
  have hA2 := aside_set (aside_set (Aside.of (T := fun k => k = B) hbw) 0 (.int .i64 m.g.r)) 1 (.slice p' (m.g.n - 1) c')
  have hS2 := hS.aside hA2 hSB
  go_upto_region 5 with fail
  clear hst hZ1 hR1 x0 x1 f0 f1 v0 v1 hlB lX
  generalize (w1.setCell ⟨B, 0, none⟩ (.int .i64 m.g.r)).setCell ⟨B, 1, none⟩ (.slice p' (m.g.n - 1) c') = w2 at *
  replace hH := hH w2 X hS2 s2
  go_wp2_with (first
    | (go_at_call 55; refine Calls.mono hH ?_; rintro e w3 ⟨rfl, hs3, hA3⟩)
  )
  go_returns
  exact ⟨rfl, hs3, hA2.trans hA3⟩
end Go.Proofs.YtiofeebiejkajaaDoor
