import Derived.Test.YtkehankfnkjnlaaGreatDoorV40
namespace Go.Proofs.YtkehankfnkjnlaaGreatDoor
set_option linter.unusedSimpArgs false
set_option linter.unusedVariables false
set_option maxHeartbeats 16000000
set_option maxRecDepth 20000
open Go.ChangeAt Go.ChangeShapes Go.Joins Go.RowKit Go.WideShapes
variable {h : Hp} {w w' W W' : World} {p q : Option Addr} {n g : Nat} {a : Int} {v : Value}
theorem zm8 {N g : Nat} {E T : TypeId} {cur : Array Value} (h : RowE N E n p w) (hv : TBox T g cur w) (hT : ¬ E = T) (hg : N ≤ g) (h0 : 0 < n) {b off : Nat} {sp : Option Nat} (e : p = some ⟨b, off, sp⟩) : ¬ b = g := by
 rcases (h h0 b off sp e).2 with h1 | ⟨cs, h1⟩
 ·omega
 ·rintro rfl
  have := h1.symm.trans hv
  injection this with this
  injection this with _ this
  exact hT this
theorem zd8 {N g : Nat} {T : TypeId} {n c : Nat} {z : Nat → Int} {cur : Array Value} (h : GrAt w p c n z) (he : RowE N 3 n p w) (hv : TBox T g cur w) (hT : ¬ 3 = T) (hg : N ≤ g) (i : Nat) (u : Value) :
  GrAt (w.setCell ⟨g, i, none⟩ u) p c n z ∧ RowE N 3 n p (w.setCell ⟨g, i, none⟩ u) :=
 ⟨h.of_block (by simp [World.setCell]) fun h0 b off sp e => Below.heap_setCell w _ u b (zm8 he hv hT hg h0 e), fun h0 b off sp e => by
  obtain ⟨hl, h1⟩ := he h0 b off sp e
  refine ⟨by simpa [World.setCell] using hl, ?_⟩
  rcases h1 with h1 | ⟨cs, h1⟩
  ·exact .inl h1
  ·exact .inr ⟨cs, (Below.heap_setCell w _ u b (zm8 he hv hT hg h0 e)).trans h1⟩⟩
def GyRow (N g n : Nat) (z : Nat → Gy) (w : World) : Prop :=
 ∃ cur : Array Value, TBox 31 g cur w ∧ ∀ t, t < n → ∃ p c, cur[t * 2]? = some (.int .i64 (z t).r) ∧ cur[t * 2 + 1]? = some (.slice p (z t).n c) ∧ GrAt w p c (z t).n (z t).z ∧ RowE N 3 (z t).n p w ∧ In64 (z t).r
section
variable {N g n : Nat} {z : Nat → Gy} {w w' : World}
theorem GyRow.below (h : GyRow N g n z w) (hb : Below w.heap.size w w') : GyRow N g n z w' := by
 obtain ⟨cur, hv, hc⟩ := h
 refine ⟨cur, hv.below hb, fun t ht => ?_⟩
 obtain ⟨p, c, h1, h2, h3, h4, h5⟩ := hc t ht
 exact ⟨p, c, h1, h2, h3.below hb, h4.below hb, h5⟩
theorem GyRow.lt (h : GyRow N g n z w) : g < w.heap.size := by
 obtain ⟨cur, hv, hc⟩ := h
 exact hv.lt
theorem GyRow.at (h : GyRow N g n z w) {t : Nat} (ht : t < n) : ∃ p c, w.cell? ⟨g, t * 2, none⟩ = some (.int .i64 (z t).r) ∧ w.cell? ⟨g, t * 2 + 1, none⟩ = some (.slice p (z t).n c) ∧ w.frozen? ⟨g, t * 2, none⟩ = false ∧ w.frozen? ⟨g, t * 2 + 1, none⟩ = false ∧ GrAt w p c (z t).n (z t).z ∧ RowE N 3 (z t).n p w ∧ In64 (z t).r := by
 obtain ⟨cur, hv, hc⟩ := h
 obtain ⟨p, c, h1, h2, h3, h4, h5⟩ := hc t ht
 exact ⟨p, c, (hv.cell _).trans h1, (hv.cell _).trans h2, hv.frozen _, hv.frozen _, h3, h4, h5⟩
theorem GyRow.rat (h : GyRow N g n z w) {c : Nat} (hn : n ≤ c ∧ c ≤ maxLen) : RAt (GrE N) 2 w (some ⟨g, 0, none⟩) c n z := by
 have hlt := h.lt
 refine ⟨fun i hi => ?_, Nat.le_trans hn.1 hn.2, fun e => (by cases e), hn⟩
 obtain ⟨p, c', h1, h2, -, -, h3, h4, h5⟩ := h.at hi
 refine ⟨g, 0, [.int .i64 (z i).r, .slice p (z i).n c'], rfl, hlt, rfl, fun k u hk => ?_, p, c', rfl, h3, h4, h5⟩
 match k, hk with
 | 0, hk => obtain rfl : Value.int .i64 (z i).r = u := by simpa using hk
            rw [Nat.zero_add, Nat.add_zero]; exact h1
 | 1, hk => obtain rfl : Value.slice p (z i).n c' = u := by simpa using hk
            rw [Nat.zero_add]; exact h2
theorem GyRow.tag (h : GyRow N g n z w) : ∃ cs, w.heap[g]? = some (.cells cs 31 (0, 0)) := by
 obtain ⟨cur, hv, -⟩ := h
 exact ⟨cur, hv⟩
theorem GyRow.item (h : GyRow N g n z w) (hg : N ≤ g) {j : Nat} (hj : j < n) {c : Nat} (hz : GrAt w p c (z j).n (z j).z) (hr : RowE N 3 (z j).n p w) : GyRow N g n z (w.setCell ⟨g, j * 2 + 1, none⟩ (.slice p (z j).n c)) := by
 obtain ⟨cur, hv, hc⟩ := h
 have hjl : j * 2 + 1 < cur.size := by
  obtain ⟨_, _, _, h2, _⟩ := hc j hj
  exact (Array.getElem?_eq_some_iff.1 h2).1
 refine ⟨cur.setIfInBounds (j * 2 + 1) _, hv.set _ _, fun t ht => ?_⟩
 obtain ⟨p1, c1, h1, h2, h3, h4, h5⟩ := hc t ht
 by_cases e : t = j
 ·subst e
  obtain ⟨s1, s2⟩ := zd8 hz hr hv (by decide) hg (t * 2 + 1) (.slice p (z t).n c)
  exact ⟨p, c, by rw [Array.getElem?_setIfInBounds, if_neg (by omega)]; exact h1, by rw [Array.getElem?_setIfInBounds, if_pos rfl, if_pos hjl], s1, s2, h5⟩
 ·obtain ⟨s1, s2⟩ := zd8 h3 h4 hv (by decide) hg (j * 2 + 1) (.slice p (z j).n c)
  exact ⟨p1, c1, by rw [Array.getElem?_setIfInBounds, if_neg (by omega)]; exact h1, by rw [Array.getElem?_setIfInBounds, if_neg (by omega)]; exact h2, s1, s2, h5⟩
theorem GyRow.put (h : GyRow N g n z w) (hg : N ≤ g) {j : Nat} (hj : j < n) {r : Int} {K : Nat} {y : Nat → Int} {c : Nat} (hz : GrAt w p c K y) (hr : RowE N 3 K p w) (h64 : In64 r) :
  GyRow N g n (setB z j ⟨r, K, y⟩) ((w.setCell ⟨g, j * 2, none⟩ (.int .i64 r)).setCell ⟨g, j * 2 + 1, none⟩ (.slice p K c)) := by
 obtain ⟨cur, hv, hc⟩ := h
 have hjl : j * 2 + 1 < cur.size := by
  obtain ⟨_, _, _, h2, _⟩ := hc j hj
  exact (Array.getElem?_eq_some_iff.1 h2).1
 have hv1 := hv.set (j * 2) (.int .i64 r)
 refine ⟨(cur.setIfInBounds (j * 2) _).setIfInBounds (j * 2 + 1) _, hv1.set _ _, fun t ht => ?_⟩
 obtain ⟨p1, c1, h1, h2, h3, h4, h5⟩ := hc t ht
 by_cases e : t = j
 ·subst e
  have e1 : setB z t ⟨r, K, y⟩ t = ⟨r, K, y⟩ := by simp [setB]
  rw [e1]
  obtain ⟨s1, s2⟩ := zd8 hz hr hv (by decide) hg (t * 2) (.int .i64 r)
  obtain ⟨s1, s2⟩ := zd8 s1 s2 hv1 (by decide) hg (t * 2 + 1) (.slice p K c)
  exact ⟨p, c, by rw [Array.getElem?_setIfInBounds, if_neg (by omega), Array.getElem?_setIfInBounds, if_pos rfl, if_pos (by omega)], by rw [Array.getElem?_setIfInBounds, if_pos rfl, if_pos (by simpa using hjl)], s1, s2, h64⟩
 ·have e1 : setB z j ⟨r, K, y⟩ t = z t := by simp [setB, e]
  rw [e1]
  obtain ⟨s1, s2⟩ := zd8 h3 h4 hv (by decide) hg (j * 2) (.int .i64 r)
  obtain ⟨s1, s2⟩ := zd8 s1 s2 hv1 (by decide) hg (j * 2 + 1) (.slice p K c)
  exact ⟨p1, c1, by rw [Array.getElem?_setIfInBounds, if_neg (by omega), Array.getElem?_setIfInBounds, if_neg (by omega)]; exact h1, by rw [Array.getElem?_setIfInBounds, if_neg (by omega), Array.getElem?_setIfInBounds, if_neg (by omega)]; exact h2, s1, s2, h5⟩
theorem gy_of {M : Nat} (h : GrowR M 31 2 (GrE N) n z v w) (h0 : 0 < n) : ∃ g c, v = .slice (some ⟨g, 0, none⟩) n c ∧ M ≤ g ∧ (n ≤ c ∧ c ≤ maxLen) ∧ GyRow N g n z w := by
 obtain ⟨L, h1, h2, ⟨h3, -⟩, h4⟩ := h
 rcases h3.2 with ⟨-, e⟩ | ⟨g, cap, cur, hv, hb, hg, hnc, hm, hs, ht⟩
 ·omega
 ·refine ⟨g, cap, hv, hb, ⟨hnc, hm⟩, cur, hg, fun t htn => ?_⟩
  obtain ⟨l, hl⟩ : ∃ l, L[t]? = some l := ⟨L[t]'(by omega), List.getElem?_eq_getElem _⟩
  obtain ⟨p, c, rfl, h5, h6, h7⟩ := h4 t l hl
  have at' : ∀ k u, ([.int .i64 (z t).r, .slice p (z t).n c] : List Value)[k]? = some u → k < 2 → cur[t * 2 + k]? = some u := fun k u hk hk2 => by
   have hf := zcg L t k _ h2 hl hk2
   rw [hk, ← ht, List.getElem?_take] at hf
   split at hf
   ·simpa using hf
   ·cases hf
  exact ⟨p, c, at' 0 _ rfl (by omega), at' 1 _ rfl (by omega), h5, h6, h7⟩
end
theorem ztv (N B n k : Nat) (b : Bool) (h : Hp) (m : Mk) (i : Nat) (r : Int) (pq : Option Addr) (K cq : Nat) (z : Nat → Int) (w : World) (hN : N ≤ B) (hst : StV N B n k b h m w) (hF : formB h = true) (hi : i < m.nb) (hnb : m.nb ≤ 1000000) 
  (hrows : ∀ t, t < m.nb → (m.b t).n ≤ 1000000) (hg : GrAt w pq cq K z) (hR : RowE N 3 K pq w) (hr : In64 r) (hK : K ≤ 1000000) :
  Calls Tryz.prog 168 #[.pointer (some ⟨B, 0, none⟩), .int .i64 i, .agg #[.int .i64 r, .slice pq K cq]] w fun e w' => e = .returned (.tuple #[]) ∧ StV N B n k b h { m with b := setB m.b i ⟨r, K, z⟩ } w' ∧ Aside (fun k => k = B) w w' := by
 obtain ⟨hn32, hk0⟩ := hst.room hF
 have hlBw := hst.lt
 obtain ⟨w0, hw0⟩ : ∃ w0, w0 = w.alloc (.cells #[.int .i64 r, .slice pq K cq] 31) := ⟨_, rfl⟩
 have hb0 : Below w.heap.size w w0 := by rw [hw0]; exact zr.alloc (Nat.le_refl _) _
 have gR : TBox 31 w.heap.size #[.int .i64 r, .slice pq K cq] w0 := by rw [hw0]; exact TBox.new _ _ _
 have hNw : N ≤ w.heap.size := by omega
 have hst0 := hst
 replace hst := hst.below hb0
 replace hg := hg.below hb0
 replace hR := hR.below hb0
 obtain ⟨p, c, q, d, pg, cg, pb, cb, pv, cv, g0, hh, hM⟩ := hst
 have hC := zme N pb m.nb cb m.b w0 hM.b (by omega) hnb
 obtain ⟨hlB, -, -, x2, -, -, -, -, -, -, -, -⟩ := zal g0
 go_enter Tryz.func168, Tryz.ntmps168
 go_upto_region 1 with fail
 rw [← hw0]
 clear hw0
 go_upto_region 2 with (first
  | (go_at_call 193; refine zm (hC) ?_; rintro e w' ⟨v, rfl, hG, hb⟩; obtain ⟨hc, hf, hb, hz⟩ := bstep hb (w := w0) (by go_grown); try simp only [za, zb, zd] at hc hf hz)
 )
 obtain ⟨g, cap, rfl, hgw, hcap, hy⟩ := gy_of hG (by omega)
 have hwg : w.heap.size ≤ g := Nat.le_trans hb0.size hgw
 have hNg : N ≤ g := Nat.le_trans hNw hwg
 replace gR := gR.below hb
 replace hg := hg.below hb
 replace hR := hR.below hb
 replace g0 := g0.below hb
 replace hh := hh.below hb
 replace hM := hM.below hb
 have hbw := bjoin hb hb0
 clear hC hG hb x2 hlB hb0 hc hf hz
 generalize w' = w1 at *
 have r0 := gR.cell 0
 have r1 := gR.cell 1
 simp only [List.getElem?_toArray, List.getElem?_cons_zero, List.getElem?_cons_succ] at r0 r1
 have lR := gR.lt
 have lg := hy.lt
 obtain ⟨p1, c1, y0, y1, f0, f1, -, -, -⟩ := hy.at hi
 go_upto_region 3 with fail
 have hy2 := hy.put hNg hi hg hR hr
 have hbw2 : Below w.heap.size w ((w1.setCell ⟨g, i * 2, none⟩ (.int .i64 r)).setCell ⟨g, i * 2 + 1, none⟩ (.slice pq K cq)) := (hbw.setCell hwg _).setCell hwg _
 have hn2 : ∀ t, t < m.nb → (setB m.b i ⟨r, K, z⟩ t).n ≤ 1000000 := fun t ht => by
  unfold setB
  split
  ·exact hK
  ·exact hrows t ht
 generalize ((w1.setCell ⟨g, i * 2, none⟩ (.int .i64 r)).setCell ⟨g, i * 2 + 1, none⟩ (.slice pq K cq)) = w2 at *
 clear hy hbw r0 r1 lR lg y0 y1 f0 f1 gR hg hR g0 hh hM
 generalize hZ : setB m.b i ⟨r, K, z⟩ = Z at *
 go_wp2
 go_loopg [20] m.nb (fun gh iv wr => ∃ j : Nat, j ≤ m.nb ∧ gh = m.nb - j ∧ iv = .int .i64 j ∧ GyRow N g m.nb Z wr ∧ Below w.heap.size w wr)
 case atStart => exact ⟨0, by omega, by omega, rfl, hy2, hbw2⟩
 case round =>
  clear hy2 hbw2
  obtain ⟨j, jh, rfl, rfl, hy, hbr⟩ := hrel
  have lg := hy.lt
  by_cases hj : j < m.nb
  ·obtain ⟨pj, cj, y0, y1, f0, f1, hgj, -, -⟩ := hy.at hj
   have hCl := zp3 pj (Z j).n cj (Z j).z wr hgj (hn2 j hj)
   generalize hnj : (Z j).n = nj at y1 hCl
   clear hst0
   go_wp2_with (first
  | (go_at_call 194; refine zm (hCl) ?_; rintro e w' ⟨p9, c9, rfl, hg9, ht9, hb⟩; obtain ⟨hc, hf, hb, hz⟩ := bstep hb (w := wr) (by go_grown); try simp only [za, zb, zd] at hc hf hz)
   )
   have hZ9 : GrAt w' p9 c9 (Z j).n (Z j).z := by rw [hnj]; exact hg9
   have hR9 : RowE N 3 (Z j).n p9 w' := fun _ bb off sp e => by
    obtain ⟨-, cs, h1⟩ := ht9 bb off sp e
    exact ⟨(Array.getElem?_eq_some_iff.1 h1).1, .inr ⟨cs, h1⟩⟩
   have hy' := (hy.below hb).item hNg hj hZ9 hR9
   rw [hnj] at hy'
   have hbr' : Below w.heap.size w (w'.setCell ⟨g, j * 2 + 1, none⟩ (.slice p9 nj c9)) := (bjoin hb hbr).setCell hwg _
   go_roundg (m.nb - (j + 1))
   case measure => omega
   case rel => exact ⟨j + 1, by omega, rfl, by go_num, hy', hbr'⟩
  ·replace hst0 := hst0.below hbr
   obtain ⟨p, c, q, d, pg, cg, pb, cb, pv, cv, g0, hh, hM⟩ := hst0
   obtain ⟨hlB, -, -, x2, -, -, -, -, -, -, -, -⟩ := zal g0
   obtain ⟨-, -, f2, -⟩ := zbm g0
   have vB : VarT 164 11 B wr := ⟨_, rfl, zdh _ _ _ _ _ _ _ _ _ _ _ _ _ _, g0⟩
   have hbe : RowE N 31 m.nb (some ⟨g, 0, none⟩) wr := fun _ b1 off sp e => by
    injection e with e
    injection e with e
    subst e
    exact ⟨hy.lt, .inr hy.tag⟩
   have hrt := hy.rat hcap
   have hrt2 := zj5 hrt hbe vB (by decide) (by decide) hN 2 [.slice (some ⟨g, 0, none⟩) m.nb cap]
   have hbe2 := zba (k := 2) hbe vB (by decide) hN [.slice (some ⟨g, 0, none⟩) m.nb cap]
   have hM2 := hM.putsL vB (by decide) (by decide) (by decide) hN 2 [.slice (some ⟨g, 0, none⟩) m.nb cap]
   have hh2 := zan (vB.clear hh hn32 hk0) [.slice (some ⟨g, 0, none⟩) m.nb cap] 2 hh
   have g02 := g0.putsL [.slice (some ⟨g, 0, none⟩) m.nb cap] 2
   simp only [setFrom, List.setIfInBounds_toArray, List.set_cons_succ, List.set_cons_zero, Nat.reduceAdd] at g02
   simp only [putsL, Nat.reduceAdd] at hrt2 hbe2 hM2 hh2 g02
   clear hrt hbe hM hh g0 vB hy
   go_wp2
   go_returns
   subst hZ
   exact ⟨rfl, ⟨p, c, q, d, pg, cg, some ⟨g, 0, none⟩, cap, pv, cv, g02, hh2, ⟨hM2.g, hM2.ge, hrt2, hbe2, hM2.r, hM2.re⟩⟩, zax (Aside.of hbr) 2 _⟩
section
variable {N B n k : Nat} {b : Bool} {h : Hp} {m : Mk} {w : World}
theorem StV.setG (s : StV N B n k b h m w) (hN : N ≤ B) (hn : 32 ≤ n) (hk : 0 < k) {c K : Nat} {z : Nat → Int} (hz : GrAt w p c K z) (hr : RowE N 3 K p w) :
  StV N B n k b h { m with g := ⟨m.g.r, K, z⟩ } ((w.setCell ⟨B, 0, none⟩ (.int .i64 m.g.r)).setCell ⟨B, 1, none⟩ (.slice p K c)) := by
 obtain ⟨ph, ch, q, d, pg, cg, pb, cb, pr, cr, g0, hh, hM⟩ := s
 have vB : VarT 164 11 B w := ⟨_, rfl, zdh _ _ _ _ _ _ _ _ _ _ _ _ _ _, g0⟩
 have g1 := g0.putsL [.int .i64 m.g.r, .slice p K c] 0
 have hM1 := hM.putsL vB (by decide) (by decide) (by decide) hN 0 [.int .i64 m.g.r, .slice p K c]
 have hz1 := zbv (k := 0) hz hr vB (by decide) hN [.int .i64 m.g.r, .slice p K c]
 have hr1 := zba (k := 0) hr vB (by decide) hN [.int .i64 m.g.r, .slice p K c]
 have hh1 := zan (vB.clear hh hn hk) [.int .i64 m.g.r, .slice p K c] 0 hh
 simp only [setFrom, List.setIfInBounds_toArray, List.set_cons_succ, List.set_cons_zero, Nat.reduceAdd] at g1
 exact ⟨ph, ch, q, d, p, c, pb, cb, pr, cr, g1, hh1, ⟨hz1, hr1, hM1.b, hM1.be, hM1.r, hM1.re⟩⟩
theorem StV.setR (s : StV N B n k b h m w) (hN : N ≤ B) (hn : 32 ≤ n) (hk : 0 < k) {c K : Nat} {z : Nat → Vl} (hz : VAt w p c K z) (hr : RowE N 70 K p w) :
  StV N B n k b h { m with nr := K, ro := z } (w.setCell ⟨B, 3, none⟩ (.slice p K c)) := by
 obtain ⟨ph, ch, q, d, pg, cg, pb, cb, pr, cr, g0, hh, hM⟩ := s
 have vB : VarT 164 11 B w := ⟨_, rfl, zdh _ _ _ _ _ _ _ _ _ _ _ _ _ _, g0⟩
 have g1 := g0.putsL [.slice p K c] 3
 have hM1 := hM.putsL vB (by decide) (by decide) (by decide) hN 3 [.slice p K c]
 have hz1 := zkd hz hr vB (by decide) hN 3 [.slice p K c]
 have hr1 := zba (k := 3) hr vB (by decide) hN [.slice p K c]
 have hh1 := zan (vB.clear hh hn hk) [.slice p K c] 3 hh
 simp only [setFrom, List.setIfInBounds_toArray, List.set_cons_succ, List.set_cons_zero, Nat.reduceAdd] at g1
 exact ⟨ph, ch, q, d, pg, cg, pb, cb, p, c, g1, hh1, ⟨hM1.g, hM1.ge, hM1.b, hM1.be, hz1, hr1⟩⟩
theorem znl {N K : Nat} {p p' : Option Addr} {w w' : World} (hR : RowE N 3 K p w) (h0 : 0 < K) (hT : 0 < K → ∀ b off sp, p' = some ⟨b, off, sp⟩ → ∃ cs, w'.heap[b]? = some (.cells cs 3 (0, 0))) : RowE N 3 (K - 1) p' w' := fun _ b off sp e => by
 obtain ⟨cs, h1⟩ := hT h0 b off sp e
 exact ⟨(Array.getElem?_eq_some_iff.1 h1).1, .inr ⟨cs, h1⟩⟩
end
theorem zu5 (N B n k : Nat) (b : Bool) (h : Hp) (m : Mk) (w : World) (hst : StV N B n k b h m w) (h0 : m.g.n = 0) :
  Calls Tryz.prog 132 #[.pointer (some ⟨B, 0, none⟩)] w fun e w' => e = .returned (.bool false) ∧ Below w.heap.size w w' := by
 obtain ⟨p, c, q, d, pg, cg, pb, cb, pr, cr, g0, hh, hM⟩ := hst
 obtain ⟨hlB, x0, x1, -, -, -, -, -, -, -, -, -⟩ := zal g0
 have hC := zjl m.g.r pg m.g.n cg m.g.z w hM.g (by omega)
 rw [show decide (0 < m.g.n) = false by simp [h0]] at hC
 generalize m.g.n = K at *
 generalize m.g.r = R at *
 generalize gqX K m.g.z = X at *
 generalize K - 1 = K1 at *
 clear g0 hh hM h0
 go_enter Tryz.func132, Tryz.ntmps132
 go_wp2_with (first
  | (go_at_call 166; refine zm (hC) ?_; rintro e w' ⟨p', c', rfl, -, -, hb, -⟩; obtain ⟨hc, hf, hb, hz⟩ := bstep hb (w := w) (by go_grown); try simp only [za, zb, zd] at hc hf hz)
 )
 go_returns
 exact ⟨rfl, by go_grown⟩
theorem zq2 (N B n k : Nat) (b : Bool) (h : Hp) (m : Mk) (w : World) (hS : Sz w) (hSB : ¬ 0 = B) (hN : N ≤ B) (hst : StV N B n k b h m w) (hF : formB h = true) (h0 : 0 < m.g.n) (h1 : m.g.n ≤ 1000000) :
  Calls Tryz.prog 132 #[.pointer (some ⟨B, 0, none⟩)] w fun e w' => e = .returned (.bool true) ∧ StV N B n k b h (haM h { m with g := ⟨m.g.r, m.g.n - 1, m.g.z⟩ } (m.g.z (m.g.n - 1))) w' ∧ Aside (fun k => k = B) w w' := by
 obtain ⟨hn32, hk0⟩ := hst.room hF
 obtain ⟨p, c, q, d, pg, cg, pb, cb, pr, cr, g0, hh, hM⟩ := id hst
 obtain ⟨hlB, x0, x1, -, -, -, -, -, -, -, -, -⟩ := zal g0
 have hC := zjl m.g.r pg m.g.n cg m.g.z w hM.g h1
 rw [show decide (0 < m.g.n) = true by simp [h0], show gqX m.g.n m.g.z = m.g.z (m.g.n - 1) by unfold gqX; rw [if_neg (by omega)]] at hC
 have hge := hM.ge
 have hH := fun (W : World) (a : Int) (h1 : Sz W) (h3 : StV N B n k b h { m with g := ⟨m.g.r, m.g.n - 1, m.g.z⟩ } W) => zhg N B n k b h { m with g := ⟨m.g.r, m.g.n - 1, m.g.z⟩ } a W h1 hN h3 hF
 generalize hX : m.g.z (m.g.n - 1) = X at *
 clear g0 hh hM
 go_enter Tryz.func132, Tryz.ntmps132
 go_upto_region 2 with (first
  | (go_at_call 166; refine zm (hC) ?_; rintro e w' ⟨p', c', rfl, hZ, -, hb, hT⟩; obtain ⟨hc, hf, hb, hz⟩ := bstep hb (w := w) (by go_grown); try simp only [za, zb, zd] at hc hf hz)
 )
 obtain ⟨w1, hw1⟩ : ∃ W, W = w'.alloc (.cells #[.int .i64 m.g.r, .slice p' (m.g.n - 1) c'] 31) := ⟨_, rfl⟩
 have hb1 : Below w'.heap.size w' w1 := by rw [hw1]; exact zr.alloc (Nat.le_refl _) _
 have gX : TBox 31 w'.heap.size #[.int .i64 m.g.r, .slice p' (m.g.n - 1) c'] w1 := by rw [hw1]; exact TBox.new _ _ _
 rw [← hw1]
 have hR1 := (znl hge h0 hT).below hb1
 have hZ1 := hZ.below hb1
 have hbw := bjoin hb1 hb
 replace hst := hst.below hbw
 have v0 := gX.cell 0
 have v1 := gX.cell 1
 simp only [List.getElem?_toArray, List.getElem?_cons_zero, List.getElem?_cons_succ] at v0 v1
 have lX := gX.lt
 clear hw1 hc hf hb hz hb1 gX x0 x1 hlB hC hT hZ hge
 generalize w'.heap.size = XX at *
 obtain ⟨p, c, q, d, pg, cg, pb, cb, pr, cr, g0, hh, hM⟩ := id hst
 obtain ⟨hlB, x0, x1, -, -, -, -, -, -, -, -, -⟩ := zal g0
 obtain ⟨f0, f1, -, -, -, -, -, -, -, -, -⟩ := zbm g0
 clear g0 hh hM
 have s2 := hst.setG hN hn32 hk0 hZ1 hR1
 have hA2 := zax (zax (Aside.of (T := fun k => k = B) hbw) 0 (.int .i64 m.g.r)) 1 (.slice p' (m.g.n - 1) c')
 have hS2 := hS.aside hA2 hSB
 go_upto_region 5 with fail
 clear hst hZ1 hR1 x0 x1 f0 f1 v0 v1 hlB lX
 generalize (w1.setCell ⟨B, 0, none⟩ (.int .i64 m.g.r)).setCell ⟨B, 1, none⟩ (.slice p' (m.g.n - 1) c') = w2 at *
 replace hH := hH w2 X hS2 s2
 go_wp2_with (first
  | (go_at_call 167; refine zm hH ?_; rintro e w3 ⟨rfl, hs3, hA3⟩)
 )
 go_returns
 exact ⟨rfl, hs3, hA2.trans hA3⟩
theorem zt1 (N B n k : Nat) (b : Bool) (h : Hp) (m : Mk) (w : World) (hst : StV N B n k b h m w) (h0 : m.ob = -1) :
  Calls Tryz.prog 131 #[.pointer (some ⟨B, 0, none⟩)] w fun e w' => e = .returned (.bool false) ∧ Below w.heap.size w w' := by
 obtain ⟨p, c, q, d, pg, cg, pb, cb, pr, cr, g0, hh, hM⟩ := hst
 obtain ⟨hlB, -, -, -, -, x4, -, -, -, -, -, -⟩ := zal g0
 rw [h0] at x4
 clear g0 hh hM h0
 go_enter Tryz.func131, Tryz.ntmps131
 go_wp2
 go_returns
 exact ⟨rfl, zr⟩
theorem zoj (N B n k : Nat) (b : Bool) (h : Hp) (m : Mk) (w : World) (hS : Sz w) (hSB : ¬ 0 = B) (hN : N ≤ B) (hst : StV N B n k b h m w) (hF : formB h = true) (h0 : ¬ m.ob = -1) (he : fdE h m.ob m.fi = 0) (hr : m.g.r ≤ 1000000) (h1 : m.g.n ≤ 1000000) :
  Calls Tryz.prog 131 #[.pointer (some ⟨B, 0, none⟩)] w fun e w' => e = .returned (.bool true) ∧ StV N B n k b (shM h m.g (fvV h m.ob m.fi)).h
   (if m.fi + 1 = obN h m.ob then { m with g := (shM h m.g (fvV h m.ob m.fi)).gy m.g.r, ov := m.ov || (shM h m.g (fvV h m.ob m.fi)).o, ob := -1, fi := 0 }
   else { m with g := (shM h m.g (fvV h m.ob m.fi)).gy m.g.r, ov := m.ov || (shM h m.g (fvV h m.ob m.fi)).o, fi := m.fi + 1 }) w' ∧ Aside (fun k => k = B) w w' := by
 obtain ⟨hn32, hk0⟩ := hst.room hF
 obtain ⟨p, c, q, d, pg, cg, pb, cb, pr, cr, g0, hh, hM⟩ := id hst
 obtain ⟨hlB, x0, x1, -, -, x4, x5, -, -, x8, x9, x10⟩ := zal g0
 have hv := zxz hF hh.at'.wf m.ob m.fi
 have hFd := fun W (hW : Below w.heap.size w W) => zkf (a := m.ob) (i := m.fi) (hS.below hW) (hh.below hW) hF
 rw [he] at hFd
 have hI := fun (W : World) (cg : Nat) (pg : Option Addr) (hW : Below w.heap.size w W) (h3 : GrAt W pg cg m.g.n m.g.z) (h4 : RowE N 3 m.g.n pg W) => zh6 N B n k b h m m.g.r pg m.g.n cg m.g.z (fvV h m.ob m.fi) W (hS.below hW) hN (hst.below hW) hF h3 h4 hr h1 hv
 have hob : (m.ob == -1) = false := by simpa using h0
 have hsm := zoo he
 have hfi : m.fi < 32 := by
  obtain ⟨-, -, a0, a1, a5, a6, -, -, eN, -⟩ := zbj hF hsm.1
  rw [eN] at hsm
  omega
 obtain ⟨-, hfi0, hfiN⟩ := hsm
 obtain ⟨s1, s2, s3, -, -⟩ := zi2 hF m.g (fvV h m.ob m.fi)
 have hNN : obN (shM h m.g (fvV h m.ob m.fi)).h m.ob = obN h m.ob := (s3 m.ob).2
 have hFh : formB (shM h m.g (fvV h m.ob m.fi)).h = true := s1
 unfold shM at hNN hFh ⊢
 unfold fvV at hNN hFh hI ⊢
 generalize getK (fdX h m.ob m.fi) = VK at *
 generalize getN (fdX h m.ob m.fi) = VN at *
 generalize sdS m.g.r ⟨h, m.g.n, m.g.z, false⟩ ⟨VK, VN⟩ = T at *
 generalize obN h m.ob = NN at *
 unfold Vl.agg at hI
 dsimp only at hI
 have hgA := hM.g
 have hgE := hM.ge
 clear s1 s2 s3 hM hh g0 he
 go_enter Tryz.func131, Tryz.ntmps131
 go_upto_region 3 with fail
 refine zdx (ds := [some 14, some 15, some 16, some 17, some 18, some 19, some 20, some 21, some 22, some 23, some 24, some 25, some 26, some 27, some 28, some 13, some 29, some 30, some 3, none, some 4]) (ts := [14, 15, 16, 17, 18, 19, 20, 21, 22, 23, 24, 25, 26, 27, 28, 13, 29, 30, 3, 4]) (pv := [(fun v _ => v = .pointer (some ⟨B, 0, none⟩)), (fun v _ => v = .pointer (some ⟨B, 0, none⟩)), (fun v _ => v = .pointer (some ⟨B, 8, none⟩)), (fun v _ => v = .agg #[.slice p n c, .slice q k d, .bool b]), (fun v _ => v = .pointer (some ⟨B, 0, none⟩)), (fun v _ => v = .pointer (some ⟨B, 0, none⟩)), (fun v _ => v = .pointer (some ⟨B, 0, none⟩)), (fun v _ => v = .pointer (some ⟨B, 4, none⟩)), (fun v _ => v = .int .i64 m.ob), (fun v _ => v = .pointer (some ⟨B, 0, none⟩)), (fun v _ => v = .pointer (some ⟨B, 0, none⟩)), (fun v _ => v = .pointer (some ⟨B, 0, none⟩)), (fun v _ => v = .pointer (some ⟨B, 5, none⟩)), (fun v _ => v = .int .i64 m.fi), (fun v _ => v = .tuple #[.agg #[.int .i64 VK, .int .i64 VN], .int .i64 0]), (fun v _ => v = .tuple #[.agg #[.int .i64 VK, .int .i64 VN], .int .i64 0]), (fun v _ => v = .agg #[.int .i64 VK, .int .i64 VN]), (fun v _ => v = .int .i64 0), (fun _ _ => True), (fun _ _ => True), (fun v _ => v = .int .i64 0)]) (skip := fun i => ([] : List Nat).contains i) (ia := 18) (is := 19) (k := 31) (Shape := (ShapeT 70 2)) (Full := (fun g w => TBox 70 g #[.int .i64 VK, .int .i64 VN] w)) (by kernel_rfl) (by kernel_rfl) rfl rfl (by decide) (by decide) (by simp) ?_ (by decide) zkb (fun _ _ _ h hb => TBox.below h hb) ?_ ?_ ?_ ?_
 ·exact .inr ⟨⟨_, rfl⟩, rfl, _, rfl, zt, by decide, rfl⟩
 ·exact ⟨fun _ _ _ h _ => h, fun _ _ _ h _ => h, fun _ _ _ h _ => h, fun _ _ _ h _ => h, fun _ _ _ h _ => h, fun _ _ _ h _ => h, fun _ _ _ h _ => h, fun _ _ _ h _ => h, fun _ _ _ h _ => h, fun _ _ _ h _ => h, fun _ _ _ h _ => h, fun _ _ _ h _ => h, fun _ _ _ h _ => h, fun _ _ _ h _ => h, fun _ _ _ h _ => h, fun _ _ _ h _ => h, fun _ _ _ h _ => h, fun _ _ _ h _ => h, fun _ _ _ h _ => h, fun _ _ _ h _ => h, fun _ _ _ h _ => h, trivial⟩
 ·exact ⟨rfl, rfl, rfl, rfl, rfl, rfl, rfl, rfl, rfl, rfl, rfl, rfl, rfl, rfl, rfl, rfl, rfl, rfl, rfl, rfl, rfl, trivial⟩
 ·refine ⟨?_, ?_, ?_, ?_, ?_, ?_, ?_, ?_, ?_, ?_, ?_, ?_, ?_, ?_, ?_, ?_, ?_, ?_, ?_, ?_, ?_, trivial⟩
  ·intro _ a' w' hb' hs hd hn Kc hK
   have f0 : a'.tmps[0]?.getD undef = .pointer (some ⟨B, 0, none⟩) := (hs 0 (by decide)).trans rfl
   clear hs hd hn
   rw [if_neg (by decide), if_neg (by decide)] at hK
   unfold Oper.wp
   go_simp
   try go_bits
   exact hK _ _ zr rfl
  ·intro _ a' w' hb' hs hd hn Kc hK
   have f14 : a'.tmps[14]?.getD undef = .pointer (some ⟨B, 0, none⟩) := hd 0 14 zt rfl (by decide) (by decide) rfl
   clear hs hd hn
   rw [if_neg (by decide), if_neg (by decide)] at hK
   have x4' := zcl hb' hlB x4
   have x5' := zcl hb' hlB x5
   have x8' := zcl hb' hlB x8
   have x9' := zcl hb' hlB x9
   have x10' := zcl hb' hlB x10
   unfold Oper.wp
   go_simp
   try go_bits
   exact hK _ _ zr zl
  ·intro _ a' w' hb' hs hd hn Kc hK
   have f15 : a'.tmps[15]?.getD undef = .pointer (some ⟨B, 0, none⟩) := hd 1 15 zt rfl (by decide) (by decide) rfl
   clear hs hd hn
   rw [if_neg (by decide), if_neg (by decide)] at hK
   unfold Oper.wp
   go_simp
   try go_bits
   exact hK _ _ zr rfl
  ·intro _ a' w' hb' hs hd hn Kc hK
   have f16 : a'.tmps[16]?.getD undef = .pointer (some ⟨B, 8, none⟩) := hd 2 16 zt rfl (by decide) (by decide) rfl
   clear hs hd hn
   rw [if_neg (by decide), if_neg (by decide)] at hK
   have x4' := zcl hb' hlB x4
   have x5' := zcl hb' hlB x5
   have x8' := zcl hb' hlB x8
   have x9' := zcl hb' hlB x9
   have x10' := zcl hb' hlB x10
   unfold Oper.wp
   go_simp
   try go_bits
   exact hK _ _ zr rfl
  ·intro _ a' w' hb' hs hd hn Kc hK
   have f0 : a'.tmps[0]?.getD undef = .pointer (some ⟨B, 0, none⟩) := (hs 0 (by decide)).trans rfl
   clear hs hd hn
   rw [if_neg (by decide), if_neg (by decide)] at hK
   unfold Oper.wp
   go_simp
   try go_bits
   exact hK _ _ zr rfl
  ·intro _ a' w' hb' hs hd hn Kc hK
   have f18 : a'.tmps[18]?.getD undef = .pointer (some ⟨B, 0, none⟩) := hd 4 18 zt rfl (by decide) (by decide) rfl
   clear hs hd hn
   rw [if_neg (by decide), if_neg (by decide)] at hK
   have x4' := zcl hb' hlB x4
   have x5' := zcl hb' hlB x5
   have x8' := zcl hb' hlB x8
   have x9' := zcl hb' hlB x9
   have x10' := zcl hb' hlB x10
   unfold Oper.wp
   go_simp
   try go_bits
   exact hK _ _ zr zl
  ·intro _ a' w' hb' hs hd hn Kc hK
   have f19 : a'.tmps[19]?.getD undef = .pointer (some ⟨B, 0, none⟩) := hd 5 19 zt rfl (by decide) (by decide) rfl
   clear hs hd hn
   rw [if_neg (by decide), if_neg (by decide)] at hK
   unfold Oper.wp
   go_simp
   try go_bits
   exact hK _ _ zr rfl
  ·intro _ a' w' hb' hs hd hn Kc hK
   have f20 : a'.tmps[20]?.getD undef = .pointer (some ⟨B, 0, none⟩) := hd 6 20 zt rfl (by decide) (by decide) rfl
   clear hs hd hn
   rw [if_neg (by decide), if_neg (by decide)] at hK
   unfold Oper.wp
   go_simp
   try go_bits
   exact hK _ _ zr rfl
  ·intro _ a' w' hb' hs hd hn Kc hK
   have f21 : a'.tmps[21]?.getD undef = .pointer (some ⟨B, 4, none⟩) := hd 7 21 zt rfl (by decide) (by decide) rfl
   clear hs hd hn
   rw [if_neg (by decide), if_neg (by decide)] at hK
   have x4' := zcl hb' hlB x4
   have x5' := zcl hb' hlB x5
   have x8' := zcl hb' hlB x8
   have x9' := zcl hb' hlB x9
   have x10' := zcl hb' hlB x10
   unfold Oper.wp
   go_simp
   try go_bits
   exact hK _ _ zr rfl
  ·intro _ a' w' hb' hs hd hn Kc hK
   have f0 : a'.tmps[0]?.getD undef = .pointer (some ⟨B, 0, none⟩) := (hs 0 (by decide)).trans rfl
   clear hs hd hn
   rw [if_neg (by decide), if_neg (by decide)] at hK
   unfold Oper.wp
   go_simp
   try go_bits
   exact hK _ _ zr rfl
  ·intro _ a' w' hb' hs hd hn Kc hK
   have f23 : a'.tmps[23]?.getD undef = .pointer (some ⟨B, 0, none⟩) := hd 9 23 zt rfl (by decide) (by decide) rfl
   clear hs hd hn
   rw [if_neg (by decide), if_neg (by decide)] at hK
   have x4' := zcl hb' hlB x4
   have x5' := zcl hb' hlB x5
   have x8' := zcl hb' hlB x8
   have x9' := zcl hb' hlB x9
   have x10' := zcl hb' hlB x10
   unfold Oper.wp
   go_simp
   try go_bits
   exact hK _ _ zr zl
  ·intro _ a' w' hb' hs hd hn Kc hK
   have f24 : a'.tmps[24]?.getD undef = .pointer (some ⟨B, 0, none⟩) := hd 10 24 zt rfl (by decide) (by decide) rfl
   clear hs hd hn
   rw [if_neg (by decide), if_neg (by decide)] at hK
   unfold Oper.wp
   go_simp
   try go_bits
   exact hK _ _ zr rfl
  ·intro _ a' w' hb' hs hd hn Kc hK
   have f25 : a'.tmps[25]?.getD undef = .pointer (some ⟨B, 0, none⟩) := hd 11 25 zt rfl (by decide) (by decide) rfl
   clear hs hd hn
   rw [if_neg (by decide), if_neg (by decide)] at hK
   unfold Oper.wp
   go_simp
   try go_bits
   exact hK _ _ zr rfl
  ·intro _ a' w' hb' hs hd hn Kc hK
   have f26 : a'.tmps[26]?.getD undef = .pointer (some ⟨B, 5, none⟩) := hd 12 26 zt rfl (by decide) (by decide) rfl
   clear hs hd hn
   rw [if_neg (by decide), if_neg (by decide)] at hK
   have x4' := zcl hb' hlB x4
   have x5' := zcl hb' hlB x5
   have x8' := zcl hb' hlB x8
   have x9' := zcl hb' hlB x9
   have x10' := zcl hb' hlB x10
   unfold Oper.wp
   go_simp
   try go_bits
   exact hK _ _ zr rfl
  ·intro _ a' w' hb' hs hd hn Kc hK
   have f17 : a'.tmps[17]?.getD undef = .agg #[.slice p n c, .slice q k d, .bool b] := hd 3 17 zt rfl (by decide) (by decide) rfl
   have f22 : a'.tmps[22]?.getD undef = .int .i64 m.ob := hd 8 22 zt rfl (by decide) (by decide) rfl
   have f27 : a'.tmps[27]?.getD undef = .int .i64 m.fi := hd 13 27 zt rfl (by decide) (by decide) rfl
   clear hs hd hn
   rw [if_neg (by decide), if_neg (by decide)] at hK
   have x4' := zcl hb' hlB x4
   have x5' := zcl hb' hlB x5
   have x8' := zcl hb' hlB x8
   have x9' := zcl hb' hlB x9
   have x10' := zcl hb' hlB x10
   unfold Oper.wp
   go_simp
   try go_bits
   refine zm (hFd w' hb') ?_
   rintro e w'' ⟨rfl, hb2⟩
   exact hK _ _ hb2 rfl
  ·intro _ a' w' hb' hs hd hn Kc hK
   have f28 : a'.tmps[28]?.getD undef = .tuple #[.agg #[.int .i64 VK, .int .i64 VN], .int .i64 0] := hd 14 28 zt rfl (by decide) (by decide) rfl
   clear hs hd hn
   rw [if_neg (by decide), if_neg (by decide)] at hK
   unfold Oper.wp
   go_simp
   try go_bits
   exact hK _ _ zr rfl
  ·intro _ a' w' hb' hs hd hn Kc hK
   have f13 : a'.tmps[13]?.getD undef = .tuple #[.agg #[.int .i64 VK, .int .i64 VN], .int .i64 0] := hd 15 13 zt rfl (by decide) (by decide) rfl
   clear hs hd hn
   rw [if_neg (by decide), if_neg (by decide)] at hK
   unfold Oper.wp
   go_simp
   try go_bits
   exact hK _ _ zr rfl
  ·intro _ a' w' hb' hs hd hn Kc hK
   have f13 : a'.tmps[13]?.getD undef = .tuple #[.agg #[.int .i64 VK, .int .i64 VN], .int .i64 0] := hd 15 13 zt rfl (by decide) (by decide) rfl
   clear hs hd hn
   rw [if_neg (by decide), if_neg (by decide)] at hK
   unfold Oper.wp
   go_simp
   try go_bits
   exact hK _ _ zr rfl
  ·intro _ a' w' hb' hs hd hn Kc hK
   clear hs hd hn
   rw [if_pos rfl] at hK
   unfold Oper.wp
   go_simp
   exact hK _ _ (zr.alloc (Nat.le_refl _) _) (Nat.le_refl _) (zpg _ _ rfl)
  ·intro _ a' w' hb' hs hd hn Kc hK
   obtain ⟨g, f3, hg, hsh⟩ := hn 3 zt rfl rfl
   have f29 : a'.tmps[29]?.getD undef = .agg #[.int .i64 VK, .int .i64 VN] := hd 16 29 zt rfl (by decide) (by decide) rfl
   rw [if_neg (by decide), if_pos rfl] at hK
   have hfin := hK g (.tuple #[]) (putsL g 0 [.int .i64 VK, .int .i64 VN] w') (fun d hd => by obtain rfl : 3 = d := Option.some.inj (Option.some.inj hd); exact f3) (zao hg _ _ _) hg (hsh.full2 _ _) (fun g' h => zmj _ g' h) ⟨fun _ h => h, fun _ h => h, fun _ h => h, fun _ h => h, fun _ h => h, fun _ h => h, fun _ h => h, fun _ h => h, fun _ h => h, fun _ h => h, fun _ h => h, fun _ h => h, fun _ h => h, fun _ h => h, fun _ h => h, fun _ h => h, fun _ h => h, fun _ h => h, fun _ h => h, fun _ h => h, fun _ h => h, trivial⟩
   clear hs hd hn hK
   obtain ⟨x0, x1, h0, c0, c1, g0, g1⟩ := hsh.two
   simp only [putsL] at hfin
   unfold Oper.wp
   go_simp
   exact hfin
  ·intro _ a' w' hb' hs hd hn Kc hK
   have f30 : a'.tmps[30]?.getD undef = .int .i64 0 := hd 17 30 zt rfl (by decide) (by decide) rfl
   clear hs hd hn
   rw [if_neg (by decide), if_neg (by decide)] at hK
   unfold Oper.wp
   go_simp
   try go_bits
   exact hK _ _ zr rfl
 intro Xf g w' hX hb hv
 obtain ⟨hg, gX, hgp⟩ := hX (by decide)
 have q3 : Xf 3 = .pointer (some ⟨g, 0, none⟩) := hgp 3 rfl
 have q4 : Xf 4 = .int .i64 0 := hv 20 4 rfl rfl (by decide) (by decide)
 clear hX hv hgp
 simp only [List.map_cons, List.map_nil, q3, q4, puts, Act.put, Nat.reduceAdd, List.setIfInBounds_toArray, List.set_cons_succ, List.set_cons_zero]
 replace hI := hI w'.drew cg pg hb.drew (hgA.below hb.drew) (hgE.below hb.drew)
 have u0 := gX.cell 0
 have u1 := gX.cell 1
 simp only [List.getElem?_toArray, List.getElem?_cons_zero, List.getElem?_cons_succ] at u0 u1
 have lg := gX.lt
 replace x0 := zcl hb hlB x0
 replace x1 := zcl hb hlB x1
 replace hlB := Nat.lt_of_lt_of_le hlB hb.size
 clear x4 x5 x8 x9 x10 hFd hgA hgE gX
 generalize w' = w1 at *
 go_upto_region 4 with fail
 go_cut [] from 31 to 42 (fun wx => StV N B n k b T.h { m with g := ⟨m.g.r, T.n, T.z⟩, ov := m.ov || T.o } wx ∧ Aside (fun k => k = B) w wx ∧ w1.heap.size ≤ wx.heap.size)
 case first =>
  go_region_with (first
   | (go_at_call 165; refine zm hI ?_; rintro e w2 ⟨pr', cr', rfl, hZ2, hR2, hs2, hA2⟩; obtain ⟨_, _, _, _, _, _, _, _, _, _, g02, _, _⟩ := id hs2; obtain ⟨hlB2, y0, y1, -, -, -, -, -, -, -, -, -⟩ := zal g02; obtain ⟨f0, f1, -⟩ := zbm g02)
  )
  all_goals
   have s3 := hs2.setG hN hn32 hk0 hZ2 hR2
   have hA3 := zax (zax ((Aside.of (T := fun k => k = B) hb.drew).trans hA2) 0 (.int .i64 m.g.r)) 1 (.slice pr' T.n cr')
   have hsz := hA2.size
   go_wp2_with fail
   go_meet
   exact ⟨s3, hA3, by simpa [World.setCell] using hsz⟩
 obtain ⟨s3, hA3, hsz3⟩ := hcut
 clear hI u0 u1 lg x0 x1 hlB hsz3 hb
 clear hst
 generalize wc = w3 at *
 obtain ⟨p, c, q, d, pg, cg, pb, cb, pr, cr, g0, hh, hM⟩ := id s3
 obtain ⟨hlB, -, -, -, -, x4, x5, -, -, x8, x9, x10⟩ := zal g0
 obtain ⟨-, -, -, -, -, f5, -⟩ := zbm g0
 clear g0 hh hM
 have hwr : ∀ x : Int, 0 ≤ x → x < 32 → x + 1 < 9223372036854775808 := fun x _ h => by omega
 go_upto_region 6 with fail
 have s4 := s3.setF hN hn32 hk0 (m.fi + 1)
 have hA4 := zax hA3 5 (.int .i64 (m.fi + 1))
 clear x4 x5 x8 x9 x10 f5 hlB s3 hA3
 generalize w3.setCell ⟨B, 5, none⟩ (.int .i64 (m.fi + 1)) = w4 at *
 have hS4 := hS.aside hA4 hSB
 obtain ⟨p, c, q, d, pg, cg, pb, cb, pr, cr, g0, hh, hM⟩ := id s4
 obtain ⟨hlB, -, -, -, -, x4, x5, -, -, x8, x9, x10⟩ := zal g0
 dsimp only at x4 x5 x8 x9 x10
 have hGt := fun W (hW : Below w4.heap.size w4 W) => zg8 (a := m.ob) (hS4.below hW) (hh.below hW) hFh
 rw [hNN] at hGt
 generalize obB T.h m.ob = OB at hGt
 generalize obC T.h m.ob = OC at hGt
 generalize obK T.h m.ob = OK at hGt
 clear g0 hh hM
 refine zdx (ds := [some 53, some 54, some 55, some 56, some 57, some 58, some 59, some 60, some 61, some 62, some 52, some 63, some 64, some 5, none, some 6]) (ts := [53, 54, 55, 56, 57, 58, 59, 60, 61, 62, 52, 63, 64, 5, 6]) (pv := [(fun v _ => v = .pointer (some ⟨B, 0, none⟩)), (fun v _ => v = .pointer (some ⟨B, 0, none⟩)), (fun v _ => v = .pointer (some ⟨B, 8, none⟩)), (fun v _ => v = .agg #[.slice p n c, .slice q k d, .bool b]), (fun v _ => v = .pointer (some ⟨B, 0, none⟩)), (fun v _ => v = .pointer (some ⟨B, 0, none⟩)), (fun v _ => v = .pointer (some ⟨B, 0, none⟩)), (fun v _ => v = .pointer (some ⟨B, 4, none⟩)), (fun v _ => v = .int .i64 m.ob), (fun v _ => v = .tuple #[.agg #[.bool OB, .bool OC, .int .i64 OK, .int .i64 NN], .bool OB]), (fun v _ => v = .tuple #[.agg #[.bool OB, .bool OC, .int .i64 OK, .int .i64 NN], .bool OB]), (fun v _ => v = .agg #[.bool OB, .bool OC, .int .i64 OK, .int .i64 NN]), (fun v _ => v = .bool OB), (fun _ _ => True), (fun _ _ => True), (fun v _ => v = .bool OB)]) (skip := fun i => ([] : List Nat).contains i) (ia := 13) (is := 14) (k := 65) (Shape := Shape4) (Full := (fun g w => Box4 g (.bool OB) (.bool OC) (.int .i64 OK) (.int .i64 NN) w)) (by kernel_rfl) (by kernel_rfl) rfl rfl (by decide) (by decide) (by simp) ?_ (by decide) zfz (fun _ _ _ h hb => h.below hb) ?_ ?_ ?_ ?_
 ·exact .inr ⟨⟨_, rfl⟩, rfl, _, rfl, zt, by decide, rfl⟩
 ·exact ⟨fun _ _ _ h _ => h, fun _ _ _ h _ => h, fun _ _ _ h _ => h, fun _ _ _ h _ => h, fun _ _ _ h _ => h, fun _ _ _ h _ => h, fun _ _ _ h _ => h, fun _ _ _ h _ => h, fun _ _ _ h _ => h, fun _ _ _ h _ => h, fun _ _ _ h _ => h, fun _ _ _ h _ => h, fun _ _ _ h _ => h, fun _ _ _ h _ => h, fun _ _ _ h _ => h, fun _ _ _ h _ => h, trivial⟩
 ·exact ⟨rfl, rfl, rfl, rfl, rfl, rfl, rfl, rfl, rfl, rfl, rfl, rfl, rfl, rfl, rfl, rfl, trivial⟩
 ·refine ⟨?_, ?_, ?_, ?_, ?_, ?_, ?_, ?_, ?_, ?_, ?_, ?_, ?_, ?_, ?_, ?_, trivial⟩
  ·intro _ a' w' hb' hs hd hn Kc hK
   have f0 : a'.tmps[0]?.getD undef = .pointer (some ⟨B, 0, none⟩) := (hs 0 (by decide)).trans rfl
   clear hs hd hn
   rw [if_neg (by decide), if_neg (by decide)] at hK
   unfold Oper.wp
   go_simp
   try go_bits
   exact hK _ _ zr rfl
  ·intro _ a' w' hb' hs hd hn Kc hK
   have f53 : a'.tmps[53]?.getD undef = .pointer (some ⟨B, 0, none⟩) := hd 0 53 zt rfl (by decide) (by decide) rfl
   clear hs hd hn
   rw [if_neg (by decide), if_neg (by decide)] at hK
   have x4' := zcl hb' hlB x4
   have x8' := zcl hb' hlB x8
   have x9' := zcl hb' hlB x9
   have x10' := zcl hb' hlB x10
   unfold Oper.wp
   go_simp
   try go_bits
   exact hK _ _ zr zl
  ·intro _ a' w' hb' hs hd hn Kc hK
   have f54 : a'.tmps[54]?.getD undef = .pointer (some ⟨B, 0, none⟩) := hd 1 54 zt rfl (by decide) (by decide) rfl
   clear hs hd hn
   rw [if_neg (by decide), if_neg (by decide)] at hK
   unfold Oper.wp
   go_simp
   try go_bits
   exact hK _ _ zr rfl
  ·intro _ a' w' hb' hs hd hn Kc hK
   have f55 : a'.tmps[55]?.getD undef = .pointer (some ⟨B, 8, none⟩) := hd 2 55 zt rfl (by decide) (by decide) rfl
   clear hs hd hn
   rw [if_neg (by decide), if_neg (by decide)] at hK
   have x4' := zcl hb' hlB x4
   have x8' := zcl hb' hlB x8
   have x9' := zcl hb' hlB x9
   have x10' := zcl hb' hlB x10
   unfold Oper.wp
   go_simp
   try go_bits
   exact hK _ _ zr rfl
  ·intro _ a' w' hb' hs hd hn Kc hK
   have f0 : a'.tmps[0]?.getD undef = .pointer (some ⟨B, 0, none⟩) := (hs 0 (by decide)).trans rfl
   clear hs hd hn
   rw [if_neg (by decide), if_neg (by decide)] at hK
   unfold Oper.wp
   go_simp
   try go_bits
   exact hK _ _ zr rfl
  ·intro _ a' w' hb' hs hd hn Kc hK
   have f57 : a'.tmps[57]?.getD undef = .pointer (some ⟨B, 0, none⟩) := hd 4 57 zt rfl (by decide) (by decide) rfl
   clear hs hd hn
   rw [if_neg (by decide), if_neg (by decide)] at hK
   have x4' := zcl hb' hlB x4
   have x8' := zcl hb' hlB x8
   have x9' := zcl hb' hlB x9
   have x10' := zcl hb' hlB x10
   unfold Oper.wp
   go_simp
   try go_bits
   exact hK _ _ zr zl
  ·intro _ a' w' hb' hs hd hn Kc hK
   have f58 : a'.tmps[58]?.getD undef = .pointer (some ⟨B, 0, none⟩) := hd 5 58 zt rfl (by decide) (by decide) rfl
   clear hs hd hn
   rw [if_neg (by decide), if_neg (by decide)] at hK
   unfold Oper.wp
   go_simp
   try go_bits
   exact hK _ _ zr rfl
  ·intro _ a' w' hb' hs hd hn Kc hK
   have f59 : a'.tmps[59]?.getD undef = .pointer (some ⟨B, 0, none⟩) := hd 6 59 zt rfl (by decide) (by decide) rfl
   clear hs hd hn
   rw [if_neg (by decide), if_neg (by decide)] at hK
   unfold Oper.wp
   go_simp
   try go_bits
   exact hK _ _ zr rfl
  ·intro _ a' w' hb' hs hd hn Kc hK
   have f60 : a'.tmps[60]?.getD undef = .pointer (some ⟨B, 4, none⟩) := hd 7 60 zt rfl (by decide) (by decide) rfl
   clear hs hd hn
   rw [if_neg (by decide), if_neg (by decide)] at hK
   have x4' := zcl hb' hlB x4
   have x8' := zcl hb' hlB x8
   have x9' := zcl hb' hlB x9
   have x10' := zcl hb' hlB x10
   unfold Oper.wp
   go_simp
   try go_bits
   exact hK _ _ zr rfl
  ·intro _ a' w' hb' hs hd hn Kc hK
   have f56 : a'.tmps[56]?.getD undef = .agg #[.slice p n c, .slice q k d, .bool b] := hd 3 56 zt rfl (by decide) (by decide) rfl
   have f61 : a'.tmps[61]?.getD undef = .int .i64 m.ob := hd 8 61 zt rfl (by decide) (by decide) rfl
   clear hs hd hn
   rw [if_neg (by decide), if_neg (by decide)] at hK
   have x4' := zcl hb' hlB x4
   have x8' := zcl hb' hlB x8
   have x9' := zcl hb' hlB x9
   have x10' := zcl hb' hlB x10
   unfold Oper.wp
   go_simp
   try go_bits
   refine zm (hGt w' hb') ?_
   rintro e w'' ⟨rfl, hb2⟩
   exact hK _ _ hb2 rfl
  ·intro _ a' w' hb' hs hd hn Kc hK
   have f62 : a'.tmps[62]?.getD undef = .tuple #[.agg #[.bool OB, .bool OC, .int .i64 OK, .int .i64 NN], .bool OB] := hd 9 62 zt rfl (by decide) (by decide) rfl
   clear hs hd hn
   rw [if_neg (by decide), if_neg (by decide)] at hK
   unfold Oper.wp
   go_simp
   try go_bits
   exact hK _ _ zr rfl
  ·intro _ a' w' hb' hs hd hn Kc hK
   have f52 : a'.tmps[52]?.getD undef = .tuple #[.agg #[.bool OB, .bool OC, .int .i64 OK, .int .i64 NN], .bool OB] := hd 10 52 zt rfl (by decide) (by decide) rfl
   clear hs hd hn
   rw [if_neg (by decide), if_neg (by decide)] at hK
   unfold Oper.wp
   go_simp
   try go_bits
   exact hK _ _ zr rfl
  ·intro _ a' w' hb' hs hd hn Kc hK
   have f52 : a'.tmps[52]?.getD undef = .tuple #[.agg #[.bool OB, .bool OC, .int .i64 OK, .int .i64 NN], .bool OB] := hd 10 52 zt rfl (by decide) (by decide) rfl
   clear hs hd hn
   rw [if_neg (by decide), if_neg (by decide)] at hK
   unfold Oper.wp
   go_simp
   try go_bits
   exact hK _ _ zr rfl
  ·intro _ a' w' hb' hs hd hn Kc hK
   clear hs hd hn
   rw [if_pos rfl] at hK
   unfold Oper.wp
   go_simp
   exact hK _ _ (zr.alloc (Nat.le_refl _) _) (Nat.le_refl _) ⟨_, _, _, _, Box4.new _ _ _ _ _ _⟩
  ·intro _ a' w' hb' hs hd hn Kc hK
   obtain ⟨g, f5, hg, hsh⟩ := hn 5 zt rfl rfl
   have f63 : a'.tmps[63]?.getD undef = .agg #[.bool OB, .bool OC, .int .i64 OK, .int .i64 NN] := hd 11 63 zt rfl (by decide) (by decide) rfl
   obtain ⟨x0, x1, x2, x3, h3⟩ := id hsh
   rw [if_neg (by decide), if_pos rfl] at hK
   have hfin := hK g (.tuple #[]) (puts4 g (.bool OB) (.bool OC) (.int .i64 OK) (.int .i64 NN) w') (fun d hd => by obtain rfl : 5 = d := Option.some.inj (Option.some.inj hd); exact f5) (zhe hg _ _ _ _ w') hg (h3.put (.bool OB) (.bool OC) (.int .i64 OK) (.int .i64 NN)) (zgj h3 (.bool OB) (.bool OC) (.int .i64 OK) (.int .i64 NN)) ⟨fun _ h => h, fun _ h => h, fun _ h => h, fun _ h => h, fun _ h => h, fun _ h => h, fun _ h => h, fun _ h => h, fun _ h => h, fun _ h => h, fun _ h => h, fun _ h => h, fun _ h => h, fun _ h => h, fun _ h => h, fun _ h => h, trivial⟩
   clear hs hd hn hK
   obtain ⟨h0, c0, c1, c2, c3, g0, g1, g2, g3⟩ := h3
   unfold puts4 at hfin
   unfold Oper.wp
   go_simp
   exact hfin
  ·intro _ a' w' hb' hs hd hn Kc hK
   have f64 : a'.tmps[64]?.getD undef = .bool OB := hd 12 64 zt rfl (by decide) (by decide) rfl
   clear hs hd hn
   rw [if_neg (by decide), if_neg (by decide)] at hK
   unfold Oper.wp
   go_simp
   try go_bits
   exact hK _ _ zr rfl
 intro Xf g w' hX hb hv
 obtain ⟨hg, gX, hgp⟩ := hX (by decide)
 have q5 : Xf 5 = .pointer (some ⟨g, 0, none⟩) := hgp 5 rfl
 have q6 : Xf 6 = .bool OB := hv 15 6 rfl rfl (by decide) (by decide)
 clear hX hv hgp
 simp only [List.map_cons, List.map_nil, q5, q6, puts, Act.put, Nat.reduceAdd, List.setIfInBounds_toArray, List.set_cons_succ, List.set_cons_zero]
 replace s4 := s4.below hb
 replace hA4 := hA4.trans (Aside.of hb)
 obtain ⟨lX, -, -, -, v3, -⟩ := gX
 clear x4 x5 x8 x9 x10 hGt hlB hb hwr hS4
 generalize w' = w5 at *
 obtain ⟨p, c, q, d, pg, cg, pb, cb, pr, cr, g0, hh, hM⟩ := id s4
 obtain ⟨hlB, -, -, -, -, x4, x5, -, -, -, -, -⟩ := zal g0
 obtain ⟨-, -, -, -, f4, f5, -⟩ := zbm g0
 dsimp only at x4 x5
 clear g0 hh hM
 have hdr : ∀ W : World, Below W.heap.size W W.drew := fun W => zr.drew
 by_cases hcmp : m.fi + 1 = NN
 ·have hcmp' : Hid (m.fi + 1 = NN) := hcmp
  have s5 := s4.setOF hN hn32 hk0 (-1) 0
  have hA5 := zax (zax hA4 4 (.int .i64 (-1))) 5 (.int .i64 0)
  have hge : NN ≤ m.fi + 1 := by omega
  clear hcmp s4 hA4
  go_upto_region 7 with fail
  go_region
  go_wp2
  go_returns
  exact ⟨rfl, by first | exact s5.below (hdr _) | (rw [if_pos hcmp'.out]; exact s5.below (hdr _)), hA5.trans (Aside.of (hdr _))⟩
 ·have hcmp' : Hid (¬ m.fi + 1 = NN) := hcmp
  have hge : ¬ NN ≤ m.fi + 1 := by omega
  clear hcmp
  go_upto_region 7 with fail
  go_region
  go_wp2
  go_returns
  exact ⟨rfl, by first | exact s4.below (hdr _) | (rw [if_neg hcmp'.out]; exact s4.below (hdr _)), hA4.trans (Aside.of (hdr _))⟩
end Go.Proofs.YtkehankfnkjnlaaGreatDoor
