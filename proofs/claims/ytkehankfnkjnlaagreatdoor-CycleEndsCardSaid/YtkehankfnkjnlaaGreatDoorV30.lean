import Derived.Test.YtkehankfnkjnlaaGreatDoorV29
namespace Go.Proofs.YtkehankfnkjnlaaGreatDoor
set_option linter.unusedSimpArgs false
set_option linter.unusedVariables false
set_option maxHeartbeats 16000000
set_option maxRecDepth 20000
open Go.ChangeAt Go.ChangeShapes Go.Joins Go.RowKit Go.WideShapes
variable {h : Hp} {w w' W W' : World} {p q : Option Addr} {n g : Nat} {a : Int} {v : Value}
theorem zxk : (Tryz.prog.info? 47).map (fun i => (i.zero, i.size, i.bytes)) = some (some (.agg #[.int .i64 0, .int .i64 0, .int .i64 0, .int .i64 0, .int .i64 0]), 5, 40) := by kernel_rfl
theorem zj6 {α : Type} {C : World → α → List Value → Prop} {N s n c : Nat} {T : TypeId} {z : Nat → α} {L : List (List Value)} (h3 : w.ownsRow N T s (.slice p n c) n L.flatten) (h1 : L.length = n) (h2 : ∀ l ∈ L, l.length = s) (h4 : ∀ k l, L[k]? = some l → C w (z k) l) (hn : n ≤ maxLen) : RAt C s w p c n z := by
 refine ⟨fun i hi => ?_, hn, fun e => ?_, ?_⟩
 ·obtain ⟨l, hl⟩ : ∃ l, L[i]? = some l := ⟨L[i]'(by omega), List.getElem?_eq_getElem _⟩
  rcases h3.2 with ⟨-, h0⟩ | ⟨g, cap', cur, hv, hb, hg, hnc, hm, hs, ht⟩
  ·omega
  ·have e0 : p = some ⟨g, 0, none⟩ := by injection hv
   subst e0
   have hls := h2 l (List.mem_of_getElem? hl)
   refine ⟨g, 0, l, rfl, (Array.getElem?_eq_some_iff.1 hg).1, hls, fun k u hk => ?_, h4 i l hl⟩
   have hk' : k < s := by have := (List.getElem?_eq_some_iff.1 hk).1; omega
   have hf := zcg L i k l h2 hl hk'
   rw [hk, ← ht, List.getElem?_take] at hf
   split at hf
   ·rw [Nat.zero_add, cell_of_row w g _ cur T (0, 0) hg]; simpa using hf
   ·cases hf
 ·subst e
  rcases h3.2 with ⟨hv, h0⟩ | ⟨g, cap', cur, hv, -⟩
  ·injection hv with _ _ e; exact ⟨h0, e⟩
  ·injection hv with e; cases e
 ·rcases h3.2 with ⟨hv, h0⟩ | ⟨g, cap', cur, hv, -, -, h1, h2, -⟩
  ·injection hv with _ _ e; rw [h0, e]; exact ⟨Nat.le_refl _, by decide⟩
  ·injection hv with _ _ e; subst e; exact ⟨h1, h2⟩
theorem zck {N M n g k : Nat} {z : Nat → Mu} (h : GrowR N 73 13 (MuN M) n z v w) (hg : g < N) (hg' : g < M) (u : Value) : GrowR N 73 13 (MuN M) n z v (w.setCell ⟨g, k, none⟩ u) := by
 obtain ⟨L, h1, h2, h3, h4⟩ := h
 refine ⟨L, h1, h2, h3.under hg k u, fun i l hi => ?_⟩
 obtain ⟨p, c, e, ho, hw⟩ := h4 i l hi
 exact ⟨p, c, e, ownsRow_setCell_below ho hg' u, hw⟩
theorem zaw {N s n : Nat} {e : TypeId} {xs : List Value} {T : Nat → Prop} (h : w.ownsRow N e s v n xs) (ha : Aside T w w') (hT : ∀ k, T k → k < N) : w'.ownsRow N e s v n xs := by
 obtain ⟨hl, h0 | ⟨g, cap, cur, hv, hg, hh, r⟩⟩ := h
 ·exact ⟨hl, .inl h0⟩
 ·exact ⟨hl, .inr ⟨g, cap, cur, hv, hg, (ha.block g (Array.getElem?_eq_some_iff.1 hh).1 (fun e => by have := hT g e; omega)).trans hh, r⟩⟩
theorem zha {N n : Nat} {z : Nat → Mu} {T : Nat → Prop} (h : GrowR N 73 13 (MuN N) n z v w) (ha : Aside T w w') (hT : ∀ k, T k → k < N) : GrowR N 73 13 (MuN N) n z v w' := by
 obtain ⟨L, h1, h2, ⟨h3, h5⟩, h4⟩ := h
 refine ⟨L, h1, h2, ⟨zaw h3 ha hT, h5⟩, fun i l hi => ?_⟩
 obtain ⟨p, c, e, ho, hw⟩ := h4 i l hi
 exact ⟨p, c, e, zaw ho ha hT, hw⟩
theorem zup {w w0 : World} {N n c c0 : Nat} {z : Nat → Mu} {p p0 : Option Addr} (h : RAt (MuN N) 13 w p c n z) (h0 : RAt MuC 13 w0 p0 c0 n z) : RAt MuC 13 w p c n z := ⟨fun i hi => by
 obtain ⟨b, off, L, e, hl, hL, hc, p1, c1, eL, ho, hw⟩ := h.row i hi
 obtain ⟨_, _, _, _, _, _, _, hv, -⟩ := h0.mu hi
 exact ⟨b, off, L, e, hl, hL, hc, p1, c1, eL, zf4 ho hv.nle hv.row.wf, hw⟩, h.nle, h.pnil, h.ncap⟩
theorem zou {N N' n : Nat} {z : Nat → Mu} (h : GrowR N 73 13 (MuN N) n z v w) (hN : N' ≤ N) : GrowR N' 73 13 (MuN N') n z v w := by
 obtain ⟨L, h1, h2, h3, h4⟩ := h
 refine ⟨L, h1, h2, ⟨zag h3.1 hN, h3.2⟩, fun i l hi => ?_⟩
 obtain ⟨p, c, e, ho, hw⟩ := h4 i l hi
 exact ⟨p, c, e, zag ho hN, hw⟩
structure CpS (w : World) (v : Wd) (q : Wp) (v' : Wd) (q' : Wp) (R : Array Value) (W : World) : Prop where
 a : TBox 38 w.heap.size (v.cells q).toArray W
 r : TBox 38 (w.heap.size + 1) R W
 x : TBox 38 (w.heap.size + 2) (v'.cells q').toArray W
 b : Below w.heap.size w W
section
variable {w W W' : World} {v v' v'' : Wd} {q q' q'' : Wp} {R : Array Value}
theorem CpS.below (h : CpS w v q v' q' R W) (hb : Below W.heap.size W W') : CpS w v q v' q' R W' := ⟨h.a.below hb, h.r.below hb, h.x.below hb, bjoin hb h.b⟩
theorem CpS.store (h : CpS w v q v' q' R W) (k : Nat) (u : Value) (e : ((v'.cells q').toArray).setIfInBounds k u = (v''.cells q'').toArray) : CpS w v q v'' q'' R (W.setCell ⟨w.heap.size + 2, k, none⟩ u) :=
 ⟨h.a.other (by omega) _ _, h.r.other (by omega) _ _, by rw [← e]; exact h.x.set k u, h.b.setCell (by show w.heap.size ≤ w.heap.size + 2; omega) _⟩
theorem CpS.slot (h : CpS w v q v' q' R W) (k : Nat) (u : Value) (e : (v'.cells q')[k]? = some u) : w.heap.size + 2 < W.heap.size ∧ W.cell? ⟨w.heap.size + 2, k, none⟩ = some u ∧ W.frozen? ⟨w.heap.size + 2, k, none⟩ = false :=
 ⟨h.x.lt, by rw [h.x.cell]; simpa using e, h.x.frozen k⟩
theorem CpS.src (h : CpS w v q v' q' R W) (k : Nat) (u : Value) (e : (v.cells q)[k]? = some u) : w.heap.size < W.heap.size ∧ W.cell? ⟨w.heap.size, k, none⟩ = some u :=
 ⟨h.a.lt, by rw [h.a.cell]; simpa using e⟩
end
theorem zi1 (Z : Wd) (q : Wp) (w : World) (hv : WdIn w Z q) (hF : formB Z.h = true) (hfew : fewW Z = true) :
  Calls Tryz.prog 17 #[.agg (Z.cells q).toArray] w fun e w' => ∃ q', e = .returned (.agg (Z.cells q').toArray) ∧ WdIn w' Z q' ∧ Below w.heap.size w w' := by
 obtain ⟨f1, f2, ⟨f3, f4⟩, f5, f6⟩ := zhj hfew
 obtain ⟨-, g2, g3, g4⟩ := zex f5
 have g5 : ∀ i, i < Z.m.nb → (Z.m.b i).n ≤ 20 := by
  simp only [fewM, decide_eq_true_eq] at f5
  exact fun i hi => f5.1 i hi (by omega)
 have hm0 : 0 < Z.h.m := by have := zad.1 hF; omega
 have hn0 : 32 ≤ Z.h.n := by have := zad.1 hF; omega
 obtain ⟨iW, hiW, hzW0, hzW1, hzW2⟩ := info_parts infoW
 obtain ⟨iS, hiS, hzS0, hzS1, hzS2⟩ := info_parts infoS
 obtain ⟨iV, hiV, hzV0, hzV1, hzV2⟩ := info_parts zd5
 obtain ⟨iR, hiR, hzR0, hzR1, hzR2⟩ := info_parts zxk
 obtain ⟨i0, hj0, hj1, hj2, hj3⟩ := info_parts zb5
 obtain ⟨u0, hu0, hu1, hu2, hu3⟩ := info_parts zho
 obtain ⟨LR, lr1, lr2, lr3, lr4⟩ := zi6 hv.reps (by decide)
 have lrl : LR.flatten.length = Z.nr * 5 := by rw [zcm _ lr2, lr1]
 have lro : ∀ u ∈ LR.flatten, u.oneCell' = true := fun u h => by
  obtain ⟨l, hl, hu⟩ := List.mem_flatten.1 h
  obtain ⟨k, hk⟩ := List.getElem?_of_mem hl
  obtain ⟨rfl, -⟩ := lr3 k l hk
  simp only [List.mem_cons, List.not_mem_nil, or_false] at hu
  rcases hu with rfl | rfl | rfl | rfl | rfl <;> rfl
 have hF' : Hid (formB Z.h = true) := hF
 clear hF
 obtain ⟨R0, hR0⟩ : ∃ R : Array Value, R = #[.int .i64 0, .int .i64 0, .int .i64 0, .int .i64 0, .int .i64 0, .slice none 0 0, .slice none 0 0, .bool false, .slice none 0 0, .int .i64 0, .slice none 0 0, .slice none 0 0, .slice none 0 0, .int .i64 0, .int .i64 0, .int .i64 0, .bool false, .int .i64 0, .bool false, .int .i64 0, .slice none 0 0] := ⟨_, rfl⟩
 have hRs : R0.size = 21 := by rw [hR0]; rfl
 have hRv : PlainC R0 := by rw [hR0]; exact zbh zeW zeP
 obtain ⟨w2, hw2⟩ : ∃ W, W = (w.alloc (.cells (Z.cells q).toArray 38)).alloc (.cells R0 38) := ⟨_, rfl⟩
 obtain ⟨gA, gR, hB2⟩ := zbw hw2
 have hz2 : w2.heap.size = w.heap.size + 2 := by rw [hw2]; simp
 go_enter Tryz.func17, Tryz.ntmps17
 go_upto_region 1 with fail
 rw [← hR0, ← hw2]
 clear hw2 hR0
 refine wp_region_lit ?_
 refine ld_w gA rfl ?_
 refine nw_w (fun _ => rfl) (fun _ => rfl) fun w3 gX hb3 => ?_
 rw [hz2] at gX ⊢
 have hS : CpS w Z q Z q R0 w3 := ⟨gA.below hb3, gR.below hb3, gX, bjoin hb3 hB2⟩
 clear gA gR gX hB2 hb3 hz2
 have hN3 : w.heap.size + 3 ≤ w3.heap.size := hS.x.lt
 simp only [Act.put, List.setIfInBounds_toArray, List.set_cons_succ, List.set_cons_zero]
 obtain ⟨l0, s0⟩ := hS.src 5 _ rfl
 obtain ⟨lx, c0, z0⟩ := hS.slot 5 _ rfl
 go_upto_region 3 with (first
  | (at_builtin; refine za7 rfl (.tmp 6) (.tmp 9) 24 rfl w3.heap.size 97 iW (.int .u64 0) 8 Tryz.underlying24 hiW hzW0 hzW1 hzW2 rfl (.slice (some ⟨w3.heap.size, 0, none⟩) 0 0) 0 [] rfl (World.ownsRow_lit w3 #[] 0 (Nat.le_refl _) (by simp only [maxLen]; omega) rfl) .u64 q.h Z.h.n q.hc Z.h.z rfl (hv.heap.ints.below (hS.b.alloc (by omega) _)) hv.heap.pnil (by simp only [maxLen]; omega) (by omega) (by simp) ?_; intro ov w4a hown hgrow; rw [Nat.zero_add, List.nil_append] at hown; obtain ⟨p4, c4, rfl, -⟩ := zaf hown; have hb4 : Below w3.heap.size w3 w4a := (zr.alloc (Nat.le_refl _) _).grown hgrow (by simp) (fun k hk => by cases hk; exact Nat.le_refl _); obtain ⟨lx', c0', z0'⟩ := (hS.below hb4).slot 5 _ rfl)
 )
 obtain ⟨w4, hw4⟩ : ∃ W, W = w4a.setCell ⟨w.heap.size + 2, 5, none⟩ (.slice p4 Z.h.n c4) := ⟨_, rfl⟩
 have hS4 := (hS.below hb4).store (q'' := { q with h := p4, hc := c4 }) 5 (.slice p4 Z.h.n c4) rfl
 have hN4 : w.heap.size + 3 ≤ w4.heap.size := by rw [hw4]; exact Nat.le_trans (Nat.le_trans hN3 hb4.size) (by simp [World.setCell])
 have hO4 : w4.ownsRow (w.heap.size + 3) 97 1 (.slice p4 Z.h.n c4) Z.h.n (vals .u64 Z.h.n Z.h.z) := by rw [hw4]; exact ownsRow_setCell_below (zag hown (by omega)) (by show w.heap.size + 2 < w.heap.size + 3; omega) _
 rw [← hw4] at hS4 ⊢
 clear hw4 hown hgrow hb4 lx' c0' z0' l0 s0 lx c0 z0 hS hN3
 obtain ⟨l0, s0⟩ := hS4.src 6 _ rfl
 obtain ⟨lx, c0, z0⟩ := hS4.slot 6 _ rfl
 go_upto_region 4 with (first
  | (at_builtin; refine zai rfl (.tmp 13) (.tmp 16) 25 rfl w4.heap.size 51 iS (.agg #[.int .i64 0, .int .i64 0, .int .u32 0]) 3 24 Tryz.underlying25 hiS hzS0 hzS1 hzS2 rfl (by decide) (.slice (some ⟨w4.heap.size, 0, none⟩) 0 0) 0 [] rfl (World.ownsRow_lit w4 #[] 0 (Nat.le_refl _) (by simp only [maxLen]; omega) rfl) q.s Z.h.m q.sc (spVals Z.h.m Z.h.s) rfl (zam _ _) (fun ad e => by obtain ⟨ad', e', hc⟩ := (hv.heap.spans.below (hS4.b.alloc (by omega) _)).cells hm0; rw [e] at e'; injection e' with e'; subst e'; exact hc) (zfo _ _) hv.heap.qnil (by simp only [maxLen]; omega) (by omega) (by simp) ?_; intro ov w5a hown hgrow; rw [Nat.zero_add, List.nil_append] at hown; obtain ⟨p5, c5, rfl, -⟩ := zaf hown; have hb4 : Below w4.heap.size w4 w5a := (zr.alloc (Nat.le_refl _) _).grown hgrow (by simp) (fun k hk => by cases hk; exact Nat.le_refl _); obtain ⟨lx', c0', z0'⟩ := (hS4.below hb4).slot 6 _ rfl)
 )
 obtain ⟨w5, hw5⟩ : ∃ W, W = w5a.setCell ⟨w.heap.size + 2, 6, none⟩ (.slice p5 Z.h.m c5) := ⟨_, rfl⟩
 have hS5 := (hS4.below hb4).store (q'' := { { q with h := p4, hc := c4 } with s := p5, sc := c5 }) 6 (.slice p5 Z.h.m c5) rfl
 have hN5 : w.heap.size + 3 ≤ w5.heap.size := by rw [hw5]; exact Nat.le_trans (Nat.le_trans hN4 hb4.size) (by simp [World.setCell])
 replace hO4 : w5.ownsRow (w.heap.size + 3) 97 1 (.slice p4 Z.h.n c4) Z.h.n (vals .u64 Z.h.n Z.h.z) := by rw [hw5]; exact ownsRow_setCell_below (zaa hO4 hb4) (by show w.heap.size + 2 < w.heap.size + 3; omega) _
 have hO5 : w5.ownsRow (w.heap.size + 3) 51 3 (.slice p5 Z.h.m c5) Z.h.m (spVals Z.h.m Z.h.s) := by rw [hw5]; exact ownsRow_setCell_below (zag hown (by omega)) (by show w.heap.size + 2 < w.heap.size + 3; omega) _
 rw [← hw5] at hS5 ⊢
 clear hw5 hown hgrow hb4 lx' c0' z0' l0 s0 lx c0 z0 hS4 hN4
 obtain ⟨l0, s0⟩ := hS5.src 8 _ rfl
 obtain ⟨lx, c0, z0⟩ := hS5.slot 8 _ rfl
 go_upto_region 5 with (first
  | (go_at_call 46; refine zm (zi0 Z.n Z.z q.m q.mc _ (hv.muts.below zat hS5.b) f3 f4) ?_; rintro e w6a ⟨p6, c6, rfl, hG6, hb4⟩; obtain ⟨lx', c0', z0'⟩ := (hS5.below hb4).slot 8 _ rfl)
 )
 obtain ⟨w6, hw6⟩ : ∃ W, W = w6a.setCell ⟨w.heap.size + 2, 8, none⟩ (.slice p6 Z.n c6) := ⟨_, rfl⟩
 have hS6 := (hS5.below hb4).store (q'' := { { { q with h := p4, hc := c4 } with s := p5, sc := c5 } with m := p6, mc := c6 }) 8 (.slice p6 Z.n c6) rfl
 have hN6 : w.heap.size + 3 ≤ w6.heap.size := by rw [hw6]; exact Nat.le_trans (Nat.le_trans hN5 hb4.size) (by simp [World.setCell])
 replace hO4 : w6.ownsRow (w.heap.size + 3) 97 1 (.slice p4 Z.h.n c4) Z.h.n (vals .u64 Z.h.n Z.h.z) := by rw [hw6]; exact ownsRow_setCell_below (zaa hO4 hb4) (by show w.heap.size + 2 < w.heap.size + 3; omega) _
 replace hO5 : w6.ownsRow (w.heap.size + 3) 51 3 (.slice p5 Z.h.m c5) Z.h.m (spVals Z.h.m Z.h.s) := by rw [hw6]; exact ownsRow_setCell_below (zaa hO5 hb4) (by show w.heap.size + 2 < w.heap.size + 3; omega) _
 have hO6 : GrowR (w.heap.size + 3) 73 13 (MuN (w.heap.size + 3)) Z.n Z.z (.slice p6 Z.n c6) w6 := by rw [hw6]; exact zck (zou hG6 (by omega)) (by omega) (by omega) _
 rw [← hw6] at hS6 ⊢
 clear hw6 hG6 hb4 lx' c0' z0' l0 s0 lx c0 z0 hS5 hN5
 obtain ⟨l0, s0⟩ := hS6.src 20 _ rfl
 obtain ⟨lx, c0, z0⟩ := hS6.slot 20 _ rfl
 go_upto_region 6 with (first
  | (at_builtin; refine zai rfl (.tmp 24) (.tmp 26) 36 rfl w6.heap.size 47 iR (.agg #[.int .i64 0, .int .i64 0, .int .i64 0, .int .i64 0, .int .i64 0]) 5 40 Tryz.underlying36 hiR hzR0 hzR1 hzR2 rfl (by decide) (.slice (some ⟨w6.heap.size, 0, none⟩) 0 0) 0 [] rfl (World.ownsRow_lit w6 #[] 0 (Nat.le_refl _) (by simp only [maxLen]; omega) rfl) q.o Z.nr q.oc LR.flatten rfl lrl (fun ad e j u hj => by have h1 := lr4 ad e j u hj; exact ((hS6.b.alloc (by omega) _).cell (World.block_lt_of_cell? _ _ h1)).trans h1) lro hv.reps.pnil (by simp only [maxLen]; omega) (by omega) (by simp) ?_; intro ov w7a hown hgrow; rw [Nat.zero_add, List.nil_append] at hown; obtain ⟨p7, c7, rfl, -⟩ := zaf hown; have hb4 : Below w6.heap.size w6 w7a := (zr.alloc (Nat.le_refl _) _).grown hgrow (by simp) (fun k hk => by cases hk; exact Nat.le_refl _); obtain ⟨lx', c0', z0'⟩ := (hS6.below hb4).slot 20 _ rfl)
 )
 obtain ⟨w7, hw7⟩ : ∃ W, W = w7a.setCell ⟨w.heap.size + 2, 20, none⟩ (.slice p7 Z.nr c7) := ⟨_, rfl⟩
 have hS7 := (hS6.below hb4).store (q'' := { { { { q with h := p4, hc := c4 } with s := p5, sc := c5 } with m := p6, mc := c6 } with o := p7, oc := c7 }) 20 (.slice p7 Z.nr c7) rfl
 have hN7 : w.heap.size + 3 ≤ w7.heap.size := by rw [hw7]; exact Nat.le_trans (Nat.le_trans hN6 hb4.size) (by simp [World.setCell])
 replace hO4 : w7.ownsRow (w.heap.size + 3) 97 1 (.slice p4 Z.h.n c4) Z.h.n (vals .u64 Z.h.n Z.h.z) := by rw [hw7]; exact ownsRow_setCell_below (zaa hO4 hb4) (by show w.heap.size + 2 < w.heap.size + 3; omega) _
 replace hO5 : w7.ownsRow (w.heap.size + 3) 51 3 (.slice p5 Z.h.m c5) Z.h.m (spVals Z.h.m Z.h.s) := by rw [hw7]; exact ownsRow_setCell_below (zaa hO5 hb4) (by show w.heap.size + 2 < w.heap.size + 3; omega) _
 replace hO6 : GrowR (w.heap.size + 3) 73 13 (MuN (w.heap.size + 3)) Z.n Z.z (.slice p6 Z.n c6) w7 := by rw [hw7]; exact zck (hO6.below zdm hb4) (by omega) (by omega) _
 have hO7 : w7.ownsRow (w.heap.size + 3) 47 5 (.slice p7 Z.nr c7) Z.nr LR.flatten := by rw [hw7]; exact ownsRow_setCell_below (zag hown (by omega)) (by show w.heap.size + 2 < w.heap.size + 3; omega) _
 rw [← hw7] at hS7 ⊢
 clear hw7 hown hgrow hb4 lx' c0' z0' l0 s0 lx c0 z0 hS6 hN6
 obtain ⟨l0, s0⟩ := hS7.src 12 _ rfl
 obtain ⟨lx, c0, z0⟩ := hS7.slot 12 _ rfl
 go_upto_region 7 with (first
  | (at_builtin; refine zai rfl (.tmp 29) (.tmp 32) 33 rfl w7.heap.size 70 iV (.agg #[.int .i64 0, .int .i64 0]) 2 16 Tryz.underlying33 hiV hzV0 hzV1 hzV2 rfl (by decide) (.slice (some ⟨w7.heap.size, 0, none⟩) 0 0) 0 [] rfl (World.ownsRow_lit w7 #[] 0 (Nat.le_refl _) (by simp only [maxLen]; omega) rfl) q.r Z.m.nr q.rc (vlVals Z.m.nr Z.m.ro) rfl (by simp [za8]) (hv.roots.row.below (hS7.b.alloc (by omega) _)).cells (zcd _ _) hv.roots.pnil (by simp only [maxLen]; omega) (by omega) (by simp) ?_; intro ov w8a hown hgrow; rw [Nat.zero_add, List.nil_append] at hown; obtain ⟨p8, c8, rfl, -⟩ := zaf hown; have hb4 : Below w7.heap.size w7 w8a := (zr.alloc (Nat.le_refl _) _).grown hgrow (by simp) (fun k hk => by cases hk; exact Nat.le_refl _); obtain ⟨lx', c0', z0'⟩ := (hS7.below hb4).slot 12 _ rfl)
 )
 obtain ⟨w8, hw8⟩ : ∃ W, W = w8a.setCell ⟨w.heap.size + 2, 12, none⟩ (.slice p8 Z.m.nr c8) := ⟨_, rfl⟩
 have hS8 := (hS7.below hb4).store (q'' := { { { { { q with h := p4, hc := c4 } with s := p5, sc := c5 } with m := p6, mc := c6 } with o := p7, oc := c7 } with r := p8, rc := c8 }) 12 (.slice p8 Z.m.nr c8) rfl
 have hN8 : w.heap.size + 3 ≤ w8.heap.size := by rw [hw8]; exact Nat.le_trans (Nat.le_trans hN7 hb4.size) (by simp [World.setCell])
 replace hO4 : w8.ownsRow (w.heap.size + 3) 97 1 (.slice p4 Z.h.n c4) Z.h.n (vals .u64 Z.h.n Z.h.z) := by rw [hw8]; exact ownsRow_setCell_below (zaa hO4 hb4) (by show w.heap.size + 2 < w.heap.size + 3; omega) _
 replace hO5 : w8.ownsRow (w.heap.size + 3) 51 3 (.slice p5 Z.h.m c5) Z.h.m (spVals Z.h.m Z.h.s) := by rw [hw8]; exact ownsRow_setCell_below (zaa hO5 hb4) (by show w.heap.size + 2 < w.heap.size + 3; omega) _
 replace hO6 : GrowR (w.heap.size + 3) 73 13 (MuN (w.heap.size + 3)) Z.n Z.z (.slice p6 Z.n c6) w8 := by rw [hw8]; exact zck (hO6.below zdm hb4) (by omega) (by omega) _
 replace hO7 : w8.ownsRow (w.heap.size + 3) 47 5 (.slice p7 Z.nr c7) Z.nr LR.flatten := by rw [hw8]; exact ownsRow_setCell_below (zaa hO7 hb4) (by show w.heap.size + 2 < w.heap.size + 3; omega) _
 have hO8 : w8.ownsRow (w.heap.size + 3) 70 2 (.slice p8 Z.m.nr c8) Z.m.nr (vlVals Z.m.nr Z.m.ro) := by rw [hw8]; exact ownsRow_setCell_below (zag hown (by omega)) (by show w.heap.size + 2 < w.heap.size + 3; omega) _
 rw [← hw8] at hS8 ⊢
 clear hw8 hown hgrow hb4 lx' c0' z0' l0 s0 lx c0 z0 hS7 hN7
 obtain ⟨l0, s0⟩ := hS8.src 10 _ rfl
 obtain ⟨lx, c0, z0⟩ := hS8.slot 10 _ rfl
 go_upto_region 8 with (first
  | (at_builtin; refine za7 rfl (.tmp 36) (.tmp 40) 29 rfl w8.heap.size 3 i0 (.int .i64 0) 8 Tryz.underlying29 hj0 hj1 hj2 hj3 rfl (.slice (some ⟨w8.heap.size, 0, none⟩) 0 0) 0 [] rfl (World.ownsRow_lit w8 #[] 0 (Nat.le_refl _) (by simp only [maxLen]; omega) rfl) .i64 q.g Z.m.g.n q.gc Z.m.g.z rfl (hv.grey.ints.below (hS8.b.alloc (by omega) _)) hv.grey.pnil (by simp only [maxLen]; omega) (by omega) (by simp) ?_; intro ov w9a hown hgrow; rw [Nat.zero_add, List.nil_append] at hown; obtain ⟨p9, c9, rfl, -⟩ := zaf hown; have hb4 : Below w8.heap.size w8 w9a := (zr.alloc (Nat.le_refl _) _).grown hgrow (by simp) (fun k hk => by cases hk; exact Nat.le_refl _); obtain ⟨lx', c0', z0'⟩ := (hS8.below hb4).slot 10 _ rfl)
 )
 obtain ⟨w9, hw9⟩ : ∃ W, W = w9a.setCell ⟨w.heap.size + 2, 10, none⟩ (.slice p9 Z.m.g.n c9) := ⟨_, rfl⟩
 have hS9 := (hS8.below hb4).store (q'' := { { { { { { q with h := p4, hc := c4 } with s := p5, sc := c5 } with m := p6, mc := c6 } with o := p7, oc := c7 } with r := p8, rc := c8 } with g := p9, gc := c9 }) 10 (.slice p9 Z.m.g.n c9) rfl
 have hN9 : w.heap.size + 3 ≤ w9.heap.size := by rw [hw9]; exact Nat.le_trans (Nat.le_trans hN8 hb4.size) (by simp [World.setCell])
 replace hO4 : w9.ownsRow (w.heap.size + 3) 97 1 (.slice p4 Z.h.n c4) Z.h.n (vals .u64 Z.h.n Z.h.z) := by rw [hw9]; exact ownsRow_setCell_below (zaa hO4 hb4) (by show w.heap.size + 2 < w.heap.size + 3; omega) _
 replace hO5 : w9.ownsRow (w.heap.size + 3) 51 3 (.slice p5 Z.h.m c5) Z.h.m (spVals Z.h.m Z.h.s) := by rw [hw9]; exact ownsRow_setCell_below (zaa hO5 hb4) (by show w.heap.size + 2 < w.heap.size + 3; omega) _
 replace hO6 : GrowR (w.heap.size + 3) 73 13 (MuN (w.heap.size + 3)) Z.n Z.z (.slice p6 Z.n c6) w9 := by rw [hw9]; exact zck (hO6.below zdm hb4) (by omega) (by omega) _
 replace hO7 : w9.ownsRow (w.heap.size + 3) 47 5 (.slice p7 Z.nr c7) Z.nr LR.flatten := by rw [hw9]; exact ownsRow_setCell_below (zaa hO7 hb4) (by show w.heap.size + 2 < w.heap.size + 3; omega) _
 replace hO8 : w9.ownsRow (w.heap.size + 3) 70 2 (.slice p8 Z.m.nr c8) Z.m.nr (vlVals Z.m.nr Z.m.ro) := by rw [hw9]; exact ownsRow_setCell_below (zaa hO8 hb4) (by show w.heap.size + 2 < w.heap.size + 3; omega) _
 have hO9 : w9.ownsRow (w.heap.size + 3) 3 1 (.slice p9 Z.m.g.n c9) Z.m.g.n (vals .i64 Z.m.g.n Z.m.g.z) := by rw [hw9]; exact ownsRow_setCell_below (zag hown (by omega)) (by show w.heap.size + 2 < w.heap.size + 3; omega) _
 rw [← hw9] at hS9 ⊢
 clear hw9 hown hgrow hb4 lx' c0' z0' l0 s0 lx c0 z0 hS8 hN8
 obtain ⟨lx, c0, z0⟩ := hS9.slot 11 _ rfl
 go_upto_region 9 with fail
 have hSA := hS9.store (v'' := { Z with m := { Z.m with nb := 0 } }) (q'' := { { { { { { { q with h := p4, hc := c4 } with s := p5, sc := c5 } with m := p6, mc := c6 } with o := p7, oc := c7 } with r := p8, rc := c8 } with g := p9, gc := c9 } with b := none, bc := 0 }) 11 (.slice none 0 0) rfl
 obtain ⟨wL, hwL⟩ : ∃ W, W = w9.setCell ⟨w.heap.size + 2, 11, none⟩ (.slice none 0 0) := ⟨_, rfl⟩
 have hNL : w.heap.size + 3 ≤ wL.heap.size := by rw [hwL]; exact Nat.le_trans hN9 (by simp [World.setCell])
 replace hO4 : wL.ownsRow (w.heap.size + 3) 97 1 (.slice p4 Z.h.n c4) Z.h.n (vals .u64 Z.h.n Z.h.z) := by rw [hwL]; exact ownsRow_setCell_below hO4 (by show w.heap.size + 2 < w.heap.size + 3; omega) _
 replace hO5 : wL.ownsRow (w.heap.size + 3) 51 3 (.slice p5 Z.h.m c5) Z.h.m (spVals Z.h.m Z.h.s) := by rw [hwL]; exact ownsRow_setCell_below hO5 (by show w.heap.size + 2 < w.heap.size + 3; omega) _
 replace hO6 : GrowR (w.heap.size + 3) 73 13 (MuN (w.heap.size + 3)) Z.n Z.z (.slice p6 Z.n c6) wL := by rw [hwL]; exact zck hO6 (by omega) (by omega) _
 replace hO7 : wL.ownsRow (w.heap.size + 3) 47 5 (.slice p7 Z.nr c7) Z.nr LR.flatten := by rw [hwL]; exact ownsRow_setCell_below hO7 (by show w.heap.size + 2 < w.heap.size + 3; omega) _
 replace hO8 : wL.ownsRow (w.heap.size + 3) 70 2 (.slice p8 Z.m.nr c8) Z.m.nr (vlVals Z.m.nr Z.m.ro) := by rw [hwL]; exact ownsRow_setCell_below hO8 (by show w.heap.size + 2 < w.heap.size + 3; omega) _
 replace hO9 : wL.ownsRow (w.heap.size + 3) 3 1 (.slice p9 Z.m.g.n c9) Z.m.g.n (vals .i64 Z.m.g.n Z.m.g.z) := by rw [hwL]; exact ownsRow_setCell_below hO9 (by show w.heap.size + 2 < w.heap.size + 3; omega) _
 rw [← hwL] at hSA ⊢
 clear hwL hS9 lx c0 z0 hN9
 have hM0 : RAt (GrE w.heap.size) 2 w q.b q.bc Z.m.nb Z.m.b := (MAtE.old (N := w.heap.size) hv.grey hv.bars hv.roots (Nat.le_refl _)).b
 have hwL0 : w.heap.size ≤ wL.heap.size := by omega
 have hXL : w.heap.size + 2 < wL.heap.size := by omega
 obtain ⟨qA, hqA⟩ : ∃ x, x = ({ { { { { { { q with h := p4, hc := c4 } with s := p5, sc := c5 } with m := p6, mc := c6 } with o := p7, oc := c7 } with r := p8, rc := c8 } with g := p9, gc := c9 } with b := none, bc := 0 } : Wp) := ⟨_, rfl⟩
 rw [← hqA] at hSA
 have hqc : ∀ (i : Nat) (pb : Option Addr) (cb : Nat) (pb' : Option Addr) (cb' : Nat), ((({ Z with m := { Z.m with nb := i } } : Wd).cells { qA with b := pb, bc := cb }).toArray).setIfInBounds 11 (.slice pb' (i + 1 : Nat) cb') = (({ Z with m := { Z.m with nb := i + 1 } } : Wd).cells { qA with b := pb', bc := cb' }).toArray := fun _ _ _ _ _ => rfl
 have hSA' : CpS w Z q { Z with m := { Z.m with nb := 0 } } { qA with b := none, bc := 0 } R0 wL := by rw [hqA] at hSA ⊢; exact hSA
 clear hSA
 have hnb10 : Z.m.nb ≤ 10 := g3
 go_wp2
 go_loopg [4] Z.m.nb (fun g iv wr => ∃ (i : Nat) (pbx : Option Addr) (cbx : Nat), i ≤ Z.m.nb ∧ g = Z.m.nb - i ∧ iv = .int .i64 i ∧ CpS w Z q { Z with m := { Z.m with nb := i } } { qA with b := pbx, bc := cbx } R0 wr ∧ GrowR wL.heap.size 31 2 (GrE w.heap.size) i Z.m.b (.slice pbx i cbx) wr ∧ Aside (fun k => k = w.heap.size + 2) wL wr)
 case atStart => exact ⟨0, none, 0, by omega, by omega, rfl, hSA', zjw _ _ _ _ _ _, Aside.of zr⟩
 case round =>
  obtain ⟨i, pbx, cbx, ih, rfl, rfl, hSr, hGr, hAs⟩ := hrel
  have hszr : wL.heap.size ≤ wr.heap.size := hAs.size
  obtain ⟨lA, sA⟩ := hSr.src 11 _ rfl
  obtain ⟨lX, k2, j2⟩ := hSr.slot 11 _ rfl
  have hbwr := hSr.b
  by_cases hi : i < Z.m.nb
  ·obtain ⟨bb, off, LL0, epb, hl0, -, hcell, q2, d2, rfl, hgi, hri, hiw⟩ := hM0.row i hi
   have v0 := hcell 0 _ rfl
   have v1 := hcell 1 _ rfl
   rw [Nat.add_zero] at v0
   have hii := hgi.ints
   have hin := hgi.pnil
   have h20 := g5 i hi
   obtain ⟨rr, hrr⟩ : ∃ x, Hid (x = (Z.m.b i).r) := ⟨_, rfl⟩
   obtain ⟨nn, hnn⟩ : ∃ x, Hid (x = (Z.m.b i).n) := ⟨_, rfl⟩
   rw [← hrr.out] at v0
   rw [← hnn.out] at v1 hii hin h20
   rw [epb] at sA
   have hiM : (i : Int) < Z.m.nb := by omega
   clear hcell hgi epb
   go_upto_region 12 with fail
   have hKB : ∀ (k : Nat) (w1 w2 : World), Below w1.heap.size w1 w2 → KeepI (fun W9 => Below wL.heap.size wr W9 ∧ GrowR wL.heap.size 31 2 (GrE w.heap.size) i Z.m.b (.slice pbx i cbx) W9) ([(fun v _ => v = .pointer (some ⟨w.heap.size + 2, 9, none⟩)), (fun v _ => v = .pointer (some ⟨w.heap.size + 2, 11, none⟩)), (fun v _ => v = .slice pbx i cbx), (fun v _ => v = .pointer (some ⟨w.heap.size, 9, none⟩)), (fun v _ => v = .pointer (some ⟨w.heap.size, 11, none⟩)), (fun v _ => v = .slice (some ⟨bb, off, none⟩) Z.m.nb q.bc), (fun v _ => v = .int .i64 (i : Int)), (fun v _ => v = .pointer (some ⟨bb, off + i * 2, none⟩)), (fun v _ => v = .pointer (some ⟨bb, off + i * 2, none⟩)), (fun v _ => v = .int .i64 rr), (NilB wL.heap.size 3), (fun v _ => v = .pointer (some ⟨w.heap.size, 9, none⟩)), (fun v _ => v = .pointer (some ⟨w.heap.size, 11, none⟩)), (fun v _ => v = .slice (some ⟨bb, off, none⟩) Z.m.nb q.bc), (fun v _ => v = .int .i64 (i : Int)), (fun v _ => v = .pointer (some ⟨bb, off + i * 2, none⟩)), (fun v _ => v = .pointer (some ⟨bb, off + i * 2 + 1, none⟩)), (fun v _ => v = .slice q2 nn d2), (CopyB wL.heap.size 3 1 nn (vals .i64 nn (Z.m.b i).z)), (PutG wL.heap.size rr nn (Z.m.b i).z), (OneG wL.heap.size rr nn (Z.m.b i).z), (GrowRB wL.heap.size w.heap.size (i + 1) Z.m.b), (fun v _ => v = .pointer (some ⟨w.heap.size + 2, 9, none⟩)), (fun v _ => v = .pointer (some ⟨w.heap.size + 2, 11, none⟩))] : List (Value → World → Prop)) [[1, 2, 3, 4, 5, 6, 7, 8, 9, 10, 11, 12, 13, 14, 15, 16, 17, 18, 19, 20, 21, 22, 23], [0, 2, 3, 4, 5, 6, 7, 8, 9, 10, 11, 12, 13, 14, 15, 16, 17, 18, 19, 20, 21, 22, 23], [0, 1, 3, 4, 5, 6, 7, 8, 9, 10, 11, 12, 13, 14, 15, 16, 17, 18, 19, 20, 21, 22, 23], [0, 1, 2, 4, 5, 6, 7, 8, 9, 10, 11, 12, 13, 14, 15, 16, 17, 18, 19, 20, 21, 22, 23], [0, 1, 2, 3, 5, 6, 7, 8, 9, 10, 11, 12, 13, 14, 15, 16, 17, 18, 19, 20, 21, 22, 23], [0, 1, 2, 3, 4, 6, 7, 8, 9, 10, 11, 12, 13, 14, 15, 16, 17, 18, 19, 20, 21, 22, 23], [0, 1, 2, 3, 4, 5, 7, 8, 9, 10, 11, 12, 13, 14, 15, 16, 17, 18, 19, 20, 21, 22, 23], [0, 1, 2, 3, 4, 5, 6, 8, 9, 10, 11, 12, 13, 14, 15, 16, 17, 18, 19, 20, 21, 22, 23], [0, 1, 2, 3, 4, 5, 6, 7, 9, 10, 11, 12, 13, 14, 15, 16, 17, 18, 19, 20, 21, 22, 23], [0, 1, 2, 3, 4, 5, 6, 7, 8, 10, 11, 12, 13, 14, 15, 16, 17, 18, 19, 20, 21, 22, 23], [0, 1, 2, 3, 4, 5, 6, 7, 8, 9, 11, 12, 13, 14, 15, 16, 17, 18, 19, 20, 21, 22, 23], [0, 1, 2, 3, 4, 5, 6, 7, 8, 9, 10, 12, 13, 14, 15, 16, 17, 18, 19, 20, 21, 22, 23], [0, 1, 2, 3, 4, 5, 6, 7, 8, 9, 10, 11, 13, 14, 15, 16, 17, 18, 19, 20, 21, 22, 23], [0, 1, 2, 3, 4, 5, 6, 7, 8, 9, 10, 11, 12, 14, 15, 16, 17, 18, 19, 20, 21, 22, 23], [0, 1, 2, 3, 4, 5, 6, 7, 8, 9, 10, 11, 12, 13, 15, 16, 17, 18, 19, 20, 21, 22, 23], [0, 1, 2, 3, 4, 5, 6, 7, 8, 9, 10, 11, 12, 13, 14, 16, 17, 18, 19, 20, 21, 22, 23], [0, 1, 2, 3, 4, 5, 6, 7, 8, 9, 10, 11, 12, 13, 14, 15, 17, 18, 19, 20, 21, 22, 23], [0, 1, 2, 3, 4, 5, 6, 7, 8, 9, 10, 11, 12, 13, 14, 15, 16, 18, 19, 20, 21, 22, 23], [0, 1, 2, 3, 4, 5, 6, 7, 8, 9, 10, 11, 12, 13, 14, 15, 16, 17, 19, 20, 21, 22, 23], [0, 1, 2, 3, 4, 5, 6, 7, 8, 9, 10, 11, 12, 13, 14, 15, 16, 17, 18, 20, 21, 22, 23], [0, 1, 2, 3, 4, 5, 6, 7, 8, 9, 10, 11, 12, 13, 14, 15, 16, 17, 18, 19, 21, 22, 23], [0, 1, 2, 3, 4, 5, 6, 7, 8, 9, 10, 11, 12, 13, 14, 15, 16, 17, 18, 19, 20, 22, 23], [0, 1, 2, 3, 4, 5, 6, 7, 8, 9, 10, 11, 12, 13, 14, 15, 16, 17, 18, 19, 20, 21, 23], [0, 1, 2, 3, 4, 5, 6, 7, 8, 9, 10, 11, 12, 13, 14, 15, 16, 17, 18, 19, 20, 21, 22]] k w1 w2 := fun k _ _ hb => zey (pv := ([(fun v _ => v = .pointer (some ⟨w.heap.size + 2, 9, none⟩)), (fun v _ => v = .pointer (some ⟨w.heap.size + 2, 11, none⟩)), (fun v _ => v = .slice pbx i cbx), (fun v _ => v = .pointer (some ⟨w.heap.size, 9, none⟩)), (fun v _ => v = .pointer (some ⟨w.heap.size, 11, none⟩)), (fun v _ => v = .slice (some ⟨bb, off, none⟩) Z.m.nb q.bc), (fun v _ => v = .int .i64 (i : Int)), (fun v _ => v = .pointer (some ⟨bb, off + i * 2, none⟩)), (fun v _ => v = .pointer (some ⟨bb, off + i * 2, none⟩)), (fun v _ => v = .int .i64 rr), (NilB wL.heap.size 3), (fun v _ => v = .pointer (some ⟨w.heap.size, 9, none⟩)), (fun v _ => v = .pointer (some ⟨w.heap.size, 11, none⟩)), (fun v _ => v = .slice (some ⟨bb, off, none⟩) Z.m.nb q.bc), (fun v _ => v = .int .i64 (i : Int)), (fun v _ => v = .pointer (some ⟨bb, off + i * 2, none⟩)), (fun v _ => v = .pointer (some ⟨bb, off + i * 2 + 1, none⟩)), (fun v _ => v = .slice q2 nn d2), (CopyB wL.heap.size 3 1 nn (vals .i64 nn (Z.m.b i).z)), (PutG wL.heap.size rr nn (Z.m.b i).z), (OneG wL.heap.size rr nn (Z.m.b i).z), (GrowRB wL.heap.size w.heap.size (i + 1) Z.m.b), (fun v _ => v = .pointer (some ⟨w.heap.size + 2, 9, none⟩)), (fun v _ => v = .pointer (some ⟨w.heap.size + 2, 11, none⟩))] : List (Value → World → Prop))) (fun _ _ h hb => ⟨h.1.trans (hb.mono (Nat.le_trans hszr h.1.size)), h.2.below zbr hb⟩) ⟨fun _ _ _ h _ => h, fun _ _ _ h _ => h, fun _ _ _ h _ => h, fun _ _ _ h _ => h, fun _ _ _ h _ => h, fun _ _ _ h _ => h, fun _ _ _ h _ => h, fun _ _ _ h _ => h, fun _ _ _ h _ => h, fun _ _ _ h _ => h, fun _ _ _ h hb => h.below hb, fun _ _ _ h _ => h, fun _ _ _ h _ => h, fun _ _ _ h _ => h, fun _ _ _ h _ => h, fun _ _ _ h _ => h, fun _ _ _ h _ => h, fun _ _ _ h _ => h, fun _ _ _ h hb => h.below hb, fun _ _ _ h hb => h.below hb, fun _ _ _ h hb => h.below hb, fun _ _ _ h hb => h.below hb, fun _ _ _ h _ => h, fun _ _ _ h _ => h, trivial⟩ hb k
   refine zhc 24 [55, 56, 57, 58, 59, 60, 61, 62, 63, 64, 65, 66, 67, 68, 69, 70, 71, 72, 73, 74, 75, 76, 77, 78] ([(fun v _ => v = .pointer (some ⟨w.heap.size + 2, 9, none⟩)), (fun v _ => v = .pointer (some ⟨w.heap.size + 2, 11, none⟩)), (fun v _ => v = .slice pbx i cbx), (fun v _ => v = .pointer (some ⟨w.heap.size, 9, none⟩)), (fun v _ => v = .pointer (some ⟨w.heap.size, 11, none⟩)), (fun v _ => v = .slice (some ⟨bb, off, none⟩) Z.m.nb q.bc), (fun v _ => v = .int .i64 (i : Int)), (fun v _ => v = .pointer (some ⟨bb, off + i * 2, none⟩)), (fun v _ => v = .pointer (some ⟨bb, off + i * 2, none⟩)), (fun v _ => v = .int .i64 rr), (NilB wL.heap.size 3), (fun v _ => v = .pointer (some ⟨w.heap.size, 9, none⟩)), (fun v _ => v = .pointer (some ⟨w.heap.size, 11, none⟩)), (fun v _ => v = .slice (some ⟨bb, off, none⟩) Z.m.nb q.bc), (fun v _ => v = .int .i64 (i : Int)), (fun v _ => v = .pointer (some ⟨bb, off + i * 2, none⟩)), (fun v _ => v = .pointer (some ⟨bb, off + i * 2 + 1, none⟩)), (fun v _ => v = .slice q2 nn d2), (CopyB wL.heap.size 3 1 nn (vals .i64 nn (Z.m.b i).z)), (PutG wL.heap.size rr nn (Z.m.b i).z), (OneG wL.heap.size rr nn (Z.m.b i).z), (GrowRB wL.heap.size w.heap.size (i + 1) Z.m.b), (fun v _ => v = .pointer (some ⟨w.heap.size + 2, 9, none⟩)), (fun v _ => v = .pointer (some ⟨w.heap.size + 2, 11, none⟩))] : List (Value → World → Prop)) [21, 23] [[1, 2, 3, 4, 5, 6, 7, 8, 9, 10, 11, 12, 13, 14, 15, 16, 17, 18, 19, 20, 21, 22, 23], [0, 2, 3, 4, 5, 6, 7, 8, 9, 10, 11, 12, 13, 14, 15, 16, 17, 18, 19, 20, 21, 22, 23], [0, 1, 3, 4, 5, 6, 7, 8, 9, 10, 11, 12, 13, 14, 15, 16, 17, 18, 19, 20, 21, 22, 23], [0, 1, 2, 4, 5, 6, 7, 8, 9, 10, 11, 12, 13, 14, 15, 16, 17, 18, 19, 20, 21, 22, 23], [0, 1, 2, 3, 5, 6, 7, 8, 9, 10, 11, 12, 13, 14, 15, 16, 17, 18, 19, 20, 21, 22, 23], [0, 1, 2, 3, 4, 6, 7, 8, 9, 10, 11, 12, 13, 14, 15, 16, 17, 18, 19, 20, 21, 22, 23], [0, 1, 2, 3, 4, 5, 7, 8, 9, 10, 11, 12, 13, 14, 15, 16, 17, 18, 19, 20, 21, 22, 23], [0, 1, 2, 3, 4, 5, 6, 8, 9, 10, 11, 12, 13, 14, 15, 16, 17, 18, 19, 20, 21, 22, 23], [0, 1, 2, 3, 4, 5, 6, 7, 9, 10, 11, 12, 13, 14, 15, 16, 17, 18, 19, 20, 21, 22, 23], [0, 1, 2, 3, 4, 5, 6, 7, 8, 10, 11, 12, 13, 14, 15, 16, 17, 18, 19, 20, 21, 22, 23], [0, 1, 2, 3, 4, 5, 6, 7, 8, 9, 11, 12, 13, 14, 15, 16, 17, 18, 19, 20, 21, 22, 23], [0, 1, 2, 3, 4, 5, 6, 7, 8, 9, 10, 12, 13, 14, 15, 16, 17, 18, 19, 20, 21, 22, 23], [0, 1, 2, 3, 4, 5, 6, 7, 8, 9, 10, 11, 13, 14, 15, 16, 17, 18, 19, 20, 21, 22, 23], [0, 1, 2, 3, 4, 5, 6, 7, 8, 9, 10, 11, 12, 14, 15, 16, 17, 18, 19, 20, 21, 22, 23], [0, 1, 2, 3, 4, 5, 6, 7, 8, 9, 10, 11, 12, 13, 15, 16, 17, 18, 19, 20, 21, 22, 23], [0, 1, 2, 3, 4, 5, 6, 7, 8, 9, 10, 11, 12, 13, 14, 16, 17, 18, 19, 20, 21, 22, 23], [0, 1, 2, 3, 4, 5, 6, 7, 8, 9, 10, 11, 12, 13, 14, 15, 17, 18, 19, 20, 21, 22, 23], [0, 1, 2, 3, 4, 5, 6, 7, 8, 9, 10, 11, 12, 13, 14, 15, 16, 18, 19, 20, 21, 22, 23], [0, 1, 2, 3, 4, 5, 6, 7, 8, 9, 10, 11, 12, 13, 14, 15, 16, 17, 19, 20, 21, 22, 23], [0, 1, 2, 3, 4, 5, 6, 7, 8, 9, 10, 11, 12, 13, 14, 15, 16, 17, 18, 20, 21, 22, 23], [0, 1, 2, 3, 4, 5, 6, 7, 8, 9, 10, 11, 12, 13, 14, 15, 16, 17, 18, 19, 21, 22, 23], [0, 1, 2, 3, 4, 5, 6, 7, 8, 9, 10, 11, 12, 13, 14, 15, 16, 17, 18, 19, 20, 22, 23], [0, 1, 2, 3, 4, 5, 6, 7, 8, 9, 10, 11, 12, 13, 14, 15, 16, 17, 18, 19, 20, 21, 23], [0, 1, 2, 3, 4, 5, 6, 7, 8, 9, 10, 11, 12, 13, 14, 15, 16, 17, 18, 19, 20, 21, 22]] (fun W9 => Below wL.heap.size wr W9 ∧ GrowR wL.heap.size 31 2 (GrE w.heap.size) i Z.m.b (.slice pbx i cbx) W9) (⟨zr.drew, hGr.below zbr zr.drew⟩) (by kernel_rfl) (by kernel_rfl) (by kernel_rfl) (by decide) (by kernel_rfl) (by kernel_rfl) (by kernel_rfl) rfl rfl (by decide) (by simp) ?_ ?_
   ·refine ⟨?_, ?_, ?_, ?_, ?_, ?_, ?_, ?_, ?_, ?_, ?_, ?_, ?_, ?_, ?_, ?_, ?_, ?_, ?_, ?_, ?_, ?_, ?_, ?_, trivial⟩
    ·intro a' w' hI hs hd Kc hK
     have f3 : a'.tmps[3]?.getD undef = .pointer (some ⟨w.heap.size + 2, 0, none⟩) := (hs 3 (by decide)).trans rfl
     clear hs hd
     unfold Oper.wp
     go_simp
     try go_bits
     exact hK _ _ (zaj _ _ _ _ _) rfl
    ·intro a' w' hI hs hd Kc hK
     have f55 : a'.tmps[55]?.getD undef = .pointer (some ⟨w.heap.size + 2, 9, none⟩) := hd 0 55 zt rfl
     clear hs hd
     unfold Oper.wp
     go_simp
     try go_bits
     exact hK _ _ (zaj _ _ _ _ _) rfl
    ·intro a' w' hI hs hd Kc hK
     have f56 : a'.tmps[56]?.getD undef = .pointer (some ⟨w.heap.size + 2, 11, none⟩) := hd 1 56 zt rfl
     clear hs hd
     have hsz : wL.heap.size ≤ w'.heap.size := Nat.le_trans hszr hI.1.size
     have c2' := zcl hI.1 hXL k2
     have y2' := zcl hI.1 (show w.heap.size < wL.heap.size by omega) sA
     have lX' : w.heap.size + 2 < w'.heap.size := by omega
     have l8' : w.heap.size < w'.heap.size := by omega
     have hww : Below w.heap.size w w' := hbwr.trans (hI.1.mono hwL0)
     have v0' := zcl hww hl0 v0
     have v1' := zcl hww hl0 v1
     have lb' : bb < w'.heap.size := by omega
     unfold Oper.wp
     go_simp
     try go_bits
     exact hK _ _ (zaj _ _ _ _ _) rfl
    ·intro a' w' hI hs hd Kc hK
     have f1 : a'.tmps[1]?.getD undef = .pointer (some ⟨w.heap.size, 0, none⟩) := (hs 1 (by decide)).trans rfl
     clear hs hd
     unfold Oper.wp
     go_simp
     try go_bits
     exact hK _ _ (zaj _ _ _ _ _) rfl
    ·intro a' w' hI hs hd Kc hK
     have f58 : a'.tmps[58]?.getD undef = .pointer (some ⟨w.heap.size, 9, none⟩) := hd 3 58 zt rfl
     clear hs hd
     unfold Oper.wp
     go_simp
     try go_bits
     exact hK _ _ (zaj _ _ _ _ _) rfl
    ·intro a' w' hI hs hd Kc hK
     have f59 : a'.tmps[59]?.getD undef = .pointer (some ⟨w.heap.size, 11, none⟩) := hd 4 59 zt rfl
     clear hs hd
     have hsz : wL.heap.size ≤ w'.heap.size := Nat.le_trans hszr hI.1.size
     have c2' := zcl hI.1 hXL k2
     have y2' := zcl hI.1 (show w.heap.size < wL.heap.size by omega) sA
     have lX' : w.heap.size + 2 < w'.heap.size := by omega
     have l8' : w.heap.size < w'.heap.size := by omega
     have hww : Below w.heap.size w w' := hbwr.trans (hI.1.mono hwL0)
     have v0' := zcl hww hl0 v0
     have v1' := zcl hww hl0 v1
     have lb' : bb < w'.heap.size := by omega
     unfold Oper.wp
     go_simp
     try go_bits
     exact hK _ _ (zaj _ _ _ _ _) rfl
    ·intro a' w' hI hs hd Kc hK
     have f4 : a'.tmps[4]?.getD undef = .int .i64 (i : Int) := (hs 4 (by decide)).trans rfl
     clear hs hd
     unfold Oper.wp
     go_simp
     try go_bits
     exact hK _ _ (zaj _ _ _ _ _) rfl
    ·intro a' w' hI hs hd Kc hK
     have f60 : a'.tmps[60]?.getD undef = .slice (some ⟨bb, off, none⟩) Z.m.nb q.bc := hd 5 60 zt rfl
     have f61 : a'.tmps[61]?.getD undef = .int .i64 (i : Int) := hd 6 61 zt rfl
     clear hs hd
     have hsz : wL.heap.size ≤ w'.heap.size := Nat.le_trans hszr hI.1.size
     have c2' := zcl hI.1 hXL k2
     have y2' := zcl hI.1 (show w.heap.size < wL.heap.size by omega) sA
     have lX' : w.heap.size + 2 < w'.heap.size := by omega
     have l8' : w.heap.size < w'.heap.size := by omega
     have hww : Below w.heap.size w w' := hbwr.trans (hI.1.mono hwL0)
     have v0' := zcl hww hl0 v0
     have v1' := zcl hww hl0 v1
     have lb' : bb < w'.heap.size := by omega
     unfold Oper.wp
     go_simp
     try go_bits
     exact hK _ _ (zaj _ _ _ _ _) rfl
    ·intro a' w' hI hs hd Kc hK
     have f62 : a'.tmps[62]?.getD undef = .pointer (some ⟨bb, off + i * 2, none⟩) := hd 7 62 zt rfl
     clear hs hd
     unfold Oper.wp
     go_simp
     try go_bits
     exact hK _ _ (zaj _ _ _ _ _) rfl
    ·intro a' w' hI hs hd Kc hK
     have f63 : a'.tmps[63]?.getD undef = .pointer (some ⟨bb, off + i * 2, none⟩) := hd 8 63 zt rfl
     clear hs hd
     have hsz : wL.heap.size ≤ w'.heap.size := Nat.le_trans hszr hI.1.size
     have c2' := zcl hI.1 hXL k2
     have y2' := zcl hI.1 (show w.heap.size < wL.heap.size by omega) sA
     have lX' : w.heap.size + 2 < w'.heap.size := by omega
     have l8' : w.heap.size < w'.heap.size := by omega
     have hww : Below w.heap.size w w' := hbwr.trans (hI.1.mono hwL0)
     have v0' := zcl hww hl0 v0
     have v1' := zcl hww hl0 v1
     have lb' : bb < w'.heap.size := by omega
     unfold Oper.wp
     go_simp
     try go_bits
     exact hK _ _ (zaj _ _ _ _ _) rfl
    ·intro a' w' hI hs hd Kc hK
     clear hs hd
     have hsz : wL.heap.size ≤ w'.heap.size := Nat.le_trans hszr hI.1.size
     have c2' := zcl hI.1 hXL k2
     have y2' := zcl hI.1 (show w.heap.size < wL.heap.size by omega) sA
     have lX' : w.heap.size + 2 < w'.heap.size := by omega
     have l8' : w.heap.size < w'.heap.size := by omega
     have hww : Below w.heap.size w w' := hbwr.trans (hI.1.mono hwL0)
     have v0' := zcl hww hl0 v0
     have v1' := zcl hww hl0 v1
     have lb' : bb < w'.heap.size := by omega
     unfold Oper.wp
     go_simp
     exact hK _ _ (hKB _ _ _ (zr.alloc (Nat.le_refl _) _)) (zf6 _ _ hsz)
    ·intro a' w' hI hs hd Kc hK
     have f1 : a'.tmps[1]?.getD undef = .pointer (some ⟨w.heap.size, 0, none⟩) := (hs 1 (by decide)).trans rfl
     clear hs hd
     unfold Oper.wp
     go_simp
     try go_bits
     exact hK _ _ (zaj _ _ _ _ _) rfl
    ·intro a' w' hI hs hd Kc hK
     have f66 : a'.tmps[66]?.getD undef = .pointer (some ⟨w.heap.size, 9, none⟩) := hd 11 66 zt rfl
     clear hs hd
     unfold Oper.wp
     go_simp
     try go_bits
     exact hK _ _ (zaj _ _ _ _ _) rfl
    ·intro a' w' hI hs hd Kc hK
     have f67 : a'.tmps[67]?.getD undef = .pointer (some ⟨w.heap.size, 11, none⟩) := hd 12 67 zt rfl
     clear hs hd
     have hsz : wL.heap.size ≤ w'.heap.size := Nat.le_trans hszr hI.1.size
     have c2' := zcl hI.1 hXL k2
     have y2' := zcl hI.1 (show w.heap.size < wL.heap.size by omega) sA
     have lX' : w.heap.size + 2 < w'.heap.size := by omega
     have l8' : w.heap.size < w'.heap.size := by omega
     have hww : Below w.heap.size w w' := hbwr.trans (hI.1.mono hwL0)
     have v0' := zcl hww hl0 v0
     have v1' := zcl hww hl0 v1
     have lb' : bb < w'.heap.size := by omega
     unfold Oper.wp
     go_simp
     try go_bits
     exact hK _ _ (zaj _ _ _ _ _) rfl
    ·intro a' w' hI hs hd Kc hK
     have f4 : a'.tmps[4]?.getD undef = .int .i64 (i : Int) := (hs 4 (by decide)).trans rfl
     clear hs hd
     unfold Oper.wp
     go_simp
     try go_bits
     exact hK _ _ (zaj _ _ _ _ _) rfl
    ·intro a' w' hI hs hd Kc hK
     have f68 : a'.tmps[68]?.getD undef = .slice (some ⟨bb, off, none⟩) Z.m.nb q.bc := hd 13 68 zt rfl
     have f69 : a'.tmps[69]?.getD undef = .int .i64 (i : Int) := hd 14 69 zt rfl
     clear hs hd
     have hsz : wL.heap.size ≤ w'.heap.size := Nat.le_trans hszr hI.1.size
     have c2' := zcl hI.1 hXL k2
     have y2' := zcl hI.1 (show w.heap.size < wL.heap.size by omega) sA
     have lX' : w.heap.size + 2 < w'.heap.size := by omega
     have l8' : w.heap.size < w'.heap.size := by omega
     have hww : Below w.heap.size w w' := hbwr.trans (hI.1.mono hwL0)
     have v0' := zcl hww hl0 v0
     have v1' := zcl hww hl0 v1
     have lb' : bb < w'.heap.size := by omega
     unfold Oper.wp
     go_simp
     try go_bits
     exact hK _ _ (zaj _ _ _ _ _) rfl
    ·intro a' w' hI hs hd Kc hK
     have f70 : a'.tmps[70]?.getD undef = .pointer (some ⟨bb, off + i * 2, none⟩) := hd 15 70 zt rfl
     clear hs hd
     unfold Oper.wp
     go_simp
     try go_bits
     exact hK _ _ (zaj _ _ _ _ _) rfl
    ·intro a' w' hI hs hd Kc hK
     have f71 : a'.tmps[71]?.getD undef = .pointer (some ⟨bb, off + i * 2 + 1, none⟩) := hd 16 71 zt rfl
     clear hs hd
     have hsz : wL.heap.size ≤ w'.heap.size := Nat.le_trans hszr hI.1.size
     have c2' := zcl hI.1 hXL k2
     have y2' := zcl hI.1 (show w.heap.size < wL.heap.size by omega) sA
     have lX' : w.heap.size + 2 < w'.heap.size := by omega
     have l8' : w.heap.size < w'.heap.size := by omega
     have hww : Below w.heap.size w w' := hbwr.trans (hI.1.mono hwL0)
     have v0' := zcl hww hl0 v0
     have v1' := zcl hww hl0 v1
     have lb' : bb < w'.heap.size := by omega
     unfold Oper.wp
     go_simp
     try go_bits
     exact hK _ _ (zaj _ _ _ _ _) rfl
    ·intro a' w' hI hs hd Kc hK
     have f65 : (NilB wL.heap.size 3) (a'.tmps[65]?.getD undef) w' := hd 10 65 zt rfl
     have f72 : a'.tmps[72]?.getD undef = .slice q2 nn d2 := hd 17 72 zt rfl
     clear hs hd
     have hsz : wL.heap.size ≤ w'.heap.size := Nat.le_trans hszr hI.1.size
     have c2' := zcl hI.1 hXL k2
     have y2' := zcl hI.1 (show w.heap.size < wL.heap.size by omega) sA
     have lX' : w.heap.size + 2 < w'.heap.size := by omega
     have l8' : w.heap.size < w'.heap.size := by omega
     have hww : Below w.heap.size w w' := hbwr.trans (hI.1.mono hwL0)
     have v0' := zcl hww hl0 v0
     have v1' := zcl hww hl0 v1
     have lb' : bb < w'.heap.size := by omega
     refine zsd rfl (.tmp 65) (.tmp 72) 29 rfl 3 i0 (.int .i64 0) 1 8 Tryz.underlying29 hj0 hj1 hj2 hj3 rfl (by decide) wL.heap.size (a'.tmps[65]?.getD undef) (by simp [Act.eval]) (f65.owns 1) q2 nn d2 (vals .i64 nn (Z.m.b i).z) (by rw [← f72]; simp [Act.eval]) (by simp [zae]) (fun e => (hin e).1) (zdb (hii.below hww)) (zcb _ _ _) (by simp only [maxLen]; omega) (by omega) hsz fun v' w2 ho hbo => ?_
     exact hK _ _ (hKB _ _ _ hbo) ho
    ·intro a' w' hI hs hd Kc hK
     have f64 : a'.tmps[64]?.getD undef = .int .i64 rr := hd 9 64 zt rfl
     have f73 : (CopyB wL.heap.size 3 1 nn (vals .i64 nn (Z.m.b i).z)) (a'.tmps[73]?.getD undef) w' := hd 18 73 zt rfl
     clear hs hd
     have hsz : wL.heap.size ≤ w'.heap.size := Nat.le_trans hszr hI.1.size
     have c2' := zcl hI.1 hXL k2
     have y2' := zcl hI.1 (show w.heap.size < wL.heap.size by omega) sA
     have lX' : w.heap.size + 2 < w'.heap.size := by omega
     have l8' : w.heap.size < w'.heap.size := by omega
     have hww : Below w.heap.size w w' := hbwr.trans (hI.1.mono hwL0)
     have v0' := zcl hww hl0 v0
     have v1' := zcl hww hl0 v1
     have lb' : bb < w'.heap.size := by omega
     obtain ⟨p99, c99, ff⟩ := zul f73
     rw [ff] at f73
     unfold Oper.wp
     go_simp
     exact hK _ _ (zaj _ _ _ _ _) ⟨p99, c99, rfl, f73⟩
    ·intro a' w' hI hs hd Kc hK
     have f74 : (PutG wL.heap.size rr nn (Z.m.b i).z) (a'.tmps[74]?.getD undef) w' := hd 19 74 zt rfl
     clear hs hd
     have hsz : wL.heap.size ≤ w'.heap.size := Nat.le_trans hszr hI.1.size
     have c2' := zcl hI.1 hXL k2
     have y2' := zcl hI.1 (show w.heap.size < wL.heap.size by omega) sA
     have lX' : w.heap.size + 2 < w'.heap.size := by omega
     have l8' : w.heap.size < w'.heap.size := by omega
     have hww : Below w.heap.size w w' := hbwr.trans (hI.1.mono hwL0)
     have v0' := zcl hww hl0 v0
     have v1' := zcl hww hl0 v1
     have lb' : bb < w'.heap.size := by omega
     obtain ⟨p99, c99, f74, hcp⟩ := f74
     unfold Oper.wp
     go_simp
     exact hK _ _ (hKB _ _ _ (zr.alloc (Nat.le_refl _) _)) ⟨p99, c99, zvz _ _ _ hsz, hcp.below (zr.alloc (Nat.le_refl _) _)⟩
    ·intro a' w' hI hs hd Kc hK
     have f57 : a'.tmps[57]?.getD undef = .slice pbx i cbx := hd 2 57 zt rfl
     have f75 : (OneG wL.heap.size rr nn (Z.m.b i).z) (a'.tmps[75]?.getD undef) w' := hd 20 75 zt rfl
     clear hs hd
     have hsz : wL.heap.size ≤ w'.heap.size := Nat.le_trans hszr hI.1.size
     have c2' := zcl hI.1 hXL k2
     have y2' := zcl hI.1 (show w.heap.size < wL.heap.size by omega) sA
     have lX' : w.heap.size + 2 < w'.heap.size := by omega
     have l8' : w.heap.size < w'.heap.size := by omega
     have hww : Below w.heap.size w w' := hbwr.trans (hI.1.mono hwL0)
     have v0' := zcl hww hl0 v0
     have v1' := zcl hww hl0 v1
     have lb' : bb < w'.heap.size := by omega
     obtain ⟨p99, c99, h1, h2⟩ := f75
     have hGi := hI.2
     obtain ⟨LL, e1, e2, e3, e4⟩ := id hGi
     refine zqt rfl (.tmp 57) (.tmp 75) 32 rfl 31 u0 (.agg #[.int .i64 0, .slice none 0 0]) 2 32 Tryz.underlying32 hu0 hu1 hu2 hu3 rfl (by decide) wL.heap.size (.slice pbx i cbx) i LL.flatten (by rw [← f57]; simp [Act.eval]) e3 (a'.tmps[75]?.getD undef) [.int .i64 rr, .slice p99 nn c99] (by simp [Act.eval]) h1 rfl (by simp [Value.oneCell']) (by simp only [maxLen]; omega) (by omega) hsz fun v' w2 ho hch => ?_
     rcases hch with hch | hch
     ·exact hK _ _ (hKB _ _ _ hch) (GrowR.more e1 e2 rfl ho (fun k l hk => zbr _ _ _ _ (e4 k l hk) hch) (zqz hrr hnn (h2.below hch) (by simp only [maxLen]; omega) hii.wf hiw))
     ·exact hK _ _ (zvi _ (fun _ => ⟨hI.1.trans hch.lower, zn9 hGi hch rfl hwL0⟩) ⟨fun _ h => h, fun _ h => h, fun _ h => h, fun _ h => h, fun _ h => h, fun _ h => h, fun _ h => h, fun _ h => h, fun _ h => h, fun _ h => h, fun _ h => zl1 h hch (by decide), fun _ h => h, fun _ h => h, fun _ h => h, fun _ h => h, fun _ h => h, fun _ h => h, fun _ h => h, fun _ h => zcr h hch (by decide), fun _ h => zt7 h hch, fun _ h => ztb h hch, fun _ _ => trivial, fun _ h => h, fun _ h => h, trivial⟩) (GrowR.more e1 e2 rfl ho (fun k l hk => znk (e4 k l hk) hch hwL0) (zqz hrr hnn (zcr h2 hch (by decide)) (by simp only [maxLen]; omega) hii.wf hiw))
    ·intro a' w' hI hs hd Kc hK
     have f3 : a'.tmps[3]?.getD undef = .pointer (some ⟨w.heap.size + 2, 0, none⟩) := (hs 3 (by decide)).trans rfl
     clear hs hd
     unfold Oper.wp
     go_simp
     try go_bits
     exact hK _ _ (zaj _ _ _ _ _) rfl
    ·intro a' w' hI hs hd Kc hK
     have f77 : a'.tmps[77]?.getD undef = .pointer (some ⟨w.heap.size + 2, 9, none⟩) := hd 22 77 zt rfl
     clear hs hd
     unfold Oper.wp
     go_simp
     try go_bits
     exact hK _ _ (zaj _ _ _ _ _) rfl
   clear hKB
   intro Xf w' hI hv
   have o21 : (GrowRB wL.heap.size w.heap.size (i + 1) Z.m.b) (Xf 76) w' := hv 21 76 rfl rfl
   have q78 : Xf 78 = .pointer (some ⟨w.heap.size + 2, 11, none⟩) := hv 23 78 rfl rfl
   clear hv
   simp only [List.map_cons, List.map_nil, q78, puts, Act.put, Nat.reduceAdd, List.setIfInBounds_toArray, List.set_cons_succ, List.set_cons_zero]
   obtain ⟨pn, cn, ff, -, -⟩ := GrowR.rat o21 (by simp only [maxLen]; omega)
   rw [ff] at o21 ⊢
   have gX' := hSr.x.of_block (hI.1.block (w.heap.size + 2) hXL)
   have hS' : CpS w Z q { Z with m := { Z.m with nb := i } } { qA with b := pbx, bc := cbx } R0 w' := ⟨hSr.a.of_block (hI.1.block w.heap.size (by omega)), hSr.r.of_block (hI.1.block (w.heap.size + 1) (by omega)), gX', hbwr.trans (hI.1.mono hwL0)⟩
   have hSn := hS'.store 11 (.slice pn (i + 1 : Nat) cn) (hqc i pbx cbx pn cn)
   have vX' := TBox.varW gX'
   have hGn : GrowR wL.heap.size 31 2 (GrE w.heap.size) (i + 1) Z.m.b (.slice pn (i + 1) cn) (w'.setCell ⟨w.heap.size + 2, 11, none⟩ (.slice pn (i + 1) cn)) := zp0 (k := 11) o21 vX' (by decide) (by omega) hXL [.slice pn (i + 1) cn]
   have hAn := (zo0 hAs hI.1).trans (zay (T := fun k => k = w.heap.size + 2) rfl [.slice pn (i + 1) cn] 11 w')
   obtain ⟨lX', c2, j2'⟩ := hS'.slot 11 _ rfl
   clear o21 ff vX' gX' hI hGr hAs k2 j2 sA lA lX hS' hSr
   go_wp2
   go_roundg (Z.m.nb - (i + 1))
   case measure => omega
   case rel => exact ⟨i + 1, pn, cn, by omega, rfl, by go_num, hSn, hGn, hAn⟩
  ·obtain rfl : i = Z.m.nb := by omega
   obtain ⟨pn, cn, ff, hrat, hblk⟩ := GrowR.rat hGr (by simp only [maxLen]; omega)
   injection ff with e1 e2 e3
   subst e1 e3
   have hT : ∀ k, k = w.heap.size + 2 → k < w.heap.size + 3 := fun k e => by omega
   replace hO4 := zaw hO4 hAs hT
   replace hO5 := zaw hO5 hAs hT
   replace hO6 := zha hO6 hAs hT
   replace hO7 := zaw hO7 hAs hT
   replace hO8 := zaw hO8 hAs hT
   replace hO9 := zaw hO9 hAs hT
   obtain ⟨pm6, cm6, fm, hM6, -⟩ := GrowR.rat hO6 (by simp only [maxLen]; omega)
   injection fm with e1 e2 e3
   subst e1 e3
   go_upto_region 13 with fail
   refine wp_region_lit ?_
   refine ld_w (v := Z) (q := { qA with b := pbx, bc := cbx }) hSr.x rfl ?_
   refine st_w hSr.r hRs rfl rfl fun wz gZ hst => ?_
   have hAz := hst.aside
   have hTz : ∀ k, k = w.heap.size + 1 → k < w.heap.size + 3 := fun k e => by omega
   replace hO4 := zaw hO4 hAz hTz
   replace hO5 := zaw hO5 hAz hTz
   replace hO6 := zha hO6 hAz hTz
   replace hO7 := zaw hO7 hAz hTz
   replace hO8 := zaw hO8 hAz hTz
   replace hO9 := zaw hO9 hAz hTz
   have hMz : RAt MuC 13 wz p6 c6 Z.n Z.z := by
    obtain ⟨pz, cz, fz, hz, -⟩ := GrowR.rat hO6 (by simp only [maxLen]; omega)
    injection fz with e1 e2 e3
    subst e1 e3
    exact zup hz hv.muts
   subst hqA
   have hbz : Below w.heap.size w wz := hbwr.trans (hst.below _ (by omega))
   have hHz : HpAt wz p4 c4 p5 c5 Z.h := zts hO4 hO5 hv.heap.wf hv.heap.nle hv.heap.mle
   have hRz : RAt RpC 5 wz p7 c7 Z.nr Z.rp := zj6 hO7 lr1 lr2 lr3 hv.reps.nle
   have hVz : VAt wz p8 c8 Z.m.nr Z.m.ro := zf4 hO8 hv.roots.nle hv.roots.row.wf
   have hGz : GrAt wz p9 c9 Z.m.g.n Z.m.g.z := zed hO9 hv.grey.nle hv.grey.ints.wf
   have hBz : RAt GrC 2 wz pbx cbx Z.m.nb Z.m.b := RAt.plain (N := w.heap.size) ⟨fun j hj => by
    obtain ⟨bb, off, L, e, hl, hL, hc, hx⟩ := hrat.row j hj
    have hbb := (hblk bb off none e).2.1
    exact ⟨bb, off, L, e, by rw [hst.size]; exact hl, hL, fun t u ht => by rw [World.cell?_of_block (w := wr) (a := ⟨bb, _, none⟩) (hst.other bb (by omega))]; exact hc t u ht, zlb hx ⟨R0, hRs, hRv, hSr.r⟩ (by decide) (by omega) hAz⟩, hrat.nle, hrat.pnil, hrat.ncap⟩
   go_wp2
   refine bodyPost_ret (zww rfl rfl gZ) rfl ?_
   exact ⟨_, rfl, ⟨hHz, hMz, hGz, hBz, hVz, hRz, hv.conf, hv.mark, hv.own⟩, hbz⟩
end Go.Proofs.YtkehankfnkjnlaaGreatDoor
