import Derived.Test.YtkehankfnkjnlaaGreatDoorV37
namespace Go.Proofs.YtkehankfnkjnlaaGreatDoor
set_option linter.unusedSimpArgs false
set_option linter.unusedVariables false
set_option maxHeartbeats 16000000
set_option maxRecDepth 20000
open Go.ChangeAt Go.ChangeShapes Go.Joins Go.RowKit Go.WideShapes
variable {h : Hp} {w w' W W' : World} {p q : Option Addr} {n g : Nat} {a : Int} {v : Value}
def rpL (T : Rp) : List Value := [.int .i64 T.c, .int .i64 T.f, .int .i64 T.l, .int .i64 T.o, .int .i64 T.d]
def RepOne (T : Rp) (v : Value) (W : World) : Prop := ∃ b, v = .slice (some ⟨b, 0, none⟩) 1 1 ∧ b < W.heap.size ∧ W.cell? ⟨b, 0, none⟩ = some (.int .i64 T.c) ∧ W.cell? ⟨b, 1, none⟩ = some (.int .i64 T.f) ∧ W.cell? ⟨b, 2, none⟩ = some (.int .i64 T.l) ∧ W.cell? ⟨b, 3, none⟩ = some (.int .i64 T.o) ∧ W.cell? ⟨b, 4, none⟩ = some (.int .i64 T.d)
theorem RepOne.below {T : Rp} (h : RepOne T v W) (hb : Below W.heap.size W W') : RepOne T v W' := by
 obtain ⟨b, e, hl, c0, c1, c2, c3, c4⟩ := h
 exact ⟨b, e, Nat.lt_of_lt_of_le hl hb.size, zcl hb hl c0, zcl hb hl c1, zcl hb hl c2, zcl hb hl c3, zcl hb hl c4⟩
def RepTwo (T : Rp) (x : Value) (v : Value) (W : World) : Prop := ∃ b y, v = .slice (some ⟨b, 0, none⟩) 2 2 ∧ b < W.heap.size ∧ W.cell? ⟨b, 0, none⟩ = some x ∧ W.cell? ⟨b, 1, none⟩ = some y ∧ RepOne T y W
theorem RepTwo.below {T : Rp} {x v : Value} (h : RepTwo T x v W) (hb : Below W.heap.size W W') : RepTwo T x v W' := by
 obtain ⟨b, y, e, hl, c0, c1, h⟩ := h
 exact ⟨b, y, e, Nat.lt_of_lt_of_le hl hb.size, zcl hb hl c0, zcl hb hl c1, h.below hb⟩
def RepNew (N0 n : Nat) (xs : List Value) (v : Value) (W : World) : Prop := ∃ p c, v = .slice p n c ∧ W.ownsRow N0 47 5 (.slice p n c) n xs
theorem RepNew.below {N0 n : Nat} {xs : List Value} (h : RepNew N0 n xs v W) (hb : Below W.heap.size W W') : RepNew N0 n xs v W' := by
 obtain ⟨p, c, e, h⟩ := h
 exact ⟨p, c, e, zaa h hb⟩
theorem WdE.told {N : Nat} {Z : Wd} {q : Wp} (hv : WdE N W Z q) {rp : Nat → Rp} {c : Nat} (h : RAt RpC 5 W p c n rp) (he : RowE N 47 n p W) : WdE N W { Z with nr := n, rp := rp } { q with o := p, oc := c } :=
 ⟨hv.heap, hv.muts, hv.me, hv.mark, h, he, hv.conf, hv.wm, hv.own⟩
theorem zeM_at (N : Nat) (W : World) : MAtE N W zeM none 0 none 0 none 0 :=
 ⟨zgt _ _, zc5, zew _ _, zc5, zfw _ _, zc5⟩
noncomputable def enM (W : Wd) : Wd := { W with h := bgH W.h, m := zeM, ph := 2, nr := W.nr + 1, rp := fun i => if i = W.nr then teW W else W.rp i }
theorem te_wf {Z : Wd} (hF : formB Z.h = true) (hw : Z.h.wf) (hc : In64 Z.cy) : (teW Z).wf := by
 have hn512 : Z.h.n ≤ 512 := by have := zad.1 hF; omega
 have h1 := zd7 hF hw
 have h2 := zf9 (h := Z.h) (bkL Z.h) hn512
 have h3 := zf9 (h := Z.h) (rcL Z.h (vrL (lvF (heldL Z.z Z.n)) (heldL Z.z Z.n).length)) hn512
 refine ⟨hc, ?_, ?_, ?_, ?_⟩
 ·show In64 ((Z.h.n : Int) - usH Z.h); exact ⟨by omega, by omega⟩
 ·show In64 (wdL Z.h (bkL Z.h)); exact ⟨by omega, by omega⟩
 ·show In64 (wdL Z.h (bkL Z.h) - wdL Z.h _); exact ⟨by omega, by omega⟩
 ·show In64 (usH Z.h - wdL Z.h (bkL Z.h)); exact ⟨by omega, by omega⟩
theorem zut (N : Nat) (Z : Wd) (q : Wp) (w : World) (hN : N ≤ w.heap.size) (hS : Sz w) (hv : WdE N w Z q) (hFW : FormW Z) (hB : BdW Z) :
  Calls Tryz.prog 95 #[.agg (Z.cells q).toArray] w fun e w' => ∃ q', e = .returned (.agg ((enM Z).cells q').toArray) ∧ WdE N w' (enM Z) q' ∧ Below w.heap.size w w' := by
 have hF := hFW.hF
 have hnr := hB.1
 obtain ⟨SW, hSW⟩ : ∃ x, x = enM Z := ⟨_, rfl⟩
 rw [← hSW]
 obtain ⟨R0, hR0⟩ : ∃ R : Array Value, R = #[.int .i64 0, .int .i64 0, .int .i64 0, .int .i64 0, .int .i64 0, .slice none 0 0, .slice none 0 0, .bool false, .slice none 0 0, .int .i64 0, .slice none 0 0, .slice none 0 0, .slice none 0 0, .int .i64 0, .int .i64 0, .int .i64 0, .bool false, .int .i64 0, .bool false, .int .i64 0, .slice none 0 0] := ⟨_, rfl⟩
 have hRs : R0.size = 21 := by rw [hR0]; rfl
 have hRp : PlainC R0 := by rw [hR0]; exact zbh zeW zeP
 obtain ⟨wB, hwB⟩ : ∃ W, W = (w.alloc (.cells (Z.cells q).toArray 38)).alloc (.cells R0 38) := ⟨_, rfl⟩
 have hC := zfr hv hwB
 obtain ⟨LR, lr1, lr2, lr3, lr4⟩ := zi6 hC.e.reps (by decide)
 have lrl : LR.flatten.length = Z.nr * 5 := by rw [zcm _ lr2, lr1]
 have lro : ∀ u ∈ LR.flatten, u.oneCell' = true := fun u h => by
  obtain ⟨l, hl, hu⟩ := List.mem_flatten.1 h
  obtain ⟨k, hk⟩ := List.getElem?_of_mem hl
  obtain ⟨rfl, -⟩ := lr3 k l hk
  simp only [List.mem_cons, List.not_mem_nil, or_false] at hu
  rcases hu with rfl | rfl | rfl | rfl | rfl <;> rfl
 have hTw := te_wf hF hv.heap.wf hv.own.2
 obtain ⟨T, hT⟩ : ∃ T, T = teW Z := ⟨_, rfl⟩
 rw [← hT] at hTw
 have hTe := fun W (hW : Below wB.heap.size wB W) => zkr Z q W ((hS.below hC.b).below hW) (hC.below hW).e.in hFW
 rw [← hT] at hTe
 have hR : Hid (SW = { Z with h := bgH Z.h, m := zeM, ph := 2, nr := Z.nr + 1, rp := fun i => if i = Z.nr then T else Z.rp i }) := by show SW = _; rw [hSW]; unfold enM; rw [hT]
 clear hSW hT
 have hCc : ∀ W x, Below wB.heap.size wB W → RepTwo T (.slice q.o Z.nr q.oc) x W → Calls Tryz.prog 137 #[x] W fun e w' => ∃ v, e = .returned v ∧ RepNew wB.heap.size (Z.nr + 1) (LR.flatten ++ rpL T) v w' ∧ Below W.heap.size W w' := fun W x hW hx => by
  obtain ⟨b, y, rfl, hl, c0, c1, b1, rfl, hl1, d0, d1, d2, d3, d4⟩ := hx
  refine zm (zlw b q.o (some ⟨b1, 0, none⟩) Z.nr q.oc 1 1 LR.flatten (rpL T) W hl c0 c1 ⟨lrl, fun ad e j u hj => ?_, lro, hC.e.reps.pnil⟩ ⟨rfl, fun ad e j u hj => ?_, fun u hu => ?_, fun e => by cases e⟩ (by omega)) ?_
  ·have h1 := lr4 ad e j u hj
   exact (hW.cell (World.block_lt_of_cell? _ _ h1)).trans h1
  ·cases e
   match j, hj with
   | 0, hj => cases hj; exact d0
   | 1, hj => cases hj; exact d1
   | 2, hj => cases hj; exact d2
   | 3, hj => cases hj; exact d3
   | 4, hj => cases hj; exact d4
   | j + 5, hj => cases hj
  ·simp only [rpL, List.mem_cons, List.not_mem_nil, or_false] at hu
   rcases hu with rfl | rfl | rfl | rfl | rfl <;> rfl
  ·rintro e w' ⟨p', c', rfl, ho, hb⟩
   exact ⟨_, rfl, ⟨p', c', rfl, zag ho hW.size⟩, hb⟩
 go_enter Tryz.func95, Tryz.ntmps95
 go_upto_region 1 with fail
 rw [← hR0, ← hwB]
 clear hwB hR0
 have hKB : ∀ (k : Nat) (w1 w2 : World), Below w1.heap.size w1 w2 → KeepI (fun W9 => Below wB.heap.size wB W9) ([(fun v _ => v = .pointer (some ⟨w.heap.size, 20, none⟩)), (fun v _ => v = .slice q.o Z.nr q.oc), (fun v _ => v = .agg (Z.cells q).toArray), (fun v _ => v = .agg #[.int .i64 T.c, .int .i64 T.f, .int .i64 T.l, .int .i64 T.o, .int .i64 T.d]), (RepOne T), (RepTwo T (.slice q.o Z.nr q.oc)), (RepNew wB.heap.size (Z.nr + 1) (LR.flatten ++ rpL T)), (fun v _ => v = .pointer (some ⟨w.heap.size, 20, none⟩))] : List (Value → World → Prop)) [[1, 2, 3, 4, 5, 6, 7], [0, 2, 3, 4, 5, 6, 7], [0, 1, 3, 4, 5, 6, 7], [0, 1, 2, 4, 5, 6, 7], [0, 1, 2, 3, 5, 6, 7], [0, 1, 2, 3, 4, 6, 7], [0, 1, 2, 3, 4, 5, 7], [0, 1, 2, 3, 4, 5, 6]] k w1 w2 := fun k _ _ hb => zey (pv := ([(fun v _ => v = .pointer (some ⟨w.heap.size, 20, none⟩)), (fun v _ => v = .slice q.o Z.nr q.oc), (fun v _ => v = .agg (Z.cells q).toArray), (fun v _ => v = .agg #[.int .i64 T.c, .int .i64 T.f, .int .i64 T.l, .int .i64 T.o, .int .i64 T.d]), (RepOne T), (RepTwo T (.slice q.o Z.nr q.oc)), (RepNew wB.heap.size (Z.nr + 1) (LR.flatten ++ rpL T)), (fun v _ => v = .pointer (some ⟨w.heap.size, 20, none⟩))] : List (Value → World → Prop))) (fun _ _ h hb => h.trans (hb.mono h.size)) ⟨fun _ _ _ h _ => h, fun _ _ _ h _ => h, fun _ _ _ h _ => h, fun _ _ _ h _ => h, fun _ _ _ h hb => h.below hb, fun _ _ _ h hb => h.below hb, fun _ _ _ h hb => h.below hb, fun _ _ _ h _ => h, trivial⟩ hb k
 refine zhc 8 [3, 4, 5, 6, 7, 8, 9, 10] ([(fun v _ => v = .pointer (some ⟨w.heap.size, 20, none⟩)), (fun v _ => v = .slice q.o Z.nr q.oc), (fun v _ => v = .agg (Z.cells q).toArray), (fun v _ => v = .agg #[.int .i64 T.c, .int .i64 T.f, .int .i64 T.l, .int .i64 T.o, .int .i64 T.d]), (RepOne T), (RepTwo T (.slice q.o Z.nr q.oc)), (RepNew wB.heap.size (Z.nr + 1) (LR.flatten ++ rpL T)), (fun v _ => v = .pointer (some ⟨w.heap.size, 20, none⟩))] : List (Value → World → Prop)) [6, 7] [[1, 2, 3, 4, 5, 6, 7], [0, 2, 3, 4, 5, 6, 7], [0, 1, 3, 4, 5, 6, 7], [0, 1, 2, 4, 5, 6, 7], [0, 1, 2, 3, 5, 6, 7], [0, 1, 2, 3, 4, 6, 7], [0, 1, 2, 3, 4, 5, 7], [0, 1, 2, 3, 4, 5, 6]] (fun W9 => Below wB.heap.size wB W9) (zr.drew) (by kernel_rfl) (by kernel_rfl) (by kernel_rfl) (by decide) (by kernel_rfl) (by kernel_rfl) (by kernel_rfl) rfl rfl (by decide) (by simp) ?_ ?_
 ·refine ⟨?_, ?_, ?_, ?_, ?_, ?_, ?_, ?_, trivial⟩
  ·intro a' w' hI hs hd Kc hK
   have f1 : a'.tmps[1]?.getD undef = .pointer (some ⟨w.heap.size, 0, none⟩) := (hs 1 (by decide)).trans rfl
   clear hs hd
   unfold Oper.wp
   go_simp
   try go_bits
   exact hK _ _ (zaj _ _ _ _ _) rfl
  ·intro a' w' hI hs hd Kc hK
   have f3 : a'.tmps[3]?.getD undef = .pointer (some ⟨w.heap.size, 20, none⟩) := hd 0 3 zt rfl
   clear hs hd
   have hG := (hC.below hI).x
   obtain ⟨l0, -, -, -, -, -, -, a20⟩ := zac hG
   unfold Oper.wp
   go_simp
   try go_bits
   exact hK _ _ (zaj _ _ _ _ _) rfl
  ·intro a' w' hI hs hd Kc hK
   have f1 : a'.tmps[1]?.getD undef = .pointer (some ⟨w.heap.size, 0, none⟩) := (hs 1 (by decide)).trans rfl
   clear hs hd
   have hG := (hC.below hI).x
   obtain ⟨l0, -, -, -, -, -, -, a20⟩ := zac hG
   refine wp_load_mid 38 (.tmp 1) rfl w.heap.size 0 (by simp [Act.eval, f1]) (Z.cells q) _ hG.range Tryz.underlying38 rfl zfu ?_
   exact hK _ _ (zaj _ _ _ _ _) rfl
  ·intro a' w' hI hs hd Kc hK
   have f5 : a'.tmps[5]?.getD undef = .agg (Z.cells q).toArray := hd 2 5 zt rfl
   clear hs hd
   have hG := (hC.below hI).x
   obtain ⟨l0, -, -, -, -, -, -, a20⟩ := zac hG
   unfold Oper.wp
   go_simp
   try go_bits
   refine zm (hTe _ hI) ?_
   rintro e w'' ⟨rfl, hb2⟩
   exact hK _ _ (hKB _ _ _ hb2) rfl
  ·intro a' w' hI hs hd Kc hK
   have f6 : a'.tmps[6]?.getD undef = .agg #[.int .i64 T.c, .int .i64 T.f, .int .i64 T.l, .int .i64 T.o, .int .i64 T.d] := hd 3 6 zt rfl
   clear hs hd
   have hG := (hC.below hI).x
   obtain ⟨l0, -, -, -, -, -, -, a20⟩ := zac hG
   unfold Oper.wp
   go_simp
   exact hK _ _ (hKB _ _ _ (zr.alloc (Nat.le_refl _) _)) ⟨_, rfl, by simp, by simp, by simp, by simp, by simp, by simp⟩
  ·intro a' w' hI hs hd Kc hK
   have f4 : a'.tmps[4]?.getD undef = .slice q.o Z.nr q.oc := hd 1 4 zt rfl
   have f7 : (RepOne T) (a'.tmps[7]?.getD undef) w' := hd 4 7 zt rfl
   clear hs hd
   have hG := (hC.below hI).x
   obtain ⟨l0, -, -, -, -, -, -, a20⟩ := zac hG
   obtain ⟨b7, f70, hl7, r0, r1, r2, r3, r4⟩ := f7
   have hOne : RepOne T (.slice (some ⟨b7, 0, none⟩) 1 1) w' := ⟨b7, rfl, hl7, r0, r1, r2, r3, r4⟩
   unfold Oper.wp
   go_simp
   exact hK _ _ (hKB _ _ _ (zr.alloc (Nat.le_refl _) _)) ⟨w'.heap.size, .slice (some ⟨b7, 0, none⟩) 1 1, rfl, by simp, by simp, by simp, hOne.below (zr.alloc (Nat.le_refl _) _)⟩
  ·intro a' w' hI hs hd Kc hK
   have f8 : (RepTwo T (.slice q.o Z.nr q.oc)) (a'.tmps[8]?.getD undef) w' := hd 5 8 zt rfl
   clear hs hd
   have hG := (hC.below hI).x
   obtain ⟨l0, -, -, -, -, -, -, a20⟩ := zac hG
   unfold Oper.wp
   go_simp
   refine zm (hCc _ _ hI f8) ?_
   rintro e w'' ⟨v9, rfl, hA, hb2⟩
   exact hK _ _ (hKB _ _ _ hb2) hA
  ·intro a' w' hI hs hd Kc hK
   have f1 : a'.tmps[1]?.getD undef = .pointer (some ⟨w.heap.size, 0, none⟩) := (hs 1 (by decide)).trans rfl
   clear hs hd
   unfold Oper.wp
   go_simp
   try go_bits
   exact hK _ _ (zaj _ _ _ _ _) rfl
 clear hKB
 intro Xf w' hI hv
 have o6 : (RepNew wB.heap.size (Z.nr + 1) (LR.flatten ++ rpL T)) (Xf 9) w' := hv 6 9 rfl rfl
 have q10 : Xf 10 = .pointer (some ⟨w.heap.size, 20, none⟩) := hv 7 10 rfl rfl
 clear hv
 simp only [List.map_cons, List.map_nil, q10, puts, Act.put, Nat.reduceAdd, List.setIfInBounds_toArray, List.set_cons_succ, List.set_cons_zero]
 obtain ⟨p9, c9, ff, hO⟩ := o6
 rw [ff]
 clear ff hTe hCc
 have hC9 := hC.below hI
 obtain ⟨rp', hrp⟩ : ∃ f : Nat → Rp, f = fun i => if i = Z.nr then T else Z.rp i := ⟨_, rfl⟩
 have hO' : w'.ownsRow wB.heap.size 47 5 (.slice p9 (Z.nr + 1) c9) (Z.nr + 1) (LR ++ [rpL T]).flatten := by
  rw [List.flatten_append, List.flatten_cons, List.flatten_nil, List.append_nil]; exact hO
 have hRt : RAt RpC 5 w' p9 c9 (Z.nr + 1) rp' := zj6 hO' (by simp [lr1]) (fun l hl => by
   rcases List.mem_append.1 hl with h | h
   ·exact lr2 l h
   ·rw [List.mem_singleton.1 h]; rfl) (fun k l e => by
   by_cases hk : k < LR.length
   ·rw [List.getElem?_append_left hk] at e
    have := lr3 k l e
    rw [hrp]
    dsimp only
    rw [if_neg (by omega)]
    exact this
   ·rw [List.getElem?_append_right (by omega)] at e
    have hk2 : k - LR.length < [rpL T].length := (List.getElem?_eq_some_iff.1 e).1
    simp only [List.length_cons, List.length_nil] at hk2
    have hk3 : k - LR.length = 0 := by omega
    rw [hk3] at e
    injection e with e
    subst e
    rw [hrp]
    dsimp only
    rw [if_pos (by omega)]
    exact ⟨rfl, hTw⟩) (by simp only [maxLen]; omega)
 have hRe : RowE N 47 (Z.nr + 1) p9 w' := fun _ b off sp e => by
  obtain ⟨-, cs, h2⟩ := zea hO b off sp e
  exact ⟨(Array.getElem?_eq_some_iff.1 h2).1, .inr ⟨cs, h2⟩⟩
 have hE1 := hC9.e.told hRt hRe
 have hD := hC9.puts hN hE1 hF 20 [.slice p9 (Z.nr + 1) c9] rfl
 obtain ⟨Z1, hZ1⟩ : ∃ Y, Y = ({ Z with nr := Z.nr + 1, rp := rp' } : Wd) := ⟨_, rfl⟩
 obtain ⟨q1, hq1⟩ : ∃ y, y = ({ q with o := p9, oc := c9 } : Wp) := ⟨_, rfl⟩
 rw [← hZ1, ← hq1] at hD
 have hF1 : formB Z1.h = true := by rw [hZ1]; exact hF
 have hR1 : Hid (SW = { Z1 with h := bgH Z1.h, m := zeM, ph := 2 }) := by show SW = _; rw [hR.out, hZ1, hrp]
 have lx := hC9.x.lt
 have a20 := hC9.x.cell 20
 have z20 := hC9.x.frozen 20
 simp only [List.getElem?_toArray, List.getElem?_cons_zero, List.getElem?_cons_succ] at a20
 simp only [putsL] at hD
 clear hE1 hRt hRe hO hO' hrp lr1 lr2 lr3 lr4 lrl lro hTw hR hC hI
 go_upto_region 2 with fail
 clear lx a20 z20 hC9 hZ1 hq1
 generalize w'.setCell ⟨w.heap.size, 20, none⟩ (.slice p9 (Z.nr + 1) c9) = w5 at *
 have hSb := fun W (hW : Below w5.heap.size w5 W) => ztc ((hS.below hD.b).below hW) (zw2 _) (hD.below hW).e.heap.in hF1
 obtain ⟨lx, -, ⟨a5, a6, a7, -⟩, -, -⟩ := zac hD.x
 go_upto_region 3 with (first
  | (go_at_call 138; refine zm (hSb _ (by go_grown)) ?_; rintro e w4 ⟨p4, c4, q4, d4, rfl, hI4, -, -, hb4⟩; have hC4 := hD.below hb4; obtain ⟨lx4, -, ⟨b5, b6, b7, b8⟩, ⟨b9, b10, b11, b12, b13, b14, b15, b16⟩, b17, b18, b19, -⟩ := zac hC4.x; have z5 := hC4.x.frozen 5; have z6 := hC4.x.frozen 6; have z7 := hC4.x.frozen 7; have z9 := hC4.x.frozen 9; have z10 := hC4.x.frozen 10; have z11 := hC4.x.frozen 11; have z12 := hC4.x.frozen 12; have z13 := hC4.x.frozen 13; have z14 := hC4.x.frozen 14; have z15 := hC4.x.frozen 15; have z16 := hC4.x.frozen 16; have z17 := hC4.x.frozen 17)
 )
 have hFf : formB (bgH Z1.h) = true := zd4 hF1
 have hE2 := hC4.e.heaped hI4.at'
 have h5 := hC4.puts hN hE2 hFf 5 [.slice p4 Z1.h.n c4, .slice q4 Z1.h.m d4, .bool Z1.h.b] rfl
 have h6 := h5.puts hN (h5.e.marked (zeM_at N _) ⟨⟨by decide, by decide⟩, ⟨by decide, by decide⟩, ⟨by decide, by decide⟩, ⟨by decide, by decide⟩⟩) hFf 9 [.int .i64 0, .slice none 0 0, .slice none 0 0, .slice none 0 0, .int .i64 0, .int .i64 0, .int .i64 0, .bool false] (by simp only [setFrom, List.setIfInBounds_toArray, List.set_cons_zero, List.set_cons_succ]; rfl)
 have h7 := h6.puts hN (h6.e.owned (ph := 2) (wa := Z1.wa) (cy := Z1.cy) ⟨by decide, by decide⟩ hC4.e.own.2) hFf 17 [.int .i64 2] rfl
 obtain ⟨w6, hw6⟩ : ∃ W, W = putsL w.heap.size 17 [.int .i64 2] (putsL w.heap.size 9 [.int .i64 0, .slice none 0 0, .slice none 0 0, .slice none 0 0, .int .i64 0, .int .i64 0, .int .i64 0, .bool false] (putsL w.heap.size 5 [.slice p4 Z1.h.n c4, .slice q4 Z1.h.m d4, .bool Z1.h.b] w4)) := ⟨_, rfl⟩
 rw [← hw6] at h7
 simp only [putsL, Nat.reduceAdd] at hw6
 rw [← hw6]
 clear hw6 h6 h5 hE2 b5 b6 b7 b8 b9 b10 b11 b12 b13 b14 b15 b16 b17 b18 b19 z5 z6 z7 z9 z10 z11 z12 z13 z14 z15 z16 z17 lx4 lx a5 a6 a7 hSb
 refine wp_region_lit ?_
 refine ld_w h7.x rfl ?_
 refine st_w h7.r hRs rfl rfl fun wz gZ hst => ?_
 obtain ⟨hEz, hbz⟩ := h7.fin hN hFf hRs hRp hst
 go_wp2
 refine bodyPost_ret (zww rfl rfl gZ) rfl ?_
 exact ⟨_, by rw [hR1.out], by rw [hR1.out]; exact hEz, hbz⟩
end Go.Proofs.YtkehankfnkjnlaaGreatDoor
