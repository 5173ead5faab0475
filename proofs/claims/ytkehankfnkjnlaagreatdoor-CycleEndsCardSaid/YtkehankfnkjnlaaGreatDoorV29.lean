import Derived.Test.YtkehankfnkjnlaaGreatDoorV25
namespace Go.Proofs.YtkehankfnkjnlaaGreatDoor
set_option linter.unusedSimpArgs false
set_option linter.unusedVariables false
set_option maxHeartbeats 16000000
set_option maxRecDepth 20000
open Go.ChangeAt Go.ChangeShapes Go.Joins Go.RowKit Go.WideShapes
variable {h : Hp} {w w' W W' : World} {p q : Option Addr} {n g : Nat} {a : Int} {v : Value}
theorem zis (n : Nat) (z : Nat → Mu) (p : Option Addr) (c : Nat) (p' : Option Addr) (c' : Nat) (w : World) (hz : RAt MuC 13 w p c n z) (hz' : RAt MuC 13 w p' c' n z) :
  Calls Tryz.prog 48 #[.slice p n c, .slice p' n c'] w fun e w' => e = .returned (.bool true) ∧ Below w.heap.size w w' := by
 have hnl := hz.nle
 simp only [maxLen] at hnl
 go_enter Tryz.func48, Tryz.ntmps48
 go_wp2
 go_loopg [5] n (fun g iv wr => ∃ j : Nat, j ≤ n ∧ g = n - j ∧ iv = .int .i64 j ∧ Below w.heap.size w wr)
 case atStart => exact ⟨0, by omega, by omega, rfl, zr⟩
 case round =>
  obtain ⟨j, jh, rfl, rfl, hbw⟩ := hrel
  by_cases hj : j < n
  ·obtain ⟨b1, o1, ps, cs, rfl, lx, hc1, hv1, -⟩ := (hz.below zat hbw).mu hj
   obtain ⟨b2, o2, qs, ds, rfl, ly, hc2, hv2, -⟩ := (hz'.below zat hbw).mu hj
   have hSm : ∀ W, Below wr.heap.size wr W → _ := fun W hW => zko (z j) ps cs qs ds W (hv1.below hW) (hv2.below hW)
   clear hv1 hv2
   generalize z j = m at *
   obtain ⟨k, st, s, ok, oa, ob, oc, o, ⟨vk, vn⟩, c0, c1, c2, c3⟩ := m
   dsimp only [Mu.cells] at *
   have x0 := hc1 0 _ rfl
   have x1 := hc1 1 _ rfl
   have x2 := hc1 2 _ rfl
   have x3 := hc1 3 _ rfl
   have x4 := hc1 4 _ rfl
   have x5 := hc1 5 _ rfl
   have x6 := hc1 6 _ rfl
   have x7 := hc1 7 _ rfl
   have x8 := hc1 8 _ rfl
   have x9 := hc1 9 _ rfl
   have x10 := hc1 10 _ rfl
   have x11 := hc1 11 _ rfl
   have x12 := hc1 12 _ rfl
   have y0 := hc2 0 _ rfl
   have y1 := hc2 1 _ rfl
   have y2 := hc2 2 _ rfl
   have y3 := hc2 3 _ rfl
   have y4 := hc2 4 _ rfl
   have y5 := hc2 5 _ rfl
   have y6 := hc2 6 _ rfl
   have y7 := hc2 7 _ rfl
   have y8 := hc2 8 _ rfl
   have y9 := hc2 9 _ rfl
   have y10 := hc2 10 _ rfl
   have y11 := hc2 11 _ rfl
   have y12 := hc2 12 _ rfl
   rw [Nat.add_zero] at x0 y0
   clear hc1 hc2
   go_upto_region 6 with fail
   refine zbg [some 17, some 18, some 19, some 20, some 21, some 22, some 23, some 24, some 25, some 26] [17, 18, 19, 20, 21, 22, 23, 24, 25, 26] [(fun v _ => v = .slice (some ⟨b1, o1, none⟩) n c), (fun v _ => v = .int .i64 (j : Int)), (fun v _ => v = .pointer (some ⟨b1, o1 + j * 13, none⟩)), (fun v _ => v = .agg #[.slice ps k cs, .int .i64 s, .int .i64 ok, .int .i64 oa, .int .i64 ob, .int .i64 oc, .int .i64 o, .int .i64 vk, .int .i64 vn, .int .i64 c0, .int .i64 c1, .int .i64 c2, .int .i64 c3]), (fun v _ => v = .slice (some ⟨b2, o2, none⟩) n c'), (fun v _ => v = .int .i64 (j : Int)), (fun v _ => v = .pointer (some ⟨b2, o2 + j * 13, none⟩)), (fun v _ => v = .agg #[.slice qs k ds, .int .i64 s, .int .i64 ok, .int .i64 oa, .int .i64 ob, .int .i64 oc, .int .i64 o, .int .i64 vk, .int .i64 vn, .int .i64 c0, .int .i64 c1, .int .i64 c2, .int .i64 c3]), (fun v _ => v = .bool true), (fun v _ => v = .bool false)] (fun _ => false) 27 (by kernel_rfl) (by kernel_rfl) rfl rfl (by decide) (by decide) (by simp) ⟨kv, kv, kv, kv, kv, kv, kv, kv, kv, kv, trivial⟩ ⟨rfl, rfl, rfl, rfl, rfl, rfl, rfl, rfl, rfl, rfl, trivial⟩ ?_ ?_
   ·refine ⟨?_, ?_, ?_, ?_, ?_, ?_, ?_, ?_, ?_, ?_, trivial⟩
    ·intro _ a' w' hb' hs hd Kc hK
     have f0 : a'.tmps[0]?.getD undef = .slice (some ⟨b1, o1, none⟩) n c := (hs 0 (by decide)).trans rfl
     clear hs hd
     unfold Oper.wp
     go_simp
     try go_bits
     exact hK _ _ zr rfl
    ·intro _ a' w' hb' hs hd Kc hK
     have f5 : a'.tmps[5]?.getD undef = .int .i64 (j : Int) := (hs 5 (by decide)).trans rfl
     clear hs hd
     unfold Oper.wp
     go_simp
     try go_bits
     exact hK _ _ zr rfl
    ·intro _ a' w' hb' hs hd Kc hK
     have f17 : a'.tmps[17]?.getD undef = .slice (some ⟨b1, o1, none⟩) n c := hd 0 17 zt rfl rfl
     have f18 : a'.tmps[18]?.getD undef = .int .i64 (j : Int) := hd 1 18 zt rfl rfl
     clear hs hd
     have lx' := Nat.lt_of_lt_of_le lx hb'.size
     have ly' := Nat.lt_of_lt_of_le ly hb'.size
     have x0' := zcl hb' lx x0
     have x1' := zcl hb' lx x1
     have x2' := zcl hb' lx x2
     have x3' := zcl hb' lx x3
     have x4' := zcl hb' lx x4
     have x5' := zcl hb' lx x5
     have x6' := zcl hb' lx x6
     have x7' := zcl hb' lx x7
     have x8' := zcl hb' lx x8
     have x9' := zcl hb' lx x9
     have x10' := zcl hb' lx x10
     have x11' := zcl hb' lx x11
     have x12' := zcl hb' lx x12
     have y0' := zcl hb' ly y0
     have y1' := zcl hb' ly y1
     have y2' := zcl hb' ly y2
     have y3' := zcl hb' ly y3
     have y4' := zcl hb' ly y4
     have y5' := zcl hb' ly y5
     have y6' := zcl hb' ly y6
     have y7' := zcl hb' ly y7
     have y8' := zcl hb' ly y8
     have y9' := zcl hb' ly y9
     have y10' := zcl hb' ly y10
     have y11' := zcl hb' ly y11
     have y12' := zcl hb' ly y12
     unfold Oper.wp
     go_simp
     try go_bits
     exact hK _ _ zr rfl
    ·intro _ a' w' hb' hs hd Kc hK
     have f19 : a'.tmps[19]?.getD undef = .pointer (some ⟨b1, o1 + j * 13, none⟩) := hd 2 19 zt rfl rfl
     clear hs hd
     have lx' := Nat.lt_of_lt_of_le lx hb'.size
     have ly' := Nat.lt_of_lt_of_le ly hb'.size
     have x0' := zcl hb' lx x0
     have x1' := zcl hb' lx x1
     have x2' := zcl hb' lx x2
     have x3' := zcl hb' lx x3
     have x4' := zcl hb' lx x4
     have x5' := zcl hb' lx x5
     have x6' := zcl hb' lx x6
     have x7' := zcl hb' lx x7
     have x8' := zcl hb' lx x8
     have x9' := zcl hb' lx x9
     have x10' := zcl hb' lx x10
     have x11' := zcl hb' lx x11
     have x12' := zcl hb' lx x12
     have y0' := zcl hb' ly y0
     have y1' := zcl hb' ly y1
     have y2' := zcl hb' ly y2
     have y3' := zcl hb' ly y3
     have y4' := zcl hb' ly y4
     have y5' := zcl hb' ly y5
     have y6' := zcl hb' ly y6
     have y7' := zcl hb' ly y7
     have y8' := zcl hb' ly y8
     have y9' := zcl hb' ly y9
     have y10' := zcl hb' ly y10
     have y11' := zcl hb' ly y11
     have y12' := zcl hb' ly y12
     unfold Oper.wp
     go_simp
     try go_bits
     exact hK _ _ zr rfl
    ·intro _ a' w' hb' hs hd Kc hK
     have f1 : a'.tmps[1]?.getD undef = .slice (some ⟨b2, o2, none⟩) n c' := (hs 1 (by decide)).trans rfl
     clear hs hd
     unfold Oper.wp
     go_simp
     try go_bits
     exact hK _ _ zr rfl
    ·intro _ a' w' hb' hs hd Kc hK
     have f5 : a'.tmps[5]?.getD undef = .int .i64 (j : Int) := (hs 5 (by decide)).trans rfl
     clear hs hd
     unfold Oper.wp
     go_simp
     try go_bits
     exact hK _ _ zr rfl
    ·intro _ a' w' hb' hs hd Kc hK
     have f21 : a'.tmps[21]?.getD undef = .slice (some ⟨b2, o2, none⟩) n c' := hd 4 21 zt rfl rfl
     have f22 : a'.tmps[22]?.getD undef = .int .i64 (j : Int) := hd 5 22 zt rfl rfl
     clear hs hd
     have lx' := Nat.lt_of_lt_of_le lx hb'.size
     have ly' := Nat.lt_of_lt_of_le ly hb'.size
     have x0' := zcl hb' lx x0
     have x1' := zcl hb' lx x1
     have x2' := zcl hb' lx x2
     have x3' := zcl hb' lx x3
     have x4' := zcl hb' lx x4
     have x5' := zcl hb' lx x5
     have x6' := zcl hb' lx x6
     have x7' := zcl hb' lx x7
     have x8' := zcl hb' lx x8
     have x9' := zcl hb' lx x9
     have x10' := zcl hb' lx x10
     have x11' := zcl hb' lx x11
     have x12' := zcl hb' lx x12
     have y0' := zcl hb' ly y0
     have y1' := zcl hb' ly y1
     have y2' := zcl hb' ly y2
     have y3' := zcl hb' ly y3
     have y4' := zcl hb' ly y4
     have y5' := zcl hb' ly y5
     have y6' := zcl hb' ly y6
     have y7' := zcl hb' ly y7
     have y8' := zcl hb' ly y8
     have y9' := zcl hb' ly y9
     have y10' := zcl hb' ly y10
     have y11' := zcl hb' ly y11
     have y12' := zcl hb' ly y12
     unfold Oper.wp
     go_simp
     try go_bits
     exact hK _ _ zr rfl
    ·intro _ a' w' hb' hs hd Kc hK
     have f23 : a'.tmps[23]?.getD undef = .pointer (some ⟨b2, o2 + j * 13, none⟩) := hd 6 23 zt rfl rfl
     clear hs hd
     have lx' := Nat.lt_of_lt_of_le lx hb'.size
     have ly' := Nat.lt_of_lt_of_le ly hb'.size
     have x0' := zcl hb' lx x0
     have x1' := zcl hb' lx x1
     have x2' := zcl hb' lx x2
     have x3' := zcl hb' lx x3
     have x4' := zcl hb' lx x4
     have x5' := zcl hb' lx x5
     have x6' := zcl hb' lx x6
     have x7' := zcl hb' lx x7
     have x8' := zcl hb' lx x8
     have x9' := zcl hb' lx x9
     have x10' := zcl hb' lx x10
     have x11' := zcl hb' lx x11
     have x12' := zcl hb' lx x12
     have y0' := zcl hb' ly y0
     have y1' := zcl hb' ly y1
     have y2' := zcl hb' ly y2
     have y3' := zcl hb' ly y3
     have y4' := zcl hb' ly y4
     have y5' := zcl hb' ly y5
     have y6' := zcl hb' ly y6
     have y7' := zcl hb' ly y7
     have y8' := zcl hb' ly y8
     have y9' := zcl hb' ly y9
     have y10' := zcl hb' ly y10
     have y11' := zcl hb' ly y11
     have y12' := zcl hb' ly y12
     unfold Oper.wp
     go_simp
     try go_bits
     exact hK _ _ zr rfl
    ·intro _ a' w' hb' hs hd Kc hK
     have f20 : a'.tmps[20]?.getD undef = .agg #[.slice ps k cs, .int .i64 s, .int .i64 ok, .int .i64 oa, .int .i64 ob, .int .i64 oc, .int .i64 o, .int .i64 vk, .int .i64 vn, .int .i64 c0, .int .i64 c1, .int .i64 c2, .int .i64 c3] := hd 3 20 zt rfl rfl
     have f24 : a'.tmps[24]?.getD undef = .agg #[.slice qs k ds, .int .i64 s, .int .i64 ok, .int .i64 oa, .int .i64 ob, .int .i64 oc, .int .i64 o, .int .i64 vk, .int .i64 vn, .int .i64 c0, .int .i64 c1, .int .i64 c2, .int .i64 c3] := hd 7 24 zt rfl rfl
     clear hs hd
     have lx' := Nat.lt_of_lt_of_le lx hb'.size
     have ly' := Nat.lt_of_lt_of_le ly hb'.size
     have x0' := zcl hb' lx x0
     have x1' := zcl hb' lx x1
     have x2' := zcl hb' lx x2
     have x3' := zcl hb' lx x3
     have x4' := zcl hb' lx x4
     have x5' := zcl hb' lx x5
     have x6' := zcl hb' lx x6
     have x7' := zcl hb' lx x7
     have x8' := zcl hb' lx x8
     have x9' := zcl hb' lx x9
     have x10' := zcl hb' lx x10
     have x11' := zcl hb' lx x11
     have x12' := zcl hb' lx x12
     have y0' := zcl hb' ly y0
     have y1' := zcl hb' ly y1
     have y2' := zcl hb' ly y2
     have y3' := zcl hb' ly y3
     have y4' := zcl hb' ly y4
     have y5' := zcl hb' ly y5
     have y6' := zcl hb' ly y6
     have y7' := zcl hb' ly y7
     have y8' := zcl hb' ly y8
     have y9' := zcl hb' ly y9
     have y10' := zcl hb' ly y10
     have y11' := zcl hb' ly y11
     have y12' := zcl hb' ly y12
     unfold Oper.wp
     go_simp
     try go_bits
     refine zm (hSm w' hb') ?_
     rintro e w'' ⟨rfl, hb2⟩
     exact hK _ _ hb2 rfl
    ·intro _ a' w' hb' hs hd Kc hK
     have f25 : a'.tmps[25]?.getD undef = .bool true := hd 8 25 zt rfl rfl
     clear hs hd
     unfold Oper.wp
     go_simp
     try go_bits
     exact hK _ _ zr zl
   intro Xf w' hb hv
   have q26 : Xf 26 = .bool false := hv 9 26 rfl rfl
   clear hv
   simp only [List.map_cons, List.map_nil, q26, puts, Act.put, Nat.reduceAdd, List.setIfInBounds_toArray, List.set_cons_succ, List.set_cons_zero]
   have hbE := bjoin hb hbw
   go_wp2
   go_roundg (n - (j + 1))
   case measure => omega
   case rel => exact ⟨j + 1, by omega, rfl, by go_num, hbE⟩
  ·obtain rfl : j = n := by omega
   go_wp2
   go_returns
   exact ⟨rfl, hbw⟩
theorem RAt.rp {c n : Nat} {z : Nat → Rp} (h : RAt RpC 5 W p c n z) {i : Nat} (hi : i < n) :
  ∃ bb off, p = some ⟨bb, off, none⟩ ∧ bb < W.heap.size ∧ W.cell? ⟨bb, off + i * 5, none⟩ = some (.int .i64 (z i).c) ∧ W.cell? ⟨bb, off + i * 5 + 1, none⟩ = some (.int .i64 (z i).f) ∧ W.cell? ⟨bb, off + i * 5 + 2, none⟩ = some (.int .i64 (z i).l) ∧ W.cell? ⟨bb, off + i * 5 + 3, none⟩ = some (.int .i64 (z i).o) ∧ W.cell? ⟨bb, off + i * 5 + 4, none⟩ = some (.int .i64 (z i).d) := by
 obtain ⟨bb, off, L, e, hl, -, hc, rfl, -⟩ := h.row i hi
 exact ⟨bb, off, e, hl, hc 0 _ rfl, hc 1 _ rfl, hc 2 _ rfl, hc 3 _ rfl, hc 4 _ rfl⟩
theorem zdt (Z : Wd) (q q' : Wp) (w : World) (hv : WdIn w Z q) (hv' : WdIn w Z q') :
  Calls Tryz.prog 18 #[.agg (Z.cells q).toArray, .agg (Z.cells q').toArray] w fun e w' => e = .returned (.bool true) ∧ Below w.heap.size w w' := by
 obtain ⟨w0, hw0⟩ : ∃ w0, w0 = (w.alloc (.cells (Z.cells q).toArray 38)).alloc (.cells (Z.cells q').toArray 38) := ⟨_, rfl⟩
 obtain ⟨gA, gB, hst⟩ := zbw hw0
 have hnr := hv.reps.nle
 simp only [maxLen] at hnr
 have hHs : ∀ W, Below w.heap.size w W → Calls Tryz.prog 47 #[.agg #[.slice q.h Z.h.n q.hc, .slice q.s Z.h.m q.sc, .bool Z.h.b], .agg #[.slice q'.h Z.h.n q'.hc, .slice q'.s Z.h.m q'.sc, .bool Z.h.b]] W fun e w' => e = .returned (.bool true) ∧ Below W.heap.size W w' := fun W hW => by
  have := zpz _ _ _ _ _ _ _ _ Z.h Z.h W (hv.heap.below hW) (hv'.heap.below hW)
  rwa [zor] at this
 have hMs := fun W (hW : Below w.heap.size w W) => zis Z.n Z.z q.m q.mc q'.m q'.mc W (hv.muts.below zat hW) (hv'.muts.below zat hW)
 have hKs := fun W (hW : Below w.heap.size w W) => zj8 Z.m q.g q.gc q.b q.bc q.r q.rc q'.g q'.gc q'.b q'.bc q'.r q'.rc W (hv.grey.below hW) (hv.bars.below za2 hW) (hv.roots.below hW) (hv'.grey.below hW) (hv'.bars.below za2 hW) (hv'.roots.below hW)
 have hR := hv.reps.below zb6 hst
 have hR' := hv'.reps.below zb6 hst
 obtain ⟨l0, ⟨a0, a1, a2, a3, a4⟩, ⟨a5, a6, a7, a8⟩, ⟨a9, a10, a11, a12, a13, a14, a15, a16⟩, a17, a18, a19, a20⟩ := zac gA
 obtain ⟨k0, ⟨b0, b1, b2, b3, b4⟩, ⟨b5, b6, b7, b8⟩, ⟨b9, b10, b11, b12, b13, b14, b15, b16⟩, b17, b18, b19, b20⟩ := zac gB
 go_enter Tryz.func18, Tryz.ntmps18
 go_upto_region 1 with fail
 rw [← hw0]
 clear hw0
 go_upto_region 3 with (first
  | (go_at_call 47; refine zm (hHs _ (bjoin (by go_grown) hst)) ?_; rintro e w' ⟨rfl, hb⟩; obtain ⟨hc, hf, hb, hz⟩ := bstep hb (w := w0) (by go_grown); try simp only [za, zb, zd] at hc hf hz)
  | (go_at_call 48; refine zm (hMs _ (bjoin (by go_grown) hst)) ?_; rintro e w' ⟨rfl, hb⟩; obtain ⟨hc, hf, hb, hz⟩ := bstep hb (w := w0) (by go_grown); try simp only [za, zb, zd] at hc hf hz)
  | (go_at_call 49; refine zm (hKs _ (bjoin (by go_grown) hst)) ?_; rintro e w' ⟨rfl, hb⟩; obtain ⟨hc, hf, hb, hz⟩ := bstep hb (w := w0) (by go_grown); try simp only [za, zb, zd] at hc hf hz)
 )
 have hb0 := bjoin hb hst
 replace gA := gA.below hb
 replace gB := gB.below hb
 replace hR := hR.below zb6 hb
 replace hR' := hR'.below zb6 hb
 clear hb hc hf hz a0 a1 a2 a3 a4 a5 a6 a7 a8 a9 a10 a11 a12 a13 a14 a15 a16 a17 a18 a19 a20 l0 b0 b1 b2 b3 b4 b5 b6 b7 b8 b9 b10 b11 b12 b13 b14 b15 b16 b17 b18 b19 b20 k0 hHs hMs hKs hst
 try clear hc hf hz
 generalize w' = w3 at *
 have hl0 := gA.lt
 have hl1 := gB.lt
 have ha20 := gA.cell 20
 have hb20 := gB.cell 20
 simp only [List.getElem?_toArray, List.getElem?_cons_zero, List.getElem?_cons_succ] at ha20 hb20
 go_wp2
 go_loopg [5] Z.nr (fun g iv wr => ∃ i : Nat, i ≤ Z.nr ∧ g = Z.nr - i ∧ iv = .int .i64 i ∧ Below w3.heap.size w3 wr)
 case atStart => exact ⟨0, by omega, by omega, rfl, zr⟩
 case round =>
  obtain ⟨i, ih, rfl, rfl, hbw⟩ := hrel
  have x20 := zcl hbw hl0 ha20
  have y20 := zcl hbw hl1 hb20
  have lx := Nat.lt_of_lt_of_le hl0 hbw.size
  have ly := Nat.lt_of_lt_of_le hl1 hbw.size
  by_cases hi : i < Z.nr
  ·obtain ⟨b1, o1, e1, lr, r0, r1, r2, r3, r4⟩ := (hR.below zb6 hbw).rp hi
   obtain ⟨b2, o2, e2, ls, s0, s1, s2, s3, s4⟩ := (hR'.below zb6 hbw).rp hi
   rw [e1] at x20
   rw [e2] at y20
   clear e1 e2
   generalize Z.rp i = r at *
   obtain ⟨c, f, l, o, d⟩ := r
   dsimp only at r0 r1 r2 r3 r4 s0 s1 s2 s3 s4
   go_upto_region 6 with fail
   refine zbg [some 72, some 73, some 74, some 75, some 76, some 77, some 78, some 79, some 80, some 81, some 82] [72, 73, 74, 75, 76, 77, 78, 79, 80, 81, 82] [(fun v _ => v = .pointer (some ⟨w.heap.size, 20, none⟩)), (fun v _ => v = .slice (some ⟨b1, o1, none⟩) Z.nr q.oc), (fun v _ => v = .int .i64 (i : Int)), (fun v _ => v = .pointer (some ⟨b1, o1 + i * 5, none⟩)), (fun v _ => v = .agg #[.int .i64 c, .int .i64 f, .int .i64 l, .int .i64 o, .int .i64 d]), (fun v _ => v = .pointer (some ⟨w.heap.size + 1, 20, none⟩)), (fun v _ => v = .slice (some ⟨b2, o2, none⟩) Z.nr q'.oc), (fun v _ => v = .int .i64 (i : Int)), (fun v _ => v = .pointer (some ⟨b2, o2 + i * 5, none⟩)), (fun v _ => v = .agg #[.int .i64 c, .int .i64 f, .int .i64 l, .int .i64 o, .int .i64 d]), (fun v _ => v = .bool false)] (fun _ => false) 83 (by kernel_rfl) (by kernel_rfl) rfl rfl (by decide) (by decide) (by simp) ⟨kv, kv, kv, kv, kv, kv, kv, kv, kv, kv, kv, trivial⟩ ⟨rfl, rfl, rfl, rfl, rfl, rfl, rfl, rfl, rfl, rfl, rfl, trivial⟩ ?_ ?_
   ·refine ⟨?_, ?_, ?_, ?_, ?_, ?_, ?_, ?_, ?_, ?_, ?_, trivial⟩
    ·intro _ a' w' hb' hs hd Kc hK
     have f2 : a'.tmps[2]?.getD undef = .pointer (some ⟨w.heap.size, 0, none⟩) := (hs 2 (by decide)).trans rfl
     clear hs hd
     unfold Oper.wp
     go_simp
     try go_bits
     exact hK _ _ zr rfl
    ·intro _ a' w' hb' hs hd Kc hK
     have f72 : a'.tmps[72]?.getD undef = .pointer (some ⟨w.heap.size, 20, none⟩) := hd 0 72 zt rfl rfl
     clear hs hd
     have x20' := zcl hb' lx x20
     have y20' := zcl hb' ly y20
     have r0' := zcl hb' lr r0
     have r1' := zcl hb' lr r1
     have r2' := zcl hb' lr r2
     have r3' := zcl hb' lr r3
     have r4' := zcl hb' lr r4
     have s0' := zcl hb' ls s0
     have s1' := zcl hb' ls s1
     have s2' := zcl hb' ls s2
     have s3' := zcl hb' ls s3
     have s4' := zcl hb' ls s4
     unfold Oper.wp
     go_simp
     try go_bits
     exact hK _ _ zr rfl
    ·intro _ a' w' hb' hs hd Kc hK
     have f5 : a'.tmps[5]?.getD undef = .int .i64 (i : Int) := (hs 5 (by decide)).trans rfl
     clear hs hd
     unfold Oper.wp
     go_simp
     try go_bits
     exact hK _ _ zr rfl
    ·intro _ a' w' hb' hs hd Kc hK
     have f73 : a'.tmps[73]?.getD undef = .slice (some ⟨b1, o1, none⟩) Z.nr q.oc := hd 1 73 zt rfl rfl
     have f74 : a'.tmps[74]?.getD undef = .int .i64 (i : Int) := hd 2 74 zt rfl rfl
     clear hs hd
     have x20' := zcl hb' lx x20
     have y20' := zcl hb' ly y20
     have r0' := zcl hb' lr r0
     have r1' := zcl hb' lr r1
     have r2' := zcl hb' lr r2
     have r3' := zcl hb' lr r3
     have r4' := zcl hb' lr r4
     have s0' := zcl hb' ls s0
     have s1' := zcl hb' ls s1
     have s2' := zcl hb' ls s2
     have s3' := zcl hb' ls s3
     have s4' := zcl hb' ls s4
     unfold Oper.wp
     go_simp
     try go_bits
     exact hK _ _ zr rfl
    ·intro _ a' w' hb' hs hd Kc hK
     have f75 : a'.tmps[75]?.getD undef = .pointer (some ⟨b1, o1 + i * 5, none⟩) := hd 3 75 zt rfl rfl
     clear hs hd
     have x20' := zcl hb' lx x20
     have y20' := zcl hb' ly y20
     have r0' := zcl hb' lr r0
     have r1' := zcl hb' lr r1
     have r2' := zcl hb' lr r2
     have r3' := zcl hb' lr r3
     have r4' := zcl hb' lr r4
     have s0' := zcl hb' ls s0
     have s1' := zcl hb' ls s1
     have s2' := zcl hb' ls s2
     have s3' := zcl hb' ls s3
     have s4' := zcl hb' ls s4
     unfold Oper.wp
     go_simp
     try go_bits
     exact hK _ _ zr rfl
    ·intro _ a' w' hb' hs hd Kc hK
     have f3 : a'.tmps[3]?.getD undef = .pointer (some ⟨w.heap.size + 1, 0, none⟩) := (hs 3 (by decide)).trans rfl
     clear hs hd
     unfold Oper.wp
     go_simp
     try go_bits
     exact hK _ _ zr rfl
    ·intro _ a' w' hb' hs hd Kc hK
     have f77 : a'.tmps[77]?.getD undef = .pointer (some ⟨w.heap.size + 1, 20, none⟩) := hd 5 77 zt rfl rfl
     clear hs hd
     have x20' := zcl hb' lx x20
     have y20' := zcl hb' ly y20
     have r0' := zcl hb' lr r0
     have r1' := zcl hb' lr r1
     have r2' := zcl hb' lr r2
     have r3' := zcl hb' lr r3
     have r4' := zcl hb' lr r4
     have s0' := zcl hb' ls s0
     have s1' := zcl hb' ls s1
     have s2' := zcl hb' ls s2
     have s3' := zcl hb' ls s3
     have s4' := zcl hb' ls s4
     unfold Oper.wp
     go_simp
     try go_bits
     exact hK _ _ zr rfl
    ·intro _ a' w' hb' hs hd Kc hK
     have f5 : a'.tmps[5]?.getD undef = .int .i64 (i : Int) := (hs 5 (by decide)).trans rfl
     clear hs hd
     unfold Oper.wp
     go_simp
     try go_bits
     exact hK _ _ zr rfl
    ·intro _ a' w' hb' hs hd Kc hK
     have f78 : a'.tmps[78]?.getD undef = .slice (some ⟨b2, o2, none⟩) Z.nr q'.oc := hd 6 78 zt rfl rfl
     have f79 : a'.tmps[79]?.getD undef = .int .i64 (i : Int) := hd 7 79 zt rfl rfl
     clear hs hd
     have x20' := zcl hb' lx x20
     have y20' := zcl hb' ly y20
     have r0' := zcl hb' lr r0
     have r1' := zcl hb' lr r1
     have r2' := zcl hb' lr r2
     have r3' := zcl hb' lr r3
     have r4' := zcl hb' lr r4
     have s0' := zcl hb' ls s0
     have s1' := zcl hb' ls s1
     have s2' := zcl hb' ls s2
     have s3' := zcl hb' ls s3
     have s4' := zcl hb' ls s4
     unfold Oper.wp
     go_simp
     try go_bits
     exact hK _ _ zr rfl
    ·intro _ a' w' hb' hs hd Kc hK
     have f80 : a'.tmps[80]?.getD undef = .pointer (some ⟨b2, o2 + i * 5, none⟩) := hd 8 80 zt rfl rfl
     clear hs hd
     have x20' := zcl hb' lx x20
     have y20' := zcl hb' ly y20
     have r0' := zcl hb' lr r0
     have r1' := zcl hb' lr r1
     have r2' := zcl hb' lr r2
     have r3' := zcl hb' lr r3
     have r4' := zcl hb' lr r4
     have s0' := zcl hb' ls s0
     have s1' := zcl hb' ls s1
     have s2' := zcl hb' ls s2
     have s3' := zcl hb' ls s3
     have s4' := zcl hb' ls s4
     unfold Oper.wp
     go_simp
     try go_bits
     exact hK _ _ zr rfl
    ·intro _ a' w' hb' hs hd Kc hK
     have f76 : a'.tmps[76]?.getD undef = .agg #[.int .i64 c, .int .i64 f, .int .i64 l, .int .i64 o, .int .i64 d] := hd 4 76 zt rfl rfl
     have f81 : a'.tmps[81]?.getD undef = .agg #[.int .i64 c, .int .i64 f, .int .i64 l, .int .i64 o, .int .i64 d] := hd 9 81 zt rfl rfl
     clear hs hd
     unfold Oper.wp
     go_simp
     try go_bits
     exact hK _ _ zr zl
   intro Xf w' hb hv
   have q82 : Xf 82 = .bool false := hv 10 82 rfl rfl
   clear hv
   simp only [List.map_cons, List.map_nil, q82, puts, Act.put, Nat.reduceAdd, List.setIfInBounds_toArray, List.set_cons_succ, List.set_cons_zero]
   have hbw2 := bjoin hb hbw
   go_wp2
   go_roundg (Z.nr - (i + 1))
   case measure => omega
   case rel => exact ⟨i + 1, by omega, rfl, by go_num, hbw2⟩
  ·obtain rfl : i = Z.nr := by omega
   go_wp2
   go_returns
   exact ⟨rfl, bjoin hbw hb0⟩
def MuN (N : Nat) (W : World) (m : Mu) (L : List Value) : Prop := ∃ p c, L = m.cells p c ∧ W.ownsRow N 70 2 (.slice p m.n c) m.n (vlVals m.n m.st) ∧ m.wf
theorem zdm {N : Nat} : CBelow (MuN N) := fun _ _ _ _ h hb => by
 obtain ⟨p, c, e, h, hr⟩ := h
 exact ⟨p, c, e, zaa h hb, hr⟩
theorem zih {M N T' e s' s m n : Nat} {xs ys : List Value} {v0 v : Value} (h0 : w.ownsRow M T' s' v0 m xs) (ho : w.ownsRow N e s v n ys) (hg : w.grownBy w' v.ownBlock) (hT : ¬ T' = e) : w'.ownsRow M T' s' v0 m xs := by
 obtain ⟨hl, h1 | ⟨b, cap, cur, hvv, hb, hh, r⟩⟩ := h0
 ·exact ⟨hl, .inl h1⟩
 ·refine ⟨hl, .inr ⟨b, cap, cur, hvv, hb, (hg.block b (Array.getElem?_eq_some_iff.1 hh).1 fun e2 => ?_).trans hh, r⟩⟩
  rcases ho.2 with ⟨rfl, -⟩ | ⟨b', cap', cur', rfl, -, hb', -⟩
  ·cases e2
  ·injection e2 with e2
   subst e2
   have := hh.symm.trans hb'
   injection this with this
   injection this with _ this
   exact hT this
theorem zr0 {M N s n : Nat} {ys L : List Value} {m : Mu} (h : MuN M w m L) (ho : w.ownsRow N 73 s v n ys) (hg : w.grownBy w' v.ownBlock) : MuN M w' m L := by
 obtain ⟨p, c, e, h, hr⟩ := h
 exact ⟨p, c, e, zih h ho hg (by decide), hr⟩
theorem zuu : (Tryz.prog.info? 73).map (fun i => (i.zero, i.size, i.bytes)) = some (some (.agg #[.slice none 0 0, .int .i64 0, .int .i64 0, .int .i64 0, .int .i64 0, .int .i64 0, .int .i64 0, .int .i64 0, .int .i64 0, .int .i64 0, .int .i64 0, .int .i64 0, .int .i64 0]), 13, 120) := by kernel_rfl
theorem zrn (w : World) (L : List Value) (t : TypeId) : ∀ j u, L[j]? = some u → (w.alloc (.cells L.toArray t)).cell? ((⟨w.heap.size, 0, none⟩ : Addr).add j) = some u := fun j u h => by
 rw [zdj, Nat.zero_add, (TBox.new t w L.toArray).cell]
 simpa using h
theorem zi0 (n : Nat) (z : Nat → Mu) (p : Option Addr) (c : Nat) (w : World) (hz : RAt MuC 13 w p c n z) (hn : n ≤ 10) (hst : ∀ i, i < n → (z i).n ≤ 20) :
  Calls Tryz.prog 46 #[.slice p n c] w fun e w' => ∃ p' c', e = .returned (.slice p' n c') ∧ GrowR w.heap.size 73 13 (MuN w.heap.size) n z (.slice p' n c') w' ∧ Below w.heap.size w w' := by
 obtain ⟨t0, hq0, hq1, hq2, hq3⟩ := info_parts zd5
 obtain ⟨u0, hu0, hu1, hu2, hu3⟩ := info_parts zuu
 go_enter Tryz.func46, Tryz.ntmps46
 go_wp2
 go_loopg [3, 4] n (fun g ov iv wr => ∃ j : Nat, j ≤ n ∧ g = n - j ∧ iv = .int .i64 j ∧ GrowR w.heap.size 73 13 (MuN w.heap.size) j z ov wr ∧ Below w.heap.size w wr)
 case atStart => exact ⟨0, by omega, by omega, rfl, zjw _ _ _ _ _ _, zr⟩
 case round =>
  obtain ⟨j, jh, rfl, rfl, hGr, hbw⟩ := hrel
  have hsz := hbw.size
  by_cases hj : j < n
  ·obtain ⟨bb, off, ps, cs, rfl, lx, hc1, hv, hwf⟩ := (hz.below zat hbw).mu hj
   have hk20 := hst j hj
   obtain ⟨m, hm⟩ : ∃ m, Hid (m = z j) := ⟨_, rfl⟩
   rw [← hm.out] at hc1 hv hwf hk20
   obtain ⟨k, st, s, ok, oa, ob, oc, o, ⟨vk, vn⟩, c0, c1, c2, c3⟩ := m
   dsimp only [Mu.cells] at *
   have x0 := hc1 0 _ rfl
   have x1 := hc1 1 _ rfl
   have x2 := hc1 2 _ rfl
   have x3 := hc1 3 _ rfl
   have x4 := hc1 4 _ rfl
   have x5 := hc1 5 _ rfl
   have x6 := hc1 6 _ rfl
   have x7 := hc1 7 _ rfl
   have x8 := hc1 8 _ rfl
   have x9 := hc1 9 _ rfl
   have x10 := hc1 10 _ rfl
   have x11 := hc1 11 _ rfl
   have x12 := hc1 12 _ rfl
   rw [Nat.add_zero] at x0
   clear hc1
   go_upto_region 6 with fail
   obtain ⟨w1, hw1⟩ : ∃ W, W = wr.alloc (.cells #[.slice ps k cs, .int .i64 s, .int .i64 ok, .int .i64 oa, .int .i64 ob, .int .i64 oc, .int .i64 o, .int .i64 vk, .int .i64 vn, .int .i64 c0, .int .i64 c1, .int .i64 c2, .int .i64 c3] 73) := ⟨_, rfl⟩
   have gX : TBox 73 wr.heap.size #[.slice ps k cs, .int .i64 s, .int .i64 ok, .int .i64 oa, .int .i64 ob, .int .i64 oc, .int .i64 o, .int .i64 vk, .int .i64 vn, .int .i64 c0, .int .i64 c1, .int .i64 c2, .int .i64 c3] w1 := by rw [hw1]; exact TBox.new _ _ _
   have hb1 : Below wr.heap.size wr w1 := by rw [hw1]; exact zr.alloc (Nat.le_refl _) _
   rw [← hw1]
   clear hw1
   have hz1 := hb1.size
   have x0' := zcl hb1 lx x0
   have lx' := Nat.lt_of_lt_of_le lx hz1
   have hX1 : wr.heap.size < w1.heap.size := gX.lt
   have hvr := hv.row
   have hvn := hv.pnil
   have fX := gX.frozen 0
   have gX0 := gX.cell 0
   simp only [List.getElem?_toArray, List.getElem?_cons_zero] at gX0
   clear x0 x1 x2 x3 x4 x5 x6 x7 x8 x9 x10 x11 x12 lx
   go_upto_region 7 with (first
    | (at_builtin; refine zai rfl (.tmp 16) (.tmp 21) 33 rfl w1.heap.size 70 t0 (.agg #[.int .i64 0, .int .i64 0]) 2 16 Tryz.underlying33 hq0 hq1 hq2 hq3 rfl (by decide) (.slice (some ⟨w1.heap.size, 0, none⟩) 0 0) 0 [] rfl (World.ownsRow_lit w1 #[] 0 (Nat.le_refl _) (by simp only [maxLen]; omega) rfl) ps k cs (vlVals k st) rfl (by simp [za8]) ((hvr.below hb1).below (zr.alloc (Nat.le_refl _) _)).cells (zcd _ _) hvn (by simp only [maxLen]; omega) (by omega) (by simp) ?_; intro ov0 w6 hown0 hgrow; rw [Nat.zero_add, List.nil_append] at hown0; obtain ⟨qn, dn, rfl, hnewR⟩ := zaf hown0; have hb6 : Below w1.heap.size w1 w6 := (zr.alloc (Nat.le_refl _) _).grown hgrow (by simp) (fun k hk => by cases hk; exact Nat.le_refl _); have fX' := (hb6.frozen (p := ⟨wr.heap.size, 0, none⟩) hX1).trans fX; have gX0' := zcl hb6 hX1 gX0; have lX6 := Nat.lt_of_lt_of_le hX1 hb6.size)
   )
   obtain ⟨w7, hw7⟩ : ∃ W, W = w6.setCell ⟨wr.heap.size, 0, none⟩ (.slice qn k dn) := ⟨_, rfl⟩
   have gX7 : TBox 73 wr.heap.size #[.slice qn k dn, .int .i64 s, .int .i64 ok, .int .i64 oa, .int .i64 ob, .int .i64 oc, .int .i64 o, .int .i64 vk, .int .i64 vn, .int .i64 c0, .int .i64 c1, .int .i64 c2, .int .i64 c3] w7 := by rw [hw7]; exact (gX.below hb6).set 0 _
   have hown7 : w7.ownsRow w1.heap.size 70 2 (.slice qn k dn) k (vlVals k st) := by rw [hw7]; exact ownsRow_setCell_below hown0 (by show wr.heap.size < w1.heap.size; omega) _
   have hb7 : Below wr.heap.size wr w7 := by rw [hw7]; exact (hb1.trans (hb6.mono hz1)).setCell (Nat.le_refl _) _
   rw [← hw7]
   clear hw7 hown0 hnewR hgrow hb6 fX fX' gX0 gX0' lX6 gX hb1 x0' lx' hvr hvn hv
   obtain ⟨lX, x0, x1, x2, x3, x4, x5, x6, x7, x8, x9, x10, x11, x12⟩ := zcu gX7
   have hz7 := hb7.size
   have hGr7 := hGr.below zdm hb7
   obtain ⟨LL, e1, e2, e3, e4⟩ := id hGr7
   clear gX7
   go_wp2_with (first
    | (at_builtin; refine wpList_append_own _ rfl (.tmp 24) (.tmp 26) 28 rfl w.heap.size 73 u0 _ 13 120 Tryz.underlying28 hu0 hu1 hu2 hu3 rfl (by decide) _ _ _ rfl (e3.1.alloc _) ⟨w7.heap.size, 0, none⟩ 1 1 [.slice qn k dn, .int .i64 s, .int .i64 ok, .int .i64 oa, .int .i64 ob, .int .i64 oc, .int .i64 o, .int .i64 vk, .int .i64 vn, .int .i64 c0, .int .i64 c1, .int .i64 c2, .int .i64 c3] rfl rfl (zrn _ _ _) (by simp [Value.oneCell']) (by simp only [maxLen]; omega) (by omega) (by simp; omega) ?_; intro ov9 w9 hown9 hgrow9 _)
   )
   have hbA : Below w7.heap.size w7 (w7.alloc (.cells #[.slice qn k dn, .int .i64 s, .int .i64 ok, .int .i64 oa, .int .i64 ob, .int .i64 oc, .int .i64 o, .int .i64 vk, .int .i64 vn, .int .i64 c0, .int .i64 c1, .int .i64 c2, .int .i64 c3] 73)) := zr.alloc (Nat.le_refl _) _
   have hb9 := ((hbw.trans (hb7.mono hsz)).trans (hbA.mono (by omega))).grown hgrow9 (by simp; omega) (fun k hk => (e3.1.lt k hk).1)
   have hnew : MuN w.heap.size w9 (z j) [.slice qn k dn, .int .i64 s, .int .i64 ok, .int .i64 oa, .int .i64 ob, .int .i64 oc, .int .i64 o, .int .i64 vk, .int .i64 vn, .int .i64 c0, .int .i64 c1, .int .i64 c2, .int .i64 c3] := by
    rw [← hm.out]
    exact ⟨qn, dn, rfl, zih (zag (hown7.alloc _) (by omega)) (e3.1.alloc _) hgrow9 (by decide), hwf⟩
   go_roundg (n - (j + 1))
   case measure => omega
   case rel => exact ⟨j + 1, by omega, rfl, by go_num, GrowR.more e1 e2 rfl hown9 (fun i l hi => zr0 (zdm _ _ _ _ (e4 i l hi) hbA) (e3.1.alloc _) hgrow9) hnew, hb9⟩
  ·obtain rfl : j = n := by omega
   obtain ⟨pn, cn, ff, -, -⟩ := GrowR.rat hGr (by simp only [maxLen]; omega)
   subst ff
   clear hst
   go_wp2
   go_returns
   exact ⟨pn, cn, rfl, hGr, hbw⟩
theorem zea {N : Nat} {E : TypeId} {s : Nat} {n c : Nat} {xs : List Value} (h : w.ownsRow N E s (.slice p n c) n xs) : ∀ b off sp, p = some ⟨b, off, sp⟩ → N ≤ b ∧ ∃ cs, w.heap[b]? = some (.cells cs E (0, 0)) := fun b off sp e => by
 obtain ⟨p1, c1, e1, hn⟩ := zaf h
 injection e1 with e1 _ e2
 subst e1
 exact ⟨hn b off sp e, zdy h b off sp e⟩
theorem zp3 (p : Option Addr) (n c : Nat) (z : Nat → Int) (w : World) (hz : GrAt w p c n z) (hn : n ≤ 1000000) :
  Calls Tryz.prog 194 #[.slice p n c] w fun e w' => ∃ p' c', e = .returned (.slice p' n c') ∧ GrAt w' p' c' n z ∧ (∀ b off sp, p' = some ⟨b, off, sp⟩ → w.heap.size ≤ b ∧ ∃ cs, w'.heap[b]? = some (.cells cs 3 (0, 0))) ∧ Below w.heap.size w w' := by
 have hnil : ∀ W : World, (binOp .eql 29 (.slice p n c) (.slice none 0 0)).run Tryz.prog W = .ok (.bool p.isNone) W := fun W => Lib.run_eql_slice_nil W 29 3 p n c 0 0 Tryz.underlying29
 obtain ⟨i0, hi, hz0, hz1, hz2⟩ := info_parts zb5
 cases p with
 | none =>
  obtain ⟨rfl, rfl⟩ := hz.pnil rfl
  have hnil' : ∀ W : World, (binOp .eql 29 (.slice none 0 0) (.slice none 0 0)).run Tryz.prog W = .ok (.bool true) W := hnil
  clear hnil
  go_enter Tryz.func194, Tryz.ntmps194
  go_wp2
  go_returns
  exact ⟨_, _, rfl, zgt _ _, fun b off sp e => (by cases e), zr⟩
 | some ad =>
  have hnil' : ∀ W : World, (binOp .eql 29 (.slice (some ad) n c) (.slice none 0 0)).run Tryz.prog W = .ok (.bool false) W := hnil
  clear hnil
  have hcell := zdb hz.ints
  have hwf := hz.ints.wf
  have hvl := zae .i64 n z
  have hv1 := zcb .i64 n z
  have hcell0 := fun ad' e j u hj => Lib.cell?_alloc_some (.cells #[] 3) (hcell ad' e j u hj)
  have hb0 : Below w.heap.size w (w.alloc (.cells #[] 3)) := zr.alloc (Nat.le_refl _) _
  have ho0 := ((zf6 (N := w.heap.size) w 3 (Nat.le_refl _)).owns 1).1
  have hx1 : 0 + n ≤ maxLen := by simp only [maxLen]; omega
  have hx2 : (0 + n) * 8 ≤ 140737488355328 := by omega
  go_enter Tryz.func194, Tryz.ntmps194
  go_wp2_with (first
   | (at_builtin; refine zai rfl (.tmp 5) (.tmp 6) 29 rfl w.heap.size 3 i0 (.int .i64 0) 1 8 Tryz.underlying29 hi hz0 hz1 hz2 rfl (by decide) _ 0 [] rfl ho0 (some ad) n c (vals .i64 n z) rfl (by simp [hvl]) hcell0 hv1 (fun e => by cases e) hx1 hx2 hb0.size ?_; intro v1 w1 hown1 hgrow1)
  )
  rw [Nat.zero_add, List.nil_append] at hown1
  obtain ⟨p1, c1, rfl, -⟩ := zaf hown1
  go_returns
  exact ⟨_, _, rfl, zed hown1 (by simp only [maxLen]; omega) (fun i hi => hwf i hi), zea hown1, hb0.grown hgrow1 hb0.size (fun k hk => (ho0.lt k hk).1)⟩
theorem zfi (p : Option Addr) (n c : Nat) (z : Nat → Vl) (w : World) (hz : VAt w p c n z) (hn : n ≤ 1000000) :
  Calls Tryz.prog 163 #[.slice p n c] w fun e w' => ∃ p' c', e = .returned (.slice p' n c') ∧ VAt w' p' c' n z ∧ (∀ b off sp, p' = some ⟨b, off, sp⟩ → w.heap.size ≤ b ∧ ∃ cs, w'.heap[b]? = some (.cells cs 70 (0, 0))) ∧ Below w.heap.size w w' := by
 have hnil : ∀ W : World, (binOp .eql 33 (.slice p n c) (.slice none 0 0)).run Tryz.prog W = .ok (.bool p.isNone) W := fun W => Lib.run_eql_slice_nil W 33 70 p n c 0 0 Tryz.underlying33
 obtain ⟨i0, hi, hz0, hz1, hz2⟩ := info_parts zd5
 cases p with
 | none =>
  obtain ⟨rfl, rfl⟩ := hz.pnil rfl
  have hnil' : ∀ W : World, (binOp .eql 33 (.slice none 0 0) (.slice none 0 0)).run Tryz.prog W = .ok (.bool true) W := hnil
  clear hnil
  go_enter Tryz.func163, Tryz.ntmps163
  go_wp2
  go_returns
  exact ⟨_, _, rfl, zfw _ _, fun b off sp e => (by cases e), zr⟩
 | some ad =>
  have hnil' : ∀ W : World, (binOp .eql 33 (.slice (some ad) n c) (.slice none 0 0)).run Tryz.prog W = .ok (.bool false) W := hnil
  clear hnil
  have hcell := hz.row.cells
  have hwf := hz.row.wf
  have hvl := za8 n z
  have hv1 := zcd n z
  have hcell0 := fun ad' e j u hj => Lib.cell?_alloc_some (.cells #[] 70) (hcell ad' e j u hj)
  have hb0 : Below w.heap.size w (w.alloc (.cells #[] 70)) := zr.alloc (Nat.le_refl _) _
  have ho0 := ((zf6 (N := w.heap.size) w 70 (Nat.le_refl _)).owns 2).1
  have hx1 : 0 + n ≤ maxLen := by simp only [maxLen]; omega
  have hx2 : (0 + n) * 16 ≤ 140737488355328 := by omega
  go_enter Tryz.func163, Tryz.ntmps163
  go_wp2_with (first
   | (at_builtin; refine zai rfl (.tmp 5) (.tmp 6) 33 rfl w.heap.size 70 i0 (.agg #[.int .i64 0, .int .i64 0]) 2 16 Tryz.underlying33 hi hz0 hz1 hz2 rfl (by decide) _ 0 [] rfl ho0 (some ad) n c (vlVals n z) rfl hvl hcell0 hv1 (fun e => by cases e) hx1 hx2 hb0.size ?_; intro v1 w1 hown1 hgrow1)
  )
  rw [Nat.zero_add, List.nil_append] at hown1
  obtain ⟨p1, c1, rfl, -⟩ := zaf hown1
  go_returns
  exact ⟨_, _, rfl, zf4 hown1 (by simp only [maxLen]; omega) (fun i hi => hwf i hi), zea hown1, hb0.grown hgrow1 hb0.size (fun k hk => (ho0.lt k hk).1)⟩
theorem zi6 {α : Type} {C : World → α → List Value → Prop} {s : Nat} {c n : Nat} {z : Nat → α} (h : RAt C s W p c n z) (hs : 0 < s) : ∃ L : List (List Value), L.length = n ∧ (∀ l ∈ L, l.length = s) ∧ (∀ k l, L[k]? = some l → C W (z k) l) ∧
  ∀ ad, p = some ad → ∀ j u, L.flatten[j]? = some u → W.cell? (ad.add j) = some u := by
 have each : ∀ i, i < n → ∃ l : List Value, l.length = s ∧ C W (z i) l ∧ ∀ ad, p = some ad → ∀ k u, l[k]? = some u → W.cell? (ad.add (i * s + k)) = some u := fun i hi => by
  obtain ⟨b, off, l, e, -, hl, hc, hx⟩ := h.row i hi
  refine ⟨l, hl, hx, fun ad ea k u hk => ?_⟩
  rw [e] at ea
  injection ea with ea
  subst ea
  have := hc k u hk
  rw [zdj, ← Nat.add_assoc]
  exact this
 obtain ⟨q, hq⟩ := Go.Deep.choose_lt (α := List Value) (h := each)
 have hlen : ((List.range n).map q).length = n := by simp
 have hget : ∀ k l, ((List.range n).map q)[k]? = some l → k < n ∧ q k = l := fun k l e => by
  have hk : k < n := by have := (List.getElem?_eq_some_iff.1 e).1; omega
  rw [List.getElem?_map, List.getElem?_range hk] at e
  exact ⟨hk, by simpa using e⟩
 have hall : ∀ l ∈ (List.range n).map q, l.length = s := fun l hl => by
  obtain ⟨k, hk⟩ := List.getElem?_of_mem hl
  obtain ⟨h1, rfl⟩ := hget k l hk
  exact (hq k h1).1
 refine ⟨(List.range n).map q, hlen, hall, fun k l e => ?_, fun ad ea j u hj => ?_⟩
 ·obtain ⟨h1, rfl⟩ := hget k l e
  exact (hq k h1).2.1
 ·have hjn : j < n * s := by
   have := (List.getElem?_eq_some_iff.1 hj).1
   rw [zcm _ hall, hlen] at this
   exact this
  have hk : j / s < n := (Nat.div_lt_iff_lt_mul hs).2 hjn
  have hg : ((List.range n).map q)[j / s]? = some (q (j / s)) := by rw [List.getElem?_map, List.getElem?_range hk]; rfl
  have hm : j % s < s := Nat.mod_lt _ hs
  have := zcg _ (j / s) (j % s) _ hall hg hm
  rw [show j / s * s + j % s = j by rw [Nat.mul_comm]; exact Nat.div_add_mod j s] at this
  rw [this] at hj
  have h2 := (hq (j / s) hk).2.2 ad ea (j % s) u hj
  rwa [show j / s * s + j % s = j by rw [Nat.mul_comm]; exact Nat.div_add_mod j s] at h2
theorem zwx {N : Nat} {g : Gy} {L : List Value} (h : GrE N W g L) : ∀ u ∈ L, u.oneCell' = true := by
 obtain ⟨p, c, rfl, -⟩ := h
 intro u hu
 simp only [List.mem_cons, List.not_mem_nil, or_false] at hu
 rcases hu with rfl | rfl <;> rfl
theorem zme (N : Nat) (p : Option Addr) (n c : Nat) (z : Nat → Gy) (w : World) (hz : RAt (GrE N) 2 w p c n z) (h0 : 0 < n) (hn : n ≤ 1000000) :
  Calls Tryz.prog 193 #[.slice p n c] w fun e w' => ∃ v, e = .returned v ∧ GrowR w.heap.size 31 2 (GrE N) n z v w' ∧ Below w.heap.size w w' := by
 have hnil : ∀ W : World, (binOp .eql 32 (.slice p n c) (.slice none 0 0)).run Tryz.prog W = .ok (.bool p.isNone) W := fun W => Lib.run_eql_slice_nil W 32 31 p n c 0 0 Tryz.underlying32
 obtain ⟨i0, hi, hz0, hz1, hz2⟩ := info_parts zho
 obtain ⟨L, hL, hl2, hC, hcell⟩ := zi6 hz (by decide)
 cases p with
 | none => have := (hz.pnil rfl).1; omega
 | some ad =>
  have hnil' : ∀ W : World, (binOp .eql 32 (.slice (some ad) n c) (.slice none 0 0)).run Tryz.prog W = .ok (.bool false) W := hnil
  clear hnil
  have hvl : L.flatten.length = n * 2 := by rw [zcm L hl2, hL]
  have hv1 : ∀ u ∈ L.flatten, u.oneCell' = true := fun u hu => by
   obtain ⟨l, hl, hu⟩ := List.mem_flatten.1 hu
   obtain ⟨k, hk⟩ := List.getElem?_of_mem hl
   exact zwx (hC k l hk) u hu
  have hcell0 := fun ad' e j u hj => Lib.cell?_alloc_some (.cells #[] 31) (hcell ad' e j u hj)
  have hb0 : Below w.heap.size w (w.alloc (.cells #[] 31)) := zr.alloc (Nat.le_refl _) _
  have ho0 := ((zf6 (N := w.heap.size) w 31 (Nat.le_refl _)).owns 2).1
  have hx1 : 0 + n ≤ maxLen := by simp only [maxLen]; omega
  have hx2 : (0 + n) * 32 ≤ 140737488355328 := by omega
  generalize hX : L.flatten = X at *
  go_enter Tryz.func193, Tryz.ntmps193
  go_wp2_with (first
   | (at_builtin; refine zai rfl (.tmp 5) (.tmp 6) 32 rfl w.heap.size 31 i0 (.agg #[.int .i64 0, .slice none 0 0]) 2 32 Tryz.underlying32 hi hz0 hz1 hz2 rfl (by decide) _ 0 [] rfl ho0 (some ad) n c X rfl hvl hcell0 hv1 (fun e => by cases e) hx1 hx2 hb0.size ?_; intro v1 w1 hown1 hgrow1)
  )
  rw [Nat.zero_add, List.nil_append, ← hX] at hown1
  have hbw := hb0.grown hgrow1 hb0.size (fun k hk => (ho0.lt k hk).1)
  go_returns
  exact ⟨_, rfl, ⟨L, hL, hl2, ⟨hown1, fun e => by omega⟩, fun k l hk => zbr _ _ _ _ (hC k l hk) hbw⟩, hbw⟩
end Go.Proofs.YtkehankfnkjnlaaGreatDoor
