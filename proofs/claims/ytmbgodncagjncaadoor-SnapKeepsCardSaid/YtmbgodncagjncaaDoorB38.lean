/- Contracts of the reference's markers (chapter 17): Right, Few, Same, Bound. -/
import Derived.Test.YtmbgodncagjncaaDoorB32
import Derived.Test.YtmbgodncagjncaaDoorB35
import Derived.Test.YtmbgodncagjncaaDoorB37
import Derived.Test.YtmbgodncagjncaaDoorB25
import Derived.Test.YtmbgodncagjncaaDoorB19
namespace Go.Proofs.YtmbgodncagjncaaDoor
set_option linter.unusedSimpArgs false
set_option linter.unusedVariables false
open Go.ChangeShapes Go.WideShapes Go.ChangeAt Go.RowKit Go.Joins

theorem mk_cells {T : TypeId} {g : Nat} {w : World} {x0 x1 x2 x3 x4 x5 x6 x7 : Value} (h : TBox T g #[x0, x1, x2, x3, x4, x5, x6, x7] w) :
    g < w.heap.size ∧ w.cell? ⟨g, 0, none⟩ = some x0 ∧ w.cell? ⟨g, 1, none⟩ = some x1 ∧ w.cell? ⟨g, 2, none⟩ = some x2 ∧ w.cell? ⟨g, 3, none⟩ = some x3 ∧ w.cell? ⟨g, 4, none⟩ = some x4 ∧ w.cell? ⟨g, 5, none⟩ = some x5 ∧ w.cell? ⟨g, 6, none⟩ = some x6 ∧ w.cell? ⟨g, 7, none⟩ = some x7 :=
  ⟨h.lt, h.cell 0, h.cell 1, h.cell 2, h.cell 3, h.cell 4, h.cell 5, h.cell 6, h.cell 7⟩
/-- A row of a row of rows. -/
theorem RAt.gy {W : World} {p : Option Addr} {c n : Nat} {b : Nat → Gy} (h : RAt GrC 2 W p c n b) {i : Nat} (hi : i < n) :
    ∃ bb off q d, p = some ⟨bb, off, none⟩ ∧ bb < W.heap.size ∧ W.cell? ⟨bb, off + i * 2, none⟩ = some (.int .i64 (b i).r) ∧ W.cell? ⟨bb, off + i * 2 + 1, none⟩ = some (.slice q (b i).n d) ∧ GrAt W q d (b i).n (b i).z ∧ In64 (b i).r := by
  obtain ⟨bb, off, L, e, hl, -, hc, q, d, rfl, hg, hr⟩ := h.row i hi
  exact ⟨bb, off, q, d, e, hl, hc 0 _ rfl, hc 1 _ rfl, hg, hr⟩
set_option maxHeartbeats 4000000 in
set_option maxRecDepth 20000 in
theorem rsame17_self (m : Mk) (pg : Option Addr) (cg : Nat) (pb : Option Addr) (cb : Nat) (pr : Option Addr) (cr : Nat) (pg' : Option Addr) (cg' : Nat) (pb' : Option Addr) (cb' : Nat) (pr' : Option Addr) (cr' : Nat) (w : World) (hg : GrAt w pg cg m.g.n m.g.z) (hB : RAt GrC 2 w pb cb m.nb m.b) (hv : VAt w pr cr m.nr m.ro) (hg' : GrAt w pg' cg' m.g.n m.g.z) (hB' : RAt GrC 2 w pb' cb' m.nb m.b) (hv' : VAt w pr' cr' m.nr m.ro) :
    Calls Tryd.prog 12 #[.agg #[.int .i64 m.g.r, .slice pg m.g.n cg, .slice pb m.nb cb, .slice pr m.nr cr, .int .i64 m.ob, .int .i64 m.fi, .int .i64 m.cu, .bool m.ov], .agg #[.int .i64 m.g.r, .slice pg' m.g.n cg', .slice pb' m.nb cb', .slice pr' m.nr cr', .int .i64 m.ob, .int .i64 m.fi, .int .i64 m.cu, .bool m.ov]] w fun e w' => e = .returned (.bool true) ∧ Below w.heap.size w w' := by
  obtain ⟨w0, hw0⟩ : ∃ w0, w0 = (w.alloc (.cells #[.int .i64 m.g.r, .slice pg m.g.n cg, .slice pb m.nb cb, .slice pr m.nr cr, .int .i64 m.ob, .int .i64 m.fi, .int .i64 m.cu, .bool m.ov] 37)).alloc (.cells #[.int .i64 m.g.r, .slice pg' m.g.n cg', .slice pb' m.nb cb', .slice pr' m.nr cr', .int .i64 m.ob, .int .i64 m.fi, .int .i64 m.cu, .bool m.ov] 37) := ⟨_, rfl⟩
  obtain ⟨gA, gB, hst⟩ := tbox_two hw0
  replace hg := hg.below hst
  replace hB := hB.below grC_below hst
  replace hv := hv.below hst
  replace hg' := hg'.below hst
  replace hB' := hB'.below grC_below hst
  replace hv' := hv'.below hst
  have hnb := hB.nle
  simp only [maxLen] at hnb
  have hSg : ∀ W, Below w0.heap.size w0 W → Calls Tryd.prog 35 #[.agg #[.int .i64 m.g.r, .slice pg m.g.n cg], .agg #[.int .i64 m.g.r, .slice pg' m.g.n cg']] W fun e w' => e = .returned (.bool true) ∧ Below W.heap.size W w' := fun W hW => by
    have := rgsame_any m.g.r m.g.r pg pg' m.g.n cg m.g.n cg' m.g.z m.g.z W (hg.below hW) (hg'.below hW)
    rwa [sameG_self] at this
  have hSv : ∀ W, Below w0.heap.size w0 W → Calls Tryd.prog 20 #[.slice pr m.nr cr, .slice pr' m.nr cr'] W fun e w' => e = .returned (.bool true) ∧ Below W.heap.size W w' := fun W hW => by
    have := rvsame_any pr pr' m.nr cr m.nr cr' m.ro m.ro W (hv.below hW) (hv'.below hW)
    rwa [sameV_self] at this
  obtain ⟨l8, y0, y1, y2, y3, y4, y5, y6, y7⟩ := mk_cells gA
  obtain ⟨k8, z0, z1, z2, z3, z4, z5, z6, z7⟩ := mk_cells gB
  go_enter Tryd.func12, Tryd.ntmps12
  go_upto_region 1 with fail
  rw [← hw0]
  clear hw0
  go_upto_region 3 with (first
    | (go_at_call 35; refine Calls.mono (hSg _ (by go_grown)) ?_; rintro e w' ⟨rfl, hb⟩; obtain ⟨hc, hf, hb, hz⟩ := bstep hb (w := w0) (by go_grown); try simp only [World.size_alloc, World.size_setCell, World.size_drew] at hc hf hz)
    | (go_at_call 20; refine Calls.mono (hSv _ (by go_grown)) ?_; rintro e w' ⟨rfl, hb⟩; obtain ⟨hc, hf, hb, hz⟩ := bstep hb (w := w0) (by go_grown); try simp only [World.size_alloc, World.size_setCell, World.size_drew] at hc hf hz)
  )
  have hb0 := bjoin hb hst
  replace gA := gA.below hb
  replace gB := gB.below hb
  replace hB := hB.below grC_below hb
  replace hB' := hB'.below grC_below hb
  clear hb hc hf hz l8 y0 y1 y2 y3 y4 y5 y6 y7 k8 z0 z1 z2 z3 z4 z5 z6 z7 hSg hSv hg hg' hv hv' hst
  try clear hc hf hz
  generalize w' = w3 at *
  obtain ⟨l8, y0, y1, y2, y3, y4, y5, y6, y7⟩ := mk_cells gA
  go_wp2
  go_loopg [5] m.nb (fun g iv wr => ∃ i : Nat, i ≤ m.nb ∧ g = m.nb - i ∧ iv = .int .i64 i ∧ Below w3.heap.size w3 wr)
  case atStart => exact ⟨0, by omega, by omega, rfl, Below.refl _ _⟩
  case round =>
    clear l8 y0 y1 y2 y3 y4 y5 y6 y7
    obtain ⟨i, ih, rfl, rfl, hbw⟩ := hrel
    have gAr := gA.below hbw
    have gBr := gB.below hbw
    obtain ⟨l8, y0, y1, y2, y3, y4, y5, y6, y7⟩ := mk_cells gAr
    by_cases hi : i < m.nb
    · obtain ⟨bb, off, q1, d1, rfl, hlt, v0, v1, hgi, -⟩ := (hB.below grC_below hbw).gy hi
      obtain ⟨bc, off', q2, d2, rfl, hlt', u0, u1, hgi', -⟩ := (hB'.below grC_below hbw).gy hi
      have hSi : ∀ W, Below wr.heap.size wr W → Calls Tryd.prog 35 #[.agg #[.int .i64 (m.b i).r, .slice q1 (m.b i).n d1], .agg #[.int .i64 (m.b i).r, .slice q2 (m.b i).n d2]] W fun e w' => e = .returned (.bool true) ∧ Below W.heap.size W w' := fun W hW => by
        have := rgsame_any (m.b i).r (m.b i).r q1 q2 (m.b i).n d1 (m.b i).n d2 (m.b i).z (m.b i).z W (hgi.below hW) (hgi'.below hW)
        rwa [sameG_self] at this
      clear hgi hgi'
      generalize (m.b i).r = r at *
      generalize (m.b i).n = k at *
      go_upto_region 6 with fail
      refine wp_late (ds := [some 64, some 65, some 66, some 67, some 68, some 69, some 70, some 71, some 72, some 73, some 74, some 75]) (ts := [64, 65, 66, 67, 68, 69, 70, 71, 72, 73, 74, 75]) (pv := [(fun v _ => v = .pointer (some ⟨w.heap.size, 2, none⟩)), (fun v _ => v = .slice (some ⟨bb, off, none⟩) m.nb cb), (fun v _ => v = .int .i64 (i : Int)), (fun v _ => v = .pointer (some ⟨bb, off + i * 2, none⟩)), (fun v _ => v = .agg #[.int .i64 r, .slice q1 k d1]), (fun v _ => v = .pointer (some ⟨w.heap.size + 1, 2, none⟩)), (fun v _ => v = .slice (some ⟨bc, off', none⟩) m.nb cb'), (fun v _ => v = .int .i64 (i : Int)), (fun v _ => v = .pointer (some ⟨bc, off' + i * 2, none⟩)), (fun v _ => v = .agg #[.int .i64 r, .slice q2 k d2]), (fun v _ => v = .bool true), (fun v _ => v = .bool false)]) (skip := fun i => ([] : List Nat).contains i) (ia := 1000) (is := 1000) (k := 76) (Shape := (fun _ _ => True)) (Full := (fun _ _ => True)) (by kernel_rfl) (by kernel_rfl) rfl rfl (by decide) (by decide) (by simp) ?_ (by decide) (fun _ _ _ _ _ => trivial) (fun _ _ _ _ _ => trivial) ?_ ?_ ?_ ?_
      · exact .inl rfl
      · exact ⟨fun _ _ _ h _ => h, fun _ _ _ h _ => h, fun _ _ _ h _ => h, fun _ _ _ h _ => h, fun _ _ _ h _ => h, fun _ _ _ h _ => h, fun _ _ _ h _ => h, fun _ _ _ h _ => h, fun _ _ _ h _ => h, fun _ _ _ h _ => h, fun _ _ _ h _ => h, fun _ _ _ h _ => h, trivial⟩
      · exact ⟨rfl, rfl, rfl, rfl, rfl, rfl, rfl, rfl, rfl, rfl, rfl, rfl, trivial⟩
      · refine ⟨?_, ?_, ?_, ?_, ?_, ?_, ?_, ?_, ?_, ?_, ?_, ?_, trivial⟩
        · intro _ a' w' hb' hs hd hn Kc hK
          have f2 : a'.tmps[2]?.getD undef = .pointer (some ⟨w.heap.size, 0, none⟩) := (hs 2 (by decide)).trans rfl
          clear hs hd hn
          rw [if_neg (by decide), if_neg (by decide)] at hK
          have a0 : w'.cell? ⟨bb, off + i * 2, none⟩ = some (.int .i64 r) := (hb'.cell (p := ⟨bb, off + i * 2, none⟩) hlt).trans v0
          have a1 : w'.cell? ⟨bb, off + i * 2 + 1, none⟩ = some (.slice q1 k d1) := (hb'.cell (p := ⟨bb, off + i * 2 + 1, none⟩) hlt).trans v1
          have c0 : w'.cell? ⟨bc, off' + i * 2, none⟩ = some (.int .i64 r) := (hb'.cell (p := ⟨bc, off' + i * 2, none⟩) hlt').trans u0
          have c1 : w'.cell? ⟨bc, off' + i * 2 + 1, none⟩ = some (.slice q2 k d2) := (hb'.cell (p := ⟨bc, off' + i * 2 + 1, none⟩) hlt').trans u1
          obtain ⟨l8', k0, k1, k2, k3, k4, k5, k6, k7⟩ := mk_cells (gAr.below hb')
          obtain ⟨l9', j0, j1, j2, j3, j4, j5, j6, j7⟩ := mk_cells (gBr.below hb')
          unfold Oper.wp
          go_simp
          try go_bits
          exact hK _ _ (Below.refl _ _) (by first | rfl | (show Value.int _ _ = Value.int _ _; go_num; done) | (simp [valOf, *]; done) | (simp [valOf]; omega))
        · intro _ a' w' hb' hs hd hn Kc hK
          have f64 : a'.tmps[64]?.getD undef = .pointer (some ⟨w.heap.size, 2, none⟩) := hd 0 64 (by first | rfl | decide | simp [Region.binds]) rfl (by decide) (by decide) rfl
          clear hs hd hn
          rw [if_neg (by decide), if_neg (by decide)] at hK
          have a0 : w'.cell? ⟨bb, off + i * 2, none⟩ = some (.int .i64 r) := (hb'.cell (p := ⟨bb, off + i * 2, none⟩) hlt).trans v0
          have a1 : w'.cell? ⟨bb, off + i * 2 + 1, none⟩ = some (.slice q1 k d1) := (hb'.cell (p := ⟨bb, off + i * 2 + 1, none⟩) hlt).trans v1
          have c0 : w'.cell? ⟨bc, off' + i * 2, none⟩ = some (.int .i64 r) := (hb'.cell (p := ⟨bc, off' + i * 2, none⟩) hlt').trans u0
          have c1 : w'.cell? ⟨bc, off' + i * 2 + 1, none⟩ = some (.slice q2 k d2) := (hb'.cell (p := ⟨bc, off' + i * 2 + 1, none⟩) hlt').trans u1
          obtain ⟨l8', k0, k1, k2, k3, k4, k5, k6, k7⟩ := mk_cells (gAr.below hb')
          obtain ⟨l9', j0, j1, j2, j3, j4, j5, j6, j7⟩ := mk_cells (gBr.below hb')
          unfold Oper.wp
          go_simp
          try go_bits
          exact hK _ _ (Below.refl _ _) (by first | rfl | (show Value.int _ _ = Value.int _ _; go_num; done) | (simp [valOf, *]; done) | (simp [valOf]; omega))
        · intro _ a' w' hb' hs hd hn Kc hK
          have f5 : a'.tmps[5]?.getD undef = .int .i64 (i : Int) := (hs 5 (by decide)).trans rfl
          clear hs hd hn
          rw [if_neg (by decide), if_neg (by decide)] at hK
          have a0 : w'.cell? ⟨bb, off + i * 2, none⟩ = some (.int .i64 r) := (hb'.cell (p := ⟨bb, off + i * 2, none⟩) hlt).trans v0
          have a1 : w'.cell? ⟨bb, off + i * 2 + 1, none⟩ = some (.slice q1 k d1) := (hb'.cell (p := ⟨bb, off + i * 2 + 1, none⟩) hlt).trans v1
          have c0 : w'.cell? ⟨bc, off' + i * 2, none⟩ = some (.int .i64 r) := (hb'.cell (p := ⟨bc, off' + i * 2, none⟩) hlt').trans u0
          have c1 : w'.cell? ⟨bc, off' + i * 2 + 1, none⟩ = some (.slice q2 k d2) := (hb'.cell (p := ⟨bc, off' + i * 2 + 1, none⟩) hlt').trans u1
          obtain ⟨l8', k0, k1, k2, k3, k4, k5, k6, k7⟩ := mk_cells (gAr.below hb')
          obtain ⟨l9', j0, j1, j2, j3, j4, j5, j6, j7⟩ := mk_cells (gBr.below hb')
          unfold Oper.wp
          go_simp
          try go_bits
          exact hK _ _ (Below.refl _ _) (by first | rfl | (show Value.int _ _ = Value.int _ _; go_num; done) | (simp [valOf, *]; done) | (simp [valOf]; omega))
        · intro _ a' w' hb' hs hd hn Kc hK
          have f65 : a'.tmps[65]?.getD undef = .slice (some ⟨bb, off, none⟩) m.nb cb := hd 1 65 (by first | rfl | decide | simp [Region.binds]) rfl (by decide) (by decide) rfl
          have f66 : a'.tmps[66]?.getD undef = .int .i64 (i : Int) := hd 2 66 (by first | rfl | decide | simp [Region.binds]) rfl (by decide) (by decide) rfl
          clear hs hd hn
          rw [if_neg (by decide), if_neg (by decide)] at hK
          have a0 : w'.cell? ⟨bb, off + i * 2, none⟩ = some (.int .i64 r) := (hb'.cell (p := ⟨bb, off + i * 2, none⟩) hlt).trans v0
          have a1 : w'.cell? ⟨bb, off + i * 2 + 1, none⟩ = some (.slice q1 k d1) := (hb'.cell (p := ⟨bb, off + i * 2 + 1, none⟩) hlt).trans v1
          have c0 : w'.cell? ⟨bc, off' + i * 2, none⟩ = some (.int .i64 r) := (hb'.cell (p := ⟨bc, off' + i * 2, none⟩) hlt').trans u0
          have c1 : w'.cell? ⟨bc, off' + i * 2 + 1, none⟩ = some (.slice q2 k d2) := (hb'.cell (p := ⟨bc, off' + i * 2 + 1, none⟩) hlt').trans u1
          obtain ⟨l8', k0, k1, k2, k3, k4, k5, k6, k7⟩ := mk_cells (gAr.below hb')
          obtain ⟨l9', j0, j1, j2, j3, j4, j5, j6, j7⟩ := mk_cells (gBr.below hb')
          unfold Oper.wp
          go_simp
          try go_bits
          exact hK _ _ (Below.refl _ _) (by first | rfl | (show Value.int _ _ = Value.int _ _; go_num; done) | (simp [valOf, *]; done) | (simp [valOf]; omega))
        · intro _ a' w' hb' hs hd hn Kc hK
          have f67 : a'.tmps[67]?.getD undef = .pointer (some ⟨bb, off + i * 2, none⟩) := hd 3 67 (by first | rfl | decide | simp [Region.binds]) rfl (by decide) (by decide) rfl
          clear hs hd hn
          rw [if_neg (by decide), if_neg (by decide)] at hK
          have a0 : w'.cell? ⟨bb, off + i * 2, none⟩ = some (.int .i64 r) := (hb'.cell (p := ⟨bb, off + i * 2, none⟩) hlt).trans v0
          have a1 : w'.cell? ⟨bb, off + i * 2 + 1, none⟩ = some (.slice q1 k d1) := (hb'.cell (p := ⟨bb, off + i * 2 + 1, none⟩) hlt).trans v1
          have c0 : w'.cell? ⟨bc, off' + i * 2, none⟩ = some (.int .i64 r) := (hb'.cell (p := ⟨bc, off' + i * 2, none⟩) hlt').trans u0
          have c1 : w'.cell? ⟨bc, off' + i * 2 + 1, none⟩ = some (.slice q2 k d2) := (hb'.cell (p := ⟨bc, off' + i * 2 + 1, none⟩) hlt').trans u1
          obtain ⟨l8', k0, k1, k2, k3, k4, k5, k6, k7⟩ := mk_cells (gAr.below hb')
          obtain ⟨l9', j0, j1, j2, j3, j4, j5, j6, j7⟩ := mk_cells (gBr.below hb')
          unfold Oper.wp
          go_simp
          try go_bits
          exact hK _ _ (Below.refl _ _) (by first | rfl | (show Value.int _ _ = Value.int _ _; go_num; done) | (simp [valOf, *]; done) | (simp [valOf]; omega))
        · intro _ a' w' hb' hs hd hn Kc hK
          have f3 : a'.tmps[3]?.getD undef = .pointer (some ⟨w.heap.size + 1, 0, none⟩) := (hs 3 (by decide)).trans rfl
          clear hs hd hn
          rw [if_neg (by decide), if_neg (by decide)] at hK
          have a0 : w'.cell? ⟨bb, off + i * 2, none⟩ = some (.int .i64 r) := (hb'.cell (p := ⟨bb, off + i * 2, none⟩) hlt).trans v0
          have a1 : w'.cell? ⟨bb, off + i * 2 + 1, none⟩ = some (.slice q1 k d1) := (hb'.cell (p := ⟨bb, off + i * 2 + 1, none⟩) hlt).trans v1
          have c0 : w'.cell? ⟨bc, off' + i * 2, none⟩ = some (.int .i64 r) := (hb'.cell (p := ⟨bc, off' + i * 2, none⟩) hlt').trans u0
          have c1 : w'.cell? ⟨bc, off' + i * 2 + 1, none⟩ = some (.slice q2 k d2) := (hb'.cell (p := ⟨bc, off' + i * 2 + 1, none⟩) hlt').trans u1
          obtain ⟨l8', k0, k1, k2, k3, k4, k5, k6, k7⟩ := mk_cells (gAr.below hb')
          obtain ⟨l9', j0, j1, j2, j3, j4, j5, j6, j7⟩ := mk_cells (gBr.below hb')
          unfold Oper.wp
          go_simp
          try go_bits
          exact hK _ _ (Below.refl _ _) (by first | rfl | (show Value.int _ _ = Value.int _ _; go_num; done) | (simp [valOf, *]; done) | (simp [valOf]; omega))
        · intro _ a' w' hb' hs hd hn Kc hK
          have f69 : a'.tmps[69]?.getD undef = .pointer (some ⟨w.heap.size + 1, 2, none⟩) := hd 5 69 (by first | rfl | decide | simp [Region.binds]) rfl (by decide) (by decide) rfl
          clear hs hd hn
          rw [if_neg (by decide), if_neg (by decide)] at hK
          have a0 : w'.cell? ⟨bb, off + i * 2, none⟩ = some (.int .i64 r) := (hb'.cell (p := ⟨bb, off + i * 2, none⟩) hlt).trans v0
          have a1 : w'.cell? ⟨bb, off + i * 2 + 1, none⟩ = some (.slice q1 k d1) := (hb'.cell (p := ⟨bb, off + i * 2 + 1, none⟩) hlt).trans v1
          have c0 : w'.cell? ⟨bc, off' + i * 2, none⟩ = some (.int .i64 r) := (hb'.cell (p := ⟨bc, off' + i * 2, none⟩) hlt').trans u0
          have c1 : w'.cell? ⟨bc, off' + i * 2 + 1, none⟩ = some (.slice q2 k d2) := (hb'.cell (p := ⟨bc, off' + i * 2 + 1, none⟩) hlt').trans u1
          obtain ⟨l8', k0, k1, k2, k3, k4, k5, k6, k7⟩ := mk_cells (gAr.below hb')
          obtain ⟨l9', j0, j1, j2, j3, j4, j5, j6, j7⟩ := mk_cells (gBr.below hb')
          unfold Oper.wp
          go_simp
          try go_bits
          exact hK _ _ (Below.refl _ _) (by first | rfl | (show Value.int _ _ = Value.int _ _; go_num; done) | (simp [valOf, *]; done) | (simp [valOf]; omega))
        · intro _ a' w' hb' hs hd hn Kc hK
          have f5 : a'.tmps[5]?.getD undef = .int .i64 (i : Int) := (hs 5 (by decide)).trans rfl
          clear hs hd hn
          rw [if_neg (by decide), if_neg (by decide)] at hK
          have a0 : w'.cell? ⟨bb, off + i * 2, none⟩ = some (.int .i64 r) := (hb'.cell (p := ⟨bb, off + i * 2, none⟩) hlt).trans v0
          have a1 : w'.cell? ⟨bb, off + i * 2 + 1, none⟩ = some (.slice q1 k d1) := (hb'.cell (p := ⟨bb, off + i * 2 + 1, none⟩) hlt).trans v1
          have c0 : w'.cell? ⟨bc, off' + i * 2, none⟩ = some (.int .i64 r) := (hb'.cell (p := ⟨bc, off' + i * 2, none⟩) hlt').trans u0
          have c1 : w'.cell? ⟨bc, off' + i * 2 + 1, none⟩ = some (.slice q2 k d2) := (hb'.cell (p := ⟨bc, off' + i * 2 + 1, none⟩) hlt').trans u1
          obtain ⟨l8', k0, k1, k2, k3, k4, k5, k6, k7⟩ := mk_cells (gAr.below hb')
          obtain ⟨l9', j0, j1, j2, j3, j4, j5, j6, j7⟩ := mk_cells (gBr.below hb')
          unfold Oper.wp
          go_simp
          try go_bits
          exact hK _ _ (Below.refl _ _) (by first | rfl | (show Value.int _ _ = Value.int _ _; go_num; done) | (simp [valOf, *]; done) | (simp [valOf]; omega))
        · intro _ a' w' hb' hs hd hn Kc hK
          have f70 : a'.tmps[70]?.getD undef = .slice (some ⟨bc, off', none⟩) m.nb cb' := hd 6 70 (by first | rfl | decide | simp [Region.binds]) rfl (by decide) (by decide) rfl
          have f71 : a'.tmps[71]?.getD undef = .int .i64 (i : Int) := hd 7 71 (by first | rfl | decide | simp [Region.binds]) rfl (by decide) (by decide) rfl
          clear hs hd hn
          rw [if_neg (by decide), if_neg (by decide)] at hK
          have a0 : w'.cell? ⟨bb, off + i * 2, none⟩ = some (.int .i64 r) := (hb'.cell (p := ⟨bb, off + i * 2, none⟩) hlt).trans v0
          have a1 : w'.cell? ⟨bb, off + i * 2 + 1, none⟩ = some (.slice q1 k d1) := (hb'.cell (p := ⟨bb, off + i * 2 + 1, none⟩) hlt).trans v1
          have c0 : w'.cell? ⟨bc, off' + i * 2, none⟩ = some (.int .i64 r) := (hb'.cell (p := ⟨bc, off' + i * 2, none⟩) hlt').trans u0
          have c1 : w'.cell? ⟨bc, off' + i * 2 + 1, none⟩ = some (.slice q2 k d2) := (hb'.cell (p := ⟨bc, off' + i * 2 + 1, none⟩) hlt').trans u1
          obtain ⟨l8', k0, k1, k2, k3, k4, k5, k6, k7⟩ := mk_cells (gAr.below hb')
          obtain ⟨l9', j0, j1, j2, j3, j4, j5, j6, j7⟩ := mk_cells (gBr.below hb')
          unfold Oper.wp
          go_simp
          try go_bits
          exact hK _ _ (Below.refl _ _) (by first | rfl | (show Value.int _ _ = Value.int _ _; go_num; done) | (simp [valOf, *]; done) | (simp [valOf]; omega))
        · intro _ a' w' hb' hs hd hn Kc hK
          have f72 : a'.tmps[72]?.getD undef = .pointer (some ⟨bc, off' + i * 2, none⟩) := hd 8 72 (by first | rfl | decide | simp [Region.binds]) rfl (by decide) (by decide) rfl
          clear hs hd hn
          rw [if_neg (by decide), if_neg (by decide)] at hK
          have a0 : w'.cell? ⟨bb, off + i * 2, none⟩ = some (.int .i64 r) := (hb'.cell (p := ⟨bb, off + i * 2, none⟩) hlt).trans v0
          have a1 : w'.cell? ⟨bb, off + i * 2 + 1, none⟩ = some (.slice q1 k d1) := (hb'.cell (p := ⟨bb, off + i * 2 + 1, none⟩) hlt).trans v1
          have c0 : w'.cell? ⟨bc, off' + i * 2, none⟩ = some (.int .i64 r) := (hb'.cell (p := ⟨bc, off' + i * 2, none⟩) hlt').trans u0
          have c1 : w'.cell? ⟨bc, off' + i * 2 + 1, none⟩ = some (.slice q2 k d2) := (hb'.cell (p := ⟨bc, off' + i * 2 + 1, none⟩) hlt').trans u1
          obtain ⟨l8', k0, k1, k2, k3, k4, k5, k6, k7⟩ := mk_cells (gAr.below hb')
          obtain ⟨l9', j0, j1, j2, j3, j4, j5, j6, j7⟩ := mk_cells (gBr.below hb')
          unfold Oper.wp
          go_simp
          try go_bits
          exact hK _ _ (Below.refl _ _) (by first | rfl | (show Value.int _ _ = Value.int _ _; go_num; done) | (simp [valOf, *]; done) | (simp [valOf]; omega))
        · intro _ a' w' hb' hs hd hn Kc hK
          have f68 : a'.tmps[68]?.getD undef = .agg #[.int .i64 r, .slice q1 k d1] := hd 4 68 (by first | rfl | decide | simp [Region.binds]) rfl (by decide) (by decide) rfl
          have f73 : a'.tmps[73]?.getD undef = .agg #[.int .i64 r, .slice q2 k d2] := hd 9 73 (by first | rfl | decide | simp [Region.binds]) rfl (by decide) (by decide) rfl
          clear hs hd hn
          rw [if_neg (by decide), if_neg (by decide)] at hK
          have a0 : w'.cell? ⟨bb, off + i * 2, none⟩ = some (.int .i64 r) := (hb'.cell (p := ⟨bb, off + i * 2, none⟩) hlt).trans v0
          have a1 : w'.cell? ⟨bb, off + i * 2 + 1, none⟩ = some (.slice q1 k d1) := (hb'.cell (p := ⟨bb, off + i * 2 + 1, none⟩) hlt).trans v1
          have c0 : w'.cell? ⟨bc, off' + i * 2, none⟩ = some (.int .i64 r) := (hb'.cell (p := ⟨bc, off' + i * 2, none⟩) hlt').trans u0
          have c1 : w'.cell? ⟨bc, off' + i * 2 + 1, none⟩ = some (.slice q2 k d2) := (hb'.cell (p := ⟨bc, off' + i * 2 + 1, none⟩) hlt').trans u1
          obtain ⟨l8', k0, k1, k2, k3, k4, k5, k6, k7⟩ := mk_cells (gAr.below hb')
          obtain ⟨l9', j0, j1, j2, j3, j4, j5, j6, j7⟩ := mk_cells (gBr.below hb')
          unfold Oper.wp
          go_simp
          try go_bits
          refine Calls.mono (hSi _ hb') ?_
          rintro e w'' ⟨rfl, hb2⟩
          exact hK _ _ hb2 rfl
        · intro _ a' w' hb' hs hd hn Kc hK
          have f74 : a'.tmps[74]?.getD undef = .bool true := hd 10 74 (by first | rfl | decide | simp [Region.binds]) rfl (by decide) (by decide) rfl
          clear hs hd hn
          rw [if_neg (by decide), if_neg (by decide)] at hK
          have a0 : w'.cell? ⟨bb, off + i * 2, none⟩ = some (.int .i64 r) := (hb'.cell (p := ⟨bb, off + i * 2, none⟩) hlt).trans v0
          have a1 : w'.cell? ⟨bb, off + i * 2 + 1, none⟩ = some (.slice q1 k d1) := (hb'.cell (p := ⟨bb, off + i * 2 + 1, none⟩) hlt).trans v1
          have c0 : w'.cell? ⟨bc, off' + i * 2, none⟩ = some (.int .i64 r) := (hb'.cell (p := ⟨bc, off' + i * 2, none⟩) hlt').trans u0
          have c1 : w'.cell? ⟨bc, off' + i * 2 + 1, none⟩ = some (.slice q2 k d2) := (hb'.cell (p := ⟨bc, off' + i * 2 + 1, none⟩) hlt').trans u1
          obtain ⟨l8', k0, k1, k2, k3, k4, k5, k6, k7⟩ := mk_cells (gAr.below hb')
          obtain ⟨l9', j0, j1, j2, j3, j4, j5, j6, j7⟩ := mk_cells (gBr.below hb')
          unfold Oper.wp
          go_simp
          try go_bits
          exact hK _ _ (Below.refl _ _) (by first | rfl | (show Value.int _ _ = Value.int _ _; go_num; done) | (simp [valOf, *]; done) | (simp [valOf]; omega))
      intro Xf g w' hX hb hv
      have q75 : Xf 75 = .bool false := hv 11 75 rfl rfl (by decide) (by decide)
      clear hX hv
      simp only [List.map_cons, List.map_nil, q75, puts, Act.put, Nat.reduceAdd, List.setIfInBounds_toArray, List.set_cons_succ, List.set_cons_zero]
      have hbw2 := bjoin hb hbw
      go_wp2
      go_roundg (m.nb - (i + 1))
      case measure => omega
      case rel => exact ⟨i + 1, by omega, rfl, by go_num, hbw2⟩
    · obtain rfl : i = m.nb := by omega
      go_wp2
      go_returns
      exact ⟨rfl, bjoin hbw hb0⟩
end Go.Proofs.YtmbgodncagjncaaDoor
