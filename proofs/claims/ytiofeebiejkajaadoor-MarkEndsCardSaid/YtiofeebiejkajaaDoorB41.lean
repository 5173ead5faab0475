/- Contracts of the code's marking (chapter 17): the steps 1 and 4, which shade a value with the marker's row. -/
import Derived.Test.YtiofeebiejkajaaDoorB40
import Derived.Deep.CutRange
namespace Go.Proofs.YtiofeebiejkajaaDoor
set_option linter.unusedSimpArgs false
set_option linter.unusedVariables false
open Go.ChangeShapes Go.WideShapes Go.ChangeAt Go.RowKit Go.Joins

set_option maxHeartbeats 4000000 in
set_option maxRecDepth 20000 in
/-- The step 1, with nothing in hand. -/
theorem mfield_no (N B n k : Nat) (b : Bool) (h : Hp) (m : Mk) (w : World) (hst : StV N B n k b h m w) (h0 : m.ob = -1) :
    Calls Tryd.prog 30 #[.pointer (some ⟨B, 0, none⟩)] w fun e w' => e = .returned (.bool false) ∧ Below w.heap.size w w' := by
  obtain ⟨p, c, q, d, pg, cg, pb, cb, pr, cr, g0, hh, hM⟩ := hst
  obtain ⟨hlB, -, -, -, -, x4, -, -, -, -, -, -⟩ := st_cells g0
  rw [h0] at x4
  clear g0 hh hM h0
  go_enter Tryd.func30, Tryd.ntmps30
  go_wp2
  go_returns
  exact ⟨rfl, Below.refl _ _⟩
set_option maxHeartbeats 8000000 in
set_option maxRecDepth 20000 in
/-- .. with a field in hand. -/
theorem mfield_yes (N B n k : Nat) (b : Bool) (h : Hp) (m : Mk) (w : World) (hS : Sz w) (hSB : ¬ 0 = B) (hN : N ≤ B) (hst : StV N B n k b h m w) (hF : formB h = true) (h0 : ¬ m.ob = -1) (he : fdE h m.ob m.fi = 0) (hr : m.g.r ≤ 1000000) (h1 : m.g.n ≤ 1000000) :
    Calls Tryd.prog 30 #[.pointer (some ⟨B, 0, none⟩)] w fun e w' => e = .returned (.bool true) ∧ StV N B n k b (shM h m.g (fvV h m.ob m.fi)).h
      (if m.fi + 1 = obN h m.ob then { m with g := (shM h m.g (fvV h m.ob m.fi)).gy m.g.r, ov := m.ov || (shM h m.g (fvV h m.ob m.fi)).o, ob := -1, fi := 0 }
      else { m with g := (shM h m.g (fvV h m.ob m.fi)).gy m.g.r, ov := m.ov || (shM h m.g (fvV h m.ob m.fi)).o, fi := m.fi + 1 }) w' ∧ Aside (fun k => k = B) w w' := by
  obtain ⟨hn32, hk0⟩ := hst.room hF
  obtain ⟨p, c, q, d, pg, cg, pb, cb, pr, cr, g0, hh, hM⟩ := id hst
  obtain ⟨hlB, x0, x1, -, -, x4, x5, -, -, x8, x9, x10⟩ := st_cells g0
  have hv := fv_wf hF hh.at'.wf m.ob m.fi
  have hFd := fun W (hW : Below w.heap.size w W) => ofield_in (a := m.ob) (i := m.fi) (hS.below hW) (hh.below hW) hF
  rw [he] at hFd
  have hI := fun (W : World) (cg : Nat) (pg : Option Addr) (hW : Below w.heap.size w W) (h3 : GrAt W pg cg m.g.n m.g.z) (h4 : RowE N 3 m.g.n pg W) => msinto_any N B n k b h m m.g.r pg m.g.n cg m.g.z (fvV h m.ob m.fi) W (hS.below hW) hN (hst.below hW) hF h3 h4 hr h1 hv
  have hob : (m.ob == -1) = false := by simpa using h0
  have hsm := fd_ok he
  have hfi : m.fi < 32 := by
    obtain ⟨-, -, a0, a1, a5, a6, -, -, eN, -⟩ := ob_spec hF hsm.1
    rw [eN] at hsm
    omega
  obtain ⟨-, hfi0, hfiN⟩ := hsm
  obtain ⟨s1, s2, s3, -, -⟩ := shM_same hF m.g (fvV h m.ob m.fi)
  have hNN : obN (shM h m.g (fvV h m.ob m.fi)).h m.ob = obN h m.ob := (s3 m.ob).2
  have hFh : formB (shM h m.g (fvV h m.ob m.fi)).h = true := s1
  unfold shM at hNN hFh ⊢
  unfold fvV at hNN hFh hI ⊢
  generalize getK (fdX h m.ob m.fi) = VK at *
  generalize getN (fdX h m.ob m.fi) = VN at *
  generalize sdS m.g.r ⟨h, m.g.n, m.g.z, false⟩ ⟨VK, VN⟩ = T at *
  generalize obN h m.ob = NN at *
  unfold Vl.agg at hI
  dsimp only at hI
  have hgA := hM.g
  have hgE := hM.ge
  clear s1 s2 s3 hM hh g0 he
  go_enter Tryd.func30, Tryd.ntmps30
  go_upto_region 3 with fail
  refine wp_late (ds := [some 14, some 15, some 16, some 17, some 18, some 19, some 20, some 21, some 22, some 23, some 24, some 25, some 26, some 27, some 28, some 13, some 29, some 30, some 3, none, some 4]) (ts := [14, 15, 16, 17, 18, 19, 20, 21, 22, 23, 24, 25, 26, 27, 28, 13, 29, 30, 3, 4]) (pv := [(fun v _ => v = .pointer (some ⟨B, 0, none⟩)), (fun v _ => v = .pointer (some ⟨B, 0, none⟩)), (fun v _ => v = .pointer (some ⟨B, 8, none⟩)), (fun v _ => v = .agg #[.slice p n c, .slice q k d, .bool b]), (fun v _ => v = .pointer (some ⟨B, 0, none⟩)), (fun v _ => v = .pointer (some ⟨B, 0, none⟩)), (fun v _ => v = .pointer (some ⟨B, 0, none⟩)), (fun v _ => v = .pointer (some ⟨B, 4, none⟩)), (fun v _ => v = .int .i64 m.ob), (fun v _ => v = .pointer (some ⟨B, 0, none⟩)), (fun v _ => v = .pointer (some ⟨B, 0, none⟩)), (fun v _ => v = .pointer (some ⟨B, 0, none⟩)), (fun v _ => v = .pointer (some ⟨B, 5, none⟩)), (fun v _ => v = .int .i64 m.fi), (fun v _ => v = .tuple #[.agg #[.int .i64 VK, .int .i64 VN], .int .i64 0]), (fun v _ => v = .tuple #[.agg #[.int .i64 VK, .int .i64 VN], .int .i64 0]), (fun v _ => v = .agg #[.int .i64 VK, .int .i64 VN]), (fun v _ => v = .int .i64 0), (fun _ _ => True), (fun _ _ => True), (fun v _ => v = .int .i64 0)]) (skip := fun i => ([] : List Nat).contains i) (ia := 18) (is := 19) (k := 31) (Shape := (ShapeT 38 2)) (Full := (fun g w => TBox 38 g #[.int .i64 VK, .int .i64 VN] w)) (by kernel_rfl) (by kernel_rfl) rfl rfl (by decide) (by decide) (by simp) ?_ (by decide) shapeT_below (fun _ _ _ h hb => TBox.below h hb) ?_ ?_ ?_ ?_
  · exact .inr ⟨⟨_, rfl⟩, rfl, _, rfl, (by first | rfl | decide | simp [Region.binds]), by decide, rfl⟩
  · exact ⟨fun _ _ _ h _ => h, fun _ _ _ h _ => h, fun _ _ _ h _ => h, fun _ _ _ h _ => h, fun _ _ _ h _ => h, fun _ _ _ h _ => h, fun _ _ _ h _ => h, fun _ _ _ h _ => h, fun _ _ _ h _ => h, fun _ _ _ h _ => h, fun _ _ _ h _ => h, fun _ _ _ h _ => h, fun _ _ _ h _ => h, fun _ _ _ h _ => h, fun _ _ _ h _ => h, fun _ _ _ h _ => h, fun _ _ _ h _ => h, fun _ _ _ h _ => h, fun _ _ _ h _ => h, fun _ _ _ h _ => h, fun _ _ _ h _ => h, trivial⟩
  · exact ⟨rfl, rfl, rfl, rfl, rfl, rfl, rfl, rfl, rfl, rfl, rfl, rfl, rfl, rfl, rfl, rfl, rfl, rfl, rfl, rfl, rfl, trivial⟩
  · refine ⟨?_, ?_, ?_, ?_, ?_, ?_, ?_, ?_, ?_, ?_, ?_, ?_, ?_, ?_, ?_, ?_, ?_, ?_, ?_, ?_, ?_, trivial⟩
    · intro _ a' w' hb' hs hd hn Kc hK
      have f0 : a'.tmps[0]?.getD undef = .pointer (some ⟨B, 0, none⟩) := (hs 0 (by decide)).trans rfl
      clear hs hd hn
      rw [if_neg (by decide), if_neg (by decide)] at hK
      have x4' := (hb'.cell (p := ⟨B, 4, none⟩) hlB).trans x4
      have x5' := (hb'.cell (p := ⟨B, 5, none⟩) hlB).trans x5
      have x8' := (hb'.cell (p := ⟨B, 8, none⟩) hlB).trans x8
      have x9' := (hb'.cell (p := ⟨B, 9, none⟩) hlB).trans x9
      have x10' := (hb'.cell (p := ⟨B, 10, none⟩) hlB).trans x10
      unfold Oper.wp
      go_simp
      try go_bits
      exact hK _ _ (Below.refl _ _) (by first | rfl | (show Value.int _ _ = Value.int _ _; go_num; done) | (simp [valOf, *]; done) | (simp [valOf]; omega))
    · intro _ a' w' hb' hs hd hn Kc hK
      have f14 : a'.tmps[14]?.getD undef = .pointer (some ⟨B, 0, none⟩) := hd 0 14 (by first | rfl | decide | simp [Region.binds]) rfl (by decide) (by decide) rfl
      clear hs hd hn
      rw [if_neg (by decide), if_neg (by decide)] at hK
      have x4' := (hb'.cell (p := ⟨B, 4, none⟩) hlB).trans x4
      have x5' := (hb'.cell (p := ⟨B, 5, none⟩) hlB).trans x5
      have x8' := (hb'.cell (p := ⟨B, 8, none⟩) hlB).trans x8
      have x9' := (hb'.cell (p := ⟨B, 9, none⟩) hlB).trans x9
      have x10' := (hb'.cell (p := ⟨B, 10, none⟩) hlB).trans x10
      unfold Oper.wp
      go_simp
      try go_bits
      exact hK _ _ (Below.refl _ _) (by first | rfl | (show Value.int _ _ = Value.int _ _; go_num; done) | (simp [valOf, *]; done) | (simp [valOf]; omega))
    · intro _ a' w' hb' hs hd hn Kc hK
      have f15 : a'.tmps[15]?.getD undef = .pointer (some ⟨B, 0, none⟩) := hd 1 15 (by first | rfl | decide | simp [Region.binds]) rfl (by decide) (by decide) rfl
      clear hs hd hn
      rw [if_neg (by decide), if_neg (by decide)] at hK
      have x4' := (hb'.cell (p := ⟨B, 4, none⟩) hlB).trans x4
      have x5' := (hb'.cell (p := ⟨B, 5, none⟩) hlB).trans x5
      have x8' := (hb'.cell (p := ⟨B, 8, none⟩) hlB).trans x8
      have x9' := (hb'.cell (p := ⟨B, 9, none⟩) hlB).trans x9
      have x10' := (hb'.cell (p := ⟨B, 10, none⟩) hlB).trans x10
      unfold Oper.wp
      go_simp
      try go_bits
      exact hK _ _ (Below.refl _ _) (by first | rfl | (show Value.int _ _ = Value.int _ _; go_num; done) | (simp [valOf, *]; done) | (simp [valOf]; omega))
    · intro _ a' w' hb' hs hd hn Kc hK
      have f16 : a'.tmps[16]?.getD undef = .pointer (some ⟨B, 8, none⟩) := hd 2 16 (by first | rfl | decide | simp [Region.binds]) rfl (by decide) (by decide) rfl
      clear hs hd hn
      rw [if_neg (by decide), if_neg (by decide)] at hK
      have x4' := (hb'.cell (p := ⟨B, 4, none⟩) hlB).trans x4
      have x5' := (hb'.cell (p := ⟨B, 5, none⟩) hlB).trans x5
      have x8' := (hb'.cell (p := ⟨B, 8, none⟩) hlB).trans x8
      have x9' := (hb'.cell (p := ⟨B, 9, none⟩) hlB).trans x9
      have x10' := (hb'.cell (p := ⟨B, 10, none⟩) hlB).trans x10
      unfold Oper.wp
      go_simp
      try go_bits
      exact hK _ _ (Below.refl _ _) (by first | rfl | (show Value.int _ _ = Value.int _ _; go_num; done) | (simp [valOf, *]; done) | (simp [valOf]; omega))
    · intro _ a' w' hb' hs hd hn Kc hK
      have f0 : a'.tmps[0]?.getD undef = .pointer (some ⟨B, 0, none⟩) := (hs 0 (by decide)).trans rfl
      clear hs hd hn
      rw [if_neg (by decide), if_neg (by decide)] at hK
      have x4' := (hb'.cell (p := ⟨B, 4, none⟩) hlB).trans x4
      have x5' := (hb'.cell (p := ⟨B, 5, none⟩) hlB).trans x5
      have x8' := (hb'.cell (p := ⟨B, 8, none⟩) hlB).trans x8
      have x9' := (hb'.cell (p := ⟨B, 9, none⟩) hlB).trans x9
      have x10' := (hb'.cell (p := ⟨B, 10, none⟩) hlB).trans x10
      unfold Oper.wp
      go_simp
      try go_bits
      exact hK _ _ (Below.refl _ _) (by first | rfl | (show Value.int _ _ = Value.int _ _; go_num; done) | (simp [valOf, *]; done) | (simp [valOf]; omega))
    · intro _ a' w' hb' hs hd hn Kc hK
      have f18 : a'.tmps[18]?.getD undef = .pointer (some ⟨B, 0, none⟩) := hd 4 18 (by first | rfl | decide | simp [Region.binds]) rfl (by decide) (by decide) rfl
      clear hs hd hn
      rw [if_neg (by decide), if_neg (by decide)] at hK
      have x4' := (hb'.cell (p := ⟨B, 4, none⟩) hlB).trans x4
      have x5' := (hb'.cell (p := ⟨B, 5, none⟩) hlB).trans x5
      have x8' := (hb'.cell (p := ⟨B, 8, none⟩) hlB).trans x8
      have x9' := (hb'.cell (p := ⟨B, 9, none⟩) hlB).trans x9
      have x10' := (hb'.cell (p := ⟨B, 10, none⟩) hlB).trans x10
      unfold Oper.wp
      go_simp
      try go_bits
      exact hK _ _ (Below.refl _ _) (by first | rfl | (show Value.int _ _ = Value.int _ _; go_num; done) | (simp [valOf, *]; done) | (simp [valOf]; omega))
    · intro _ a' w' hb' hs hd hn Kc hK
      have f19 : a'.tmps[19]?.getD undef = .pointer (some ⟨B, 0, none⟩) := hd 5 19 (by first | rfl | decide | simp [Region.binds]) rfl (by decide) (by decide) rfl
      clear hs hd hn
      rw [if_neg (by decide), if_neg (by decide)] at hK
      have x4' := (hb'.cell (p := ⟨B, 4, none⟩) hlB).trans x4
      have x5' := (hb'.cell (p := ⟨B, 5, none⟩) hlB).trans x5
      have x8' := (hb'.cell (p := ⟨B, 8, none⟩) hlB).trans x8
      have x9' := (hb'.cell (p := ⟨B, 9, none⟩) hlB).trans x9
      have x10' := (hb'.cell (p := ⟨B, 10, none⟩) hlB).trans x10
      unfold Oper.wp
      go_simp
      try go_bits
      exact hK _ _ (Below.refl _ _) (by first | rfl | (show Value.int _ _ = Value.int _ _; go_num; done) | (simp [valOf, *]; done) | (simp [valOf]; omega))
    · intro _ a' w' hb' hs hd hn Kc hK
      have f20 : a'.tmps[20]?.getD undef = .pointer (some ⟨B, 0, none⟩) := hd 6 20 (by first | rfl | decide | simp [Region.binds]) rfl (by decide) (by decide) rfl
      clear hs hd hn
      rw [if_neg (by decide), if_neg (by decide)] at hK
      have x4' := (hb'.cell (p := ⟨B, 4, none⟩) hlB).trans x4
      have x5' := (hb'.cell (p := ⟨B, 5, none⟩) hlB).trans x5
      have x8' := (hb'.cell (p := ⟨B, 8, none⟩) hlB).trans x8
      have x9' := (hb'.cell (p := ⟨B, 9, none⟩) hlB).trans x9
      have x10' := (hb'.cell (p := ⟨B, 10, none⟩) hlB).trans x10
      unfold Oper.wp
      go_simp
      try go_bits
      exact hK _ _ (Below.refl _ _) (by first | rfl | (show Value.int _ _ = Value.int _ _; go_num; done) | (simp [valOf, *]; done) | (simp [valOf]; omega))
    · intro _ a' w' hb' hs hd hn Kc hK
      have f21 : a'.tmps[21]?.getD undef = .pointer (some ⟨B, 4, none⟩) := hd 7 21 (by first | rfl | decide | simp [Region.binds]) rfl (by decide) (by decide) rfl
      clear hs hd hn
      rw [if_neg (by decide), if_neg (by decide)] at hK
      have x4' := (hb'.cell (p := ⟨B, 4, none⟩) hlB).trans x4
      have x5' := (hb'.cell (p := ⟨B, 5, none⟩) hlB).trans x5
      have x8' := (hb'.cell (p := ⟨B, 8, none⟩) hlB).trans x8
      have x9' := (hb'.cell (p := ⟨B, 9, none⟩) hlB).trans x9
      have x10' := (hb'.cell (p := ⟨B, 10, none⟩) hlB).trans x10
      unfold Oper.wp
      go_simp
      try go_bits
      exact hK _ _ (Below.refl _ _) (by first | rfl | (show Value.int _ _ = Value.int _ _; go_num; done) | (simp [valOf, *]; done) | (simp [valOf]; omega))
    · intro _ a' w' hb' hs hd hn Kc hK
      have f0 : a'.tmps[0]?.getD undef = .pointer (some ⟨B, 0, none⟩) := (hs 0 (by decide)).trans rfl
      clear hs hd hn
      rw [if_neg (by decide), if_neg (by decide)] at hK
      have x4' := (hb'.cell (p := ⟨B, 4, none⟩) hlB).trans x4
      have x5' := (hb'.cell (p := ⟨B, 5, none⟩) hlB).trans x5
      have x8' := (hb'.cell (p := ⟨B, 8, none⟩) hlB).trans x8
      have x9' := (hb'.cell (p := ⟨B, 9, none⟩) hlB).trans x9
      have x10' := (hb'.cell (p := ⟨B, 10, none⟩) hlB).trans x10
      unfold Oper.wp
      go_simp
      try go_bits
      exact hK _ _ (Below.refl _ _) (by first | rfl | (show Value.int _ _ = Value.int _ _; go_num; done) | (simp [valOf, *]; done) | (simp [valOf]; omega))
    · intro _ a' w' hb' hs hd hn Kc hK
      have f23 : a'.tmps[23]?.getD undef = .pointer (some ⟨B, 0, none⟩) := hd 9 23 (by first | rfl | decide | simp [Region.binds]) rfl (by decide) (by decide) rfl
      clear hs hd hn
      rw [if_neg (by decide), if_neg (by decide)] at hK
      have x4' := (hb'.cell (p := ⟨B, 4, none⟩) hlB).trans x4
      have x5' := (hb'.cell (p := ⟨B, 5, none⟩) hlB).trans x5
      have x8' := (hb'.cell (p := ⟨B, 8, none⟩) hlB).trans x8
      have x9' := (hb'.cell (p := ⟨B, 9, none⟩) hlB).trans x9
      have x10' := (hb'.cell (p := ⟨B, 10, none⟩) hlB).trans x10
      unfold Oper.wp
      go_simp
      try go_bits
      exact hK _ _ (Below.refl _ _) (by first | rfl | (show Value.int _ _ = Value.int _ _; go_num; done) | (simp [valOf, *]; done) | (simp [valOf]; omega))
    · intro _ a' w' hb' hs hd hn Kc hK
      have f24 : a'.tmps[24]?.getD undef = .pointer (some ⟨B, 0, none⟩) := hd 10 24 (by first | rfl | decide | simp [Region.binds]) rfl (by decide) (by decide) rfl
      clear hs hd hn
      rw [if_neg (by decide), if_neg (by decide)] at hK
      have x4' := (hb'.cell (p := ⟨B, 4, none⟩) hlB).trans x4
      have x5' := (hb'.cell (p := ⟨B, 5, none⟩) hlB).trans x5
      have x8' := (hb'.cell (p := ⟨B, 8, none⟩) hlB).trans x8
      have x9' := (hb'.cell (p := ⟨B, 9, none⟩) hlB).trans x9
      have x10' := (hb'.cell (p := ⟨B, 10, none⟩) hlB).trans x10
      unfold Oper.wp
      go_simp
      try go_bits
      exact hK _ _ (Below.refl _ _) (by first | rfl | (show Value.int _ _ = Value.int _ _; go_num; done) | (simp [valOf, *]; done) | (simp [valOf]; omega))
    · intro _ a' w' hb' hs hd hn Kc hK
      have f25 : a'.tmps[25]?.getD undef = .pointer (some ⟨B, 0, none⟩) := hd 11 25 (by first | rfl | decide | simp [Region.binds]) rfl (by decide) (by decide) rfl
      clear hs hd hn
      rw [if_neg (by decide), if_neg (by decide)] at hK
      have x4' := (hb'.cell (p := ⟨B, 4, none⟩) hlB).trans x4
      have x5' := (hb'.cell (p := ⟨B, 5, none⟩) hlB).trans x5
      have x8' := (hb'.cell (p := ⟨B, 8, none⟩) hlB).trans x8
      have x9' := (hb'.cell (p := ⟨B, 9, none⟩) hlB).trans x9
      have x10' := (hb'.cell (p := ⟨B, 10, none⟩) hlB).trans x10
      unfold Oper.wp
      go_simp
      try go_bits
      exact hK _ _ (Below.refl _ _) (by first | rfl | (show Value.int _ _ = Value.int _ _; go_num; done) | (simp [valOf, *]; done) | (simp [valOf]; omega))
    · intro _ a' w' hb' hs hd hn Kc hK
      have f26 : a'.tmps[26]?.getD undef = .pointer (some ⟨B, 5, none⟩) := hd 12 26 (by first | rfl | decide | simp [Region.binds]) rfl (by decide) (by decide) rfl
      clear hs hd hn
      rw [if_neg (by decide), if_neg (by decide)] at hK
      have x4' := (hb'.cell (p := ⟨B, 4, none⟩) hlB).trans x4
      have x5' := (hb'.cell (p := ⟨B, 5, none⟩) hlB).trans x5
      have x8' := (hb'.cell (p := ⟨B, 8, none⟩) hlB).trans x8
      have x9' := (hb'.cell (p := ⟨B, 9, none⟩) hlB).trans x9
      have x10' := (hb'.cell (p := ⟨B, 10, none⟩) hlB).trans x10
      unfold Oper.wp
      go_simp
      try go_bits
      exact hK _ _ (Below.refl _ _) (by first | rfl | (show Value.int _ _ = Value.int _ _; go_num; done) | (simp [valOf, *]; done) | (simp [valOf]; omega))
    · intro _ a' w' hb' hs hd hn Kc hK
      have f17 : a'.tmps[17]?.getD undef = .agg #[.slice p n c, .slice q k d, .bool b] := hd 3 17 (by first | rfl | decide | simp [Region.binds]) rfl (by decide) (by decide) rfl
      have f22 : a'.tmps[22]?.getD undef = .int .i64 m.ob := hd 8 22 (by first | rfl | decide | simp [Region.binds]) rfl (by decide) (by decide) rfl
      have f27 : a'.tmps[27]?.getD undef = .int .i64 m.fi := hd 13 27 (by first | rfl | decide | simp [Region.binds]) rfl (by decide) (by decide) rfl
      clear hs hd hn
      rw [if_neg (by decide), if_neg (by decide)] at hK
      have x4' := (hb'.cell (p := ⟨B, 4, none⟩) hlB).trans x4
      have x5' := (hb'.cell (p := ⟨B, 5, none⟩) hlB).trans x5
      have x8' := (hb'.cell (p := ⟨B, 8, none⟩) hlB).trans x8
      have x9' := (hb'.cell (p := ⟨B, 9, none⟩) hlB).trans x9
      have x10' := (hb'.cell (p := ⟨B, 10, none⟩) hlB).trans x10
      unfold Oper.wp
      go_simp
      try go_bits
      refine Calls.mono (hFd w' hb') ?_
      rintro e w'' ⟨rfl, hb2⟩
      exact hK _ _ hb2 rfl
    · intro _ a' w' hb' hs hd hn Kc hK
      have f28 : a'.tmps[28]?.getD undef = .tuple #[.agg #[.int .i64 VK, .int .i64 VN], .int .i64 0] := hd 14 28 (by first | rfl | decide | simp [Region.binds]) rfl (by decide) (by decide) rfl
      clear hs hd hn
      rw [if_neg (by decide), if_neg (by decide)] at hK
      have x4' := (hb'.cell (p := ⟨B, 4, none⟩) hlB).trans x4
      have x5' := (hb'.cell (p := ⟨B, 5, none⟩) hlB).trans x5
      have x8' := (hb'.cell (p := ⟨B, 8, none⟩) hlB).trans x8
      have x9' := (hb'.cell (p := ⟨B, 9, none⟩) hlB).trans x9
      have x10' := (hb'.cell (p := ⟨B, 10, none⟩) hlB).trans x10
      unfold Oper.wp
      go_simp
      try go_bits
      exact hK _ _ (Below.refl _ _) (by first | rfl | (show Value.int _ _ = Value.int _ _; go_num; done) | (simp [valOf, *]; done) | (simp [valOf]; omega))
    · intro _ a' w' hb' hs hd hn Kc hK
      have f13 : a'.tmps[13]?.getD undef = .tuple #[.agg #[.int .i64 VK, .int .i64 VN], .int .i64 0] := hd 15 13 (by first | rfl | decide | simp [Region.binds]) rfl (by decide) (by decide) rfl
      clear hs hd hn
      rw [if_neg (by decide), if_neg (by decide)] at hK
      have x4' := (hb'.cell (p := ⟨B, 4, none⟩) hlB).trans x4
      have x5' := (hb'.cell (p := ⟨B, 5, none⟩) hlB).trans x5
      have x8' := (hb'.cell (p := ⟨B, 8, none⟩) hlB).trans x8
      have x9' := (hb'.cell (p := ⟨B, 9, none⟩) hlB).trans x9
      have x10' := (hb'.cell (p := ⟨B, 10, none⟩) hlB).trans x10
      unfold Oper.wp
      go_simp
      try go_bits
      exact hK _ _ (Below.refl _ _) (by first | rfl | (show Value.int _ _ = Value.int _ _; go_num; done) | (simp [valOf, *]; done) | (simp [valOf]; omega))
    · intro _ a' w' hb' hs hd hn Kc hK
      have f13 : a'.tmps[13]?.getD undef = .tuple #[.agg #[.int .i64 VK, .int .i64 VN], .int .i64 0] := hd 15 13 (by first | rfl | decide | simp [Region.binds]) rfl (by decide) (by decide) rfl
      clear hs hd hn
      rw [if_neg (by decide), if_neg (by decide)] at hK
      have x4' := (hb'.cell (p := ⟨B, 4, none⟩) hlB).trans x4
      have x5' := (hb'.cell (p := ⟨B, 5, none⟩) hlB).trans x5
      have x8' := (hb'.cell (p := ⟨B, 8, none⟩) hlB).trans x8
      have x9' := (hb'.cell (p := ⟨B, 9, none⟩) hlB).trans x9
      have x10' := (hb'.cell (p := ⟨B, 10, none⟩) hlB).trans x10
      unfold Oper.wp
      go_simp
      try go_bits
      exact hK _ _ (Below.refl _ _) (by first | rfl | (show Value.int _ _ = Value.int _ _; go_num; done) | (simp [valOf, *]; done) | (simp [valOf]; omega))
    · intro _ a' w' hb' hs hd hn Kc hK
      clear hs hd hn
      rw [if_pos rfl] at hK
      unfold Oper.wp
      go_simp
      exact hK _ _ ((Below.refl _ _).alloc (Nat.le_refl _) _) (Nat.le_refl _) (shapeT_new _ _ rfl)
    · intro _ a' w' hb' hs hd hn Kc hK
      obtain ⟨g, f3, hg, hsh⟩ := hn 3 (by first | rfl | decide | simp [Region.binds]) rfl rfl
      have f29 : a'.tmps[29]?.getD undef = .agg #[.int .i64 VK, .int .i64 VN] := hd 16 29 (by first | rfl | decide | simp [Region.binds]) rfl (by decide) (by decide) rfl
      rw [if_neg (by decide), if_pos rfl] at hK
      have hfin := hK g (.tuple #[]) (putsL g 0 [.int .i64 VK, .int .i64 VN] w') (fun d hd => by obtain rfl : 3 = d := Option.some.inj (Option.some.inj hd); exact f3) (putsL_below hg _ _ _) hg (hsh.full2 _ _) (fun g' h => shapeT_puts _ g' h) ⟨fun _ h => h, fun _ h => h, fun _ h => h, fun _ h => h, fun _ h => h, fun _ h => h, fun _ h => h, fun _ h => h, fun _ h => h, fun _ h => h, fun _ h => h, fun _ h => h, fun _ h => h, fun _ h => h, fun _ h => h, fun _ h => h, fun _ h => h, fun _ h => h, fun _ h => h, fun _ h => h, fun _ h => h, trivial⟩
      clear hs hd hn hK
      obtain ⟨x0, x1, h0, c0, c1, g0, g1⟩ := hsh.two
      simp only [putsL] at hfin
      unfold Oper.wp
      go_simp
      exact hfin
    · intro _ a' w' hb' hs hd hn Kc hK
      have f30 : a'.tmps[30]?.getD undef = .int .i64 0 := hd 17 30 (by first | rfl | decide | simp [Region.binds]) rfl (by decide) (by decide) rfl
      clear hs hd hn
      rw [if_neg (by decide), if_neg (by decide)] at hK
      have x4' := (hb'.cell (p := ⟨B, 4, none⟩) hlB).trans x4
      have x5' := (hb'.cell (p := ⟨B, 5, none⟩) hlB).trans x5
      have x8' := (hb'.cell (p := ⟨B, 8, none⟩) hlB).trans x8
      have x9' := (hb'.cell (p := ⟨B, 9, none⟩) hlB).trans x9
      have x10' := (hb'.cell (p := ⟨B, 10, none⟩) hlB).trans x10
      unfold Oper.wp
      go_simp
      try go_bits
      exact hK _ _ (Below.refl _ _) (by first | rfl | (show Value.int _ _ = Value.int _ _; go_num; done) | (simp [valOf, *]; done) | (simp [valOf]; omega))
  intro Xf g w' hX hb hv
  obtain ⟨hg, gX, hgp⟩ := hX (by decide)
  have q3 : Xf 3 = .pointer (some ⟨g, 0, none⟩) := hgp 3 rfl
  have q4 : Xf 4 = .int .i64 0 := hv 20 4 rfl rfl (by decide) (by decide)
  clear hX hv hgp
  simp only [List.map_cons, List.map_nil, q3, q4, puts, Act.put, Nat.reduceAdd, List.setIfInBounds_toArray, List.set_cons_succ, List.set_cons_zero]
  replace hI := hI w'.drew cg pg hb.drew (hgA.below hb.drew) (hgE.below hb.drew)
  have u0 := gX.cell 0
  have u1 := gX.cell 1
  simp only [List.getElem?_toArray, List.getElem?_cons_zero, List.getElem?_cons_succ] at u0 u1
  have lg := gX.lt
  replace x0 := (hb.cell (p := ⟨B, 0, none⟩) hlB).trans x0
  replace x1 := (hb.cell (p := ⟨B, 1, none⟩) hlB).trans x1
  replace hlB := Nat.lt_of_lt_of_le hlB hb.size
  clear x4 x5 x8 x9 x10 hFd hgA hgE gX
  generalize w' = w1 at *
  go_upto_region 4 with fail
  go_cut [] from 31 to 42 (fun wx => StV N B n k b T.h { m with g := ⟨m.g.r, T.n, T.z⟩, ov := m.ov || T.o } wx ∧ Aside (fun k => k = B) w wx ∧ w1.heap.size ≤ wx.heap.size)
  case first =>
    go_region_with (first
      | (go_at_call 43; refine Calls.mono hI ?_; rintro e w2 ⟨pr', cr', rfl, hZ2, hR2, hs2, hA2⟩; obtain ⟨_, _, _, _, _, _, _, _, _, _, g02, _, _⟩ := id hs2; obtain ⟨hlB2, y0, y1, -, -, -, -, -, -, -, -, -⟩ := st_cells g02; obtain ⟨f0, f1, -⟩ := st_frozen g02)
    )
    all_goals
      have s3 := hs2.setG hN hn32 hk0 hZ2 hR2
      have hA3 := aside_set (aside_set ((Aside.of (T := fun k => k = B) hb.drew).trans hA2) 0 (.int .i64 m.g.r)) 1 (.slice pr' T.n cr')
      have hsz := hA2.size
      go_wp2_with fail
      go_meet
      exact ⟨s3, hA3, by simpa [World.setCell] using hsz⟩
  obtain ⟨s3, hA3, hsz3⟩ := hcut
  clear hI u0 u1 lg x0 x1 hlB hsz3 hb
  clear hst
  generalize wc = w3 at *
  obtain ⟨p, c, q, d, pg, cg, pb, cb, pr, cr, g0, hh, hM⟩ := id s3
  obtain ⟨hlB, -, -, -, -, x4, x5, -, -, x8, x9, x10⟩ := st_cells g0
  obtain ⟨-, -, -, -, -, f5, -⟩ := st_frozen g0
  clear g0 hh hM
  have hwr : ∀ x : Int, 0 ≤ x → x < 32 → x + 1 < 9223372036854775808 := fun x _ h => by omega
  go_upto_region 6 with fail
  have s4 := s3.setF hN hn32 hk0 (m.fi + 1)
  have hA4 := aside_set hA3 5 (.int .i64 (m.fi + 1))
  clear x4 x5 x8 x9 x10 f5 hlB s3 hA3
  generalize w3.setCell ⟨B, 5, none⟩ (.int .i64 (m.fi + 1)) = w4 at *
  have hS4 := hS.aside hA4 hSB
  obtain ⟨p, c, q, d, pg, cg, pb, cb, pr, cr, g0, hh, hM⟩ := id s4
  obtain ⟨hlB, -, -, -, -, x4, x5, -, -, x8, x9, x10⟩ := st_cells g0
  dsimp only at x4 x5 x8 x9 x10
  have hGt := fun W (hW : Below w4.heap.size w4 W) => oget_in (a := m.ob) (hS4.below hW) (hh.below hW) hFh
  rw [hNN] at hGt
  generalize obB T.h m.ob = OB at hGt
  generalize obC T.h m.ob = OC at hGt
  generalize obK T.h m.ob = OK at hGt
  clear g0 hh hM
  refine wp_late (ds := [some 53, some 54, some 55, some 56, some 57, some 58, some 59, some 60, some 61, some 62, some 52, some 63, some 64, some 5, none, some 6]) (ts := [53, 54, 55, 56, 57, 58, 59, 60, 61, 62, 52, 63, 64, 5, 6]) (pv := [(fun v _ => v = .pointer (some ⟨B, 0, none⟩)), (fun v _ => v = .pointer (some ⟨B, 0, none⟩)), (fun v _ => v = .pointer (some ⟨B, 8, none⟩)), (fun v _ => v = .agg #[.slice p n c, .slice q k d, .bool b]), (fun v _ => v = .pointer (some ⟨B, 0, none⟩)), (fun v _ => v = .pointer (some ⟨B, 0, none⟩)), (fun v _ => v = .pointer (some ⟨B, 0, none⟩)), (fun v _ => v = .pointer (some ⟨B, 4, none⟩)), (fun v _ => v = .int .i64 m.ob), (fun v _ => v = .tuple #[.agg #[.bool OB, .bool OC, .int .i64 OK, .int .i64 NN], .bool OB]), (fun v _ => v = .tuple #[.agg #[.bool OB, .bool OC, .int .i64 OK, .int .i64 NN], .bool OB]), (fun v _ => v = .agg #[.bool OB, .bool OC, .int .i64 OK, .int .i64 NN]), (fun v _ => v = .bool OB), (fun _ _ => True), (fun _ _ => True), (fun v _ => v = .bool OB)]) (skip := fun i => ([] : List Nat).contains i) (ia := 13) (is := 14) (k := 65) (Shape := Shape4) (Full := (fun g w => Box4 g (.bool OB) (.bool OC) (.int .i64 OK) (.int .i64 NN) w)) (by kernel_rfl) (by kernel_rfl) rfl rfl (by decide) (by decide) (by simp) ?_ (by decide) shape4_below (fun _ _ _ h hb => h.below hb) ?_ ?_ ?_ ?_
  · exact .inr ⟨⟨_, rfl⟩, rfl, _, rfl, (by first | rfl | decide | simp [Region.binds]), by decide, rfl⟩
  · exact ⟨fun _ _ _ h _ => h, fun _ _ _ h _ => h, fun _ _ _ h _ => h, fun _ _ _ h _ => h, fun _ _ _ h _ => h, fun _ _ _ h _ => h, fun _ _ _ h _ => h, fun _ _ _ h _ => h, fun _ _ _ h _ => h, fun _ _ _ h _ => h, fun _ _ _ h _ => h, fun _ _ _ h _ => h, fun _ _ _ h _ => h, fun _ _ _ h _ => h, fun _ _ _ h _ => h, fun _ _ _ h _ => h, trivial⟩
  · exact ⟨rfl, rfl, rfl, rfl, rfl, rfl, rfl, rfl, rfl, rfl, rfl, rfl, rfl, rfl, rfl, rfl, trivial⟩
  · refine ⟨?_, ?_, ?_, ?_, ?_, ?_, ?_, ?_, ?_, ?_, ?_, ?_, ?_, ?_, ?_, ?_, trivial⟩
    · intro _ a' w' hb' hs hd hn Kc hK
      have f0 : a'.tmps[0]?.getD undef = .pointer (some ⟨B, 0, none⟩) := (hs 0 (by decide)).trans rfl
      clear hs hd hn
      rw [if_neg (by decide), if_neg (by decide)] at hK
      have x4' := (hb'.cell (p := ⟨B, 4, none⟩) hlB).trans x4
      have x8' := (hb'.cell (p := ⟨B, 8, none⟩) hlB).trans x8
      have x9' := (hb'.cell (p := ⟨B, 9, none⟩) hlB).trans x9
      have x10' := (hb'.cell (p := ⟨B, 10, none⟩) hlB).trans x10
      unfold Oper.wp
      go_simp
      try go_bits
      exact hK _ _ (Below.refl _ _) (by first | rfl | (show Value.int _ _ = Value.int _ _; go_num; done) | (simp [valOf, *]; done) | (simp [valOf]; omega))
    · intro _ a' w' hb' hs hd hn Kc hK
      have f53 : a'.tmps[53]?.getD undef = .pointer (some ⟨B, 0, none⟩) := hd 0 53 (by first | rfl | decide | simp [Region.binds]) rfl (by decide) (by decide) rfl
      clear hs hd hn
      rw [if_neg (by decide), if_neg (by decide)] at hK
      have x4' := (hb'.cell (p := ⟨B, 4, none⟩) hlB).trans x4
      have x8' := (hb'.cell (p := ⟨B, 8, none⟩) hlB).trans x8
      have x9' := (hb'.cell (p := ⟨B, 9, none⟩) hlB).trans x9
      have x10' := (hb'.cell (p := ⟨B, 10, none⟩) hlB).trans x10
      unfold Oper.wp
      go_simp
      try go_bits
      exact hK _ _ (Below.refl _ _) (by first | rfl | (show Value.int _ _ = Value.int _ _; go_num; done) | (simp [valOf, *]; done) | (simp [valOf]; omega))
    · intro _ a' w' hb' hs hd hn Kc hK
      have f54 : a'.tmps[54]?.getD undef = .pointer (some ⟨B, 0, none⟩) := hd 1 54 (by first | rfl | decide | simp [Region.binds]) rfl (by decide) (by decide) rfl
      clear hs hd hn
      rw [if_neg (by decide), if_neg (by decide)] at hK
      have x4' := (hb'.cell (p := ⟨B, 4, none⟩) hlB).trans x4
      have x8' := (hb'.cell (p := ⟨B, 8, none⟩) hlB).trans x8
      have x9' := (hb'.cell (p := ⟨B, 9, none⟩) hlB).trans x9
      have x10' := (hb'.cell (p := ⟨B, 10, none⟩) hlB).trans x10
      unfold Oper.wp
      go_simp
      try go_bits
      exact hK _ _ (Below.refl _ _) (by first | rfl | (show Value.int _ _ = Value.int _ _; go_num; done) | (simp [valOf, *]; done) | (simp [valOf]; omega))
    · intro _ a' w' hb' hs hd hn Kc hK
      have f55 : a'.tmps[55]?.getD undef = .pointer (some ⟨B, 8, none⟩) := hd 2 55 (by first | rfl | decide | simp [Region.binds]) rfl (by decide) (by decide) rfl
      clear hs hd hn
      rw [if_neg (by decide), if_neg (by decide)] at hK
      have x4' := (hb'.cell (p := ⟨B, 4, none⟩) hlB).trans x4
      have x8' := (hb'.cell (p := ⟨B, 8, none⟩) hlB).trans x8
      have x9' := (hb'.cell (p := ⟨B, 9, none⟩) hlB).trans x9
      have x10' := (hb'.cell (p := ⟨B, 10, none⟩) hlB).trans x10
      unfold Oper.wp
      go_simp
      try go_bits
      exact hK _ _ (Below.refl _ _) (by first | rfl | (show Value.int _ _ = Value.int _ _; go_num; done) | (simp [valOf, *]; done) | (simp [valOf]; omega))
    · intro _ a' w' hb' hs hd hn Kc hK
      have f0 : a'.tmps[0]?.getD undef = .pointer (some ⟨B, 0, none⟩) := (hs 0 (by decide)).trans rfl
      clear hs hd hn
      rw [if_neg (by decide), if_neg (by decide)] at hK
      have x4' := (hb'.cell (p := ⟨B, 4, none⟩) hlB).trans x4
      have x8' := (hb'.cell (p := ⟨B, 8, none⟩) hlB).trans x8
      have x9' := (hb'.cell (p := ⟨B, 9, none⟩) hlB).trans x9
      have x10' := (hb'.cell (p := ⟨B, 10, none⟩) hlB).trans x10
      unfold Oper.wp
      go_simp
      try go_bits
      exact hK _ _ (Below.refl _ _) (by first | rfl | (show Value.int _ _ = Value.int _ _; go_num; done) | (simp [valOf, *]; done) | (simp [valOf]; omega))
    · intro _ a' w' hb' hs hd hn Kc hK
      have f57 : a'.tmps[57]?.getD undef = .pointer (some ⟨B, 0, none⟩) := hd 4 57 (by first | rfl | decide | simp [Region.binds]) rfl (by decide) (by decide) rfl
      clear hs hd hn
      rw [if_neg (by decide), if_neg (by decide)] at hK
      have x4' := (hb'.cell (p := ⟨B, 4, none⟩) hlB).trans x4
      have x8' := (hb'.cell (p := ⟨B, 8, none⟩) hlB).trans x8
      have x9' := (hb'.cell (p := ⟨B, 9, none⟩) hlB).trans x9
      have x10' := (hb'.cell (p := ⟨B, 10, none⟩) hlB).trans x10
      unfold Oper.wp
      go_simp
      try go_bits
      exact hK _ _ (Below.refl _ _) (by first | rfl | (show Value.int _ _ = Value.int _ _; go_num; done) | (simp [valOf, *]; done) | (simp [valOf]; omega))
    · intro _ a' w' hb' hs hd hn Kc hK
      have f58 : a'.tmps[58]?.getD undef = .pointer (some ⟨B, 0, none⟩) := hd 5 58 (by first | rfl | decide | simp [Region.binds]) rfl (by decide) (by decide) rfl
      clear hs hd hn
      rw [if_neg (by decide), if_neg (by decide)] at hK
      have x4' := (hb'.cell (p := ⟨B, 4, none⟩) hlB).trans x4
      have x8' := (hb'.cell (p := ⟨B, 8, none⟩) hlB).trans x8
      have x9' := (hb'.cell (p := ⟨B, 9, none⟩) hlB).trans x9
      have x10' := (hb'.cell (p := ⟨B, 10, none⟩) hlB).trans x10
      unfold Oper.wp
      go_simp
      try go_bits
      exact hK _ _ (Below.refl _ _) (by first | rfl | (show Value.int _ _ = Value.int _ _; go_num; done) | (simp [valOf, *]; done) | (simp [valOf]; omega))
    · intro _ a' w' hb' hs hd hn Kc hK
      have f59 : a'.tmps[59]?.getD undef = .pointer (some ⟨B, 0, none⟩) := hd 6 59 (by first | rfl | decide | simp [Region.binds]) rfl (by decide) (by decide) rfl
      clear hs hd hn
      rw [if_neg (by decide), if_neg (by decide)] at hK
      have x4' := (hb'.cell (p := ⟨B, 4, none⟩) hlB).trans x4
      have x8' := (hb'.cell (p := ⟨B, 8, none⟩) hlB).trans x8
      have x9' := (hb'.cell (p := ⟨B, 9, none⟩) hlB).trans x9
      have x10' := (hb'.cell (p := ⟨B, 10, none⟩) hlB).trans x10
      unfold Oper.wp
      go_simp
      try go_bits
      exact hK _ _ (Below.refl _ _) (by first | rfl | (show Value.int _ _ = Value.int _ _; go_num; done) | (simp [valOf, *]; done) | (simp [valOf]; omega))
    · intro _ a' w' hb' hs hd hn Kc hK
      have f60 : a'.tmps[60]?.getD undef = .pointer (some ⟨B, 4, none⟩) := hd 7 60 (by first | rfl | decide | simp [Region.binds]) rfl (by decide) (by decide) rfl
      clear hs hd hn
      rw [if_neg (by decide), if_neg (by decide)] at hK
      have x4' := (hb'.cell (p := ⟨B, 4, none⟩) hlB).trans x4
      have x8' := (hb'.cell (p := ⟨B, 8, none⟩) hlB).trans x8
      have x9' := (hb'.cell (p := ⟨B, 9, none⟩) hlB).trans x9
      have x10' := (hb'.cell (p := ⟨B, 10, none⟩) hlB).trans x10
      unfold Oper.wp
      go_simp
      try go_bits
      exact hK _ _ (Below.refl _ _) (by first | rfl | (show Value.int _ _ = Value.int _ _; go_num; done) | (simp [valOf, *]; done) | (simp [valOf]; omega))
    · intro _ a' w' hb' hs hd hn Kc hK
      have f56 : a'.tmps[56]?.getD undef = .agg #[.slice p n c, .slice q k d, .bool b] := hd 3 56 (by first | rfl | decide | simp [Region.binds]) rfl (by decide) (by decide) rfl
      have f61 : a'.tmps[61]?.getD undef = .int .i64 m.ob := hd 8 61 (by first | rfl | decide | simp [Region.binds]) rfl (by decide) (by decide) rfl
      clear hs hd hn
      rw [if_neg (by decide), if_neg (by decide)] at hK
      have x4' := (hb'.cell (p := ⟨B, 4, none⟩) hlB).trans x4
      have x8' := (hb'.cell (p := ⟨B, 8, none⟩) hlB).trans x8
      have x9' := (hb'.cell (p := ⟨B, 9, none⟩) hlB).trans x9
      have x10' := (hb'.cell (p := ⟨B, 10, none⟩) hlB).trans x10
      unfold Oper.wp
      go_simp
      try go_bits
      refine Calls.mono (hGt w' hb') ?_
      rintro e w'' ⟨rfl, hb2⟩
      exact hK _ _ hb2 rfl
    · intro _ a' w' hb' hs hd hn Kc hK
      have f62 : a'.tmps[62]?.getD undef = .tuple #[.agg #[.bool OB, .bool OC, .int .i64 OK, .int .i64 NN], .bool OB] := hd 9 62 (by first | rfl | decide | simp [Region.binds]) rfl (by decide) (by decide) rfl
      clear hs hd hn
      rw [if_neg (by decide), if_neg (by decide)] at hK
      have x4' := (hb'.cell (p := ⟨B, 4, none⟩) hlB).trans x4
      have x8' := (hb'.cell (p := ⟨B, 8, none⟩) hlB).trans x8
      have x9' := (hb'.cell (p := ⟨B, 9, none⟩) hlB).trans x9
      have x10' := (hb'.cell (p := ⟨B, 10, none⟩) hlB).trans x10
      unfold Oper.wp
      go_simp
      try go_bits
      exact hK _ _ (Below.refl _ _) (by first | rfl | (show Value.int _ _ = Value.int _ _; go_num; done) | (simp [valOf, *]; done) | (simp [valOf]; omega))
    · intro _ a' w' hb' hs hd hn Kc hK
      have f52 : a'.tmps[52]?.getD undef = .tuple #[.agg #[.bool OB, .bool OC, .int .i64 OK, .int .i64 NN], .bool OB] := hd 10 52 (by first | rfl | decide | simp [Region.binds]) rfl (by decide) (by decide) rfl
      clear hs hd hn
      rw [if_neg (by decide), if_neg (by decide)] at hK
      have x4' := (hb'.cell (p := ⟨B, 4, none⟩) hlB).trans x4
      have x8' := (hb'.cell (p := ⟨B, 8, none⟩) hlB).trans x8
      have x9' := (hb'.cell (p := ⟨B, 9, none⟩) hlB).trans x9
      have x10' := (hb'.cell (p := ⟨B, 10, none⟩) hlB).trans x10
      unfold Oper.wp
      go_simp
      try go_bits
      exact hK _ _ (Below.refl _ _) (by first | rfl | (show Value.int _ _ = Value.int _ _; go_num; done) | (simp [valOf, *]; done) | (simp [valOf]; omega))
    · intro _ a' w' hb' hs hd hn Kc hK
      have f52 : a'.tmps[52]?.getD undef = .tuple #[.agg #[.bool OB, .bool OC, .int .i64 OK, .int .i64 NN], .bool OB] := hd 10 52 (by first | rfl | decide | simp [Region.binds]) rfl (by decide) (by decide) rfl
      clear hs hd hn
      rw [if_neg (by decide), if_neg (by decide)] at hK
      have x4' := (hb'.cell (p := ⟨B, 4, none⟩) hlB).trans x4
      have x8' := (hb'.cell (p := ⟨B, 8, none⟩) hlB).trans x8
      have x9' := (hb'.cell (p := ⟨B, 9, none⟩) hlB).trans x9
      have x10' := (hb'.cell (p := ⟨B, 10, none⟩) hlB).trans x10
      unfold Oper.wp
      go_simp
      try go_bits
      exact hK _ _ (Below.refl _ _) (by first | rfl | (show Value.int _ _ = Value.int _ _; go_num; done) | (simp [valOf, *]; done) | (simp [valOf]; omega))
    · intro _ a' w' hb' hs hd hn Kc hK
      clear hs hd hn
      rw [if_pos rfl] at hK
      unfold Oper.wp
      go_simp
      exact hK _ _ ((Below.refl _ _).alloc (Nat.le_refl _) _) (Nat.le_refl _) ⟨_, _, _, _, Box4.new _ _ _ _ _ _⟩
    · intro _ a' w' hb' hs hd hn Kc hK
      obtain ⟨g, f5, hg, hsh⟩ := hn 5 (by first | rfl | decide | simp [Region.binds]) rfl rfl
      have f63 : a'.tmps[63]?.getD undef = .agg #[.bool OB, .bool OC, .int .i64 OK, .int .i64 NN] := hd 11 63 (by first | rfl | decide | simp [Region.binds]) rfl (by decide) (by decide) rfl
      obtain ⟨x0, x1, x2, x3, h3⟩ := id hsh
      rw [if_neg (by decide), if_pos rfl] at hK
      have hfin := hK g (.tuple #[]) (puts4 g (.bool OB) (.bool OC) (.int .i64 OK) (.int .i64 NN) w') (fun d hd => by obtain rfl : 5 = d := Option.some.inj (Option.some.inj hd); exact f5) (puts4_below hg _ _ _ _ w') hg (h3.put (.bool OB) (.bool OC) (.int .i64 OK) (.int .i64 NN)) (shape4_puts h3 (.bool OB) (.bool OC) (.int .i64 OK) (.int .i64 NN)) ⟨fun _ h => h, fun _ h => h, fun _ h => h, fun _ h => h, fun _ h => h, fun _ h => h, fun _ h => h, fun _ h => h, fun _ h => h, fun _ h => h, fun _ h => h, fun _ h => h, fun _ h => h, fun _ h => h, fun _ h => h, fun _ h => h, trivial⟩
      clear hs hd hn hK
      obtain ⟨h0, c0, c1, c2, c3, g0, g1, g2, g3⟩ := h3
      unfold puts4 at hfin
      unfold Oper.wp
      go_simp
      exact hfin
    · intro _ a' w' hb' hs hd hn Kc hK
      have f64 : a'.tmps[64]?.getD undef = .bool OB := hd 12 64 (by first | rfl | decide | simp [Region.binds]) rfl (by decide) (by decide) rfl
      clear hs hd hn
      rw [if_neg (by decide), if_neg (by decide)] at hK
      have x4' := (hb'.cell (p := ⟨B, 4, none⟩) hlB).trans x4
      have x8' := (hb'.cell (p := ⟨B, 8, none⟩) hlB).trans x8
      have x9' := (hb'.cell (p := ⟨B, 9, none⟩) hlB).trans x9
      have x10' := (hb'.cell (p := ⟨B, 10, none⟩) hlB).trans x10
      unfold Oper.wp
      go_simp
      try go_bits
      exact hK _ _ (Below.refl _ _) (by first | rfl | (show Value.int _ _ = Value.int _ _; go_num; done) | (simp [valOf, *]; done) | (simp [valOf]; omega))
  intro Xf g w' hX hb hv
  obtain ⟨hg, gX, hgp⟩ := hX (by decide)
  have q5 : Xf 5 = .pointer (some ⟨g, 0, none⟩) := hgp 5 rfl
  have q6 : Xf 6 = .bool OB := hv 15 6 rfl rfl (by decide) (by decide)
  clear hX hv hgp
  simp only [List.map_cons, List.map_nil, q5, q6, puts, Act.put, Nat.reduceAdd, List.setIfInBounds_toArray, List.set_cons_succ, List.set_cons_zero]
  replace s4 := s4.below hb
  replace hA4 := hA4.trans (Aside.of hb)
  obtain ⟨lX, -, -, -, v3, -⟩ := gX
  clear x4 x5 x8 x9 x10 hGt hlB hb hwr hS4
  generalize w' = w5 at *
  obtain ⟨p, c, q, d, pg, cg, pb, cb, pr, cr, g0, hh, hM⟩ := id s4
  obtain ⟨hlB, -, -, -, -, x4, x5, -, -, -, -, -⟩ := st_cells g0
  obtain ⟨-, -, -, -, f4, f5, -⟩ := st_frozen g0
  dsimp only at x4 x5
  clear g0 hh hM
  have hdr : ∀ W : World, Below W.heap.size W W.drew := fun W => (Below.refl _ _).drew
  by_cases hcmp : m.fi + 1 = NN
  · have hcmp' : Hid (m.fi + 1 = NN) := hcmp
    have s5 := s4.setOF hN hn32 hk0 (-1) 0
    have hA5 := aside_set (aside_set hA4 4 (.int .i64 (-1))) 5 (.int .i64 0)
    have hge : NN ≤ m.fi + 1 := by omega
    clear hcmp s4 hA4
    go_upto_region 7 with fail
    go_region
    go_wp2
    go_returns
    exact ⟨rfl, by first | exact s5.below (hdr _) | (rw [if_pos hcmp'.out]; exact s5.below (hdr _)), hA5.trans (Aside.of (hdr _))⟩
  · have hcmp' : Hid (¬ m.fi + 1 = NN) := hcmp
    have hge : ¬ NN ≤ m.fi + 1 := by omega
    clear hcmp
    go_upto_region 7 with fail
    go_region
    go_wp2
    go_returns
    exact ⟨rfl, by first | exact s4.below (hdr _) | (rw [if_neg hcmp'.out]; exact s4.below (hdr _)), hA4.trans (Aside.of (hdr _))⟩
end Go.Proofs.YtiofeebiejkajaaDoor
