/- Contracts of the reference's mutators (chapter 18): Sames, Copied. -/
import Derived.Test.YtmbgodncagjncaaDoorB51
import Derived.Test.YtmbgodncagjncaaDoorB07
namespace Go.Proofs.YtmbgodncagjncaaDoor
set_option linter.unusedSimpArgs false
set_option linter.unusedVariables false
open Go.ChangeShapes Go.WideShapes Go.ChangeAt Go.RowKit Go.Joins

set_option maxRecDepth 20000 in
set_option maxHeartbeats 8000000 in
theorem rsames18_self (n : Nat) (z : Nat → Mu) (p : Option Addr) (c : Nat) (p' : Option Addr) (c' : Nat) (w : World) (hz : RAt MuC 13 w p c n z) (hz' : RAt MuC 13 w p' c' n z) :
    Calls Tryd.prog 18 #[.slice p n c, .slice p' n c'] w fun e w' => e = .returned (.bool true) ∧ Below w.heap.size w w' := by
  have hnl := hz.nle
  simp only [maxLen] at hnl
  go_enter Tryd.func18, Tryd.ntmps18
  go_wp2
  go_loopg [5] n (fun g iv wr => ∃ j : Nat, j ≤ n ∧ g = n - j ∧ iv = .int .i64 j ∧ Below w.heap.size w wr)
  case atStart => exact ⟨0, by omega, by omega, rfl, Below.refl _ _⟩
  case round =>
    obtain ⟨j, jh, rfl, rfl, hbw⟩ := hrel
    by_cases hj : j < n
    · obtain ⟨b1, o1, ps, cs, rfl, lx, hc1, hv1, -⟩ := (hz.below muC_below hbw).mu hj
      obtain ⟨b2, o2, qs, ds, rfl, ly, hc2, hv2, -⟩ := (hz'.below muC_below hbw).mu hj
      have hSm : ∀ W, Below wr.heap.size wr W → _ := fun W hW => rsame18_self (z j) ps cs qs ds W (hv1.below hW) (hv2.below hW)
      clear hv1 hv2
      generalize z j = m at *
      obtain ⟨k, st, s, ok, oa, ob, oc, o, ⟨vk, vn⟩, c0, c1, c2, c3⟩ := m
      dsimp only [Mu.cells] at *
      have x0 := hc1 0 _ rfl
      have x1 := hc1 1 _ rfl
      have x2 := hc1 2 _ rfl
      have x3 := hc1 3 _ rfl
      have x4 := hc1 4 _ rfl
      have x5 := hc1 5 _ rfl
      have x6 := hc1 6 _ rfl
      have x7 := hc1 7 _ rfl
      have x8 := hc1 8 _ rfl
      have x9 := hc1 9 _ rfl
      have x10 := hc1 10 _ rfl
      have x11 := hc1 11 _ rfl
      have x12 := hc1 12 _ rfl
      have y0 := hc2 0 _ rfl
      have y1 := hc2 1 _ rfl
      have y2 := hc2 2 _ rfl
      have y3 := hc2 3 _ rfl
      have y4 := hc2 4 _ rfl
      have y5 := hc2 5 _ rfl
      have y6 := hc2 6 _ rfl
      have y7 := hc2 7 _ rfl
      have y8 := hc2 8 _ rfl
      have y9 := hc2 9 _ rfl
      have y10 := hc2 10 _ rfl
      have y11 := hc2 11 _ rfl
      have y12 := hc2 12 _ rfl
      rw [Nat.add_zero] at x0 y0
      clear hc1 hc2
      go_upto_region 6 with fail
      refine wp_late (ds := [some 17, some 18, some 19, some 20, some 21, some 22, some 23, some 24, some 25, some 26]) (ts := [17, 18, 19, 20, 21, 22, 23, 24, 25, 26]) (pv := [(fun v _ => v = .slice (some ⟨b1, o1, none⟩) n c), (fun v _ => v = .int .i64 (j : Int)), (fun v _ => v = .pointer (some ⟨b1, o1 + j * 13, none⟩)), (fun v _ => v = .agg #[.slice ps k cs, .int .i64 s, .int .i64 ok, .int .i64 oa, .int .i64 ob, .int .i64 oc, .int .i64 o, .int .i64 vk, .int .i64 vn, .int .i64 c0, .int .i64 c1, .int .i64 c2, .int .i64 c3]), (fun v _ => v = .slice (some ⟨b2, o2, none⟩) n c'), (fun v _ => v = .int .i64 (j : Int)), (fun v _ => v = .pointer (some ⟨b2, o2 + j * 13, none⟩)), (fun v _ => v = .agg #[.slice qs k ds, .int .i64 s, .int .i64 ok, .int .i64 oa, .int .i64 ob, .int .i64 oc, .int .i64 o, .int .i64 vk, .int .i64 vn, .int .i64 c0, .int .i64 c1, .int .i64 c2, .int .i64 c3]), (fun v _ => v = .bool true), (fun v _ => v = .bool false)]) (skip := fun i => ([] : List Nat).contains i) (ia := 1000) (is := 1000) (k := 27) (Shape := (fun _ _ => True)) (Full := (fun _ _ => True)) (by kernel_rfl) (by kernel_rfl) rfl rfl (by decide) (by decide) (by simp) ?_ (by decide) (fun _ _ _ _ _ => trivial) (fun _ _ _ _ _ => trivial) ?_ ?_ ?_ ?_
      · exact .inl rfl
      · exact ⟨fun _ _ _ h _ => h, fun _ _ _ h _ => h, fun _ _ _ h _ => h, fun _ _ _ h _ => h, fun _ _ _ h _ => h, fun _ _ _ h _ => h, fun _ _ _ h _ => h, fun _ _ _ h _ => h, fun _ _ _ h _ => h, fun _ _ _ h _ => h, trivial⟩
      · exact ⟨rfl, rfl, rfl, rfl, rfl, rfl, rfl, rfl, rfl, rfl, trivial⟩
      · refine ⟨?_, ?_, ?_, ?_, ?_, ?_, ?_, ?_, ?_, ?_, trivial⟩
        · intro _ a' w' hb' hs hd hn Kc hK
          have f0 : a'.tmps[0]?.getD undef = .slice (some ⟨b1, o1, none⟩) n c := (hs 0 (by decide)).trans rfl
          clear hs hd hn
          rw [if_neg (by decide), if_neg (by decide)] at hK
          have lx' := Nat.lt_of_lt_of_le lx hb'.size
          have ly' := Nat.lt_of_lt_of_le ly hb'.size
          have x0' := (hb'.cell (p := ⟨b1, o1 + j * 13, none⟩) lx).trans x0
          have x1' := (hb'.cell (p := ⟨b1, o1 + j * 13 + 1, none⟩) lx).trans x1
          have x2' := (hb'.cell (p := ⟨b1, o1 + j * 13 + 2, none⟩) lx).trans x2
          have x3' := (hb'.cell (p := ⟨b1, o1 + j * 13 + 3, none⟩) lx).trans x3
          have x4' := (hb'.cell (p := ⟨b1, o1 + j * 13 + 4, none⟩) lx).trans x4
          have x5' := (hb'.cell (p := ⟨b1, o1 + j * 13 + 5, none⟩) lx).trans x5
          have x6' := (hb'.cell (p := ⟨b1, o1 + j * 13 + 6, none⟩) lx).trans x6
          have x7' := (hb'.cell (p := ⟨b1, o1 + j * 13 + 7, none⟩) lx).trans x7
          have x8' := (hb'.cell (p := ⟨b1, o1 + j * 13 + 8, none⟩) lx).trans x8
          have x9' := (hb'.cell (p := ⟨b1, o1 + j * 13 + 9, none⟩) lx).trans x9
          have x10' := (hb'.cell (p := ⟨b1, o1 + j * 13 + 10, none⟩) lx).trans x10
          have x11' := (hb'.cell (p := ⟨b1, o1 + j * 13 + 11, none⟩) lx).trans x11
          have x12' := (hb'.cell (p := ⟨b1, o1 + j * 13 + 12, none⟩) lx).trans x12
          have y0' := (hb'.cell (p := ⟨b2, o2 + j * 13, none⟩) ly).trans y0
          have y1' := (hb'.cell (p := ⟨b2, o2 + j * 13 + 1, none⟩) ly).trans y1
          have y2' := (hb'.cell (p := ⟨b2, o2 + j * 13 + 2, none⟩) ly).trans y2
          have y3' := (hb'.cell (p := ⟨b2, o2 + j * 13 + 3, none⟩) ly).trans y3
          have y4' := (hb'.cell (p := ⟨b2, o2 + j * 13 + 4, none⟩) ly).trans y4
          have y5' := (hb'.cell (p := ⟨b2, o2 + j * 13 + 5, none⟩) ly).trans y5
          have y6' := (hb'.cell (p := ⟨b2, o2 + j * 13 + 6, none⟩) ly).trans y6
          have y7' := (hb'.cell (p := ⟨b2, o2 + j * 13 + 7, none⟩) ly).trans y7
          have y8' := (hb'.cell (p := ⟨b2, o2 + j * 13 + 8, none⟩) ly).trans y8
          have y9' := (hb'.cell (p := ⟨b2, o2 + j * 13 + 9, none⟩) ly).trans y9
          have y10' := (hb'.cell (p := ⟨b2, o2 + j * 13 + 10, none⟩) ly).trans y10
          have y11' := (hb'.cell (p := ⟨b2, o2 + j * 13 + 11, none⟩) ly).trans y11
          have y12' := (hb'.cell (p := ⟨b2, o2 + j * 13 + 12, none⟩) ly).trans y12
          unfold Oper.wp
          go_simp
          try go_bits
          exact hK _ _ (Below.refl _ _) (by first | rfl | (show Value.int _ _ = Value.int _ _; go_num; done) | (simp [valOf, *]; done) | (simp [valOf]; omega))
        · intro _ a' w' hb' hs hd hn Kc hK
          have f5 : a'.tmps[5]?.getD undef = .int .i64 (j : Int) := (hs 5 (by decide)).trans rfl
          clear hs hd hn
          rw [if_neg (by decide), if_neg (by decide)] at hK
          have lx' := Nat.lt_of_lt_of_le lx hb'.size
          have ly' := Nat.lt_of_lt_of_le ly hb'.size
          have x0' := (hb'.cell (p := ⟨b1, o1 + j * 13, none⟩) lx).trans x0
          have x1' := (hb'.cell (p := ⟨b1, o1 + j * 13 + 1, none⟩) lx).trans x1
          have x2' := (hb'.cell (p := ⟨b1, o1 + j * 13 + 2, none⟩) lx).trans x2
          have x3' := (hb'.cell (p := ⟨b1, o1 + j * 13 + 3, none⟩) lx).trans x3
          have x4' := (hb'.cell (p := ⟨b1, o1 + j * 13 + 4, none⟩) lx).trans x4
          have x5' := (hb'.cell (p := ⟨b1, o1 + j * 13 + 5, none⟩) lx).trans x5
          have x6' := (hb'.cell (p := ⟨b1, o1 + j * 13 + 6, none⟩) lx).trans x6
          have x7' := (hb'.cell (p := ⟨b1, o1 + j * 13 + 7, none⟩) lx).trans x7
          have x8' := (hb'.cell (p := ⟨b1, o1 + j * 13 + 8, none⟩) lx).trans x8
          have x9' := (hb'.cell (p := ⟨b1, o1 + j * 13 + 9, none⟩) lx).trans x9
          have x10' := (hb'.cell (p := ⟨b1, o1 + j * 13 + 10, none⟩) lx).trans x10
          have x11' := (hb'.cell (p := ⟨b1, o1 + j * 13 + 11, none⟩) lx).trans x11
          have x12' := (hb'.cell (p := ⟨b1, o1 + j * 13 + 12, none⟩) lx).trans x12
          have y0' := (hb'.cell (p := ⟨b2, o2 + j * 13, none⟩) ly).trans y0
          have y1' := (hb'.cell (p := ⟨b2, o2 + j * 13 + 1, none⟩) ly).trans y1
          have y2' := (hb'.cell (p := ⟨b2, o2 + j * 13 + 2, none⟩) ly).trans y2
          have y3' := (hb'.cell (p := ⟨b2, o2 + j * 13 + 3, none⟩) ly).trans y3
          have y4' := (hb'.cell (p := ⟨b2, o2 + j * 13 + 4, none⟩) ly).trans y4
          have y5' := (hb'.cell (p := ⟨b2, o2 + j * 13 + 5, none⟩) ly).trans y5
          have y6' := (hb'.cell (p := ⟨b2, o2 + j * 13 + 6, none⟩) ly).trans y6
          have y7' := (hb'.cell (p := ⟨b2, o2 + j * 13 + 7, none⟩) ly).trans y7
          have y8' := (hb'.cell (p := ⟨b2, o2 + j * 13 + 8, none⟩) ly).trans y8
          have y9' := (hb'.cell (p := ⟨b2, o2 + j * 13 + 9, none⟩) ly).trans y9
          have y10' := (hb'.cell (p := ⟨b2, o2 + j * 13 + 10, none⟩) ly).trans y10
          have y11' := (hb'.cell (p := ⟨b2, o2 + j * 13 + 11, none⟩) ly).trans y11
          have y12' := (hb'.cell (p := ⟨b2, o2 + j * 13 + 12, none⟩) ly).trans y12
          unfold Oper.wp
          go_simp
          try go_bits
          exact hK _ _ (Below.refl _ _) (by first | rfl | (show Value.int _ _ = Value.int _ _; go_num; done) | (simp [valOf, *]; done) | (simp [valOf]; omega))
        · intro _ a' w' hb' hs hd hn Kc hK
          have f17 : a'.tmps[17]?.getD undef = .slice (some ⟨b1, o1, none⟩) n c := hd 0 17 (by first | rfl | decide | simp [Region.binds]) rfl (by decide) (by decide) rfl
          have f18 : a'.tmps[18]?.getD undef = .int .i64 (j : Int) := hd 1 18 (by first | rfl | decide | simp [Region.binds]) rfl (by decide) (by decide) rfl
          clear hs hd hn
          rw [if_neg (by decide), if_neg (by decide)] at hK
          have lx' := Nat.lt_of_lt_of_le lx hb'.size
          have ly' := Nat.lt_of_lt_of_le ly hb'.size
          have x0' := (hb'.cell (p := ⟨b1, o1 + j * 13, none⟩) lx).trans x0
          have x1' := (hb'.cell (p := ⟨b1, o1 + j * 13 + 1, none⟩) lx).trans x1
          have x2' := (hb'.cell (p := ⟨b1, o1 + j * 13 + 2, none⟩) lx).trans x2
          have x3' := (hb'.cell (p := ⟨b1, o1 + j * 13 + 3, none⟩) lx).trans x3
          have x4' := (hb'.cell (p := ⟨b1, o1 + j * 13 + 4, none⟩) lx).trans x4
          have x5' := (hb'.cell (p := ⟨b1, o1 + j * 13 + 5, none⟩) lx).trans x5
          have x6' := (hb'.cell (p := ⟨b1, o1 + j * 13 + 6, none⟩) lx).trans x6
          have x7' := (hb'.cell (p := ⟨b1, o1 + j * 13 + 7, none⟩) lx).trans x7
          have x8' := (hb'.cell (p := ⟨b1, o1 + j * 13 + 8, none⟩) lx).trans x8
          have x9' := (hb'.cell (p := ⟨b1, o1 + j * 13 + 9, none⟩) lx).trans x9
          have x10' := (hb'.cell (p := ⟨b1, o1 + j * 13 + 10, none⟩) lx).trans x10
          have x11' := (hb'.cell (p := ⟨b1, o1 + j * 13 + 11, none⟩) lx).trans x11
          have x12' := (hb'.cell (p := ⟨b1, o1 + j * 13 + 12, none⟩) lx).trans x12
          have y0' := (hb'.cell (p := ⟨b2, o2 + j * 13, none⟩) ly).trans y0
          have y1' := (hb'.cell (p := ⟨b2, o2 + j * 13 + 1, none⟩) ly).trans y1
          have y2' := (hb'.cell (p := ⟨b2, o2 + j * 13 + 2, none⟩) ly).trans y2
          have y3' := (hb'.cell (p := ⟨b2, o2 + j * 13 + 3, none⟩) ly).trans y3
          have y4' := (hb'.cell (p := ⟨b2, o2 + j * 13 + 4, none⟩) ly).trans y4
          have y5' := (hb'.cell (p := ⟨b2, o2 + j * 13 + 5, none⟩) ly).trans y5
          have y6' := (hb'.cell (p := ⟨b2, o2 + j * 13 + 6, none⟩) ly).trans y6
          have y7' := (hb'.cell (p := ⟨b2, o2 + j * 13 + 7, none⟩) ly).trans y7
          have y8' := (hb'.cell (p := ⟨b2, o2 + j * 13 + 8, none⟩) ly).trans y8
          have y9' := (hb'.cell (p := ⟨b2, o2 + j * 13 + 9, none⟩) ly).trans y9
          have y10' := (hb'.cell (p := ⟨b2, o2 + j * 13 + 10, none⟩) ly).trans y10
          have y11' := (hb'.cell (p := ⟨b2, o2 + j * 13 + 11, none⟩) ly).trans y11
          have y12' := (hb'.cell (p := ⟨b2, o2 + j * 13 + 12, none⟩) ly).trans y12
          unfold Oper.wp
          go_simp
          try go_bits
          exact hK _ _ (Below.refl _ _) (by first | rfl | (show Value.int _ _ = Value.int _ _; go_num; done) | (simp [valOf, *]; done) | (simp [valOf]; omega))
        · intro _ a' w' hb' hs hd hn Kc hK
          have f19 : a'.tmps[19]?.getD undef = .pointer (some ⟨b1, o1 + j * 13, none⟩) := hd 2 19 (by first | rfl | decide | simp [Region.binds]) rfl (by decide) (by decide) rfl
          clear hs hd hn
          rw [if_neg (by decide), if_neg (by decide)] at hK
          have lx' := Nat.lt_of_lt_of_le lx hb'.size
          have ly' := Nat.lt_of_lt_of_le ly hb'.size
          have x0' := (hb'.cell (p := ⟨b1, o1 + j * 13, none⟩) lx).trans x0
          have x1' := (hb'.cell (p := ⟨b1, o1 + j * 13 + 1, none⟩) lx).trans x1
          have x2' := (hb'.cell (p := ⟨b1, o1 + j * 13 + 2, none⟩) lx).trans x2
          have x3' := (hb'.cell (p := ⟨b1, o1 + j * 13 + 3, none⟩) lx).trans x3
          have x4' := (hb'.cell (p := ⟨b1, o1 + j * 13 + 4, none⟩) lx).trans x4
          have x5' := (hb'.cell (p := ⟨b1, o1 + j * 13 + 5, none⟩) lx).trans x5
          have x6' := (hb'.cell (p := ⟨b1, o1 + j * 13 + 6, none⟩) lx).trans x6
          have x7' := (hb'.cell (p := ⟨b1, o1 + j * 13 + 7, none⟩) lx).trans x7
          have x8' := (hb'.cell (p := ⟨b1, o1 + j * 13 + 8, none⟩) lx).trans x8
          have x9' := (hb'.cell (p := ⟨b1, o1 + j * 13 + 9, none⟩) lx).trans x9
          have x10' := (hb'.cell (p := ⟨b1, o1 + j * 13 + 10, none⟩) lx).trans x10
          have x11' := (hb'.cell (p := ⟨b1, o1 + j * 13 + 11, none⟩) lx).trans x11
          have x12' := (hb'.cell (p := ⟨b1, o1 + j * 13 + 12, none⟩) lx).trans x12
          have y0' := (hb'.cell (p := ⟨b2, o2 + j * 13, none⟩) ly).trans y0
          have y1' := (hb'.cell (p := ⟨b2, o2 + j * 13 + 1, none⟩) ly).trans y1
          have y2' := (hb'.cell (p := ⟨b2, o2 + j * 13 + 2, none⟩) ly).trans y2
          have y3' := (hb'.cell (p := ⟨b2, o2 + j * 13 + 3, none⟩) ly).trans y3
          have y4' := (hb'.cell (p := ⟨b2, o2 + j * 13 + 4, none⟩) ly).trans y4
          have y5' := (hb'.cell (p := ⟨b2, o2 + j * 13 + 5, none⟩) ly).trans y5
          have y6' := (hb'.cell (p := ⟨b2, o2 + j * 13 + 6, none⟩) ly).trans y6
          have y7' := (hb'.cell (p := ⟨b2, o2 + j * 13 + 7, none⟩) ly).trans y7
          have y8' := (hb'.cell (p := ⟨b2, o2 + j * 13 + 8, none⟩) ly).trans y8
          have y9' := (hb'.cell (p := ⟨b2, o2 + j * 13 + 9, none⟩) ly).trans y9
          have y10' := (hb'.cell (p := ⟨b2, o2 + j * 13 + 10, none⟩) ly).trans y10
          have y11' := (hb'.cell (p := ⟨b2, o2 + j * 13 + 11, none⟩) ly).trans y11
          have y12' := (hb'.cell (p := ⟨b2, o2 + j * 13 + 12, none⟩) ly).trans y12
          unfold Oper.wp
          go_simp
          try go_bits
          exact hK _ _ (Below.refl _ _) (by first | rfl | (show Value.int _ _ = Value.int _ _; go_num; done) | (simp [valOf, *]; done) | (simp [valOf]; omega))
        · intro _ a' w' hb' hs hd hn Kc hK
          have f1 : a'.tmps[1]?.getD undef = .slice (some ⟨b2, o2, none⟩) n c' := (hs 1 (by decide)).trans rfl
          clear hs hd hn
          rw [if_neg (by decide), if_neg (by decide)] at hK
          have lx' := Nat.lt_of_lt_of_le lx hb'.size
          have ly' := Nat.lt_of_lt_of_le ly hb'.size
          have x0' := (hb'.cell (p := ⟨b1, o1 + j * 13, none⟩) lx).trans x0
          have x1' := (hb'.cell (p := ⟨b1, o1 + j * 13 + 1, none⟩) lx).trans x1
          have x2' := (hb'.cell (p := ⟨b1, o1 + j * 13 + 2, none⟩) lx).trans x2
          have x3' := (hb'.cell (p := ⟨b1, o1 + j * 13 + 3, none⟩) lx).trans x3
          have x4' := (hb'.cell (p := ⟨b1, o1 + j * 13 + 4, none⟩) lx).trans x4
          have x5' := (hb'.cell (p := ⟨b1, o1 + j * 13 + 5, none⟩) lx).trans x5
          have x6' := (hb'.cell (p := ⟨b1, o1 + j * 13 + 6, none⟩) lx).trans x6
          have x7' := (hb'.cell (p := ⟨b1, o1 + j * 13 + 7, none⟩) lx).trans x7
          have x8' := (hb'.cell (p := ⟨b1, o1 + j * 13 + 8, none⟩) lx).trans x8
          have x9' := (hb'.cell (p := ⟨b1, o1 + j * 13 + 9, none⟩) lx).trans x9
          have x10' := (hb'.cell (p := ⟨b1, o1 + j * 13 + 10, none⟩) lx).trans x10
          have x11' := (hb'.cell (p := ⟨b1, o1 + j * 13 + 11, none⟩) lx).trans x11
          have x12' := (hb'.cell (p := ⟨b1, o1 + j * 13 + 12, none⟩) lx).trans x12
          have y0' := (hb'.cell (p := ⟨b2, o2 + j * 13, none⟩) ly).trans y0
          have y1' := (hb'.cell (p := ⟨b2, o2 + j * 13 + 1, none⟩) ly).trans y1
          have y2' := (hb'.cell (p := ⟨b2, o2 + j * 13 + 2, none⟩) ly).trans y2
          have y3' := (hb'.cell (p := ⟨b2, o2 + j * 13 + 3, none⟩) ly).trans y3
          have y4' := (hb'.cell (p := ⟨b2, o2 + j * 13 + 4, none⟩) ly).trans y4
          have y5' := (hb'.cell (p := ⟨b2, o2 + j * 13 + 5, none⟩) ly).trans y5
          have y6' := (hb'.cell (p := ⟨b2, o2 + j * 13 + 6, none⟩) ly).trans y6
          have y7' := (hb'.cell (p := ⟨b2, o2 + j * 13 + 7, none⟩) ly).trans y7
          have y8' := (hb'.cell (p := ⟨b2, o2 + j * 13 + 8, none⟩) ly).trans y8
          have y9' := (hb'.cell (p := ⟨b2, o2 + j * 13 + 9, none⟩) ly).trans y9
          have y10' := (hb'.cell (p := ⟨b2, o2 + j * 13 + 10, none⟩) ly).trans y10
          have y11' := (hb'.cell (p := ⟨b2, o2 + j * 13 + 11, none⟩) ly).trans y11
          have y12' := (hb'.cell (p := ⟨b2, o2 + j * 13 + 12, none⟩) ly).trans y12
          unfold Oper.wp
          go_simp
          try go_bits
          exact hK _ _ (Below.refl _ _) (by first | rfl | (show Value.int _ _ = Value.int _ _; go_num; done) | (simp [valOf, *]; done) | (simp [valOf]; omega))
        · intro _ a' w' hb' hs hd hn Kc hK
          have f5 : a'.tmps[5]?.getD undef = .int .i64 (j : Int) := (hs 5 (by decide)).trans rfl
          clear hs hd hn
          rw [if_neg (by decide), if_neg (by decide)] at hK
          have lx' := Nat.lt_of_lt_of_le lx hb'.size
          have ly' := Nat.lt_of_lt_of_le ly hb'.size
          have x0' := (hb'.cell (p := ⟨b1, o1 + j * 13, none⟩) lx).trans x0
          have x1' := (hb'.cell (p := ⟨b1, o1 + j * 13 + 1, none⟩) lx).trans x1
          have x2' := (hb'.cell (p := ⟨b1, o1 + j * 13 + 2, none⟩) lx).trans x2
          have x3' := (hb'.cell (p := ⟨b1, o1 + j * 13 + 3, none⟩) lx).trans x3
          have x4' := (hb'.cell (p := ⟨b1, o1 + j * 13 + 4, none⟩) lx).trans x4
          have x5' := (hb'.cell (p := ⟨b1, o1 + j * 13 + 5, none⟩) lx).trans x5
          have x6' := (hb'.cell (p := ⟨b1, o1 + j * 13 + 6, none⟩) lx).trans x6
          have x7' := (hb'.cell (p := ⟨b1, o1 + j * 13 + 7, none⟩) lx).trans x7
          have x8' := (hb'.cell (p := ⟨b1, o1 + j * 13 + 8, none⟩) lx).trans x8
          have x9' := (hb'.cell (p := ⟨b1, o1 + j * 13 + 9, none⟩) lx).trans x9
          have x10' := (hb'.cell (p := ⟨b1, o1 + j * 13 + 10, none⟩) lx).trans x10
          have x11' := (hb'.cell (p := ⟨b1, o1 + j * 13 + 11, none⟩) lx).trans x11
          have x12' := (hb'.cell (p := ⟨b1, o1 + j * 13 + 12, none⟩) lx).trans x12
          have y0' := (hb'.cell (p := ⟨b2, o2 + j * 13, none⟩) ly).trans y0
          have y1' := (hb'.cell (p := ⟨b2, o2 + j * 13 + 1, none⟩) ly).trans y1
          have y2' := (hb'.cell (p := ⟨b2, o2 + j * 13 + 2, none⟩) ly).trans y2
          have y3' := (hb'.cell (p := ⟨b2, o2 + j * 13 + 3, none⟩) ly).trans y3
          have y4' := (hb'.cell (p := ⟨b2, o2 + j * 13 + 4, none⟩) ly).trans y4
          have y5' := (hb'.cell (p := ⟨b2, o2 + j * 13 + 5, none⟩) ly).trans y5
          have y6' := (hb'.cell (p := ⟨b2, o2 + j * 13 + 6, none⟩) ly).trans y6
          have y7' := (hb'.cell (p := ⟨b2, o2 + j * 13 + 7, none⟩) ly).trans y7
          have y8' := (hb'.cell (p := ⟨b2, o2 + j * 13 + 8, none⟩) ly).trans y8
          have y9' := (hb'.cell (p := ⟨b2, o2 + j * 13 + 9, none⟩) ly).trans y9
          have y10' := (hb'.cell (p := ⟨b2, o2 + j * 13 + 10, none⟩) ly).trans y10
          have y11' := (hb'.cell (p := ⟨b2, o2 + j * 13 + 11, none⟩) ly).trans y11
          have y12' := (hb'.cell (p := ⟨b2, o2 + j * 13 + 12, none⟩) ly).trans y12
          unfold Oper.wp
          go_simp
          try go_bits
          exact hK _ _ (Below.refl _ _) (by first | rfl | (show Value.int _ _ = Value.int _ _; go_num; done) | (simp [valOf, *]; done) | (simp [valOf]; omega))
        · intro _ a' w' hb' hs hd hn Kc hK
          have f21 : a'.tmps[21]?.getD undef = .slice (some ⟨b2, o2, none⟩) n c' := hd 4 21 (by first | rfl | decide | simp [Region.binds]) rfl (by decide) (by decide) rfl
          have f22 : a'.tmps[22]?.getD undef = .int .i64 (j : Int) := hd 5 22 (by first | rfl | decide | simp [Region.binds]) rfl (by decide) (by decide) rfl
          clear hs hd hn
          rw [if_neg (by decide), if_neg (by decide)] at hK
          have lx' := Nat.lt_of_lt_of_le lx hb'.size
          have ly' := Nat.lt_of_lt_of_le ly hb'.size
          have x0' := (hb'.cell (p := ⟨b1, o1 + j * 13, none⟩) lx).trans x0
          have x1' := (hb'.cell (p := ⟨b1, o1 + j * 13 + 1, none⟩) lx).trans x1
          have x2' := (hb'.cell (p := ⟨b1, o1 + j * 13 + 2, none⟩) lx).trans x2
          have x3' := (hb'.cell (p := ⟨b1, o1 + j * 13 + 3, none⟩) lx).trans x3
          have x4' := (hb'.cell (p := ⟨b1, o1 + j * 13 + 4, none⟩) lx).trans x4
          have x5' := (hb'.cell (p := ⟨b1, o1 + j * 13 + 5, none⟩) lx).trans x5
          have x6' := (hb'.cell (p := ⟨b1, o1 + j * 13 + 6, none⟩) lx).trans x6
          have x7' := (hb'.cell (p := ⟨b1, o1 + j * 13 + 7, none⟩) lx).trans x7
          have x8' := (hb'.cell (p := ⟨b1, o1 + j * 13 + 8, none⟩) lx).trans x8
          have x9' := (hb'.cell (p := ⟨b1, o1 + j * 13 + 9, none⟩) lx).trans x9
          have x10' := (hb'.cell (p := ⟨b1, o1 + j * 13 + 10, none⟩) lx).trans x10
          have x11' := (hb'.cell (p := ⟨b1, o1 + j * 13 + 11, none⟩) lx).trans x11
          have x12' := (hb'.cell (p := ⟨b1, o1 + j * 13 + 12, none⟩) lx).trans x12
          have y0' := (hb'.cell (p := ⟨b2, o2 + j * 13, none⟩) ly).trans y0
          have y1' := (hb'.cell (p := ⟨b2, o2 + j * 13 + 1, none⟩) ly).trans y1
          have y2' := (hb'.cell (p := ⟨b2, o2 + j * 13 + 2, none⟩) ly).trans y2
          have y3' := (hb'.cell (p := ⟨b2, o2 + j * 13 + 3, none⟩) ly).trans y3
          have y4' := (hb'.cell (p := ⟨b2, o2 + j * 13 + 4, none⟩) ly).trans y4
          have y5' := (hb'.cell (p := ⟨b2, o2 + j * 13 + 5, none⟩) ly).trans y5
          have y6' := (hb'.cell (p := ⟨b2, o2 + j * 13 + 6, none⟩) ly).trans y6
          have y7' := (hb'.cell (p := ⟨b2, o2 + j * 13 + 7, none⟩) ly).trans y7
          have y8' := (hb'.cell (p := ⟨b2, o2 + j * 13 + 8, none⟩) ly).trans y8
          have y9' := (hb'.cell (p := ⟨b2, o2 + j * 13 + 9, none⟩) ly).trans y9
          have y10' := (hb'.cell (p := ⟨b2, o2 + j * 13 + 10, none⟩) ly).trans y10
          have y11' := (hb'.cell (p := ⟨b2, o2 + j * 13 + 11, none⟩) ly).trans y11
          have y12' := (hb'.cell (p := ⟨b2, o2 + j * 13 + 12, none⟩) ly).trans y12
          unfold Oper.wp
          go_simp
          try go_bits
          exact hK _ _ (Below.refl _ _) (by first | rfl | (show Value.int _ _ = Value.int _ _; go_num; done) | (simp [valOf, *]; done) | (simp [valOf]; omega))
        · intro _ a' w' hb' hs hd hn Kc hK
          have f23 : a'.tmps[23]?.getD undef = .pointer (some ⟨b2, o2 + j * 13, none⟩) := hd 6 23 (by first | rfl | decide | simp [Region.binds]) rfl (by decide) (by decide) rfl
          clear hs hd hn
          rw [if_neg (by decide), if_neg (by decide)] at hK
          have lx' := Nat.lt_of_lt_of_le lx hb'.size
          have ly' := Nat.lt_of_lt_of_le ly hb'.size
          have x0' := (hb'.cell (p := ⟨b1, o1 + j * 13, none⟩) lx).trans x0
          have x1' := (hb'.cell (p := ⟨b1, o1 + j * 13 + 1, none⟩) lx).trans x1
          have x2' := (hb'.cell (p := ⟨b1, o1 + j * 13 + 2, none⟩) lx).trans x2
          have x3' := (hb'.cell (p := ⟨b1, o1 + j * 13 + 3, none⟩) lx).trans x3
          have x4' := (hb'.cell (p := ⟨b1, o1 + j * 13 + 4, none⟩) lx).trans x4
          have x5' := (hb'.cell (p := ⟨b1, o1 + j * 13 + 5, none⟩) lx).trans x5
          have x6' := (hb'.cell (p := ⟨b1, o1 + j * 13 + 6, none⟩) lx).trans x6
          have x7' := (hb'.cell (p := ⟨b1, o1 + j * 13 + 7, none⟩) lx).trans x7
          have x8' := (hb'.cell (p := ⟨b1, o1 + j * 13 + 8, none⟩) lx).trans x8
          have x9' := (hb'.cell (p := ⟨b1, o1 + j * 13 + 9, none⟩) lx).trans x9
          have x10' := (hb'.cell (p := ⟨b1, o1 + j * 13 + 10, none⟩) lx).trans x10
          have x11' := (hb'.cell (p := ⟨b1, o1 + j * 13 + 11, none⟩) lx).trans x11
          have x12' := (hb'.cell (p := ⟨b1, o1 + j * 13 + 12, none⟩) lx).trans x12
          have y0' := (hb'.cell (p := ⟨b2, o2 + j * 13, none⟩) ly).trans y0
          have y1' := (hb'.cell (p := ⟨b2, o2 + j * 13 + 1, none⟩) ly).trans y1
          have y2' := (hb'.cell (p := ⟨b2, o2 + j * 13 + 2, none⟩) ly).trans y2
          have y3' := (hb'.cell (p := ⟨b2, o2 + j * 13 + 3, none⟩) ly).trans y3
          have y4' := (hb'.cell (p := ⟨b2, o2 + j * 13 + 4, none⟩) ly).trans y4
          have y5' := (hb'.cell (p := ⟨b2, o2 + j * 13 + 5, none⟩) ly).trans y5
          have y6' := (hb'.cell (p := ⟨b2, o2 + j * 13 + 6, none⟩) ly).trans y6
          have y7' := (hb'.cell (p := ⟨b2, o2 + j * 13 + 7, none⟩) ly).trans y7
          have y8' := (hb'.cell (p := ⟨b2, o2 + j * 13 + 8, none⟩) ly).trans y8
          have y9' := (hb'.cell (p := ⟨b2, o2 + j * 13 + 9, none⟩) ly).trans y9
          have y10' := (hb'.cell (p := ⟨b2, o2 + j * 13 + 10, none⟩) ly).trans y10
          have y11' := (hb'.cell (p := ⟨b2, o2 + j * 13 + 11, none⟩) ly).trans y11
          have y12' := (hb'.cell (p := ⟨b2, o2 + j * 13 + 12, none⟩) ly).trans y12
          unfold Oper.wp
          go_simp
          try go_bits
          exact hK _ _ (Below.refl _ _) (by first | rfl | (show Value.int _ _ = Value.int _ _; go_num; done) | (simp [valOf, *]; done) | (simp [valOf]; omega))
        · intro _ a' w' hb' hs hd hn Kc hK
          have f20 : a'.tmps[20]?.getD undef = .agg #[.slice ps k cs, .int .i64 s, .int .i64 ok, .int .i64 oa, .int .i64 ob, .int .i64 oc, .int .i64 o, .int .i64 vk, .int .i64 vn, .int .i64 c0, .int .i64 c1, .int .i64 c2, .int .i64 c3] := hd 3 20 (by first | rfl | decide | simp [Region.binds]) rfl (by decide) (by decide) rfl
          have f24 : a'.tmps[24]?.getD undef = .agg #[.slice qs k ds, .int .i64 s, .int .i64 ok, .int .i64 oa, .int .i64 ob, .int .i64 oc, .int .i64 o, .int .i64 vk, .int .i64 vn, .int .i64 c0, .int .i64 c1, .int .i64 c2, .int .i64 c3] := hd 7 24 (by first | rfl | decide | simp [Region.binds]) rfl (by decide) (by decide) rfl
          clear hs hd hn
          rw [if_neg (by decide), if_neg (by decide)] at hK
          have lx' := Nat.lt_of_lt_of_le lx hb'.size
          have ly' := Nat.lt_of_lt_of_le ly hb'.size
          have x0' := (hb'.cell (p := ⟨b1, o1 + j * 13, none⟩) lx).trans x0
          have x1' := (hb'.cell (p := ⟨b1, o1 + j * 13 + 1, none⟩) lx).trans x1
          have x2' := (hb'.cell (p := ⟨b1, o1 + j * 13 + 2, none⟩) lx).trans x2
          have x3' := (hb'.cell (p := ⟨b1, o1 + j * 13 + 3, none⟩) lx).trans x3
          have x4' := (hb'.cell (p := ⟨b1, o1 + j * 13 + 4, none⟩) lx).trans x4
          have x5' := (hb'.cell (p := ⟨b1, o1 + j * 13 + 5, none⟩) lx).trans x5
          have x6' := (hb'.cell (p := ⟨b1, o1 + j * 13 + 6, none⟩) lx).trans x6
          have x7' := (hb'.cell (p := ⟨b1, o1 + j * 13 + 7, none⟩) lx).trans x7
          have x8' := (hb'.cell (p := ⟨b1, o1 + j * 13 + 8, none⟩) lx).trans x8
          have x9' := (hb'.cell (p := ⟨b1, o1 + j * 13 + 9, none⟩) lx).trans x9
          have x10' := (hb'.cell (p := ⟨b1, o1 + j * 13 + 10, none⟩) lx).trans x10
          have x11' := (hb'.cell (p := ⟨b1, o1 + j * 13 + 11, none⟩) lx).trans x11
          have x12' := (hb'.cell (p := ⟨b1, o1 + j * 13 + 12, none⟩) lx).trans x12
          have y0' := (hb'.cell (p := ⟨b2, o2 + j * 13, none⟩) ly).trans y0
          have y1' := (hb'.cell (p := ⟨b2, o2 + j * 13 + 1, none⟩) ly).trans y1
          have y2' := (hb'.cell (p := ⟨b2, o2 + j * 13 + 2, none⟩) ly).trans y2
          have y3' := (hb'.cell (p := ⟨b2, o2 + j * 13 + 3, none⟩) ly).trans y3
          have y4' := (hb'.cell (p := ⟨b2, o2 + j * 13 + 4, none⟩) ly).trans y4
          have y5' := (hb'.cell (p := ⟨b2, o2 + j * 13 + 5, none⟩) ly).trans y5
          have y6' := (hb'.cell (p := ⟨b2, o2 + j * 13 + 6, none⟩) ly).trans y6
          have y7' := (hb'.cell (p := ⟨b2, o2 + j * 13 + 7, none⟩) ly).trans y7
          have y8' := (hb'.cell (p := ⟨b2, o2 + j * 13 + 8, none⟩) ly).trans y8
          have y9' := (hb'.cell (p := ⟨b2, o2 + j * 13 + 9, none⟩) ly).trans y9
          have y10' := (hb'.cell (p := ⟨b2, o2 + j * 13 + 10, none⟩) ly).trans y10
          have y11' := (hb'.cell (p := ⟨b2, o2 + j * 13 + 11, none⟩) ly).trans y11
          have y12' := (hb'.cell (p := ⟨b2, o2 + j * 13 + 12, none⟩) ly).trans y12
          unfold Oper.wp
          go_simp
          try go_bits
          refine Calls.mono (hSm w' hb') ?_
          rintro e w'' ⟨rfl, hb2⟩
          exact hK _ _ hb2 rfl
        · intro _ a' w' hb' hs hd hn Kc hK
          have f25 : a'.tmps[25]?.getD undef = .bool true := hd 8 25 (by first | rfl | decide | simp [Region.binds]) rfl (by decide) (by decide) rfl
          clear hs hd hn
          rw [if_neg (by decide), if_neg (by decide)] at hK
          have lx' := Nat.lt_of_lt_of_le lx hb'.size
          have ly' := Nat.lt_of_lt_of_le ly hb'.size
          have x0' := (hb'.cell (p := ⟨b1, o1 + j * 13, none⟩) lx).trans x0
          have x1' := (hb'.cell (p := ⟨b1, o1 + j * 13 + 1, none⟩) lx).trans x1
          have x2' := (hb'.cell (p := ⟨b1, o1 + j * 13 + 2, none⟩) lx).trans x2
          have x3' := (hb'.cell (p := ⟨b1, o1 + j * 13 + 3, none⟩) lx).trans x3
          have x4' := (hb'.cell (p := ⟨b1, o1 + j * 13 + 4, none⟩) lx).trans x4
          have x5' := (hb'.cell (p := ⟨b1, o1 + j * 13 + 5, none⟩) lx).trans x5
          have x6' := (hb'.cell (p := ⟨b1, o1 + j * 13 + 6, none⟩) lx).trans x6
          have x7' := (hb'.cell (p := ⟨b1, o1 + j * 13 + 7, none⟩) lx).trans x7
          have x8' := (hb'.cell (p := ⟨b1, o1 + j * 13 + 8, none⟩) lx).trans x8
          have x9' := (hb'.cell (p := ⟨b1, o1 + j * 13 + 9, none⟩) lx).trans x9
          have x10' := (hb'.cell (p := ⟨b1, o1 + j * 13 + 10, none⟩) lx).trans x10
          have x11' := (hb'.cell (p := ⟨b1, o1 + j * 13 + 11, none⟩) lx).trans x11
          have x12' := (hb'.cell (p := ⟨b1, o1 + j * 13 + 12, none⟩) lx).trans x12
          have y0' := (hb'.cell (p := ⟨b2, o2 + j * 13, none⟩) ly).trans y0
          have y1' := (hb'.cell (p := ⟨b2, o2 + j * 13 + 1, none⟩) ly).trans y1
          have y2' := (hb'.cell (p := ⟨b2, o2 + j * 13 + 2, none⟩) ly).trans y2
          have y3' := (hb'.cell (p := ⟨b2, o2 + j * 13 + 3, none⟩) ly).trans y3
          have y4' := (hb'.cell (p := ⟨b2, o2 + j * 13 + 4, none⟩) ly).trans y4
          have y5' := (hb'.cell (p := ⟨b2, o2 + j * 13 + 5, none⟩) ly).trans y5
          have y6' := (hb'.cell (p := ⟨b2, o2 + j * 13 + 6, none⟩) ly).trans y6
          have y7' := (hb'.cell (p := ⟨b2, o2 + j * 13 + 7, none⟩) ly).trans y7
          have y8' := (hb'.cell (p := ⟨b2, o2 + j * 13 + 8, none⟩) ly).trans y8
          have y9' := (hb'.cell (p := ⟨b2, o2 + j * 13 + 9, none⟩) ly).trans y9
          have y10' := (hb'.cell (p := ⟨b2, o2 + j * 13 + 10, none⟩) ly).trans y10
          have y11' := (hb'.cell (p := ⟨b2, o2 + j * 13 + 11, none⟩) ly).trans y11
          have y12' := (hb'.cell (p := ⟨b2, o2 + j * 13 + 12, none⟩) ly).trans y12
          unfold Oper.wp
          go_simp
          try go_bits
          exact hK _ _ (Below.refl _ _) (by first | rfl | (show Value.int _ _ = Value.int _ _; go_num; done) | (simp [valOf, *]; done) | (simp [valOf]; omega))
      intro Xf g w' hX hb hv
      have q26 : Xf 26 = .bool false := hv 9 26 rfl rfl (by decide) (by decide)
      clear hX hv
      simp only [List.map_cons, List.map_nil, q26, puts, Act.put, Nat.reduceAdd, List.setIfInBounds_toArray, List.set_cons_succ, List.set_cons_zero]
      have hbE := bjoin hb hbw
      go_wp2
      go_roundg (n - (j + 1))
      case measure => omega
      case rel => exact ⟨j + 1, by omega, rfl, by go_num, hbE⟩
    · obtain rfl : j = n := by omega
      go_wp2
      go_returns
      exact ⟨rfl, hbw⟩
end Go.Proofs.YtmbgodncagjncaaDoor
