/- GreyDoes: of whatever row: whether it is right; of whatever room: a new one; of a right row: pushed, popped, as the document's own answers have it. No condition. -/
import Derived.Test.YtffcekjkgeiccaaRows
import Derived.Test.YtffcekjkgeiccaaAwake13
namespace Go.Proofs.Ytffcekjkgeiccaa
set_option linter.unusedSimpArgs false
set_option linter.unusedVariables false
open Go.ChangeShapes Go.WideShapes Go.ChangeAt Go.RowKit Go.Joins

set_option maxHeartbeats 16000000 in
set_option maxRecDepth 20000 in
theorem does13_walk (r a k : Int) (p : Option Addr) (n c : Nat) (z : Nat → Int) (w : World) (hz : GrAt w p c n z) (ha : (Lit.int .i64 a).wf = true) :
    Calls Try.prog 3 #[.agg #[.int .i64 r, .slice p n c], .int .i64 a, .int .i64 k] w fun e w' => e = .returned (.bool true) ∧ Below w.heap.size w w' := by
  obtain ⟨w0, hw0⟩ : ∃ w0, w0 = w.alloc (.cells #[.int .i64 r, .slice p n c] 24) := ⟨_, rfl⟩
  have hB0 : Below w.heap.size w w0 := by rw [hw0]; exact (Below.refl _ _).alloc (Nat.le_refl _) _
  have g3 : GBox w.heap.size r p n c w0 := by rw [hw0]; exact GBox.new _ _ _ _ _ _
  replace hz := hz.below hB0
  have hnl := hz.nle
  simp only [maxLen] at hnl
  obtain ⟨l0, x0, x1⟩ := id g3
  have hSg : ∀ W r1 p1 n1 c1 z1 r2 p2 n2 c2 z2 b, GrAt W p1 c1 n1 z1 → GrAt W p2 c2 n2 z2 → sameG r1 n1 z1 r2 n2 z2 = b → Calls Try.prog 11 #[.agg #[.int .i64 r1, .slice p1 n1 c1], .agg #[.int .i64 r2, .slice p2 n2 c2]] W fun e w' => e = .returned (.bool b) ∧ Below W.heap.size W w' := fun W r1 p1 n1 c1 z1 r2 p2 n2 c2 z2 b h1 h2 e => by
    rw [← e]; exact rgsame_any r1 r2 p1 p2 n1 c1 n2 c2 z1 z2 W h1 h2
  have hRc := fun W (hW : Below w0.heap.size w0 W) => gright_any r p n c z W (hz.below hW)
  have hRr := fun W (hW : Below w0.heap.size w0 W) => rgright_any r p n c z W (hz.below hW)
  by_cases hbig : 100 < n
  · have d0 : decide (100 < (n : Int)) = true := by simp; omega
    clear hRc hRr hSg
    go_enter Try.func3, Try.ntmps3
    go_upto_region 1 with fail
    rw [← hw0]
    clear hw0
    refine wp_late (ds := [some 19, some 20, some 21, some 22, some 23, some 24, some 25, some 26, some 27, some 28, some 29, some 30, some 31, some 32, some 33]) (ts := [19, 20, 21, 22, 23, 24, 25, 26, 27, 28, 29, 30, 31, 32, 33]) (pv := [(fun v _ => v = .bool true), (fun v _ => v = .bool false), (fun v _ => v = .bool false), (fun v _ => v = .pointer (some ⟨w.heap.size, 1, none⟩)), (fun v _ => v = .slice p n c), (fun v _ => v = .int .i64 (n : Int)), (fun v _ => v = .bool true), (fun v _ => v = .bool true), (fun v _ => v = .bool true), (fun _ _ => True), (fun _ _ => True), (fun _ _ => True), (fun _ _ => True), (fun _ _ => True), (fun v _ => v = .bool true)]) (skip := fun i => ([9, 10, 11, 12, 13] : List Nat).contains i) (ia := 1000) (is := 1000) (k := 34) (Shape := (fun _ _ => True)) (Full := (fun _ _ => True)) (by kernel_rfl) (by kernel_rfl) rfl rfl (by decide) (by decide) (by simp) ?_ (by decide) (fun _ _ _ _ _ => trivial) (fun _ _ _ _ _ => trivial) ?_ ?_ ?_ ?_
    · exact .inl rfl
    · exact ⟨fun _ _ _ h _ => h, fun _ _ _ h _ => h, fun _ _ _ h _ => h, fun _ _ _ h _ => h, fun _ _ _ h _ => h, fun _ _ _ h _ => h, fun _ _ _ h _ => h, fun _ _ _ h _ => h, fun _ _ _ h _ => h, fun _ _ _ h _ => h, fun _ _ _ h _ => h, fun _ _ _ h _ => h, fun _ _ _ h _ => h, fun _ _ _ h _ => h, fun _ _ _ h _ => h, trivial⟩
    · exact ⟨rfl, rfl, rfl, ⟨rfl, ⟨_, rfl⟩, by decide, by decide, fun _ _ h => h⟩, ⟨rfl, ⟨_, rfl⟩, by decide, by decide, fun _ _ h => h⟩, ⟨rfl, ⟨_, rfl⟩, by decide, by decide, fun _ _ h => h⟩, ⟨rfl, ⟨_, rfl⟩, by decide, by decide, fun _ _ h => h⟩, rfl, rfl, ⟨rfl, ⟨_, rfl⟩, by decide, by decide, fun _ _ h => h⟩, ⟨rfl, ⟨_, rfl⟩, by decide, by decide, fun _ _ h => h⟩, ⟨rfl, ⟨_, rfl⟩, by decide, by decide, fun _ _ h => h⟩, ⟨rfl, ⟨_, rfl⟩, by decide, by decide, fun _ _ h => h⟩, ⟨rfl, ⟨_, rfl⟩, by decide, by decide, fun _ _ h => h⟩, rfl, trivial⟩
    · refine ⟨?_, ?_, ?_, ?_, ?_, ?_, ?_, ?_, ?_, ?_, ?_, ?_, ?_, ?_, ?_, trivial⟩
      · intro _ a' w' hb' hs hd hn Kc hK
        clear hs hd hn
        rw [if_neg (by decide), if_neg (by decide)] at hK
        have x1' := (hb'.cell (p := ⟨w.heap.size, 1, none⟩) l0).trans x1
        unfold Oper.wp
        go_simp
        try go_bits
        refine Calls.mono (awake13_any _) ?_
        rintro e w'' ⟨rfl, hb2⟩
        exact hK _ _ hb2 rfl
      · intro _ a' w' hb' hs hd hn Kc hK
        have f19 : a'.tmps[19]?.getD undef = .bool true := hd 0 19 (by first | rfl | decide | simp [Region.binds]) rfl (by decide) (by decide) rfl
        clear hs hd hn
        rw [if_neg (by decide), if_neg (by decide)] at hK
        have x1' := (hb'.cell (p := ⟨w.heap.size, 1, none⟩) l0).trans x1
        unfold Oper.wp
        go_simp
        try go_bits
        exact hK _ _ (Below.refl _ _) (by first | rfl | (show Value.int _ _ = Value.int _ _; go_num; done) | (simp [valOf, *]; done) | (simp [valOf]; omega))
      · intro _ a' w' hb' hs hd hn Kc hK
        have f20 : a'.tmps[20]?.getD undef = .bool false := hd 1 20 (by first | rfl | decide | simp [Region.binds]) rfl (by decide) (by decide) rfl
        clear hs hd hn
        rw [if_neg (by decide), if_neg (by decide)] at hK
        have x1' := (hb'.cell (p := ⟨w.heap.size, 1, none⟩) l0).trans x1
        unfold Oper.wp
        go_simp
        try go_bits
        exact hK _ _ (Below.refl _ _) (by first | rfl | (show Value.int _ _ = Value.int _ _; go_num; done) | (simp [valOf, *]; done) | (simp [valOf]; omega))
      · intro _ a' w' hb' hs hd hn Kc hK
        have f3 : a'.tmps[3]?.getD undef = .pointer (some ⟨w.heap.size, 0, none⟩) := (hs 3 (by decide)).trans rfl
        clear hs hd hn
        rw [if_neg (by decide), if_neg (by decide)] at hK
        have x1' := (hb'.cell (p := ⟨w.heap.size, 1, none⟩) l0).trans x1
        unfold Oper.wp
        go_simp
        try go_bits
        exact hK _ _ (Below.refl _ _) (by first | rfl | (show Value.int _ _ = Value.int _ _; go_num; done) | (simp [valOf, *]; done) | (simp [valOf]; omega))
      · intro _ a' w' hb' hs hd hn Kc hK
        have f22 : a'.tmps[22]?.getD undef = .pointer (some ⟨w.heap.size, 1, none⟩) := hd 3 22 (by first | rfl | decide | simp [Region.binds]) rfl (by decide) (by decide) rfl
        clear hs hd hn
        rw [if_neg (by decide), if_neg (by decide)] at hK
        have x1' := (hb'.cell (p := ⟨w.heap.size, 1, none⟩) l0).trans x1
        unfold Oper.wp
        go_simp
        try go_bits
        exact hK _ _ (Below.refl _ _) (by first | rfl | (show Value.int _ _ = Value.int _ _; go_num; done) | (simp [valOf, *]; done) | (simp [valOf]; omega))
      · intro _ a' w' hb' hs hd hn Kc hK
        have f23 : a'.tmps[23]?.getD undef = .slice p n c := hd 4 23 (by first | rfl | decide | simp [Region.binds]) rfl (by decide) (by decide) rfl
        clear hs hd hn
        rw [if_neg (by decide), if_neg (by decide)] at hK
        have x1' := (hb'.cell (p := ⟨w.heap.size, 1, none⟩) l0).trans x1
        unfold Oper.wp
        go_simp
        try go_bits
        exact hK _ _ (Below.refl _ _) (by first | rfl | (show Value.int _ _ = Value.int _ _; go_num; done) | (simp [valOf, *]; done) | (simp [valOf]; omega))
      · intro _ a' w' hb' hs hd hn Kc hK
        have f24 : a'.tmps[24]?.getD undef = .int .i64 (n : Int) := hd 5 24 (by first | rfl | decide | simp [Region.binds]) rfl (by decide) (by decide) rfl
        clear hs hd hn
        rw [if_neg (by decide), if_neg (by decide)] at hK
        have x1' := (hb'.cell (p := ⟨w.heap.size, 1, none⟩) l0).trans x1
        unfold Oper.wp
        go_simp
        try go_bits
        exact hK _ _ (Below.refl _ _) (by first | rfl | (show Value.int _ _ = Value.int _ _; go_num; done) | (simp [valOf, *]; done) | (simp [valOf]; omega))
      · intro _ a' w' hb' hs hd hn Kc hK
        have f21 : a'.tmps[21]?.getD undef = .bool false := hd 2 21 (by first | rfl | decide | simp [Region.binds]) rfl (by decide) (by decide) rfl
        have f25 : a'.tmps[25]?.getD undef = .bool true := hd 6 25 (by first | rfl | decide | simp [Region.binds]) rfl (by decide) (by decide) rfl
        clear hs hd hn
        rw [if_neg (by decide), if_neg (by decide)] at hK
        have x1' := (hb'.cell (p := ⟨w.heap.size, 1, none⟩) l0).trans x1
        unfold Oper.wp
        go_simp
        try go_bits
        exact hK _ _ (Below.refl _ _) (by first | rfl | (show Value.int _ _ = Value.int _ _; go_num; done) | (simp [valOf, *]; done) | (simp [valOf]; omega))
      · intro _ a' w' hb' hs hd hn Kc hK
        have f26 : a'.tmps[26]?.getD undef = .bool true := hd 7 26 (by first | rfl | decide | simp [Region.binds]) rfl (by decide) (by decide) rfl
        clear hs hd hn
        rw [if_neg (by decide), if_neg (by decide)] at hK
        have x1' := (hb'.cell (p := ⟨w.heap.size, 1, none⟩) l0).trans x1
        unfold Oper.wp
        go_simp
        try go_bits
        exact hK _ _ (Below.refl _ _) (by first | rfl | (show Value.int _ _ = Value.int _ _; go_num; done) | (simp [valOf, *]; done) | (simp [valOf]; omega))
      · exact fun h => absurd h (by decide)
      · exact fun h => absurd h (by decide)
      · exact fun h => absurd h (by decide)
      · exact fun h => absurd h (by decide)
      · exact fun h => absurd h (by decide)
      · intro _ a' w' hb' hs hd hn Kc hK
        have f27 : a'.tmps[27]?.getD undef = .bool true := hd 8 27 (by first | rfl | decide | simp [Region.binds]) rfl (by decide) (by decide) rfl
        clear hs hd hn
        rw [if_neg (by decide), if_neg (by decide)] at hK
        have x1' := (hb'.cell (p := ⟨w.heap.size, 1, none⟩) l0).trans x1
        unfold Oper.wp
        go_simp
        try go_bits
        exact hK _ _ (Below.refl _ _) (by first | rfl | (show Value.int _ _ = Value.int _ _; go_num; done) | (simp [valOf, *]; done) | (simp [valOf]; omega))
    intro Xf g w' hX hb hv
    have q33 : Xf 33 = .bool true := hv 14 33 rfl rfl (by decide) (by decide)
    clear hX hv
    simp only [List.map_cons, List.map_nil, q33, puts, Act.put, Nat.reduceAdd, List.setIfInBounds_toArray, List.set_cons_succ, List.set_cons_zero]
    have hbA := bjoin hb hB0
    obtain ⟨l1, y0, y1⟩ := g3.below hb
    go_wp2_with (first
      | (go_at_call 7; refine Calls.mono (awake13_any _) ?_; rintro e w5 ⟨rfl, hb5⟩; have y1' := (hb5.cell (p := ⟨w.heap.size, 1, none⟩) l1).trans y1)
    )
    go_returns
    exact ⟨ret_bool (by simp [d0]), bjoin hb5 hbA⟩
  · have d0 : decide (100 < (n : Int)) = false := by simp; omega
    generalize eR : rightG r n z = RG at *
    go_enter Try.func3, Try.ntmps3
    go_upto_region 1 with fail
    rw [← hw0]
    clear hw0
    refine wp_late (ds := [some 19, some 20, some 21, some 22, some 23, some 24, some 25, some 26, some 27, some 28, some 29, some 30, some 31, some 32, some 33]) (ts := [19, 20, 21, 22, 23, 24, 25, 26, 27, 28, 29, 30, 31, 32, 33]) (pv := [(fun v _ => v = .bool true), (fun v _ => v = .bool false), (fun v _ => v = .bool false), (fun v _ => v = .pointer (some ⟨w.heap.size, 1, none⟩)), (fun v _ => v = .slice p n c), (fun v _ => v = .int .i64 (n : Int)), (fun v _ => v = .bool false), (fun v _ => v = .bool false), (fun v _ => v = .bool false), (fun v _ => v = .agg #[.int .i64 r, .slice p n c]), (fun v _ => v = .bool RG), (fun v _ => v = .agg #[.int .i64 r, .slice p n c]), (fun v _ => v = .bool RG), (fun v _ => v = .bool false), (fun v _ => v = .bool false)]) (skip := fun i => ([] : List Nat).contains i) (ia := 1000) (is := 1000) (k := 34) (Shape := (fun _ _ => True)) (Full := (fun _ _ => True)) (by kernel_rfl) (by kernel_rfl) rfl rfl (by decide) (by decide) (by simp) ?_ (by decide) (fun _ _ _ _ _ => trivial) (fun _ _ _ _ _ => trivial) ?_ ?_ ?_ ?_
    · exact .inl rfl
    · exact ⟨fun _ _ _ h _ => h, fun _ _ _ h _ => h, fun _ _ _ h _ => h, fun _ _ _ h _ => h, fun _ _ _ h _ => h, fun _ _ _ h _ => h, fun _ _ _ h _ => h, fun _ _ _ h _ => h, fun _ _ _ h _ => h, fun _ _ _ h _ => h, fun _ _ _ h _ => h, fun _ _ _ h _ => h, fun _ _ _ h _ => h, fun _ _ _ h _ => h, fun _ _ _ h _ => h, trivial⟩
    · exact ⟨rfl, rfl, rfl, ⟨rfl, ⟨_, rfl⟩, by decide, by decide, fun _ _ h => h⟩, ⟨rfl, ⟨_, rfl⟩, by decide, by decide, fun _ _ h => h⟩, ⟨rfl, ⟨_, rfl⟩, by decide, by decide, fun _ _ h => h⟩, ⟨rfl, ⟨_, rfl⟩, by decide, by decide, fun _ _ h => h⟩, rfl, rfl, ⟨rfl, ⟨_, rfl⟩, by decide, by decide, fun _ _ h => h⟩, ⟨rfl, ⟨_, rfl⟩, by decide, by decide, fun _ _ h => h⟩, ⟨rfl, ⟨_, rfl⟩, by decide, by decide, fun _ _ h => h⟩, ⟨rfl, ⟨_, rfl⟩, by decide, by decide, fun _ _ h => h⟩, ⟨rfl, ⟨_, rfl⟩, by decide, by decide, fun _ _ h => h⟩, rfl, trivial⟩
    · refine ⟨?_, ?_, ?_, ?_, ?_, ?_, ?_, ?_, ?_, ?_, ?_, ?_, ?_, ?_, ?_, trivial⟩
      · intro _ a' w' hb' hs hd hn Kc hK
        clear hs hd hn
        rw [if_neg (by decide), if_neg (by decide)] at hK
        have x0' := (hb'.cell (p := ⟨w.heap.size, 0, none⟩) l0).trans x0
        have x1' := (hb'.cell (p := ⟨w.heap.size, 1, none⟩) l0).trans x1
        unfold Oper.wp
        go_simp
        try go_bits
        refine Calls.mono (awake13_any _) ?_
        rintro e w'' ⟨rfl, hb2⟩
        exact hK _ _ hb2 rfl
      · intro _ a' w' hb' hs hd hn Kc hK
        have f19 : a'.tmps[19]?.getD undef = .bool true := hd 0 19 (by first | rfl | decide | simp [Region.binds]) rfl (by decide) (by decide) rfl
        clear hs hd hn
        rw [if_neg (by decide), if_neg (by decide)] at hK
        have x0' := (hb'.cell (p := ⟨w.heap.size, 0, none⟩) l0).trans x0
        have x1' := (hb'.cell (p := ⟨w.heap.size, 1, none⟩) l0).trans x1
        unfold Oper.wp
        go_simp
        try go_bits
        exact hK _ _ (Below.refl _ _) (by first | rfl | (show Value.int _ _ = Value.int _ _; go_num; done) | (simp [valOf, *]; done) | (simp [valOf]; omega))
      · intro _ a' w' hb' hs hd hn Kc hK
        have f20 : a'.tmps[20]?.getD undef = .bool false := hd 1 20 (by first | rfl | decide | simp [Region.binds]) rfl (by decide) (by decide) rfl
        clear hs hd hn
        rw [if_neg (by decide), if_neg (by decide)] at hK
        have x0' := (hb'.cell (p := ⟨w.heap.size, 0, none⟩) l0).trans x0
        have x1' := (hb'.cell (p := ⟨w.heap.size, 1, none⟩) l0).trans x1
        unfold Oper.wp
        go_simp
        try go_bits
        exact hK _ _ (Below.refl _ _) (by first | rfl | (show Value.int _ _ = Value.int _ _; go_num; done) | (simp [valOf, *]; done) | (simp [valOf]; omega))
      · intro _ a' w' hb' hs hd hn Kc hK
        have f3 : a'.tmps[3]?.getD undef = .pointer (some ⟨w.heap.size, 0, none⟩) := (hs 3 (by decide)).trans rfl
        clear hs hd hn
        rw [if_neg (by decide), if_neg (by decide)] at hK
        have x0' := (hb'.cell (p := ⟨w.heap.size, 0, none⟩) l0).trans x0
        have x1' := (hb'.cell (p := ⟨w.heap.size, 1, none⟩) l0).trans x1
        unfold Oper.wp
        go_simp
        try go_bits
        exact hK _ _ (Below.refl _ _) (by first | rfl | (show Value.int _ _ = Value.int _ _; go_num; done) | (simp [valOf, *]; done) | (simp [valOf]; omega))
      · intro _ a' w' hb' hs hd hn Kc hK
        have f22 : a'.tmps[22]?.getD undef = .pointer (some ⟨w.heap.size, 1, none⟩) := hd 3 22 (by first | rfl | decide | simp [Region.binds]) rfl (by decide) (by decide) rfl
        clear hs hd hn
        rw [if_neg (by decide), if_neg (by decide)] at hK
        have x0' := (hb'.cell (p := ⟨w.heap.size, 0, none⟩) l0).trans x0
        have x1' := (hb'.cell (p := ⟨w.heap.size, 1, none⟩) l0).trans x1
        unfold Oper.wp
        go_simp
        try go_bits
        exact hK _ _ (Below.refl _ _) (by first | rfl | (show Value.int _ _ = Value.int _ _; go_num; done) | (simp [valOf, *]; done) | (simp [valOf]; omega))
      · intro _ a' w' hb' hs hd hn Kc hK
        have f23 : a'.tmps[23]?.getD undef = .slice p n c := hd 4 23 (by first | rfl | decide | simp [Region.binds]) rfl (by decide) (by decide) rfl
        clear hs hd hn
        rw [if_neg (by decide), if_neg (by decide)] at hK
        have x0' := (hb'.cell (p := ⟨w.heap.size, 0, none⟩) l0).trans x0
        have x1' := (hb'.cell (p := ⟨w.heap.size, 1, none⟩) l0).trans x1
        unfold Oper.wp
        go_simp
        try go_bits
        exact hK _ _ (Below.refl _ _) (by first | rfl | (show Value.int _ _ = Value.int _ _; go_num; done) | (simp [valOf, *]; done) | (simp [valOf]; omega))
      · intro _ a' w' hb' hs hd hn Kc hK
        have f24 : a'.tmps[24]?.getD undef = .int .i64 (n : Int) := hd 5 24 (by first | rfl | decide | simp [Region.binds]) rfl (by decide) (by decide) rfl
        clear hs hd hn
        rw [if_neg (by decide), if_neg (by decide)] at hK
        have x0' := (hb'.cell (p := ⟨w.heap.size, 0, none⟩) l0).trans x0
        have x1' := (hb'.cell (p := ⟨w.heap.size, 1, none⟩) l0).trans x1
        unfold Oper.wp
        go_simp
        try go_bits
        exact hK _ _ (Below.refl _ _) (by first | rfl | (show Value.int _ _ = Value.int _ _; go_num; done) | (simp [valOf, *]; done) | (simp [valOf]; omega))
      · intro _ a' w' hb' hs hd hn Kc hK
        have f21 : a'.tmps[21]?.getD undef = .bool false := hd 2 21 (by first | rfl | decide | simp [Region.binds]) rfl (by decide) (by decide) rfl
        have f25 : a'.tmps[25]?.getD undef = .bool false := hd 6 25 (by first | rfl | decide | simp [Region.binds]) rfl (by decide) (by decide) rfl
        clear hs hd hn
        rw [if_neg (by decide), if_neg (by decide)] at hK
        have x0' := (hb'.cell (p := ⟨w.heap.size, 0, none⟩) l0).trans x0
        have x1' := (hb'.cell (p := ⟨w.heap.size, 1, none⟩) l0).trans x1
        unfold Oper.wp
        go_simp
        try go_bits
        exact hK _ _ (Below.refl _ _) (by first | rfl | (show Value.int _ _ = Value.int _ _; go_num; done) | (simp [valOf, *]; done) | (simp [valOf]; omega))
      · intro _ a' w' hb' hs hd hn Kc hK
        have f26 : a'.tmps[26]?.getD undef = .bool false := hd 7 26 (by first | rfl | decide | simp [Region.binds]) rfl (by decide) (by decide) rfl
        clear hs hd hn
        rw [if_neg (by decide), if_neg (by decide)] at hK
        have x0' := (hb'.cell (p := ⟨w.heap.size, 0, none⟩) l0).trans x0
        have x1' := (hb'.cell (p := ⟨w.heap.size, 1, none⟩) l0).trans x1
        unfold Oper.wp
        go_simp
        try go_bits
        exact hK _ _ (Below.refl _ _) (by first | rfl | (show Value.int _ _ = Value.int _ _; go_num; done) | (simp [valOf, *]; done) | (simp [valOf]; omega))
      · intro _ a' w' hb' hs hd hn Kc hK
        have f3 : a'.tmps[3]?.getD undef = .pointer (some ⟨w.heap.size, 0, none⟩) := (hs 3 (by decide)).trans rfl
        clear hs hd hn
        rw [if_neg (by decide), if_neg (by decide)] at hK
        have x0' := (hb'.cell (p := ⟨w.heap.size, 0, none⟩) l0).trans x0
        have x1' := (hb'.cell (p := ⟨w.heap.size, 1, none⟩) l0).trans x1
        unfold Oper.wp
        go_simp
        try go_bits
        exact hK _ _ (Below.refl _ _) (by first | rfl | (show Value.int _ _ = Value.int _ _; go_num; done) | (simp [valOf, *]; done) | (simp [valOf]; omega))
      · intro _ a' w' hb' hs hd hn Kc hK
        have f28 : a'.tmps[28]?.getD undef = .agg #[.int .i64 r, .slice p n c] := hd 9 28 (by first | rfl | decide | simp [Region.binds]) rfl (by decide) (by decide) rfl
        clear hs hd hn
        rw [if_neg (by decide), if_neg (by decide)] at hK
        have x0' := (hb'.cell (p := ⟨w.heap.size, 0, none⟩) l0).trans x0
        have x1' := (hb'.cell (p := ⟨w.heap.size, 1, none⟩) l0).trans x1
        unfold Oper.wp
        go_simp
        try go_bits
        refine Calls.mono (hRc _ hb') ?_
        rintro e w'' ⟨rfl, hb2⟩
        exact hK _ _ hb2 rfl
      · intro _ a' w' hb' hs hd hn Kc hK
        have f3 : a'.tmps[3]?.getD undef = .pointer (some ⟨w.heap.size, 0, none⟩) := (hs 3 (by decide)).trans rfl
        clear hs hd hn
        rw [if_neg (by decide), if_neg (by decide)] at hK
        have x0' := (hb'.cell (p := ⟨w.heap.size, 0, none⟩) l0).trans x0
        have x1' := (hb'.cell (p := ⟨w.heap.size, 1, none⟩) l0).trans x1
        unfold Oper.wp
        go_simp
        try go_bits
        exact hK _ _ (Below.refl _ _) (by first | rfl | (show Value.int _ _ = Value.int _ _; go_num; done) | (simp [valOf, *]; done) | (simp [valOf]; omega))
      · intro _ a' w' hb' hs hd hn Kc hK
        have f30 : a'.tmps[30]?.getD undef = .agg #[.int .i64 r, .slice p n c] := hd 11 30 (by first | rfl | decide | simp [Region.binds]) rfl (by decide) (by decide) rfl
        clear hs hd hn
        rw [if_neg (by decide), if_neg (by decide)] at hK
        have x0' := (hb'.cell (p := ⟨w.heap.size, 0, none⟩) l0).trans x0
        have x1' := (hb'.cell (p := ⟨w.heap.size, 1, none⟩) l0).trans x1
        unfold Oper.wp
        go_simp
        try go_bits
        refine Calls.mono (hRr _ hb') ?_
        rintro e w'' ⟨rfl, hb2⟩
        exact hK _ _ hb2 rfl
      · intro _ a' w' hb' hs hd hn Kc hK
        have f29 : a'.tmps[29]?.getD undef = .bool RG := hd 10 29 (by first | rfl | decide | simp [Region.binds]) rfl (by decide) (by decide) rfl
        have f31 : a'.tmps[31]?.getD undef = .bool RG := hd 12 31 (by first | rfl | decide | simp [Region.binds]) rfl (by decide) (by decide) rfl
        clear hs hd hn
        rw [if_neg (by decide), if_neg (by decide)] at hK
        have x0' := (hb'.cell (p := ⟨w.heap.size, 0, none⟩) l0).trans x0
        have x1' := (hb'.cell (p := ⟨w.heap.size, 1, none⟩) l0).trans x1
        unfold Oper.wp
        go_simp
        try go_bits
        exact hK _ _ (Below.refl _ _) (by first | rfl | (show Value.int _ _ = Value.int _ _; go_num; done) | (simp [valOf, *]; done) | (simp [valOf]; omega))
      · intro _ a' w' hb' hs hd hn Kc hK
        have f27 : a'.tmps[27]?.getD undef = .bool false := hd 8 27 (by first | rfl | decide | simp [Region.binds]) rfl (by decide) (by decide) rfl
        have f32 : a'.tmps[32]?.getD undef = .bool false := hd 13 32 (by first | rfl | decide | simp [Region.binds]) rfl (by decide) (by decide) rfl
        clear hs hd hn
        rw [if_neg (by decide), if_neg (by decide)] at hK
        have x0' := (hb'.cell (p := ⟨w.heap.size, 0, none⟩) l0).trans x0
        have x1' := (hb'.cell (p := ⟨w.heap.size, 1, none⟩) l0).trans x1
        unfold Oper.wp
        go_simp
        try go_bits
        exact hK _ _ (Below.refl _ _) (by first | rfl | (show Value.int _ _ = Value.int _ _; go_num; done) | (simp [valOf, *]; done) | (simp [valOf]; omega))
    intro Xf g w' hX hb hv
    have q33 : Xf 33 = .bool false := hv 14 33 rfl rfl (by decide) (by decide)
    clear hX hv
    simp only [List.map_cons, List.map_nil, q33, puts, Act.put, Nat.reduceAdd, List.setIfInBounds_toArray, List.set_cons_succ, List.set_cons_zero]
    replace hz := hz.below hb
    replace g3 := g3.below hb
    have hRr2 := fun W (hW : Below w'.heap.size w' W) => hRr W (bjoin hW hb)
    have hbW := bjoin hb hB0
    clear hb hRc hRr hB0 x0 x1 l0
    generalize w' = w2 at *
    have hNw := fun W => gnew_any k W
    obtain ⟨nr, nb, e1, e2, hnew⟩ : ∃ nr nb, gnR k = nr ∧ gnB k = nb ∧ ((0 ≤ k ∧ k ≤ 16 ∧ nb = true ∧ nr = k) ∨ ((k < 0 ∨ 16 < k) ∧ nb = false ∧ nr = 0)) := by
      refine ⟨_, _, rfl, rfl, ?_⟩
      by_cases h : 0 ≤ k ∧ k ≤ 16
      · have e : gnB k = true := by simp [gnB, h]
        exact .inl ⟨h.1, h.2, e, by unfold gnR; rw [if_pos e]⟩
      · have e : gnB k = false := by simp only [gnB, decide_eq_false_iff_not]; exact h
        exact .inr ⟨by omega, e, by unfold gnR; rw [if_neg (by simp [e])]⟩
    simp only [e1, e2] at hNw
    clear e1 e2
    replace hnew : Hid (_ ∨ _) := hnew
    go_upto_region 4 with (first
      | (go_at_call 10; refine Calls.mono (hNw _) ?_; rintro e w3 ⟨rfl, hb3⟩)
    )
    obtain ⟨w4, hw4⟩ : ∃ W, W = w3.alloc (.cells #[.int .i64 nr, .slice none 0 0] 24) := ⟨_, rfl⟩
    have gN : GBox w3.heap.size nr none 0 0 w4 := by rw [hw4]; exact GBox.new _ _ _ _ _ _
    have hb4 : Below w2.heap.size w2 w4 := by rw [hw4]; exact bjoin ((Below.refl _ _).alloc (Nat.le_refl _) _) hb3
    rw [← hw4]
    replace hz := hz.below hb4
    replace g3 := g3.below hb4
    have hRr4 := fun W (hW : Below w4.heap.size w4 W) => hRr2 W (bjoin hW hb4)
    replace hbW := bjoin hb4 hbW
    clear hw4 hb3 hb4 hRr2
    generalize w3.heap.size = BN at *
    obtain ⟨lN, n0, n1⟩ := gN
    rcases hnew.out with ⟨k0, k1, rfl, rfl⟩ | ⟨k0, rfl, rfl⟩
    case' inl =>
      go_upto_region 6 with (first
        | (go_at_call 11; refine Calls.mono (hSg _ _ _ _ _ (fun _ => 0) _ _ _ _ (fun _ => 0) true (gr_nil _ _) (gr_nil _ _) (sameG_self _ _ _)) ?_; rintro e w5 ⟨rfl, hb5⟩)
      )
    case' inr =>
      have kk : (decide (0 ≤ k) && decide (k ≤ 16)) = false := by simp; omega
      rcases k0 with k0 | k0
      all_goals
        go_upto_region 6 with (first
          | (go_at_call 11; refine Calls.mono (hSg _ _ _ _ _ (fun _ => 0) _ _ _ _ (fun _ => 0) true (gr_nil _ _) (gr_nil _ _) (sameG_self _ _ _)) ?_; rintro e w5 ⟨rfl, hb5⟩)
        )
    all_goals
      replace hz := hz.below hb5
      replace g3 := g3.below hb5
      replace hbW := bjoin hb5 hbW
      have hRr5 := hRr4 _ hb5
      clear hRr4 hb5 lN n0 n1
      generalize w5 = w6 at *
      obtain ⟨l0, x0, x1⟩ := id g3
      cases RG with
      | false =>
        go_wp2_with (first
          | (go_at_call 9; refine Calls.mono hRr5 ?_; rintro e w7 ⟨rfl, hb7⟩)
        )
        go_returns
        exact ⟨rfl, bjoin hb7 hbW⟩
      | true =>
        obtain ⟨⟨r0, r1, r2⟩, hpos⟩ := rightG_iff.1 eR
        have hn : n ≤ 16 := by omega
        have hPc := fun W (hW : Below w6.heap.size w6 W) => gpush_any r a p n c z W (hz.below hW) (by omega) ha
        have hPr := fun W (hW : Below w6.heap.size w6 W) => rgpush_any r a p n c z W (hz.below hW) (by omega) ha
        have hQc := fun W (hW : Below w6.heap.size w6 W) => gpop_any r p n c z W (hz.below hW) (by omega)
        have hQr := fun W (hW : Below w6.heap.size w6 W) => rgpop_any r p n c z W (hz.below hW) (by omega)
        generalize gpN r n a = N at *
        generalize gpZ r n z a = Z at *
        generalize gpB r n a = PB at *
        generalize gqX n z = X at *
        have hn1 : n - 1 ≤ 16 := by omega
        generalize n - 1 = N1 at *
        generalize decide (0 < n) = PD at *
        clear eR hpos
        go_upto_region 8 with (first
          | (go_at_call 9; refine Calls.mono hRr5 ?_; rintro e w7 ⟨rfl, hb7⟩)
        )
        have g7 := g3.below hb7
        clear x0 x1 l0 hRr5
        obtain ⟨l0, x0, x1⟩ := id g7
        go_upto_region 9 with (first
          | (go_at_call 12; refine Calls.mono (hPc _ hb7) ?_; rintro e w8 ⟨p1, c1, rfl, hA, -, hb8⟩)
        )
        obtain ⟨w9, hw9⟩ : ∃ W, W = w8.alloc (.cells #[.int .i64 r, .slice p1 N c1] 24) := ⟨_, rfl⟩
        have gA : GBox w8.heap.size r p1 N c1 w9 := by rw [hw9]; exact GBox.new _ _ _ _ _ _
        have hb9 := bjoin ((Below.refl w8.heap.size w8).alloc (Nat.le_refl _) (.cells #[.int .i64 r, .slice p1 N c1] 24)) hb8
        replace hA := hA.below ((Below.refl w8.heap.size w8).alloc (Nat.le_refl _) (.cells #[.int .i64 r, .slice p1 N c1] 24))
        rw [← hw9] at hb9 hA ⊢
        have g9 := g7.below hb9
        have hb69 := bjoin hb9 hb7
        clear hw9 hb8 hb9 hb7 x0 x1 l0 g7
        generalize w8.heap.size = BA at *
        obtain ⟨l0, x0, x1⟩ := id g9
        go_upto_region 10 with (first
          | (go_at_call 13; refine Calls.mono (hPr _ hb69) ?_; rintro e w10 ⟨p2, c2, rfl, hB, hb10⟩)
        )
        obtain ⟨w11, hw11⟩ : ∃ W, W = w10.alloc (.cells #[.int .i64 r, .slice p2 N c2] 24) := ⟨_, rfl⟩
        have gB : GBox w10.heap.size r p2 N c2 w11 := by rw [hw11]; exact GBox.new _ _ _ _ _ _
        have hb11 := bjoin ((Below.refl w10.heap.size w10).alloc (Nat.le_refl _) (.cells #[.int .i64 r, .slice p2 N c2] 24)) hb10
        replace hB := hB.below ((Below.refl w10.heap.size w10).alloc (Nat.le_refl _) (.cells #[.int .i64 r, .slice p2 N c2] 24))
        rw [← hw11] at hb11 hB ⊢
        have g11 := g9.below hb11
        replace gA := gA.below hb11
        replace hA := hA.below hb11
        have hb611 := bjoin hb11 hb69
        clear hw11 hb10 hb11 hb69 x0 x1 l0 g9
        generalize w10.heap.size = BB at *
        obtain ⟨l0, x0, x1⟩ := id g11
        go_upto_region 11 with (first
          | (go_at_call 14; refine Calls.mono (hQc _ hb611) ?_; rintro e w12 ⟨p3, c3, rfl, hC, -, hb12⟩)
        )
        obtain ⟨w13, hw13⟩ : ∃ W, W = w12.alloc (.cells #[.int .i64 r, .slice p3 N1 c3] 24) := ⟨_, rfl⟩
        have gC : GBox w12.heap.size r p3 N1 c3 w13 := by rw [hw13]; exact GBox.new _ _ _ _ _ _
        have hb13 := bjoin ((Below.refl w12.heap.size w12).alloc (Nat.le_refl _) (.cells #[.int .i64 r, .slice p3 N1 c3] 24)) hb12
        replace hC := hC.below ((Below.refl w12.heap.size w12).alloc (Nat.le_refl _) (.cells #[.int .i64 r, .slice p3 N1 c3] 24))
        rw [← hw13] at hb13 hC ⊢
        have g13 := g11.below hb13
        replace gA := gA.below hb13
        replace gB := gB.below hb13
        replace hA := hA.below hb13
        replace hB := hB.below hb13
        have hb613 := bjoin hb13 hb611
        clear hw13 hb12 hb13 hb611 x0 x1 l0 g11
        generalize w12.heap.size = BC at *
        obtain ⟨l0, x0, x1⟩ := id g13
        go_upto_region 12 with (first
          | (go_at_call 15; refine Calls.mono (hQr _ hb613) ?_; rintro e w14 ⟨p4, c4, rfl, hD, hb14⟩)
        )
        obtain ⟨w15, hw15⟩ : ∃ W, W = w14.alloc (.cells #[.int .i64 r, .slice p4 N1 c4] 24) := ⟨_, rfl⟩
        have gD : GBox w14.heap.size r p4 N1 c4 w15 := by rw [hw15]; exact GBox.new _ _ _ _ _ _
        have hb15 := bjoin ((Below.refl w14.heap.size w14).alloc (Nat.le_refl _) (.cells #[.int .i64 r, .slice p4 N1 c4] 24)) hb14
        replace hD := hD.below ((Below.refl w14.heap.size w14).alloc (Nat.le_refl _) (.cells #[.int .i64 r, .slice p4 N1 c4] 24))
        rw [← hw15] at hb15 hD ⊢
        replace gA := gA.below hb15
        replace gB := gB.below hb15
        replace gC := gC.below hb15
        replace hA := hA.below hb15
        replace hB := hB.below hb15
        replace hC := hC.below hb15
        replace hbW := bjoin (bjoin hb15 hb613) hbW
        clear hw15 hb14 hb15 hb613 x0 x1 l0 g13 hPc hPr hQc hQr
        generalize w14.heap.size = BD at *
        obtain ⟨lA, a0, a1⟩ := id gA
        obtain ⟨lB, b0, b1⟩ := id gB
        go_wp2_with (first
          | (go_at_call 11; refine Calls.mono (hSg _ _ _ _ _ _ _ _ _ _ _ true (by first | exact hA | exact hC.below (by assumption)) (by first | exact hB | exact hD.below (by assumption)) (sameG_self _ _ _)) ?_; rintro e w16 ⟨rfl, hb16⟩; obtain ⟨lC, e0, e1⟩ := gC.below (by assumption); obtain ⟨lD, f0, f1⟩ := gD.below (by assumption))
        )
        go_returns
        exact ⟨ret_bool (by simp), bjoin hb16 (by first | exact bjoin (by assumption) hbW | exact hbW)⟩
namespace GreyDoes
theorem own : ownKnob Try.prog.godebug = none := by kernel_rfl
set_option maxRecDepth 100000 in
theorem lifted (os : Os) (started : os.Started) (H : Type) (enc : TypeId × Value → H) :
    ReturnsInHanded {} Try.checked os 3 .any (Rows.greyDoesSpec.pre6 enc Try.prog Try.f3 Rows.greyDoesRow.domain false) (Rows.greyDoesSpec.post enc Try.prog Try.f3 false true false false) := by
  refine law_lifted (C := Try.checked) own started (by kernel_rfl) Try.func3 (by kernel_rfl) (of_decide_eq_true (by kernel_rfl)) rfl
    (fun ds hd => by have hd' : ds.length = 3 := hd; match ds, hd' with | [d0, d1, d2], _ => rfl) rfl Try.underlying4
    (ChangeSpec.witness6 (enc := enc) (C := Try.checked) false ⟨#[], #[.agg #[.int .i64 0, .slice none 0 0], .int .i64 0, .int .i64 0], []⟩ 8 (by kernel_rfl) (by kernel_rfl) (by kernel_rfl) (by kernel_rfl)) ?_
  intro W base args ds p hval hA hlt
  rw [Try.params3] at hA hval
  obtain ⟨v0, v1, v2, d0, d1, d2, p0, p1, p2, rfl, rfl, rfl, h0, h1, h2⟩ := trodAll_three hA
  obtain ⟨r0, q0, n0, c0, z0, rfl, hr0, hg0⟩ := open_grey Try.underlying24 (by kernel_rfl) (by kernel_rfl) (by kernel_rfl) Try.underlying22 (by kernel_rfl) (by kernel_rfl) (hval 0 24 v0 rfl rfl) h0
  obtain ⟨a1, rfl, ha1⟩ := open_i64 Try.underlying3 (hval 1 3 v1 rfl rfl) h1
  obtain ⟨a2, rfl, ha2⟩ := open_i64 Try.underlying3 (hval 2 3 v2 rfl rfl) h2
  exact does13_walk r0 a1 a2 q0 n0 c0 z0 W hg0 (by simp [Lit.wf, IntKind.min, IntKind.max, IntKind.signed, IntKind.bits]; omega)

/-- The statement. -/
theorem holds : Rows.GreyDoesSaid :=
  OpenClaim.holds_of_wide 3 Try.f3 rfl rfl rfl rfl rfl rfl rfl ⟨rfl, rfl, rfl, rfl, rfl⟩ rfl rfl rfl rfl rfl (by kernel_rfl) Try.func3 (by kernel_rfl)
    (of_decide_eq_true (by kernel_rfl)) (by unfold Func.isWrapper; first | (rw [if_pos (by decide +kernel)]; kernel_rfl) | (rw [if_neg (by decide +kernel)]; exact ⟨rfl, rfl⟩))
    (fun os started H enc _ => lifted os started H enc)
#print axioms holds
end GreyDoes
end Go.Proofs.Ytffcekjkgeiccaa
