/- Contracts of the code's marking (chapter 17): a value shaded with a row, the heap and what is over kept in the methods' variable. -/
import Derived.Test.YtiofeebiejkajaaDoorB37
namespace Go.Proofs.YtiofeebiejkajaaDoor
set_option linter.unusedSimpArgs false
set_option linter.unusedVariables false
open Go.ChangeShapes Go.WideShapes Go.ChangeAt Go.RowKit Go.Joins

theorem tbox_three {w w0 : World} {x1 x2 x3 : Array Value} {t1 t2 t3 : TypeId} (e : w0 = ((w.alloc (.cells x1 t1)).alloc (.cells x2 t2)).alloc (.cells x3 t3)) :
    TBox t1 w.heap.size x1 w0 ∧ TBox t2 (w.heap.size + 1) x2 w0 ∧ TBox t3 (w.heap.size + 1 + 1) x3 w0 ∧ Below w.heap.size w w0 := by
  obtain ⟨w1, h1⟩ : ∃ w1, w1 = (w.alloc (.cells x1 t1)).alloc (.cells x2 t2) := ⟨_, rfl⟩
  obtain ⟨a, b, hb⟩ := tbox_two h1
  have s : w1.heap.size = w.heap.size + 1 + 1 := by rw [h1]; simp
  rw [← h1] at e
  have b2 : Below w1.heap.size w1 w0 := by rw [e]; exact (Below.refl _ _).alloc (Nat.le_refl _) _
  have n2 : TBox t3 w1.heap.size x3 w0 := by rw [e]; exact TBox.new _ _ _
  rw [s] at n2
  exact ⟨a.below b2, b.below b2, n2, bjoin b2 hb⟩

set_option maxHeartbeats 8000000 in
set_option maxRecDepth 20000 in
/-- A value shaded with a row. -/
theorem msinto_any (N B n k : Nat) (b : Bool) (h : Hp) (m : Mk) (r : Int) (pr : Option Addr) (K cr : Nat) (z : Nat → Int) (v : Vl) (w : World) (hS : Sz w) (hN : N ≤ B) (hst : StV N B n k b h m w) (hF : formB h = true)
    (hg : GrAt w pr cr K z) (hR : RowE N 3 K pr w) (hr : r ≤ 1000000) (hk : K ≤ 1000000) (hv : v.wf) :
    Calls Tryd.prog 43 #[.pointer (some ⟨B, 0, none⟩), .agg #[.int .i64 r, .slice pr K cr], v.agg] w fun e w' => ∃ pr' cr', e = .returned (.agg #[.int .i64 r, .slice pr' (sdS r ⟨h, K, z, false⟩ v).n cr']) ∧
      GrAt w' pr' cr' (sdS r ⟨h, K, z, false⟩ v).n (sdS r ⟨h, K, z, false⟩ v).z ∧ RowE N 3 (sdS r ⟨h, K, z, false⟩ v).n pr' w' ∧ StV N B n k b (sdS r ⟨h, K, z, false⟩ v).h { m with ov := m.ov || (sdS r ⟨h, K, z, false⟩ v).o } w' ∧ Aside (fun k => k = B) w w' := by
  obtain ⟨hn32, hk0⟩ := hst.room hF
  obtain ⟨vk, vn⟩ := v
  obtain ⟨w0, hw0⟩ : ∃ w0, w0 = ((w.alloc (.cells #[.int .i64 r, .slice pr K cr] 28)).alloc (.cells #[.int .i64 vk, .int .i64 vn] 38)).alloc (.cells #[.int .i64 0, .slice none 0 0] 28) := ⟨_, rfl⟩
  obtain ⟨g1, g2, g3, hb0⟩ := tbox_three hw0
  have hlB0 := hst.lt
  obtain ⟨p, c, q, d, pg, cg, pb, cb, pv, cv, g0, hh, hM⟩ := hst
  have vBw : VarT 73 11 B w := ⟨_, rfl, plain_st _ _ _ _ _ _ _ _ _ _ _ _ _ _, g0⟩
  replace g0 := g0.below hb0
  replace hh := hh.below hb0
  have hNw : N ≤ w.heap.size := by omega
  have hN0 : N ≤ w0.heap.size := Nat.le_trans hNw hb0.size
  have hC := fun W (hW : Below w0.heap.size w0 W) => shade_in N r (v := ⟨vk, vn⟩) ((hS.below hb0).below hW) (hh.below hW) hF ((hg.below hb0).below hW) ((hR.below hb0).below hW) (Nat.le_trans hN0 hW.size) hr hk hv
  generalize sdS r ⟨h, K, z, false⟩ ⟨vk, vn⟩ = T at *
  obtain ⟨hlB, -, -, -, -, -, -, -, x7, x8, x9, x10⟩ := st_cells g0
  have y0 := g1.cell 0
  have y1 := g1.cell 1
  have u0 := g2.cell 0
  have u1 := g2.cell 1
  simp only [List.getElem?_toArray, List.getElem?_cons_zero, List.getElem?_cons_succ] at y0 y1 u0 u1
  have l1 := g1.lt
  have l2 := g2.lt
  have l3 := g3.lt
  unfold Vl.agg at hC ⊢
  dsimp only at hC ⊢
  clear hg hR hh hS hF
  go_enter Tryd.func43, Tryd.ntmps43
  go_upto_region 1 with fail
  rw [← hw0]
  clear hw0
  refine wp_news_pv [(13, 11), (14, 12)] [some 11, some 12, some 13, some 14, some 15, some 16, some 17, some 10, some 18, some 19, some 20, some 7, some 8, none, none, some 9] [11, 12, 13, 14, 15, 16, 17, 10, 18, 19, 20, 7, 8, 9] ([(fun v _ => v = .pointer (some ⟨B, 0, none⟩)), (fun v _ => v = .pointer (some ⟨B, 0, none⟩)), (fun v _ => v = .pointer (some ⟨B, 8, none⟩)), (fun v _ => v = .agg #[.slice p n c, .slice q k d, .bool b]), (fun v _ => v = .agg #[.int .i64 r, .slice pr K cr]), (fun v _ => v = .agg #[.int .i64 vk, .int .i64 vn]), (HgT (N) (n) (k) (b) (T.h) (r) (T.n) (T.z) (.bool T.o)), (HgT (N) (n) (k) (b) (T.h) (r) (T.n) (T.z) (.bool T.o)), (HpV (n) (k) (b) (T.h)), (GreyE (N) (r) (T.n) (T.z)), (fun v _ => v = .bool T.o), (PtrV (w0.heap.size) 25 3), (PtrV (w0.heap.size) 28 2), (fun _ _ => True), (fun _ _ => True), (fun v _ => v = .bool T.o)] : List (Value → World → Prop)) (nsF ([(13, FullHT 25 (n) (k) (b) (T.h)), (14, FullGE 28 (N) (r) (T.n) (T.z))] : List (Nat × (Nat → World → Prop)))) 21 (by kernel_rfl) (by kernel_rfl) rfl rfl (by decide) (by decide) (by simp) (by kernel_rfl) ⟨fun _ _ _ h _ => h, fun _ _ _ h _ => h, fun _ _ _ h _ => h, fun _ _ _ h _ => h, fun _ _ _ h _ => h, fun _ _ _ h _ => h, fun _ _ _ h hb => h.below hb, fun _ _ _ h hb => h.below hb, fun _ _ _ h hb => h.below hb, fun _ _ _ h hb => h.below hb, fun _ _ _ h _ => h, fun _ _ _ h hb => h.below hb, fun _ _ _ h hb => h.below hb, fun _ _ _ _ _ => trivial, fun _ _ _ _ _ => trivial, fun _ _ _ h _ => h, trivial⟩ (nsF_below (l := ([(13, FullHT 25 (n) (k) (b) (T.h)), (14, FullGE 28 (N) (r) (T.n) (T.z))] : List (Nat × (Nat → World → Prop)))) ⟨fun _ _ _ h hb => h.below hb, fun _ _ _ h hb => h.below hb, trivial⟩) ?_ ?_
  · refine ⟨?_, ?_, ?_, ?_, ?_, ?_, ?_, ?_, ?_, ?_, ?_, ?_, ?_, ?_, ?_, ?_, trivial⟩
    · refine news_none rfl ?_
      intro a' w' hb' hs hd Kc hK
      have f0 : a'.tmps[0]?.getD undef = .pointer (some ⟨B, 0, none⟩) := (hs 0 (by decide)).trans rfl
      clear hs hd
      have x8' := (hb'.cell (p := ⟨B, 8, none⟩) hlB).trans x8
      have x9' := (hb'.cell (p := ⟨B, 9, none⟩) hlB).trans x9
      have x10' := (hb'.cell (p := ⟨B, 10, none⟩) hlB).trans x10
      have y0' := (hb'.cell (p := ⟨w.heap.size, 0, none⟩) l1).trans y0
      have y1' := (hb'.cell (p := ⟨w.heap.size, 1, none⟩) l1).trans y1
      have u0' := (hb'.cell (p := ⟨w.heap.size + 1, 0, none⟩) l2).trans u0
      have u1' := (hb'.cell (p := ⟨w.heap.size + 1, 1, none⟩) l2).trans u1
      unfold Oper.wp
      go_simp
      exact hK _ _ (Below.refl _ _) (by first | rfl | (show Value.int _ _ = Value.int _ _; go_num; done) | (simp [valOf, *]; done) | (simp [valOf]; omega))
    · refine news_none rfl ?_
      intro a' w' hb' hs hd Kc hK
      have f11 : a'.tmps[11]?.getD undef = .pointer (some ⟨B, 0, none⟩) := hd 0 11 (by first | rfl | decide | simp [Region.binds]) rfl
      clear hs hd
      have x8' := (hb'.cell (p := ⟨B, 8, none⟩) hlB).trans x8
      have x9' := (hb'.cell (p := ⟨B, 9, none⟩) hlB).trans x9
      have x10' := (hb'.cell (p := ⟨B, 10, none⟩) hlB).trans x10
      have y0' := (hb'.cell (p := ⟨w.heap.size, 0, none⟩) l1).trans y0
      have y1' := (hb'.cell (p := ⟨w.heap.size, 1, none⟩) l1).trans y1
      have u0' := (hb'.cell (p := ⟨w.heap.size + 1, 0, none⟩) l2).trans u0
      have u1' := (hb'.cell (p := ⟨w.heap.size + 1, 1, none⟩) l2).trans u1
      unfold Oper.wp
      go_simp
      exact hK _ _ (Below.refl _ _) (by first | rfl | (show Value.int _ _ = Value.int _ _; go_num; done) | (simp [valOf, *]; done) | (simp [valOf]; omega))
    · refine news_none rfl ?_
      intro a' w' hb' hs hd Kc hK
      have f12 : a'.tmps[12]?.getD undef = .pointer (some ⟨B, 0, none⟩) := hd 1 12 (by first | rfl | decide | simp [Region.binds]) rfl
      clear hs hd
      have x8' := (hb'.cell (p := ⟨B, 8, none⟩) hlB).trans x8
      have x9' := (hb'.cell (p := ⟨B, 9, none⟩) hlB).trans x9
      have x10' := (hb'.cell (p := ⟨B, 10, none⟩) hlB).trans x10
      have y0' := (hb'.cell (p := ⟨w.heap.size, 0, none⟩) l1).trans y0
      have y1' := (hb'.cell (p := ⟨w.heap.size, 1, none⟩) l1).trans y1
      have u0' := (hb'.cell (p := ⟨w.heap.size + 1, 0, none⟩) l2).trans u0
      have u1' := (hb'.cell (p := ⟨w.heap.size + 1, 1, none⟩) l2).trans u1
      unfold Oper.wp
      go_simp
      exact hK _ _ (Below.refl _ _) (by first | rfl | (show Value.int _ _ = Value.int _ _; go_num; done) | (simp [valOf, *]; done) | (simp [valOf]; omega))
    · refine news_none rfl ?_
      intro a' w' hb' hs hd Kc hK
      have f13 : a'.tmps[13]?.getD undef = .pointer (some ⟨B, 8, none⟩) := hd 2 13 (by first | rfl | decide | simp [Region.binds]) rfl
      clear hs hd
      have x8' := (hb'.cell (p := ⟨B, 8, none⟩) hlB).trans x8
      have x9' := (hb'.cell (p := ⟨B, 9, none⟩) hlB).trans x9
      have x10' := (hb'.cell (p := ⟨B, 10, none⟩) hlB).trans x10
      have y0' := (hb'.cell (p := ⟨w.heap.size, 0, none⟩) l1).trans y0
      have y1' := (hb'.cell (p := ⟨w.heap.size, 1, none⟩) l1).trans y1
      have u0' := (hb'.cell (p := ⟨w.heap.size + 1, 0, none⟩) l2).trans u0
      have u1' := (hb'.cell (p := ⟨w.heap.size + 1, 1, none⟩) l2).trans u1
      unfold Oper.wp
      go_simp
      exact hK _ _ (Below.refl _ _) (by first | rfl | (show Value.int _ _ = Value.int _ _; go_num; done) | (simp [valOf, *]; done) | (simp [valOf]; omega))
    · refine news_none rfl ?_
      intro a' w' hb' hs hd Kc hK
      have f4 : a'.tmps[4]?.getD undef = .pointer (some ⟨w.heap.size, 0, none⟩) := (hs 4 (by decide)).trans rfl
      clear hs hd
      have x8' := (hb'.cell (p := ⟨B, 8, none⟩) hlB).trans x8
      have x9' := (hb'.cell (p := ⟨B, 9, none⟩) hlB).trans x9
      have x10' := (hb'.cell (p := ⟨B, 10, none⟩) hlB).trans x10
      have y0' := (hb'.cell (p := ⟨w.heap.size, 0, none⟩) l1).trans y0
      have y1' := (hb'.cell (p := ⟨w.heap.size, 1, none⟩) l1).trans y1
      have u0' := (hb'.cell (p := ⟨w.heap.size + 1, 0, none⟩) l2).trans u0
      have u1' := (hb'.cell (p := ⟨w.heap.size + 1, 1, none⟩) l2).trans u1
      unfold Oper.wp
      go_simp
      exact hK _ _ (Below.refl _ _) (by first | rfl | (show Value.int _ _ = Value.int _ _; go_num; done) | (simp [valOf, *]; done) | (simp [valOf]; omega))
    · refine news_none rfl ?_
      intro a' w' hb' hs hd Kc hK
      have f5 : a'.tmps[5]?.getD undef = .pointer (some ⟨w.heap.size + 1, 0, none⟩) := (hs 5 (by decide)).trans rfl
      clear hs hd
      have x8' := (hb'.cell (p := ⟨B, 8, none⟩) hlB).trans x8
      have x9' := (hb'.cell (p := ⟨B, 9, none⟩) hlB).trans x9
      have x10' := (hb'.cell (p := ⟨B, 10, none⟩) hlB).trans x10
      have y0' := (hb'.cell (p := ⟨w.heap.size, 0, none⟩) l1).trans y0
      have y1' := (hb'.cell (p := ⟨w.heap.size, 1, none⟩) l1).trans y1
      have u0' := (hb'.cell (p := ⟨w.heap.size + 1, 0, none⟩) l2).trans u0
      have u1' := (hb'.cell (p := ⟨w.heap.size + 1, 1, none⟩) l2).trans u1
      unfold Oper.wp
      go_simp
      exact hK _ _ (Below.refl _ _) (by first | rfl | (show Value.int _ _ = Value.int _ _; go_num; done) | (simp [valOf, *]; done) | (simp [valOf]; omega))
    · refine news_none rfl ?_
      intro a' w' hb' hs hd Kc hK
      have f14 : a'.tmps[14]?.getD undef = .agg #[.slice p n c, .slice q k d, .bool b] := hd 3 14 (by first | rfl | decide | simp [Region.binds]) rfl
      have f15 : a'.tmps[15]?.getD undef = .agg #[.int .i64 r, .slice pr K cr] := hd 4 15 (by first | rfl | decide | simp [Region.binds]) rfl
      have f16 : a'.tmps[16]?.getD undef = .agg #[.int .i64 vk, .int .i64 vn] := hd 5 16 (by first | rfl | decide | simp [Region.binds]) rfl
      clear hs hd
      have x8' := (hb'.cell (p := ⟨B, 8, none⟩) hlB).trans x8
      have x9' := (hb'.cell (p := ⟨B, 9, none⟩) hlB).trans x9
      have x10' := (hb'.cell (p := ⟨B, 10, none⟩) hlB).trans x10
      have y0' := (hb'.cell (p := ⟨w.heap.size, 0, none⟩) l1).trans y0
      have y1' := (hb'.cell (p := ⟨w.heap.size, 1, none⟩) l1).trans y1
      have u0' := (hb'.cell (p := ⟨w.heap.size + 1, 0, none⟩) l2).trans u0
      have u1' := (hb'.cell (p := ⟨w.heap.size + 1, 1, none⟩) l2).trans u1
      unfold Oper.wp
      go_simp
      refine Calls.mono (hC _ hb') ?_
      rintro e w'' ⟨p2, c2, q2, d2, pr2, cr2, rfl, hA, hG, hR, hb2⟩
      exact hK _ _ hb2 ⟨_, _, _, _, _, _, rfl, hA, hG, hR⟩
    · refine news_none rfl ?_
      intro a' w' hb' hs hd Kc hK
      have f17 : HgT (N) (n) (k) (b) (T.h) (r) (T.n) (T.z) (.bool T.o) (a'.tmps[17]?.getD undef) w' := hd 6 17 (by first | rfl | decide | simp [Region.binds]) rfl
      clear hs hd
      have x8' := (hb'.cell (p := ⟨B, 8, none⟩) hlB).trans x8
      have x9' := (hb'.cell (p := ⟨B, 9, none⟩) hlB).trans x9
      have x10' := (hb'.cell (p := ⟨B, 10, none⟩) hlB).trans x10
      have y0' := (hb'.cell (p := ⟨w.heap.size, 0, none⟩) l1).trans y0
      have y1' := (hb'.cell (p := ⟨w.heap.size, 1, none⟩) l1).trans y1
      have u0' := (hb'.cell (p := ⟨w.heap.size + 1, 0, none⟩) l2).trans u0
      have u1' := (hb'.cell (p := ⟨w.heap.size + 1, 1, none⟩) l2).trans u1
      obtain ⟨_, _, _, _, _, _, f17, hA, hG, hR⟩ := f17
      unfold Oper.wp
      go_simp
      exact hK _ _ (Below.refl _ _) ⟨_, _, _, _, _, _, rfl, hA, hG, hR⟩
    · refine news_none rfl ?_
      intro a' w' hb' hs hd Kc hK
      have f10 : HgT (N) (n) (k) (b) (T.h) (r) (T.n) (T.z) (.bool T.o) (a'.tmps[10]?.getD undef) w' := hd 7 10 (by first | rfl | decide | simp [Region.binds]) rfl
      clear hs hd
      have x8' := (hb'.cell (p := ⟨B, 8, none⟩) hlB).trans x8
      have x9' := (hb'.cell (p := ⟨B, 9, none⟩) hlB).trans x9
      have x10' := (hb'.cell (p := ⟨B, 10, none⟩) hlB).trans x10
      have y0' := (hb'.cell (p := ⟨w.heap.size, 0, none⟩) l1).trans y0
      have y1' := (hb'.cell (p := ⟨w.heap.size, 1, none⟩) l1).trans y1
      have u0' := (hb'.cell (p := ⟨w.heap.size + 1, 0, none⟩) l2).trans u0
      have u1' := (hb'.cell (p := ⟨w.heap.size + 1, 1, none⟩) l2).trans u1
      obtain ⟨_, _, _, _, _, _, f10, hA, hG, hR⟩ := f10
      unfold Oper.wp
      go_simp
      exact hK _ _ (Below.refl _ _) ⟨_, _, _, _, rfl, hA⟩
    · refine news_none rfl ?_
      intro a' w' hb' hs hd Kc hK
      have f10 : HgT (N) (n) (k) (b) (T.h) (r) (T.n) (T.z) (.bool T.o) (a'.tmps[10]?.getD undef) w' := hd 7 10 (by first | rfl | decide | simp [Region.binds]) rfl
      clear hs hd
      have x8' := (hb'.cell (p := ⟨B, 8, none⟩) hlB).trans x8
      have x9' := (hb'.cell (p := ⟨B, 9, none⟩) hlB).trans x9
      have x10' := (hb'.cell (p := ⟨B, 10, none⟩) hlB).trans x10
      have y0' := (hb'.cell (p := ⟨w.heap.size, 0, none⟩) l1).trans y0
      have y1' := (hb'.cell (p := ⟨w.heap.size, 1, none⟩) l1).trans y1
      have u0' := (hb'.cell (p := ⟨w.heap.size + 1, 0, none⟩) l2).trans u0
      have u1' := (hb'.cell (p := ⟨w.heap.size + 1, 1, none⟩) l2).trans u1
      obtain ⟨_, _, _, _, _, _, f10, hA, hG, hR⟩ := f10
      unfold Oper.wp
      go_simp
      exact hK _ _ (Below.refl _ _) ⟨_, _, rfl, hG, hR⟩
    · refine news_none rfl ?_
      intro a' w' hb' hs hd Kc hK
      have f10 : HgT (N) (n) (k) (b) (T.h) (r) (T.n) (T.z) (.bool T.o) (a'.tmps[10]?.getD undef) w' := hd 7 10 (by first | rfl | decide | simp [Region.binds]) rfl
      clear hs hd
      have x8' := (hb'.cell (p := ⟨B, 8, none⟩) hlB).trans x8
      have x9' := (hb'.cell (p := ⟨B, 9, none⟩) hlB).trans x9
      have x10' := (hb'.cell (p := ⟨B, 10, none⟩) hlB).trans x10
      have y0' := (hb'.cell (p := ⟨w.heap.size, 0, none⟩) l1).trans y0
      have y1' := (hb'.cell (p := ⟨w.heap.size, 1, none⟩) l1).trans y1
      have u0' := (hb'.cell (p := ⟨w.heap.size + 1, 0, none⟩) l2).trans u0
      have u1' := (hb'.cell (p := ⟨w.heap.size + 1, 1, none⟩) l2).trans u1
      obtain ⟨_, _, _, _, _, _, f10, hA, hG, hR⟩ := f10
      unfold Oper.wp
      go_simp
      exact hK _ _ (Below.refl _ _) (by first | rfl | (show Value.int _ _ = Value.int _ _; go_num; done) | (simp [valOf, *]; done) | (simp [valOf]; omega))
    · refine news_none rfl ?_
      intro a' w' hb' hs hd Kc hK
      clear hs hd
      have x8' := (hb'.cell (p := ⟨B, 8, none⟩) hlB).trans x8
      have x9' := (hb'.cell (p := ⟨B, 9, none⟩) hlB).trans x9
      have x10' := (hb'.cell (p := ⟨B, 10, none⟩) hlB).trans x10
      have y0' := (hb'.cell (p := ⟨w.heap.size, 0, none⟩) l1).trans y0
      have y1' := (hb'.cell (p := ⟨w.heap.size, 1, none⟩) l1).trans y1
      have u0' := (hb'.cell (p := ⟨w.heap.size + 1, 0, none⟩) l2).trans u0
      have u1' := (hb'.cell (p := ⟨w.heap.size + 1, 1, none⟩) l2).trans u1
      unfold Oper.wp
      go_simp
      exact hK _ _ ((Below.refl _ _).alloc (Nat.le_refl _) _) (ptrV_new _ _ _ plain_heap hb'.size)
    · refine news_none rfl ?_
      intro a' w' hb' hs hd Kc hK
      clear hs hd
      have x8' := (hb'.cell (p := ⟨B, 8, none⟩) hlB).trans x8
      have x9' := (hb'.cell (p := ⟨B, 9, none⟩) hlB).trans x9
      have x10' := (hb'.cell (p := ⟨B, 10, none⟩) hlB).trans x10
      have y0' := (hb'.cell (p := ⟨w.heap.size, 0, none⟩) l1).trans y0
      have y1' := (hb'.cell (p := ⟨w.heap.size, 1, none⟩) l1).trans y1
      have u0' := (hb'.cell (p := ⟨w.heap.size + 1, 0, none⟩) l2).trans u0
      have u1' := (hb'.cell (p := ⟨w.heap.size + 1, 1, none⟩) l2).trans u1
      unfold Oper.wp
      go_simp
      exact hK _ _ ((Below.refl _ _).alloc (Nat.le_refl _) _) (ptrV_new _ _ _ plain_grey hb'.size)
    · refine news_some 11 7 rfl rfl ?_
      intro a' w' hb' hs hd Kc hK
      have f7 : PtrV (w0.heap.size) 25 3 (a'.tmps[7]?.getD undef) w' := hd 11 7 (by first | rfl | decide | simp [Region.binds]) rfl
      have f18 : HpV (n) (k) (b) (T.h) (a'.tmps[18]?.getD undef) w' := hd 8 18 (by first | rfl | decide | simp [Region.binds]) rfl
      clear hs hd
      have x8' := (hb'.cell (p := ⟨B, 8, none⟩) hlB).trans x8
      have x9' := (hb'.cell (p := ⟨B, 9, none⟩) hlB).trans x9
      have x10' := (hb'.cell (p := ⟨B, 10, none⟩) hlB).trans x10
      have y0' := (hb'.cell (p := ⟨w.heap.size, 0, none⟩) l1).trans y0
      have y1' := (hb'.cell (p := ⟨w.heap.size, 1, none⟩) l1).trans y1
      have u0' := (hb'.cell (p := ⟨w.heap.size + 1, 0, none⟩) l2).trans u0
      have u1' := (hb'.cell (p := ⟨w.heap.size + 1, 1, none⟩) l2).trans u1
      obtain ⟨gg, f7, hg, hv⟩ := f7
      obtain ⟨p', c', q', d', f18, hA⟩ := f18
      obtain ⟨x0, x1, x2, gl, y0, y1, y2, z0, z1, z2⟩ := hv.three
      have hy := plainL_heap p' (n) c' q' (k) d' (b)
      unfold Oper.wp
      go_simp
      exact hK gg (.tuple #[]) _ f7 (putsL_below hg [.slice p' (n) c', .slice q' (k) d', .bool (b)] 0 w') ⟨p', c', q', d', hv.full3 _ _ _, hpIn_puts (hv.clear hA (hn32) (hk0)) [.slice p' (n) c', .slice q' (k) d', .bool (b)] 0 hA⟩ (nsF_stay (l := ([(13, FullHT 25 (n) (k) (b) (T.h)), (14, FullGE 28 (N) (r) (T.n) (T.z))] : List (Nat × (Nat → World → Prop)))) ⟨.inl rfl, .inr fun g' hQ => hQ.putsV hv (by decide) (by decide) (Nat.le_trans (hN0) hg) [.slice p' (n) c', .slice q' (k) d', .bool (b)], trivial⟩) ⟨fun _ hQ => hQ, fun _ hQ => hQ, fun _ hQ => hQ, fun _ hQ => hQ, fun _ hQ => hQ, fun _ hQ => hQ, fun _ hQ => hQ.putsV hv (by decide) (Nat.le_trans (hN0) hg) (hn32) (hk0) [.slice p' (n) c', .slice q' (k) d', .bool (b)], fun _ hQ => hQ.putsV hv (by decide) (Nat.le_trans (hN0) hg) (hn32) (hk0) [.slice p' (n) c', .slice q' (k) d', .bool (b)], fun _ hQ => hQ.putsV hv (hn32) (hk0) [.slice p' (n) c', .slice q' (k) d', .bool (b)], fun _ hQ => hQ.putsV hv (by decide) (Nat.le_trans (hN0) hg) [.slice p' (n) c', .slice q' (k) d', .bool (b)], fun _ hQ => hQ, fun _ hQ => hQ.putsV hy, fun _ hQ => hQ.putsV hy, fun _ _ => trivial, fun _ _ => trivial, fun _ hQ => hQ, trivial⟩
    · refine news_some 12 8 rfl rfl ?_
      intro a' w' hb' hs hd Kc hK
      have f8 : PtrV (w0.heap.size) 28 2 (a'.tmps[8]?.getD undef) w' := hd 12 8 (by first | rfl | decide | simp [Region.binds]) rfl
      have f19 : GreyE (N) (r) (T.n) (T.z) (a'.tmps[19]?.getD undef) w' := hd 9 19 (by first | rfl | decide | simp [Region.binds]) rfl
      clear hs hd
      have x8' := (hb'.cell (p := ⟨B, 8, none⟩) hlB).trans x8
      have x9' := (hb'.cell (p := ⟨B, 9, none⟩) hlB).trans x9
      have x10' := (hb'.cell (p := ⟨B, 10, none⟩) hlB).trans x10
      have y0' := (hb'.cell (p := ⟨w.heap.size, 0, none⟩) l1).trans y0
      have y1' := (hb'.cell (p := ⟨w.heap.size, 1, none⟩) l1).trans y1
      have u0' := (hb'.cell (p := ⟨w.heap.size + 1, 0, none⟩) l2).trans u0
      have u1' := (hb'.cell (p := ⟨w.heap.size + 1, 1, none⟩) l2).trans u1
      obtain ⟨gg, f8, hg, hv⟩ := f8
      obtain ⟨p', c', f19, hG, hR⟩ := f19
      obtain ⟨x0, x1, gl, y0, y1, z0, z1⟩ := hv.shape.two
      have hy := plainL_grey (r) p' (T.n) c'
      unfold Oper.wp
      go_simp
      exact hK gg (.tuple #[]) _ f8 (putsL_below hg [.int .i64 (r), .slice p' (T.n) c'] 0 w') ⟨p', c', hv.shape.full2 _ _, grAt_puts hG hR hv (by decide) (Nat.le_trans (hN0) hg) [.int .i64 (r), .slice p' (T.n) c'], hR.puts hv (by decide) (Nat.le_trans (hN0) hg) [.int .i64 (r), .slice p' (T.n) c']⟩ (nsF_stay (l := ([(13, FullHT 25 (n) (k) (b) (T.h)), (14, FullGE 28 (N) (r) (T.n) (T.z))] : List (Nat × (Nat → World → Prop)))) ⟨.inr fun g' hQ => hQ.putsV hv (by decide) (hn32) (hk0) [.int .i64 (r), .slice p' (T.n) c'], .inl rfl, trivial⟩) ⟨fun _ hQ => hQ, fun _ hQ => hQ, fun _ hQ => hQ, fun _ hQ => hQ, fun _ hQ => hQ, fun _ hQ => hQ, fun _ hQ => hQ.putsV hv (by decide) (Nat.le_trans (hN0) hg) (hn32) (hk0) [.int .i64 (r), .slice p' (T.n) c'], fun _ hQ => hQ.putsV hv (by decide) (Nat.le_trans (hN0) hg) (hn32) (hk0) [.int .i64 (r), .slice p' (T.n) c'], fun _ hQ => hQ.putsV hv (hn32) (hk0) [.int .i64 (r), .slice p' (T.n) c'], fun _ hQ => hQ.putsV hv (by decide) (Nat.le_trans (hN0) hg) [.int .i64 (r), .slice p' (T.n) c'], fun _ hQ => hQ, fun _ hQ => hQ.putsV hy, fun _ hQ => hQ.putsV hy, fun _ _ => trivial, fun _ _ => trivial, fun _ hQ => hQ, trivial⟩
    · refine news_none rfl ?_
      intro a' w' hb' hs hd Kc hK
      have f20 : a'.tmps[20]?.getD undef = .bool T.o := hd 10 20 (by first | rfl | decide | simp [Region.binds]) rfl
      clear hs hd
      have x8' := (hb'.cell (p := ⟨B, 8, none⟩) hlB).trans x8
      have x9' := (hb'.cell (p := ⟨B, 9, none⟩) hlB).trans x9
      have x10' := (hb'.cell (p := ⟨B, 10, none⟩) hlB).trans x10
      have y0' := (hb'.cell (p := ⟨w.heap.size, 0, none⟩) l1).trans y0
      have y1' := (hb'.cell (p := ⟨w.heap.size, 1, none⟩) l1).trans y1
      have u0' := (hb'.cell (p := ⟨w.heap.size + 1, 0, none⟩) l2).trans u0
      have u1' := (hb'.cell (p := ⟨w.heap.size + 1, 1, none⟩) l2).trans u1
      unfold Oper.wp
      go_simp
      exact hK _ _ (Below.refl _ _) (by first | rfl | (show Value.int _ _ = Value.int _ _; go_num; done) | (simp [valOf, *]; done) | (simp [valOf]; omega))
  intro Xf w' hb hv hf
  obtain ⟨g7, q7, o7⟩ := hf 13 11 7 rfl rfl
  have p7 : PtrV (w0.heap.size) 25 3 (Xf 7) w' := hv 11 7 rfl
  replace o7 : FullHT 25 (n) (k) (b) (T.h) g7 w' := o7
  obtain ⟨g', e', hg7, hv7⟩ := p7
  rw [q7] at e'
  injection e' with e'
  injection e' with e'
  injection e' with e'
  subst e'
  obtain ⟨g8, q8, o8⟩ := hf 14 12 8 rfl rfl
  have p8 : PtrV (w0.heap.size) 28 2 (Xf 8) w' := hv 12 8 rfl
  replace o8 : FullGE 28 (N) (r) (T.n) (T.z) g8 w' := o8
  obtain ⟨g', e', hg8, hv8⟩ := p8
  rw [q8] at e'
  injection e' with e'
  injection e' with e'
  injection e' with e'
  subst e'
  have q9 : Xf 9 = .bool T.o := hv 15 9 rfl
  clear hv hf
  simp only [List.map_cons, List.map_nil, q7, q8, q9, puts, Act.put, Nat.reduceAdd, List.setIfInBounds_toArray, List.set_cons_succ, List.set_cons_zero]
  obtain ⟨p2, c2, q2, d2, t7, hA⟩ := o7
  obtain ⟨pr2, cr2, t8, hG, hR⟩ := o8
  replace g0 := g0.below hb
  replace g3 := g3.below hb
  have hbw := bjoin hb hb0
  have hB7 : ¬ B = g7 := by have := hb0.size; omega
  have lN0 := l3
  have lw0 := hb.size
  clear hC x7 x8 x9 x10 y0 y1 u0 u1 l1 l2 l3 hb q7 q8 q9 g1 g2 hlB hb0
  generalize w' = w1 at *
  have a0 := t7.cell 0
  have a1 := t7.cell 1
  have a2 := t7.cell 2
  simp only [List.getElem?_toArray, List.getElem?_cons_zero, List.getElem?_cons_succ] at a0 a1 a2
  have l7 := t7.lt
  obtain ⟨hlB, -, -, -, -, -, -, -, x7, x8, x9, x10⟩ := st_cells g0
  obtain ⟨-, -, -, -, -, -, -, f7, f8, f9, f10⟩ := st_frozen g0
  have lN : w.heap.size + 1 + 1 < w0.heap.size := lN0
  have hB8 : ¬ g8 = B := by omega
  have hB3 : ¬ w.heap.size + 1 + 1 = B := by omega
  have hB83 : ¬ g8 = w.heap.size + 1 + 1 := by omega
  have vB : VarT 73 11 B w1 := ⟨_, rfl, plain_st _ _ _ _ _ _ _ _ _ _ _ _ _ _, g0⟩
  have hA2 := hpIn_puts (vB.clear hA hn32 hk0) [.slice p2 n c2, .slice q2 k d2, .bool b] 8 hA
  have hG2 := gr_putsL (k := 8) hG hR vB (by decide) hN [.slice p2 n c2, .slice q2 k d2, .bool b]
  have hR2 := row_putsL (k := 8) hR vB (by decide) hN [.slice p2 n c2, .slice q2 k d2, .bool b]
  have g02 := g0.putsL [.slice p2 n c2, .slice q2 k d2, .bool b] 8
  simp only [setFrom, List.setIfInBounds_toArray, List.set_cons_succ, List.set_cons_zero, Nat.reduceAdd] at g02
  have t82 := t8.of_block (putsL_other hB8 [.slice p2 n c2, .slice q2 k d2, .bool b] 8 w1)
  have g32 := g3.of_block (putsL_other hB3 [.slice p2 n c2, .slice q2 k d2, .bool b] 8 w1)
  have hAs := (Aside.of (T := fun k => k = B) hbw).trans (putsL_aside (T := fun k => k = B) rfl [.slice p2 n c2, .slice q2 k d2, .bool b] 8 w1)
  obtain ⟨w2, hw2⟩ : ∃ W, W = putsL B 8 [.slice p2 n c2, .slice q2 k d2, .bool b] w1 := ⟨_, rfl⟩
  rw [← hw2] at hA2 hG2 hR2 g02 t82 g32 hAs
  have vB2 : VarT 73 11 B w2 := ⟨_, rfl, plain_st _ _ _ _ _ _ _ _ _ _ _ _ _ _, g02⟩
  have hA3 := hpIn_puts (vB2.clear hA2 hn32 hk0) [.bool (m.ov || T.o)] 7 hA2
  have hG3 := gr_putsL (k := 7) hG2 hR2 vB2 (by decide) hN [.bool (m.ov || T.o)]
  have hR3 := row_putsL (k := 7) hR2 vB2 (by decide) hN [.bool (m.ov || T.o)]
  have g03 := g02.putsL [.bool (m.ov || T.o)] 7
  simp only [setFrom, List.setIfInBounds_toArray, List.set_cons_succ, List.set_cons_zero, Nat.reduceAdd] at g03
  have t83 := t82.of_block (putsL_other hB8 [.bool (m.ov || T.o)] 7 w2)
  have g33 := g32.of_block (putsL_other hB3 [.bool (m.ov || T.o)] 7 w2)
  have hAs3 := hAs.trans (putsL_aside (T := fun k => k = B) rfl [.bool (m.ov || T.o)] 7 w2)
  obtain ⟨w3, hw3⟩ : ∃ W, W = putsL B 7 [.bool (m.ov || T.o)] w2 := ⟨_, rfl⟩
  rw [← hw3] at hA3 hG3 hR3 g03 t83 g33 hAs3
  rw [hw2] at hw3
  simp only [putsL, Nat.reduceAdd] at hw3
  clear hA2 hG2 hR2 g02 t82 g32 hAs vB vB2 hw2 hA hG hR t7 t8 g3 g0 hv7 hv8
  have hdr : ∀ W : World, Below W.heap.size W W.drew := fun W => (Below.refl _ _).drew
  have e0 := t83.cell 0
  have e1 := t83.cell 1
  have b0 := g33.cell 0
  have b1 := g33.cell 1
  simp only [List.getElem?_toArray, List.getElem?_cons_zero, List.getElem?_cons_succ] at e0 e1 b0 b1
  have h0 := g33.frozen 0
  have h1 := g33.frozen 1
  have l8 := t83.lt
  have l33 := g33.lt
  have v3 : VarT 28 2 (w.heap.size + 1 + 1) w3 := ⟨_, rfl, plain_grey, g33⟩
  have hN3 : N ≤ w.heap.size + 1 + 1 := by omega
  have hA4 := hpIn_puts (v3.clear hA3 hn32 hk0) [.int .i64 r, .slice pr2 T.n cr2] 0 hA3
  have hG4 := gr_putsL (k := 0) hG3 hR3 v3 (by decide) hN3 [.int .i64 r, .slice pr2 T.n cr2]
  have hR4 := row_putsL (k := 0) hR3 v3 (by decide) hN3 [.int .i64 r, .slice pr2 T.n cr2]
  have g04 := g03.of_block (putsL_other (fun e => hB3 e.symm) [.int .i64 r, .slice pr2 T.n cr2] 0 w3)
  have hAs4 := (hAs3.setNew (g := w.heap.size + 1 + 1) (by omega) 0 (.int .i64 r)).setNew (g := w.heap.size + 1 + 1) (by omega) 1 (.slice pr2 T.n cr2)
  have hM4 := hM.aside vBw (by decide) (by decide) (by decide) hN hAs4
  simp only [putsL, Nat.reduceAdd] at hA4 hG4 hR4 g04
  clear hA3 hG3 hR3 g03 t83 g33 hAs3 v3 hM vBw
  cases hOV : m.ov with
  | true =>
    rw [hOV] at x7
    rw [show (m.ov || T.o) = true by rw [hOV]; rfl] at hw3
    clear hOV
    go_upto_region 2 with fail
    go_region
    rw [← hw3]
    clear hw3 a0 a1 a2 x7 x8 x9 x10 f7 f8 f9 f10 l7 hlB
    go_wp2
    refine bodyPost_ret (by simp [results, Tryd.results43, go_sem, *]; try rfl) rfl ?_
    exact ⟨pr2, cr2, rfl, hG4.below (hdr _), hR4.below (hdr _), ⟨p2, c2, q2, d2, pg, cg, pb, cb, pv, cv, g04.below (hdr _), hA4.below (hdr _), ⟨(hM4.below (hdr _)).g, (hM4.below (hdr _)).ge, (hM4.below (hdr _)).b, (hM4.below (hdr _)).be, (hM4.below (hdr _)).r, (hM4.below (hdr _)).re⟩⟩, hAs4.trans (Aside.of (hdr _))⟩
  | false =>
    rw [hOV] at x7
    rw [show (m.ov || T.o) = T.o by rw [hOV]; rfl] at hw3
    clear hOV
    go_upto_region 2 with fail
    go_region
    rw [← hw3]
    clear hw3 a0 a1 a2 x7 x8 x9 x10 f7 f8 f9 f10 l7 hlB
    go_wp2
    refine bodyPost_ret (by simp [results, Tryd.results43, go_sem, *]; try rfl) rfl ?_
    exact ⟨pr2, cr2, rfl, hG4.below (hdr _), hR4.below (hdr _), ⟨p2, c2, q2, d2, pg, cg, pb, cb, pv, cv, g04.below (hdr _), hA4.below (hdr _), ⟨(hM4.below (hdr _)).g, (hM4.below (hdr _)).ge, (hM4.below (hdr _)).b, (hM4.below (hdr _)).be, (hM4.below (hdr _)).r, (hM4.below (hdr _)).re⟩⟩, hAs4.trans (Aside.of (hdr _))⟩
end Go.Proofs.YtiofeebiejkajaaDoor
