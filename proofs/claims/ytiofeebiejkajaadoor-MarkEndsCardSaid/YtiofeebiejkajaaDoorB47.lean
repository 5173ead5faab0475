/- Contracts of the code's marking (chapter 17): Note. -/
import Derived.Test.YtiofeebiejkajaaDoorB45
import Derived.Deep.CutRange
import Derived.Test.YtiofeebiejkajaaDoorB39
import Derived.Lib.AppendZerosOnto
import Derived.Laws.AppendOwnNone
namespace Go.Proofs.YtiofeebiejkajaaDoor
set_option linter.unusedSimpArgs false
set_option linter.unusedVariables false
open Go.ChangeShapes Go.WideShapes Go.ChangeAt Go.RowKit Go.Joins

set_option maxHeartbeats 16000000 in
set_option maxRecDepth 20000 in
theorem mnote_in (N : Nat) {p : Option Addr} {n c : Nat} {q : Option Addr} {k d : Nat} {b : Bool} {h : Hp} {m : Mk} {pg : Option Addr} {cg : Nat} {pb : Option Addr} {cb : Nat} {pr : Option Addr} {cr : Nat} {i : Nat} {v : Vl} {w : World}
    (hS : Sz w) (hh : HpIn w p n c q k d b h) (hF : formB h = true) (hM : MAtE N w m pg cg pb cb pr cr) (hN : N ≤ w.heap.size) (hR : rightM h m) (hi : i < m.nb) (hv : v.wf) (hr : m.nr ≤ 1000000) (hb : m.nb ≤ 1000) :
    Calls Tryd.prog 21 #[.agg #[.slice p n c, .slice q k d, .bool b], .agg #[.int .i64 m.g.r, .slice pg m.g.n cg, .slice pb m.nb cb, .slice pr m.nr cr, .int .i64 m.ob, .int .i64 m.fi, .int .i64 m.cu, .bool m.ov], .int .i64 i, v.agg] w fun e w' => ∃ p' c' q' d' pg' cg' pb' cb' pr' cr', e = .returned (.tuple #[.agg #[.slice p' n c', .slice q' k d', .bool b],
        .agg #[.int .i64 (noM h m i v).2.g.r, .slice pg' (noM h m i v).2.g.n cg', .slice pb' (noM h m i v).2.nb cb', .slice pr' (noM h m i v).2.nr cr', .int .i64 (noM h m i v).2.ob, .int .i64 (noM h m i v).2.fi, .int .i64 (noM h m i v).2.cu, .bool (noM h m i v).2.ov]]) ∧
      HpIn w' p' n c' q' k d' b (noM h m i v).1 ∧ MAtE N w' (noM h m i v).2 pg' cg' pb' cb' pr' cr' ∧ Below w.heap.size w w' := by
  obtain ⟨vk, vn⟩ := v
  obtain ⟨w0, hw0⟩ : ∃ w0, w0 = ((((w.alloc (.cells #[.slice p n c, .slice q k d, .bool b] 25)).alloc (.cells #[.int .i64 m.g.r, .slice pg m.g.n cg, .slice pb m.nb cb, .slice pr m.nr cr, .int .i64 m.ob, .int .i64 m.fi, .int .i64 m.cu, .bool m.ov] 32)).alloc (.cells #[.int .i64 vk, .int .i64 vn] 38)).alloc (.cells #[.slice none 0 0, .slice none 0 0, .bool false] 25)).alloc (.cells #[.int .i64 0, .slice none 0 0, .slice none 0 0, .slice none 0 0, .int .i64 0, .int .i64 0, .int .i64 0, .bool false] 32) := ⟨_, rfl⟩
  obtain ⟨g2, g3, gV, g4, g5, hb0⟩ := tbox_five hw0
  have hn32 : 32 ≤ n := by have := form_room hF; have := hh.n_eq; omega
  have hk0 : 0 < k := by have := form_room hF; have := hh.m_eq; omega
  have hSw := hS
  have hb5 := g5.lt
  obtain ⟨r1, r2⟩ := rg_le (hR.2.1 i hi)
  have hrows : ∀ t, t < m.nb → (m.b t).n ≤ 1000000 := fun t ht => by have := (rg_le (hR.2.1 t ht)).2; omega
  have hFh : formB (shM h (m.b i) ⟨vk, vn⟩).h = true := (shM_same hF (m.b i) ⟨vk, vn⟩).1
  have hTn : (sdS (m.b i).r ⟨h, (m.b i).n, (m.b i).z, false⟩ ⟨vk, vn⟩).n ≤ 1000000 := sd_nb _ (by omega) (show (m.b i).n ≤ 1000000 by omega)
  replace hh := hh.below hb0
  replace hM := hM.below hb0
  replace hS := hS.below hb0
  obtain ⟨⟨H, M⟩, hRs⟩ : ∃ R, noM h m i ⟨vk, vn⟩ = R := ⟨_, rfl⟩
  rw [hRs]
  unfold Vl.agg
  dsimp only
  obtain ⟨hl2, y0, y1, y2⟩ : w.heap.size < w0.heap.size ∧ w0.cell? ⟨w.heap.size, 0, none⟩ = some (.slice p n c) ∧ w0.cell? ⟨w.heap.size, 1, none⟩ = some (.slice q k d) ∧ w0.cell? ⟨w.heap.size, 2, none⟩ = some (.bool b) := ⟨g2.lt, g2.cell 0, g2.cell 1, g2.cell 2⟩
  obtain ⟨hl3, z0, z1, z2, z3, z4, z5, z6, z7⟩ : w.heap.size + 1 < w0.heap.size ∧ w0.cell? ⟨w.heap.size + 1, 0, none⟩ = some (.int .i64 m.g.r) ∧ w0.cell? ⟨w.heap.size + 1, 1, none⟩ = some (.slice pg m.g.n cg) ∧ w0.cell? ⟨w.heap.size + 1, 2, none⟩ = some (.slice pb m.nb cb) ∧ w0.cell? ⟨w.heap.size + 1, 3, none⟩ = some (.slice pr m.nr cr) ∧ w0.cell? ⟨w.heap.size + 1, 4, none⟩ = some (.int .i64 m.ob) ∧ w0.cell? ⟨w.heap.size + 1, 5, none⟩ = some (.int .i64 m.fi) ∧ w0.cell? ⟨w.heap.size + 1, 6, none⟩ = some (.int .i64 m.cu) ∧ w0.cell? ⟨w.heap.size + 1, 7, none⟩ = some (.bool m.ov) :=
    ⟨g3.lt, g3.cell 0, g3.cell 1, g3.cell 2, g3.cell 3, g3.cell 4, g3.cell 5, g3.cell 6, g3.cell 7⟩
  have hii : (i : Int) < m.nb := by omega
  have hii2 : ¬ (i : Int) < 0 := by omega
  have hii3 : ¬ (m.nb : Int) ≤ i := by omega
  go_enter Tryd.func21, Tryd.ntmps21
  go_upto_region 1 with fail
  rw [← hw0]
  clear hw0
  go_upto_region 4 with fail
  obtain ⟨w2, hw2⟩ : ∃ W, W = w0.alloc (.cells #[.int .i64 m.g.r, .slice pg m.g.n cg, .slice pb m.nb cb, .slice pr m.nr cr, .int .i64 m.ob, .int .i64 m.fi, .int .i64 m.cu, .bool m.ov, .slice p n c, .slice q k d, .bool b] 73) := ⟨_, rfl⟩
  have hb2 : Below w0.heap.size w0 w2 := by rw [hw2]; exact (Below.refl _ _).alloc (Nat.le_refl _) _
  have gS : TBox 73 w0.heap.size #[.int .i64 m.g.r, .slice pg m.g.n cg, .slice pb m.nb cb, .slice pr m.nr cr, .int .i64 m.ob, .int .i64 m.fi, .int .i64 m.cu, .bool m.ov, .slice p n c, .slice q k d, .bool b] w2 := by rw [hw2]; exact TBox.new _ _ _
  rw [← hw2]
  clear hw2 y0 y1 y2 z0 z1 z2 z3 z4 z5 z6 z7 hl2 hl3
  replace gV := gV.below hb2
  replace g4 := g4.below hb2
  replace g5 := g5.below hb2
  replace hh := hh.below hb2
  replace hM := hM.below hb2
  replace hS := hS.below hb2
  have hbw2 := bjoin hb2 hb0
  have hst : StV N w0.heap.size n k b h m w2 := ⟨p, c, q, d, pg, cg, pb, cb, pr, cr, gS, hh, hM⟩
  have hsz0 := hb0.size
  have hNB : N ≤ w0.heap.size := by omega
  have hSB : ¬ 0 = w0.heap.size := by have := hSw.1; omega
  have hB4 : ¬ w.heap.size + 1 + 1 + 1 = w0.heap.size := by omega
  have hB5 : ¬ w.heap.size + 1 + 1 + 1 + 1 = w0.heap.size := by omega
  have hwB : w.heap.size ≤ w0.heap.size := by omega
  clear hb0 hb2 hsz0 hb5 hSw
  obtain ⟨hlB, -, -, s2, -, -, -, -, -, -, -, -⟩ := st_cells gS
  generalize w0.heap.size = B at *
  have u0 : w2.cell? ⟨w.heap.size + 1 + 1, 0, none⟩ = some (.int .i64 vk) := gV.cell 0
  have u1 : w2.cell? ⟨w.heap.size + 1 + 1, 1, none⟩ = some (.int .i64 vn) := gV.cell 1
  have lV := gV.lt
  have hdr : ∀ W : World, Below W.heap.size W W.drew := fun W => (Below.refl _ _).drew
  obtain ⟨bb, off, L, rfl, hl, hL, hcl, pj, cj, rfl, hgj, hej, h64⟩ := hM.b.row i hi
  have x0 := hcl 0 _ rfl
  have x1 := hcl 1 _ rfl
  simp only [Nat.add_zero] at x0 x1
  have hI := msinto_any N B n k b h m (m.b i).r pj (m.b i).n cj (m.b i).z ⟨vk, vn⟩ w2.drew (hS.below (hdr _)) hNB (hst.below (hdr _)) hF (hgj.below (hdr _)) (hej.below (hdr _)) (by omega) (by omega) hv
  have hB := fun (W : World) (pq : Option Addr) (cq : Nat) (h1 : StV N B n k b (shM h (m.b i) ⟨vk, vn⟩).h { m with ov := m.ov || (shM h (m.b i) ⟨vk, vn⟩).o } W) (h2 : GrAt W pq cq (sdS (m.b i).r ⟨h, (m.b i).n, (m.b i).z, false⟩ ⟨vk, vn⟩).n (sdS (m.b i).r ⟨h, (m.b i).n, (m.b i).z, false⟩ ⟨vk, vn⟩).z) (h3 : RowE N 3 (sdS (m.b i).r ⟨h, (m.b i).n, (m.b i).z, false⟩ ⟨vk, vn⟩).n pq W) =>
    msetb_any N B n k b _ { m with ov := m.ov || (shM h (m.b i) ⟨vk, vn⟩).o } i (m.b i).r pq _ cq _ W hNB h1 hFh hi (show m.nb ≤ 1000000 by omega) hrows h2 h3 h64 hTn
  unfold Vl.agg at hI
  unfold noM at hRs
  unfold shM at hB hRs
  unfold Sd.gy at hRs
  dsimp only at hI hB hRs
  generalize sdS (m.b i).r ⟨h, (m.b i).n, (m.b i).z, false⟩ ⟨vk, vn⟩ = T at *
  injection hRs with e1 e2
  generalize (m.b i).n = KK at *
  have hstc : ∀ W, StV N B n k b T.h { m with ov := m.ov || T.o } W → B < W.heap.size := fun W h => h.lt
  clear gS hh hM hgj hej hcl hL hTn hFh r1 r2 hrows h64
  go_cut [] from 25 to 34 (fun wx => StV N B n k b H M wx ∧ Aside (fun k => k = B) w2 wx)
  case first =>
    go_region_with (first
      | (go_at_call 43; refine Calls.mono hI ?_; rintro e w3 ⟨pr', cr', rfl, hZ3, hR3, hs3, hA3⟩)
      | (go_at_call 42; refine Calls.mono (hB _ _ _ (by first | exact hs3 | exact hs3.below (hdr _)) (by first | exact hZ3 | exact hZ3.below (hdr _)) (by first | exact hR3 | exact hR3.below (hdr _))) ?_; rintro e w4 ⟨rfl, hs4, hA4⟩)
    )
    all_goals
      rw [e1, e2] at hs4
      go_wp2_with fail
      go_meet
      exact ⟨hs4, ((Aside.of (hdr w2)).trans hA3).trans (by first | exact hA4 | exact (Aside.of (hdr _)).trans hA4)⟩
  obtain ⟨hs', hAA⟩ := hcut
  clear hI hB u0 u1 lV x0 x1 hl s2 hlB hst e1 e2 hstc
  generalize wc = w' at *
  go_upto_region 5 with fail
  obtain ⟨p', c', q', d', pg', cg', pb', cb', pr', cr', gS, hI, hMM⟩ := hs'
  obtain ⟨lS, s0, s1, s2, s3, s4, s5, s6, s7, s8, s9, s10⟩ := st_cells gS
  have g4' := g4.of_block (hAA.block _ g4.lt hB4)
  have g5' := g5.of_block (hAA.block _ g5.lt hB5)
  obtain ⟨hP1, hP2⟩ := put_hm g4' ⟨rfl, plain_heap⟩ g5' ⟨rfl, plain_mk0⟩ (by omega) (by omega) hn32 hk0 hI hMM
  have hbE := (hbw2.trans (hAA.below hbw2.size (fun k e => by rw [e]; exact hwB))).trans (putHM_below (B := w.heap.size) (g := w.heap.size + 1 + 1 + 1) (g' := w.heap.size + 1 + 1 + 1 + 1) (by omega) (by omega) [.slice p' n c', .slice q' k d', .bool b] [.int .i64 M.g.r, .slice pg' M.g.n cg', .slice pb' M.nb cb', .slice pr' M.nr cr', .int .i64 M.ob, .int .i64 M.fi, .int .i64 M.cu, .bool M.ov] _)
  obtain ⟨q4, q5⟩ := boxes_hm (xs := #[.slice none 0 0, .slice none 0 0, .bool false]) (x0 := .int .i64 0) (x1 := .slice none 0 0) (x2 := .slice none 0 0) (x3 := .slice none 0 0) (x4 := .int .i64 0) (x5 := .int .i64 0) (x6 := .int .i64 0) (x7 := .bool false) g4' rfl g5' (.slice p' n c') (.slice q' k d') (.bool b) (.int .i64 M.g.r) (.slice pg' M.g.n cg') (.slice pb' M.nb cb') (.slice pr' M.nr cr') (.int .i64 M.ob) (.int .i64 M.fi) (.int .i64 M.cu) (.bool M.ov)
  obtain ⟨w9, hw9⟩ : ∃ W, W = putHM (w.heap.size + 1 + 1 + 1) (w.heap.size + 1 + 1 + 1 + 1) [.slice p' n c', .slice q' k d', .bool b] [.int .i64 M.g.r, .slice pg' M.g.n cg', .slice pb' M.nb cb', .slice pr' M.nr cr', .int .i64 M.ob, .int .i64 M.fi, .int .i64 M.cu, .bool M.ov] w' := ⟨_, rfl⟩
  rw [← hw9] at hP1 hP2 hbE q4 q5
  simp only [putHM, putsL, Nat.reduceAdd] at hw9
  have l4 := g4'.lt
  have l5 := g5'.lt
  have a0 := g4'.cell 0
  have a1 := g4'.cell 1
  have a2 := g4'.cell 2
  have b0 := g5'.cell 0
  have b1 := g5'.cell 1
  have b2 := g5'.cell 2
  have b3 := g5'.cell 3
  have b4 := g5'.cell 4
  have b5 := g5'.cell 5
  have b6 := g5'.cell 6
  have b7 := g5'.cell 7
  simp only [List.getElem?_toArray, List.getElem?_cons_zero, List.getElem?_cons_succ] at a0 a1 a2 b0 b1 b2 b3 b4 b5 b6 b7
  have fa0 := g4'.frozen 0
  have fa1 := g4'.frozen 1
  have fa2 := g4'.frozen 2
  obtain ⟨fb0, fb1, fb2, fb3, fb4, fb5, fb6, fb7⟩ := mk_frozen g5'
  have hdr : ∀ W : World, Below W.heap.size W W.drew := fun W => (Below.refl _ _).drew
  clear hI hMM gS hAA g4' g5' g2 g3 gV g4 g5 hS hbw2 hF hR
  go_region
  rw [← hw9]
  clear hw9 a0 a1 a2 b0 b1 b2 b3 b4 b5 b6 b7 fa0 fa1 fa2 fb0 fb1 fb2 fb3 fb4 fb5 fb6 fb7 l4 l5 s0 s1 s2 s3 s4 s5 s6 s7 s8 s9 s10 lS
  have c0 := q4.cell 0
  have c1 := q4.cell 1
  have c2 := q4.cell 2
  have d0 := q5.cell 0
  have d1 := q5.cell 1
  have d2 := q5.cell 2
  have d3 := q5.cell 3
  have d4 := q5.cell 4
  have d5 := q5.cell 5
  have d6 := q5.cell 6
  have d7 := q5.cell 7
  simp only [List.getElem?_toArray, List.getElem?_cons_zero, List.getElem?_cons_succ] at c0 c1 c2 d0 d1 d2 d3 d4 d5 d6 d7
  clear q4 q5
  go_wp2
  refine bodyPost_ret (by simp [results, Tryd.results21, go_sem, *]; try rfl) rfl ?_
  exact ⟨p', c', q', d', pg', cg', pb', cb', pr', cr', rfl, hP1.below (hdr _), hP2.below (hdr _), hbE.drew⟩
end Go.Proofs.YtiofeebiejkajaaDoor
namespace Go.Proofs.YtiofeebiejkajaaDoor
set_option linter.unusedSimpArgs false
set_option linter.unusedVariables false
open Go.ChangeShapes Go.WideShapes Go.ChangeAt Go.RowKit Go.Joins

set_option maxRecDepth 20000 in
theorem growI_any (n : Nat) (w : World) (h0 : 1 ≤ n) (h1 : n ≤ 1000001) :
    Calls Tryd.prog 61 #[.slice none 0 0, .int .i64 n] w fun e w' => ∃ p' c', e = .returned (.slice p' 0 c') ∧ w'.ownsRow w.heap.size 3 1 (.slice p' 0 c') 0 [] ∧ Below w.heap.size w w' := by
  obtain ⟨i0, hi, hz0, hz1, hz2⟩ := info_parts int_infoG
  have hrz : ∀ ty, (Builtin.append_ #[26, 3] ty #[.slice none 0 0, .int .i64 n]).run Tryd.prog w = _ := fun ty =>
    Lib.run_append_nil_zeros w 26 3 ty 3 i0 (.int .i64 0) .i64 .i64 Tryd.underlying26 Tryd.underlying3 hi hz0 n h0 (by rw [hz1]; decide) (by omega) (by rw [hz2]; omega)
  have hG := grownCap_ge w n 0 3
  have hG2 := grownCap_le_maxLen w n 0 3 (by unfold maxLen; omega)
  generalize grownCap w n 0 3 = G at *
  obtain ⟨w2, hw2⟩ : ∃ w2, w2 = w.drew.alloc (.cells (Builtin.zeroCells (Value.int .i64 0).cells n ++ Builtin.zeroCells (Value.int .i64 0).cells (G - n)) 3) := ⟨_, rfl⟩
  have hsz : (Builtin.zeroCells (Value.int .i64 0).cells n ++ Builtin.zeroCells (Value.int .i64 0).cells (G - n)).size = G * 1 := by
    simp only [Array.size_append, Go.size_zeroCells]; show n * 1 + (G - n) * 1 = G * 1; omega
  have hown : w2.ownsRow w.heap.size 3 1 (.slice (some ⟨w.heap.size, 0, none⟩) 0 G) 0 [] := by
    rw [hw2]
    exact World.ownsRow_made w.drew _ G (Nat.le_refl _) hG2 hsz
  have hb : Below w.heap.size w w2 := by rw [hw2]; exact (show Below w.heap.size w w.drew from ⟨rfl, rfl, rfl, Nat.le_refl _, fun _ _ => rfl⟩).alloc (Nat.le_refl _) _
  rw [← hw2] at hrz
  simp only [maxLen] at hG2
  clear hw2 hsz
  go_enter Tryd.func61, Tryd.ntmps61
  go_wp2_with (at_builtin; refine Lib.wpList_append_run _ rfl _ _ _ _ rfl _ _ rfl rfl _ _ (hrz _) ?_)
  go_returns
  exact ⟨_, _, rfl, hown, hb⟩
set_option maxHeartbeats 4000000 in
set_option maxRecDepth 20000 in
theorem concatI_any (b : Nat) (p q : Option Addr) (n c m d : Nat) (z y : Nat → Int) (w : World) (hlt : b < w.heap.size) (g0 : w.cell? ⟨b, 0, none⟩ = some (.slice p n c)) (g1 : w.cell? ⟨b, 1, none⟩ = some (.slice q m d))
    (hZ : Ints .i64 w p n z) (hY : Ints .i64 w q m y) (hZq : p = none → n = 0 ∧ c = 0) (hYq : q = none → m = 0 ∧ d = 0) (h0 : 1 ≤ n + m) (h1 : n + m ≤ 1000001) :
    Calls Tryd.prog 39 #[.slice (some ⟨b, 0, none⟩) 2 2] w fun e w' => ∃ p' c', e = .returned (.slice p' (n + m : Nat) c') ∧ w'.ownsRow w.heap.size 3 1 (.slice p' (n + m) c') (n + m) (vals .i64 n z ++ vals .i64 m y) ∧ Below w.heap.size w w' := by
  obtain ⟨i0, hi, hz0, hz1, hz2⟩ := info_parts int_infoG
  go_enter Tryd.func39, Tryd.ntmps39
  go_wp2
  go_loopg [3, 11] 2 (fun g sv iv wr => (g = 2 ∧ iv = .int .i64 0 ∧ sv = .int .i64 0 ∨ g = 1 ∧ iv = .int .i64 1 ∧ sv = .int .i64 n ∨ g = 0 ∧ iv = .int .i64 2 ∧ sv = .int .i64 ((n : Int) + m)) ∧ Below w.heap.size w wr)
  case atStart => exact ⟨.inl ⟨rfl, rfl, rfl⟩, Below.refl _ _⟩
  case round =>
    obtain ⟨hcase, hbw⟩ := hrel
    have e0 := (hbw.cell (p := ⟨b, 0, none⟩) hlt).trans g0
    have e1 := (hbw.cell (p := ⟨b, 1, none⟩) hlt).trans g1
    rcases hcase with ⟨rfl, rfl, rfl⟩ | ⟨rfl, rfl, rfl⟩ | ⟨rfl, rfl, rfl⟩
    · go_wp2
      go_roundg 1
      case measure => omega
      case rel => exact ⟨.inr (.inl ⟨rfl, rfl, rfl⟩), hbw⟩
    · have hnn : ¬ (n : Int) + m < 0 := by omega
      go_wp2
      go_roundg 0
      case measure => omega
      case rel => exact ⟨.inr (.inr ⟨rfl, rfl, rfl⟩), hbw⟩
    · have hG := growI_any (n + m) wr h0 (by omega)
      rw [Int.natCast_add] at hG
      go_upto_region 10 with (first
    | (go_at_call 61; refine Calls.mono (hG) ?_; rintro e w' ⟨p9, c9, rfl, ho9, hb⟩; obtain ⟨hc, hf, hb, hz⟩ := bstep hb (w := wr) (by go_grown); try simp only [World.size_alloc, World.size_setCell, World.size_drew] at hc hf hz)
      )
      have hsz := hbw.size
      have hbx : Below w.heap.size w w' := hbw.trans (hb.mono hsz)
      have hox := owned_base ho9 hsz
      clear hb hc hf hbw ho9 e0 e1 hG
      generalize w' = w9 at *
      go_wp2
      go_loopg [6, 27] 2 (fun g ov iv wr => (g = 2 ∧ iv = .int .i64 0 ∧ wr.ownsRow w.heap.size 3 1 ov 0 [] ∨ g = 1 ∧ iv = .int .i64 1 ∧ wr.ownsRow w.heap.size 3 1 ov n (vals .i64 n z) ∨ g = 0 ∧ iv = .int .i64 2 ∧ wr.ownsRow w.heap.size 3 1 ov (n + m) (vals .i64 n z ++ vals .i64 m y)) ∧ Below w.heap.size w wr)
      case atStart => exact ⟨.inl ⟨rfl, rfl, hox⟩, hbx⟩
      case round =>
        obtain ⟨hcase, hbw⟩ := hrel
        have hsz := hbw.size
        have e0 := (hbw.cell (p := ⟨b, 0, none⟩) hlt).trans g0
        have e1 := (hbw.cell (p := ⟨b, 1, none⟩) hlt).trans g1
        rcases hcase with ⟨rfl, rfl, ho⟩ | ⟨rfl, rfl, ho⟩ | ⟨rfl, rfl, ho⟩
        · go_wp2_with (first
            | (at_builtin; refine wpList_append_row rfl (.tmp 31) (.tmp 32) 26 rfl w.heap.size 3 i0 (.int .i64 0) 1 8 Tryd.underlying26 hi hz0 hz1 hz2 rfl (by decide) _ _ _ rfl ho p n c (vals .i64 n z) rfl (by simp [vals_length]) (ints_cellsB (hZ.below hbw)) (vals_one _ _ _) hZq (by simp only [maxLen]; omega) (by omega) hsz ?_; intro ov w1 ho1 hgrow)
          )
          have hb1 := hbw.grown hgrow hsz (fun k hk => (ho.lt k hk).1)
          rw [List.nil_append, Nat.zero_add] at ho1
          go_roundg 1
          case measure => omega
          case rel => exact ⟨.inr (.inl ⟨rfl, rfl, ho1⟩), hb1⟩
        · go_wp2_with (first
            | (at_builtin; refine wpList_append_row rfl (.tmp 31) (.tmp 32) 26 rfl w.heap.size 3 i0 (.int .i64 0) 1 8 Tryd.underlying26 hi hz0 hz1 hz2 rfl (by decide) _ _ _ rfl ho q m d (vals .i64 m y) rfl (by simp [vals_length]) (ints_cellsB (hY.below hbw)) (vals_one _ _ _) hYq (by simp only [maxLen]; omega) (by omega) hsz ?_; intro ov w1 ho1 hgrow)
          )
          have hb1 := hbw.grown hgrow hsz (fun k hk => (ho.lt k hk).1)
          go_roundg 0
          case measure => omega
          case rel => exact ⟨.inr (.inr ⟨rfl, rfl, ho1⟩), hb1⟩
        · obtain ⟨pp, cc, ff, -⟩ := owned_new ho
          rw [ff] at ho ⊢
          clear ff
          go_wp2
          go_returns
          exact ⟨pp, cc, rfl, ho, hbw⟩
end Go.Proofs.YtiofeebiejkajaaDoor
