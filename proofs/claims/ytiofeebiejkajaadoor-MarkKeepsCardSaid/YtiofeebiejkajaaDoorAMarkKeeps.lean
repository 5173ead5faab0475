/- MarkKeeps: of every heap and marker that may be looked at, mark.Step and mark.Note leave what they are handed as it was. No condition; the table that the code reads is tied to the program's text. -/
import Derived.Test.YtiofeebiejkajaaDoorA50
import Derived.Test.YtiofeebiejkajaaDoorA26
import Derived.Test.YtiofeebiejkajaaDoorA35
import Derived.Test.YtiofeebiejkajaaDoorA11
import Derived.Test.YtiofeebiejkajaaDoorRows
import Derived.Test.YtiofeebiejkajaaDoorCards
import Derived.Test.YtiofeebiejkajaaDoorTie
import Derived.SevenTiedAt
namespace Go.Proofs.YtiofeebiejkajaaDoor
set_option linter.unusedSimpArgs false
set_option linter.unusedVariables false
open Go.ChangeShapes Go.WideShapes Go.ChangeAt Go.RowKit Go.Joins

set_option maxHeartbeats 16000000 in
set_option maxRecDepth 20000 in
theorem keeps17_walk {p : Option Addr} {c : Nat} {q : Option Addr} {d : Nat} {h : Hp} (m : Mk) (pg : Option Addr) (cg : Nat) (pb : Option Addr) (cb : Nat) (pr : Option Addr) (cr : Nat) (a2 : Int) (v3 : Vl) (w : World) (hat : HpAt w p c q d h) (hg : GrAt w pg cg m.g.n m.g.z) (hb : RAt GrC 2 w pb cb m.nb m.b) (hv : VAt w pr cr m.nr m.ro) (hw64 : In64 m.g.r ∧ In64 m.ob ∧ In64 m.fi ∧ In64 m.cu) (b2 : 0 ≤ a2 ∧ a2 < 256) (hv3 : v3.wf) (hS : Sz w) :
    Calls Tryd.prog 5 #[.agg #[.slice p h.n c, .slice q h.m d, .bool h.b], .agg #[.int .i64 m.g.r, .slice pg m.g.n cg, .slice pb m.nb cb, .slice pr m.nr cr, .int .i64 m.ob, .int .i64 m.fi, .int .i64 m.cu, .bool m.ov], .int .u8 a2, v3.agg] w fun e w' => e = .returned (.bool true) ∧ Below w.heap.size w w' := by
  obtain ⟨vk, vn⟩ := v3
  unfold Vl.agg
  dsimp only
  obtain ⟨w0, hw0⟩ : ∃ w0, w0 = ((w.alloc (.cells #[.slice p h.n c, .slice q h.m d, .bool h.b] 25)).alloc (.cells #[.int .i64 m.g.r, .slice pg m.g.n cg, .slice pb m.nb cb, .slice pr m.nr cr, .int .i64 m.ob, .int .i64 m.fi, .int .i64 m.cu, .bool m.ov] 32)).alloc (.cells #[.int .i64 vk, .int .i64 vn] 38) := ⟨_, rfl⟩
  obtain ⟨gH, gM, gV, hB0⟩ : TBox 25 w.heap.size #[.slice p h.n c, .slice q h.m d, .bool h.b] w0 ∧ TBox 32 (w.heap.size + 1) #[.int .i64 m.g.r, .slice pg m.g.n cg, .slice pb m.nb cb, .slice pr m.nr cr, .int .i64 m.ob, .int .i64 m.fi, .int .i64 m.cu, .bool m.ov] w0 ∧ TBox 38 (w.heap.size + 1 + 1) #[.int .i64 vk, .int .i64 vn] w0 ∧ Below w.heap.size w w0 := by
    have ba : ∀ (W : World) (o : Obj), Below W.heap.size W (W.alloc o) := fun W o => (Below.refl _ _).alloc (Nat.le_refl _) _
    obtain ⟨w1, e1⟩ : ∃ w1, w1 = (w.alloc (.cells #[.slice p h.n c, .slice q h.m d, .bool h.b] 25)).alloc (.cells #[.int .i64 m.g.r, .slice pg m.g.n cg, .slice pb m.nb cb, .slice pr m.nr cr, .int .i64 m.ob, .int .i64 m.fi, .int .i64 m.cu, .bool m.ov] 32) := ⟨_, rfl⟩
    have hsz : w1.heap.size = w.heap.size + 1 + 1 := by rw [e1]; simp
    obtain ⟨k1, k2, k3⟩ := tbox_two e1
    rw [← e1] at hw0
    have k4 := ba w1 (.cells #[.int .i64 vk, .int .i64 vn] 38)
    rw [← hw0] at k4
    refine ⟨k1.below k4, k2.below k4, ?_, bjoin k4 k3⟩
    rw [hw0, ← hsz]
    exact TBox.new _ _ _
  have hat0 := hat
  have hSw := hS
  have hM0 := MAtE.old (N := w.heap.size) hg hb hv (Nat.le_refl _)
  replace hat := hat.below hB0
  replace hS := hS.below hB0
  replace hg := hg.below hB0
  replace hb := hb.below grC_below hB0
  have hFi := fun W (hW : Below w0.heap.size w0 W) => fits17_any p c q d h m pg cg pb cb pr cr W (hat.below hW) (hg.below hW) (hb.below grC_below hW)
  obtain ⟨l0, x0, x1, x2⟩ : w.heap.size < w0.heap.size ∧ w0.cell? ⟨w.heap.size, 0, none⟩ = some (.slice p h.n c) ∧ w0.cell? ⟨w.heap.size, 1, none⟩ = some (.slice q h.m d) ∧ w0.cell? ⟨w.heap.size, 2, none⟩ = some (.bool h.b) := ⟨gH.lt, gH.cell 0, gH.cell 1, gH.cell 2⟩
  obtain ⟨l8, y0, y1, y2, y3, y4, y5, y6, y7⟩ := mk_cells gM
  by_cases hft : ftD h m = true
  · rw [hft] at hFi
    unfold ftD at hft
    simp only [Bool.and_eq_true, decide_eq_true_eq] at hft
    obtain ⟨⟨⟨hF, hn128⟩, hfew⟩, hrt⟩ := hft
    have hR : Hid (rightM h m) := rtD_iff.1 hrt
    have hn32 : 32 ≤ h.n ∧ 0 < h.m := by have := form_iff.1 hF; omega
    obtain ⟨f1, f2, f3, f4⟩ := few_sum hfew
    have f5 : ∀ i, i < m.nb → (m.b i).n ≤ 20 := by
      simp only [fewM, decide_eq_true_eq] at hfew
      exact fun i hi => hfew.1 i hi (by omega)
    have hF' : Hid (formB h = true) := hF
    clear hF hrt hfew
    go_enter Tryd.func5, Tryd.ntmps5
    go_upto_region 1 with fail
    rw [← hw0]
    clear hw0
    go_upto_region 3 with (first
    | (go_at_call 7; refine Calls.mono (awake17_any _ (hS.below (by go_grown))) ?_; rintro e w' ⟨rfl, hb⟩; obtain ⟨hc, hf, hb, hz⟩ := bstep hb (w := w0) (by go_grown); try simp only [World.size_alloc, World.size_setCell, World.size_drew] at hc hf hz)
    | (go_at_call 8; refine Calls.mono (hFi _ (by go_grown)) ?_; rintro e w' ⟨rfl, hb⟩; obtain ⟨hc, hf, hb, hz⟩ := bstep hb (w := w0) (by go_grown); try simp only [World.size_alloc, World.size_setCell, World.size_drew] at hc hf hz)
    )
    have hbW := bjoin hb hB0
    replace gH := gH.below hb
    replace gM := gM.below hb
    replace gV := gV.below hb
    have hatb := hat.below hb
    clear hb hc hf hz x0 x1 x2 l0 y0 y1 y2 y3 y4 y5 y6 y7 l8 hFi hat hg hS hB0
    generalize w' = w3 at *
    refine wp_own_copy (s := 21) (h' := 4) (d' := 9) (pos := "law.go:156") (by kernel_rfl) (by decide) (by decide) (by decide) (by simp) hF'.out hatb ⟨gH.lt, gH.cell 0, gH.cell 1, gH.cell 2, gH.frozen 0, gH.frozen 1, gH.frozen 2⟩ rfl ?_
    intro q0 q1 q2 q3 q4 q5 q6 q7 q8 q9 q10 B9 po co qo do_ w4 hown g9 hl9 n1 n2 hb4
    simp only [puts, Act.put, Nat.reduceAdd, List.setIfInBounds_toArray, List.set_cons_succ, List.set_cons_zero]
    have hxo := hown.at.in
    replace gH := gH.below hb4
    replace gM := gM.below hb4
    replace gV := gV.below hb4
    replace hbW := bjoin hb4 hbW
    have h9lt : B9 < w4.heap.size := g9.1
    clear hown n1 n2 hb4 hl9 hatb
    obtain ⟨l8, y0, y1, y2, y3, y4, y5, y6, y7⟩ := mk_cells gM
    go_upto_region 5 with fail
    obtain ⟨w5, hw5⟩ : ∃ W, W = w4.alloc (.cells #[.int .i64 m.g.r, .slice pg m.g.n cg, .slice pb m.nb cb, .slice pr m.nr cr, .int .i64 m.ob, .int .i64 m.fi, .int .i64 m.cu, .bool m.ov] 32) := ⟨_, rfl⟩
    have gX : TBox 32 w4.heap.size #[.int .i64 m.g.r, .slice pg m.g.n cg, .slice pb m.nb cb, .slice pr m.nr cr, .int .i64 m.ob, .int .i64 m.fi, .int .i64 m.cu, .bool m.ov] w5 := by rw [hw5]; exact TBox.new _ _ _
    have hb5 : Below w4.heap.size w4 w5 := by rw [hw5]; exact (Below.refl _ _).alloc (Nat.le_refl _) _
    rw [← hw5]
    clear hw5 y0 y1 y2 y3 y4 y5 y6 y7 l8
    have hwX : w.heap.size ≤ w4.heap.size := hbW.size
    have hwX3 : w.heap.size + 1 + 1 < w4.heap.size := gV.lt
    replace gH := gH.below hb5
    replace gM := gM.below hb5
    replace gV := gV.below hb5
    replace g9 := g9.below hb5
    replace hxo := hxo.below hb5
    replace hbW := bjoin hb5 hbW
    have h9X : B9 < w4.heap.size := h9lt
    clear hb5 h9lt
    generalize w4.heap.size = BX at *
    obtain ⟨t0, hq0, hq1, hq2, hq3⟩ := info_parts val_info
    obtain ⟨i0, hj0, hj1, hj2, hj3⟩ := info_parts int_infoG
    obtain ⟨u0, hu0, hu1, hu2, hu3⟩ := info_parts grey_info
    have hro := hM0.r
    have hz5 : w.heap.size ≤ w5.heap.size := hbW.size
    obtain ⟨l8, y0, y1, y2, y3, y4, y5, y6, y7⟩ := mk_cells gM
    obtain ⟨lX, k0, k1, k2, k3, k4, k5, k6, k7⟩ := mk_cells gX
    obtain ⟨j0, j1, j2, j3, j4, j5, j6, j7⟩ := mk_frozen gX
    go_upto_region 6 with (first
      | (at_builtin; refine wpList_append_row rfl (.tmp 33) (.tmp 35) 30 rfl w5.heap.size 38 t0 (.agg #[.int .i64 0, .int .i64 0]) 2 16 Tryd.underlying30 hq0 hq1 hq2 hq3 rfl (by decide) (.slice (some ⟨w5.heap.size, 0, none⟩) 0 0) 0 [] rfl (World.ownsRow_lit w5 #[] 0 (Nat.le_refl _) (by simp only [maxLen]; omega) rfl) pr m.nr cr (vlVals m.nr m.ro) rfl (by simp [vlVals_length]) (hro.row.below (hbW.alloc hz5 _)).cells (vlVals_one _ _) hro.pnil (by simp only [maxLen]; omega) (by omega) (by simp) ?_; intro ov0 w6 hown0 hgrow; rw [Nat.zero_add, List.nil_append] at hown0; obtain ⟨prx, crx, rfl, hnewR⟩ := owned_new hown0; have hb6 : Below w5.heap.size w5 w6 := ((Below.refl _ _).alloc (Nat.le_refl _) _).grown hgrow (by simp) (fun k hk => by cases hk; exact Nat.le_refl _); have k3' := (hb6.cell (p := ⟨BX, 3, none⟩) lX).trans k3; have j3' := (hb6.frozen (p := ⟨BX, 3, none⟩) lX).trans j3; have lX6 := Nat.lt_of_lt_of_le lX hb6.size)
    )
    have hvX6 : VAt w6 prx crx m.nr m.ro := va_owned hown0 (by simp only [maxLen]; omega) hro.row.wf
    have hreX6 : RowE w.heap.size 38 m.nr prx w6 := rowE_owned hown0
    have gX6 := gX.below hb6
    have vX6 := gX6.varM
    have hvX := hvX6.of_block (w' := putsL BX 3 [.slice prx m.nr crx] w6) (by rw [putsL_size]; exact Nat.le_refl _) fun h0 b off sp e => putsL_other (hreX6.ne vX6 (by decide) hwX h0 e) [.slice prx m.nr crx] 3 w6
    have hreX := row_putsL (k := 3) hreX6 vX6 (by decide) hwX [.slice prx m.nr crx]
    have gX7 := gX6.putsL [.slice prx m.nr crx] 3
    have gH7 := (gH.below hb6).of_block (putsL_other (show ¬ w.heap.size = BX by omega) [.slice prx m.nr crx] 3 w6)
    have gM7 := (gM.below hb6).of_block (putsL_other (show ¬ w.heap.size + 1 = BX by omega) [.slice prx m.nr crx] 3 w6)
    have gV7 := (gV.below hb6).of_block (putsL_other (show ¬ w.heap.size + 1 + 1 = BX by omega) [.slice prx m.nr crx] 3 w6)
    have g97 : Box3 B9 (.slice po h.n co) (.slice qo h.m do_) (.bool h.b) (putsL BX 3 [.slice prx m.nr crx] w6) := (g9.below hb6).other (show ¬ BX = B9 by omega) _ _
    have hxo7 := hpIn_puts (k := h.m) (vX6.clear (hxo.below hb6) hn32.1 hn32.2) [.slice prx m.nr crx] 3 (hxo.below hb6)
    have hb57 : Below BX w5 (putsL BX 3 [.slice prx m.nr crx] w6) := (hb6.mono (Nat.le_of_lt lX)).trans (putsL_below (Nat.le_refl BX) _ _ _)
    obtain ⟨w7, hw7⟩ : ∃ W, W = putsL BX 3 [.slice prx m.nr crx] w6 := ⟨_, rfl⟩
    have hw7' : w6.setCell ⟨BX, 3, none⟩ (.slice prx m.nr crx) = w7 := hw7.symm
    rw [hw7']
    rw [← hw7] at hvX hreX gX7 gH7 gM7 gV7 g97 hxo7 hb57
    simp only [setFrom, List.setIfInBounds_toArray, List.set_cons_succ, List.set_cons_zero, Nat.reduceAdd] at gX7
    clear hw7 hw7' hvX6 hreX6 gX6 vX6 hown0 hnewR hgrow gH gM gV g9 hxo gX hb6 y0 y1 y2 y3 y4 y5 y6 y7 l8 lX k0 k1 k2 k3 k4 k5 k6 k7 j0 j1 j2 j3 j4 j5 j6 j7 k3' j3' lX6
    have hbW7 : Below w.heap.size w w7 := hbW.trans (hb57.mono hwX)
    obtain ⟨l8, y0, y1, y2, y3, y4, y5, y6, y7⟩ := mk_cells gM7
    obtain ⟨lX, k0, k1, k2, k3, k4, k5, k6, k7⟩ := mk_cells gX7
    obtain ⟨j0, j1, j2, j3, j4, j5, j6, j7⟩ := mk_frozen gX7
    have hz7 : w.heap.size ≤ w7.heap.size := hbW7.size
    have hgr0 := hM0.g
    go_upto_region 7 with (first
      | (at_builtin; refine wpList_append_ints rfl (.tmp 38) (.tmp 41) 26 rfl w7.heap.size 3 i0 (.int .i64 0) 8 Tryd.underlying26 hj0 hj1 hj2 hj3 rfl (.slice (some ⟨w7.heap.size, 0, none⟩) 0 0) 0 [] rfl (World.ownsRow_lit w7 #[] 0 (Nat.le_refl _) (by simp only [maxLen]; omega) rfl) .i64 pg m.g.n cg m.g.z rfl (hgr0.ints.below (hbW7.alloc hz7 _)) hgr0.pnil (by simp only [maxLen]; omega) (by omega) (by simp) ?_; intro ov1 w8 hown1 hgrow; rw [Nat.zero_add, List.nil_append] at hown1; obtain ⟨pgx, cgx, rfl, hnewR⟩ := owned_new hown1; have hb8 : Below w7.heap.size w7 w8 := ((Below.refl _ _).alloc (Nat.le_refl _) _).grown hgrow (by simp) (fun k hk => by cases hk; exact Nat.le_refl _); have k1' := (hb8.cell (p := ⟨BX, 1, none⟩) lX).trans k1; have j1' := (hb8.frozen (p := ⟨BX, 1, none⟩) lX).trans j1; have lX8 := Nat.lt_of_lt_of_le lX hb8.size)
    )
    have hgX8 : GrAt w8 pgx cgx m.g.n m.g.z := gr_owned hown1 (by simp only [maxLen]; omega) hgr0.ints.wf
    have hgeX8 : RowE w.heap.size 3 m.g.n pgx w8 := rowE_owned hown1
    have gX8 := gX7.below hb8
    have vX8 := TBox.varM (m := { m with nr := m.nr }) gX8
    have hgX := gr_putsL (k := 1) hgX8 hgeX8 vX8 (by decide) hwX [.slice pgx m.g.n cgx]
    have hgeX := row_putsL (k := 1) hgeX8 vX8 (by decide) hwX [.slice pgx m.g.n cgx]
    have hvX9 := (hvX.below hb8).of_block (w' := putsL BX 1 [.slice pgx m.g.n cgx] w8) (by rw [putsL_size]; exact Nat.le_refl _) fun h0 b off sp e => putsL_other ((hreX.below hb8).ne vX8 (by decide) hwX h0 e) [.slice pgx m.g.n cgx] 1 w8
    have hreX9 := row_putsL (k := 1) (hreX.below hb8) vX8 (by decide) hwX [.slice pgx m.g.n cgx]
    have gX9 := gX8.putsL [.slice pgx m.g.n cgx] 1
    have gH9 := (gH7.below hb8).of_block (putsL_other (show ¬ w.heap.size = BX by omega) [.slice pgx m.g.n cgx] 1 w8)
    have gM9 := (gM7.below hb8).of_block (putsL_other (show ¬ w.heap.size + 1 = BX by omega) [.slice pgx m.g.n cgx] 1 w8)
    have gV9 := (gV7.below hb8).of_block (putsL_other (show ¬ w.heap.size + 1 + 1 = BX by omega) [.slice pgx m.g.n cgx] 1 w8)
    have g99 : Box3 B9 (.slice po h.n co) (.slice qo h.m do_) (.bool h.b) (putsL BX 1 [.slice pgx m.g.n cgx] w8) := (g97.below hb8).other (show ¬ BX = B9 by omega) _ _
    have hxo9 := hpIn_puts (k := h.m) (vX8.clear (hxo7.below hb8) hn32.1 hn32.2) [.slice pgx m.g.n cgx] 1 (hxo7.below hb8)
    have hb79 : Below BX w7 (putsL BX 1 [.slice pgx m.g.n cgx] w8) := (hb8.mono (Nat.le_of_lt lX)).trans (putsL_below (Nat.le_refl BX) _ _ _)
    obtain ⟨w9, hw9⟩ : ∃ W, W = putsL BX 1 [.slice pgx m.g.n cgx] w8 := ⟨_, rfl⟩
    have hw9' : w8.setCell ⟨BX, 1, none⟩ (.slice pgx m.g.n cgx) = w9 := hw9.symm
    rw [hw9']
    rw [← hw9] at hgX hgeX hvX9 hreX9 gX9 gH9 gM9 gV9 g99 hxo9 hb79
    simp only [setFrom, List.setIfInBounds_toArray, List.set_cons_succ, List.set_cons_zero, Nat.reduceAdd] at gX9
    clear hw9 hw9' hgX8 hgeX8 gX8 vX8 hown1 hnewR hgrow gH7 gM7 gV7 g97 hxo7 gX7 hvX hreX hb8 y0 y1 y2 y3 y4 y5 y6 y7 l8 lX k0 k1 k2 k3 k4 k5 k6 k7 j0 j1 j2 j3 j4 j5 j6 j7 k1' j1' lX8 hb57
    have hbW9 : Below w.heap.size w w9 := hbW7.trans (hb79.mono hwX)
    obtain ⟨lX, k0, k1, k2, k3, k4, k5, k6, k7⟩ := mk_cells gX9
    obtain ⟨j0, j1, j2, j3, j4, j5, j6, j7⟩ := mk_frozen gX9
    go_upto_region 8 with fail
    have gXA := gX9.set 2 (.slice none 0 0)
    simp only [List.setIfInBounds_toArray, List.set_cons_succ, List.set_cons_zero] at gXA
    have vX9 := gX9.varM
    have hgXA := gr_putsL (k := 2) hgX hgeX vX9 (by decide) hwX [.slice none 0 0]
    have hgeXA := row_putsL (k := 2) hgeX vX9 (by decide) hwX [.slice none 0 0]
    have hvXA := hvX9.of_block (w' := putsL BX 2 [.slice none 0 0] w9) (by rw [putsL_size]; exact Nat.le_refl _) fun h0 b off sp e => putsL_other (hreX9.ne vX9 (by decide) hwX h0 e) [.slice none 0 0] 2 w9
    have hreXA := row_putsL (k := 2) hreX9 vX9 (by decide) hwX [.slice none 0 0]
    have gHA := gH9.of_block (putsL_other (show ¬ w.heap.size = BX by omega) [.slice none 0 0] 2 w9)
    have gMA := gM9.of_block (putsL_other (show ¬ w.heap.size + 1 = BX by omega) [.slice none 0 0] 2 w9)
    have gVA := gV9.of_block (putsL_other (show ¬ w.heap.size + 1 + 1 = BX by omega) [.slice none 0 0] 2 w9)
    have g9A : Box3 B9 (.slice po h.n co) (.slice qo h.m do_) (.bool h.b) (putsL BX 2 [.slice none 0 0] w9) := g99.other (show ¬ BX = B9 by omega) _ _
    have hxoA := hpIn_puts (k := h.m) (vX9.clear hxo9 hn32.1 hn32.2) [.slice none 0 0] 2 hxo9
    have hbWA := hbW9.trans ((putsL_below (Nat.le_refl BX) [.slice none 0 0] 2 w9).mono hwX)
    obtain ⟨wL, hwL⟩ : ∃ W, W = putsL BX 2 [.slice none 0 0] w9 := ⟨_, rfl⟩
    have hwL' : w9.setCell ⟨BX, 2, none⟩ (.slice none 0 0) = wL := hwL.symm
    rw [hwL'] at gXA
    rw [hwL']
    rw [← hwL] at hgXA hgeXA hvXA hreXA gHA gMA gVA g9A hxoA hbWA
    clear hwL hwL' hgX hgeX hvX9 hreX9 gH9 gM9 gV9 g99 hxo9 gX9 vX9 hb79 k0 k1 k2 k3 k4 k5 k6 k7 j0 j1 j2 j3 j4 j5 j6 j7 lX hbW9 hbW7 hz7 hgr0 hbW hz5 hro
    have hwL0 : w.heap.size ≤ wL.heap.size := hbWA.size
    have hXL : BX < wL.heap.size := gXA.lt
    have hnb10 : m.nb ≤ 10 := f3
    go_wp2
    go_loopg [11] m.nb (fun g iv wr => ∃ (i : Nat) (pbx : Option Addr) (cbx : Nat), i ≤ m.nb ∧ g = m.nb - i ∧ iv = .int .i64 i ∧ TBox 32 BX #[.int .i64 m.g.r, .slice pgx m.g.n cgx, .slice pbx i cbx, .slice prx m.nr crx, .int .i64 m.ob, .int .i64 m.fi, .int .i64 m.cu, .bool m.ov] wr ∧ GrowR wL.heap.size 28 2 (GrE w.heap.size) i m.b (.slice pbx i cbx) wr ∧ Aside (fun k => k = BX) wL wr)
    case atStart => exact ⟨0, none, 0, by omega, by omega, rfl, gXA, growR_nil _ _ _ _ _ _, Aside.of (Below.refl _ _)⟩
    case round =>
      obtain ⟨i, pbx, cbx, ih, rfl, rfl, gX, hGr, hAs⟩ := hrel
      have hbLr : Below BX wL wr := hAs.below (Nat.le_of_lt hXL) fun k e => by omega
      have hbwr := hbWA.trans (hbLr.mono hwX)
      obtain ⟨lX, k0, k1, k2, k3, k4, k5, k6, k7⟩ := mk_cells gX
      have gMr := gMA.of_block (hAs.block _ gMA.lt (by omega))
      obtain ⟨l8, y0, y1, y2, y3, y4, y5, y6, y7⟩ := mk_cells gMr
      have hszr : wL.heap.size ≤ wr.heap.size := hAs.size
      by_cases hi : i < m.nb
      · obtain ⟨bb, off, LL0, epb, hl0, -, hcell, q2, d2, rfl, hgi, hri, hiw⟩ := hM0.b.row i hi
        have v0 := hcell 0 _ rfl
        have v1 := hcell 1 _ rfl
        rw [Nat.add_zero] at v0
        have hii := hgi.ints
        have hin := hgi.pnil
        have h20 := f5 i hi
        obtain ⟨rr, hrr⟩ : ∃ x, Hid (x = (m.b i).r) := ⟨_, rfl⟩
        obtain ⟨nn, hnn⟩ : ∃ x, Hid (x = (m.b i).n) := ⟨_, rfl⟩
        rw [← hrr.out] at v0
        rw [← hnn.out] at v1 hii hin h20
        subst epb
        have hiM : (i : Int) < m.nb := by omega
        clear hcell hgi
        go_upto_region 11 with fail
        have hKB : ∀ (k : Nat) (w1 w2 : World), Below w1.heap.size w1 w2 → KeepI (fun W9 => Below wL.heap.size wr W9 ∧ GrowR wL.heap.size 28 2 (GrE w.heap.size) i m.b (.slice pbx i cbx) W9) ([(fun v _ => v = .pointer (some ⟨BX, 2, none⟩)), (fun v _ => v = .slice pbx i cbx), (fun v _ => v = .pointer (some ⟨w.heap.size + 1, 2, none⟩)), (fun v _ => v = .slice (some ⟨bb, off, none⟩) m.nb cb), (fun v _ => v = .int .i64 (i : Int)), (fun v _ => v = .pointer (some ⟨bb, off + i * 2, none⟩)), (fun v _ => v = .pointer (some ⟨bb, off + i * 2, none⟩)), (fun v _ => v = .int .i64 rr), (NilB wL.heap.size 3), (fun v _ => v = .pointer (some ⟨w.heap.size + 1, 2, none⟩)), (fun v _ => v = .slice (some ⟨bb, off, none⟩) m.nb cb), (fun v _ => v = .int .i64 (i : Int)), (fun v _ => v = .pointer (some ⟨bb, off + i * 2, none⟩)), (fun v _ => v = .pointer (some ⟨bb, off + i * 2 + 1, none⟩)), (fun v _ => v = .slice q2 nn d2), (CopyB wL.heap.size 3 1 nn (vals .i64 nn (m.b i).z)), (PutG wL.heap.size rr nn (m.b i).z), (OneG wL.heap.size rr nn (m.b i).z), (GrowRB wL.heap.size w.heap.size (i + 1) m.b), (fun v _ => v = .pointer (some ⟨BX, 2, none⟩))] : List (Value → World → Prop)) [[1, 2, 3, 4, 5, 6, 7, 8, 9, 10, 11, 12, 13, 14, 15, 16, 17, 18, 19], [0, 2, 3, 4, 5, 6, 7, 8, 9, 10, 11, 12, 13, 14, 15, 16, 17, 18, 19], [0, 1, 3, 4, 5, 6, 7, 8, 9, 10, 11, 12, 13, 14, 15, 16, 17, 18, 19], [0, 1, 2, 4, 5, 6, 7, 8, 9, 10, 11, 12, 13, 14, 15, 16, 17, 18, 19], [0, 1, 2, 3, 5, 6, 7, 8, 9, 10, 11, 12, 13, 14, 15, 16, 17, 18, 19], [0, 1, 2, 3, 4, 6, 7, 8, 9, 10, 11, 12, 13, 14, 15, 16, 17, 18, 19], [0, 1, 2, 3, 4, 5, 7, 8, 9, 10, 11, 12, 13, 14, 15, 16, 17, 18, 19], [0, 1, 2, 3, 4, 5, 6, 8, 9, 10, 11, 12, 13, 14, 15, 16, 17, 18, 19], [0, 1, 2, 3, 4, 5, 6, 7, 9, 10, 11, 12, 13, 14, 15, 16, 17, 18, 19], [0, 1, 2, 3, 4, 5, 6, 7, 8, 10, 11, 12, 13, 14, 15, 16, 17, 18, 19], [0, 1, 2, 3, 4, 5, 6, 7, 8, 9, 11, 12, 13, 14, 15, 16, 17, 18, 19], [0, 1, 2, 3, 4, 5, 6, 7, 8, 9, 10, 12, 13, 14, 15, 16, 17, 18, 19], [0, 1, 2, 3, 4, 5, 6, 7, 8, 9, 10, 11, 13, 14, 15, 16, 17, 18, 19], [0, 1, 2, 3, 4, 5, 6, 7, 8, 9, 10, 11, 12, 14, 15, 16, 17, 18, 19], [0, 1, 2, 3, 4, 5, 6, 7, 8, 9, 10, 11, 12, 13, 15, 16, 17, 18, 19], [0, 1, 2, 3, 4, 5, 6, 7, 8, 9, 10, 11, 12, 13, 14, 16, 17, 18, 19], [0, 1, 2, 3, 4, 5, 6, 7, 8, 9, 10, 11, 12, 13, 14, 15, 17, 18, 19], [0, 1, 2, 3, 4, 5, 6, 7, 8, 9, 10, 11, 12, 13, 14, 15, 16, 18, 19], [0, 1, 2, 3, 4, 5, 6, 7, 8, 9, 10, 11, 12, 13, 14, 15, 16, 17, 19], [0, 1, 2, 3, 4, 5, 6, 7, 8, 9, 10, 11, 12, 13, 14, 15, 16, 17, 18]] k w1 w2 := fun k _ _ hb => keepI_below (pv := ([(fun v _ => v = .pointer (some ⟨BX, 2, none⟩)), (fun v _ => v = .slice pbx i cbx), (fun v _ => v = .pointer (some ⟨w.heap.size + 1, 2, none⟩)), (fun v _ => v = .slice (some ⟨bb, off, none⟩) m.nb cb), (fun v _ => v = .int .i64 (i : Int)), (fun v _ => v = .pointer (some ⟨bb, off + i * 2, none⟩)), (fun v _ => v = .pointer (some ⟨bb, off + i * 2, none⟩)), (fun v _ => v = .int .i64 rr), (NilB wL.heap.size 3), (fun v _ => v = .pointer (some ⟨w.heap.size + 1, 2, none⟩)), (fun v _ => v = .slice (some ⟨bb, off, none⟩) m.nb cb), (fun v _ => v = .int .i64 (i : Int)), (fun v _ => v = .pointer (some ⟨bb, off + i * 2, none⟩)), (fun v _ => v = .pointer (some ⟨bb, off + i * 2 + 1, none⟩)), (fun v _ => v = .slice q2 nn d2), (CopyB wL.heap.size 3 1 nn (vals .i64 nn (m.b i).z)), (PutG wL.heap.size rr nn (m.b i).z), (OneG wL.heap.size rr nn (m.b i).z), (GrowRB wL.heap.size w.heap.size (i + 1) m.b), (fun v _ => v = .pointer (some ⟨BX, 2, none⟩))] : List (Value → World → Prop))) (fun _ _ h hb => ⟨h.1.trans (hb.mono (Nat.le_trans hszr h.1.size)), h.2.below grE_below hb⟩) ⟨fun _ _ _ h _ => h, fun _ _ _ h _ => h, fun _ _ _ h _ => h, fun _ _ _ h _ => h, fun _ _ _ h _ => h, fun _ _ _ h _ => h, fun _ _ _ h _ => h, fun _ _ _ h _ => h, fun _ _ _ h hb => h.below hb, fun _ _ _ h _ => h, fun _ _ _ h _ => h, fun _ _ _ h _ => h, fun _ _ _ h _ => h, fun _ _ _ h _ => h, fun _ _ _ h _ => h, fun _ _ _ h hb => h.below hb, fun _ _ _ h hb => h.below hb, fun _ _ _ h hb => h.below hb, fun _ _ _ h hb => h.below hb, fun _ _ _ h _ => h, trivial⟩ hb k
        refine wp_raw_pv 20 [53, 54, 55, 56, 57, 58, 59, 60, 61, 62, 63, 64, 65, 66, 67, 68, 69, 70, 71, 72] ([(fun v _ => v = .pointer (some ⟨BX, 2, none⟩)), (fun v _ => v = .slice pbx i cbx), (fun v _ => v = .pointer (some ⟨w.heap.size + 1, 2, none⟩)), (fun v _ => v = .slice (some ⟨bb, off, none⟩) m.nb cb), (fun v _ => v = .int .i64 (i : Int)), (fun v _ => v = .pointer (some ⟨bb, off + i * 2, none⟩)), (fun v _ => v = .pointer (some ⟨bb, off + i * 2, none⟩)), (fun v _ => v = .int .i64 rr), (NilB wL.heap.size 3), (fun v _ => v = .pointer (some ⟨w.heap.size + 1, 2, none⟩)), (fun v _ => v = .slice (some ⟨bb, off, none⟩) m.nb cb), (fun v _ => v = .int .i64 (i : Int)), (fun v _ => v = .pointer (some ⟨bb, off + i * 2, none⟩)), (fun v _ => v = .pointer (some ⟨bb, off + i * 2 + 1, none⟩)), (fun v _ => v = .slice q2 nn d2), (CopyB wL.heap.size 3 1 nn (vals .i64 nn (m.b i).z)), (PutG wL.heap.size rr nn (m.b i).z), (OneG wL.heap.size rr nn (m.b i).z), (GrowRB wL.heap.size w.heap.size (i + 1) m.b), (fun v _ => v = .pointer (some ⟨BX, 2, none⟩))] : List (Value → World → Prop)) [18, 19] [[1, 2, 3, 4, 5, 6, 7, 8, 9, 10, 11, 12, 13, 14, 15, 16, 17, 18, 19], [0, 2, 3, 4, 5, 6, 7, 8, 9, 10, 11, 12, 13, 14, 15, 16, 17, 18, 19], [0, 1, 3, 4, 5, 6, 7, 8, 9, 10, 11, 12, 13, 14, 15, 16, 17, 18, 19], [0, 1, 2, 4, 5, 6, 7, 8, 9, 10, 11, 12, 13, 14, 15, 16, 17, 18, 19], [0, 1, 2, 3, 5, 6, 7, 8, 9, 10, 11, 12, 13, 14, 15, 16, 17, 18, 19], [0, 1, 2, 3, 4, 6, 7, 8, 9, 10, 11, 12, 13, 14, 15, 16, 17, 18, 19], [0, 1, 2, 3, 4, 5, 7, 8, 9, 10, 11, 12, 13, 14, 15, 16, 17, 18, 19], [0, 1, 2, 3, 4, 5, 6, 8, 9, 10, 11, 12, 13, 14, 15, 16, 17, 18, 19], [0, 1, 2, 3, 4, 5, 6, 7, 9, 10, 11, 12, 13, 14, 15, 16, 17, 18, 19], [0, 1, 2, 3, 4, 5, 6, 7, 8, 10, 11, 12, 13, 14, 15, 16, 17, 18, 19], [0, 1, 2, 3, 4, 5, 6, 7, 8, 9, 11, 12, 13, 14, 15, 16, 17, 18, 19], [0, 1, 2, 3, 4, 5, 6, 7, 8, 9, 10, 12, 13, 14, 15, 16, 17, 18, 19], [0, 1, 2, 3, 4, 5, 6, 7, 8, 9, 10, 11, 13, 14, 15, 16, 17, 18, 19], [0, 1, 2, 3, 4, 5, 6, 7, 8, 9, 10, 11, 12, 14, 15, 16, 17, 18, 19], [0, 1, 2, 3, 4, 5, 6, 7, 8, 9, 10, 11, 12, 13, 15, 16, 17, 18, 19], [0, 1, 2, 3, 4, 5, 6, 7, 8, 9, 10, 11, 12, 13, 14, 16, 17, 18, 19], [0, 1, 2, 3, 4, 5, 6, 7, 8, 9, 10, 11, 12, 13, 14, 15, 17, 18, 19], [0, 1, 2, 3, 4, 5, 6, 7, 8, 9, 10, 11, 12, 13, 14, 15, 16, 18, 19], [0, 1, 2, 3, 4, 5, 6, 7, 8, 9, 10, 11, 12, 13, 14, 15, 16, 17, 19], [0, 1, 2, 3, 4, 5, 6, 7, 8, 9, 10, 11, 12, 13, 14, 15, 16, 17, 18]] (fun W9 => Below wL.heap.size wr W9 ∧ GrowR wL.heap.size 28 2 (GrE w.heap.size) i m.b (.slice pbx i cbx) W9) (⟨(Below.refl _ _).drew, hGr.below grE_below (Below.refl _ _).drew⟩) (by kernel_rfl) (by kernel_rfl) (by kernel_rfl) (by decide) (by kernel_rfl) (by kernel_rfl) (by kernel_rfl) rfl rfl (by decide) (by simp) ?_ ?_
        · refine ⟨?_, ?_, ?_, ?_, ?_, ?_, ?_, ?_, ?_, ?_, ?_, ?_, ?_, ?_, ?_, ?_, ?_, ?_, ?_, ?_, trivial⟩
          · intro a' w' hI hs hd Kc hK
            have f10 : a'.tmps[10]?.getD undef = .pointer (some ⟨BX, 0, none⟩) := (hs 10 (by decide)).trans rfl
            clear hs hd
            have hsz : wL.heap.size ≤ w'.heap.size := Nat.le_trans hszr hI.1.size
            have c2' := (hI.1.cell (p := ⟨BX, 2, none⟩) hXL).trans k2
            have y2' := (hI.1.cell (p := ⟨w.heap.size + 1, 2, none⟩) (show w.heap.size + 1 < wL.heap.size by omega)).trans y2
            have lX' : BX < w'.heap.size := by omega
            have l8' : w.heap.size + 1 < w'.heap.size := by omega
            have hww : Below w.heap.size w w' := hbwr.trans (hI.1.mono hwL0)
            have v0' := (hww.cell (p := ⟨bb, off + i * 2, none⟩) hl0).trans v0
            have v1' := (hww.cell (p := ⟨bb, off + i * 2 + 1, none⟩) hl0).trans v1
            have lb' : bb < w'.heap.size := by omega
            unfold Oper.wp
            go_simp
            try go_bits
            exact hK _ _ (keepI_refl _ _ _ _ _) (by first | rfl | (show Value.int _ _ = Value.int _ _; go_num; done) | (simp [valOf, *]; done) | (simp [valOf]; omega))
          · intro a' w' hI hs hd Kc hK
            have f53 : a'.tmps[53]?.getD undef = .pointer (some ⟨BX, 2, none⟩) := hd 0 53 (by first | rfl | decide | simp [Region.binds]) rfl
            clear hs hd
            have hsz : wL.heap.size ≤ w'.heap.size := Nat.le_trans hszr hI.1.size
            have c2' := (hI.1.cell (p := ⟨BX, 2, none⟩) hXL).trans k2
            have y2' := (hI.1.cell (p := ⟨w.heap.size + 1, 2, none⟩) (show w.heap.size + 1 < wL.heap.size by omega)).trans y2
            have lX' : BX < w'.heap.size := by omega
            have l8' : w.heap.size + 1 < w'.heap.size := by omega
            have hww : Below w.heap.size w w' := hbwr.trans (hI.1.mono hwL0)
            have v0' := (hww.cell (p := ⟨bb, off + i * 2, none⟩) hl0).trans v0
            have v1' := (hww.cell (p := ⟨bb, off + i * 2 + 1, none⟩) hl0).trans v1
            have lb' : bb < w'.heap.size := by omega
            unfold Oper.wp
            go_simp
            try go_bits
            exact hK _ _ (keepI_refl _ _ _ _ _) (by first | rfl | (show Value.int _ _ = Value.int _ _; go_num; done) | (simp [valOf, *]; done) | (simp [valOf]; omega))
          · intro a' w' hI hs hd Kc hK
            have f5 : a'.tmps[5]?.getD undef = .pointer (some ⟨w.heap.size + 1, 0, none⟩) := (hs 5 (by decide)).trans rfl
            clear hs hd
            have hsz : wL.heap.size ≤ w'.heap.size := Nat.le_trans hszr hI.1.size
            have c2' := (hI.1.cell (p := ⟨BX, 2, none⟩) hXL).trans k2
            have y2' := (hI.1.cell (p := ⟨w.heap.size + 1, 2, none⟩) (show w.heap.size + 1 < wL.heap.size by omega)).trans y2
            have lX' : BX < w'.heap.size := by omega
            have l8' : w.heap.size + 1 < w'.heap.size := by omega
            have hww : Below w.heap.size w w' := hbwr.trans (hI.1.mono hwL0)
            have v0' := (hww.cell (p := ⟨bb, off + i * 2, none⟩) hl0).trans v0
            have v1' := (hww.cell (p := ⟨bb, off + i * 2 + 1, none⟩) hl0).trans v1
            have lb' : bb < w'.heap.size := by omega
            unfold Oper.wp
            go_simp
            try go_bits
            exact hK _ _ (keepI_refl _ _ _ _ _) (by first | rfl | (show Value.int _ _ = Value.int _ _; go_num; done) | (simp [valOf, *]; done) | (simp [valOf]; omega))
          · intro a' w' hI hs hd Kc hK
            have f55 : a'.tmps[55]?.getD undef = .pointer (some ⟨w.heap.size + 1, 2, none⟩) := hd 2 55 (by first | rfl | decide | simp [Region.binds]) rfl
            clear hs hd
            have hsz : wL.heap.size ≤ w'.heap.size := Nat.le_trans hszr hI.1.size
            have c2' := (hI.1.cell (p := ⟨BX, 2, none⟩) hXL).trans k2
            have y2' := (hI.1.cell (p := ⟨w.heap.size + 1, 2, none⟩) (show w.heap.size + 1 < wL.heap.size by omega)).trans y2
            have lX' : BX < w'.heap.size := by omega
            have l8' : w.heap.size + 1 < w'.heap.size := by omega
            have hww : Below w.heap.size w w' := hbwr.trans (hI.1.mono hwL0)
            have v0' := (hww.cell (p := ⟨bb, off + i * 2, none⟩) hl0).trans v0
            have v1' := (hww.cell (p := ⟨bb, off + i * 2 + 1, none⟩) hl0).trans v1
            have lb' : bb < w'.heap.size := by omega
            unfold Oper.wp
            go_simp
            try go_bits
            exact hK _ _ (keepI_refl _ _ _ _ _) (by first | rfl | (show Value.int _ _ = Value.int _ _; go_num; done) | (simp [valOf, *]; done) | (simp [valOf]; omega))
          · intro a' w' hI hs hd Kc hK
            have f11 : a'.tmps[11]?.getD undef = .int .i64 (i : Int) := (hs 11 (by decide)).trans rfl
            clear hs hd
            have hsz : wL.heap.size ≤ w'.heap.size := Nat.le_trans hszr hI.1.size
            have c2' := (hI.1.cell (p := ⟨BX, 2, none⟩) hXL).trans k2
            have y2' := (hI.1.cell (p := ⟨w.heap.size + 1, 2, none⟩) (show w.heap.size + 1 < wL.heap.size by omega)).trans y2
            have lX' : BX < w'.heap.size := by omega
            have l8' : w.heap.size + 1 < w'.heap.size := by omega
            have hww : Below w.heap.size w w' := hbwr.trans (hI.1.mono hwL0)
            have v0' := (hww.cell (p := ⟨bb, off + i * 2, none⟩) hl0).trans v0
            have v1' := (hww.cell (p := ⟨bb, off + i * 2 + 1, none⟩) hl0).trans v1
            have lb' : bb < w'.heap.size := by omega
            unfold Oper.wp
            go_simp
            try go_bits
            exact hK _ _ (keepI_refl _ _ _ _ _) (by first | rfl | (show Value.int _ _ = Value.int _ _; go_num; done) | (simp [valOf, *]; done) | (simp [valOf]; omega))
          · intro a' w' hI hs hd Kc hK
            have f56 : a'.tmps[56]?.getD undef = .slice (some ⟨bb, off, none⟩) m.nb cb := hd 3 56 (by first | rfl | decide | simp [Region.binds]) rfl
            have f57 : a'.tmps[57]?.getD undef = .int .i64 (i : Int) := hd 4 57 (by first | rfl | decide | simp [Region.binds]) rfl
            clear hs hd
            have hsz : wL.heap.size ≤ w'.heap.size := Nat.le_trans hszr hI.1.size
            have c2' := (hI.1.cell (p := ⟨BX, 2, none⟩) hXL).trans k2
            have y2' := (hI.1.cell (p := ⟨w.heap.size + 1, 2, none⟩) (show w.heap.size + 1 < wL.heap.size by omega)).trans y2
            have lX' : BX < w'.heap.size := by omega
            have l8' : w.heap.size + 1 < w'.heap.size := by omega
            have hww : Below w.heap.size w w' := hbwr.trans (hI.1.mono hwL0)
            have v0' := (hww.cell (p := ⟨bb, off + i * 2, none⟩) hl0).trans v0
            have v1' := (hww.cell (p := ⟨bb, off + i * 2 + 1, none⟩) hl0).trans v1
            have lb' : bb < w'.heap.size := by omega
            unfold Oper.wp
            go_simp
            try go_bits
            exact hK _ _ (keepI_refl _ _ _ _ _) (by first | rfl | (show Value.int _ _ = Value.int _ _; go_num; done) | (simp [valOf, *]; done) | (simp [valOf]; omega))
          · intro a' w' hI hs hd Kc hK
            have f58 : a'.tmps[58]?.getD undef = .pointer (some ⟨bb, off + i * 2, none⟩) := hd 5 58 (by first | rfl | decide | simp [Region.binds]) rfl
            clear hs hd
            have hsz : wL.heap.size ≤ w'.heap.size := Nat.le_trans hszr hI.1.size
            have c2' := (hI.1.cell (p := ⟨BX, 2, none⟩) hXL).trans k2
            have y2' := (hI.1.cell (p := ⟨w.heap.size + 1, 2, none⟩) (show w.heap.size + 1 < wL.heap.size by omega)).trans y2
            have lX' : BX < w'.heap.size := by omega
            have l8' : w.heap.size + 1 < w'.heap.size := by omega
            have hww : Below w.heap.size w w' := hbwr.trans (hI.1.mono hwL0)
            have v0' := (hww.cell (p := ⟨bb, off + i * 2, none⟩) hl0).trans v0
            have v1' := (hww.cell (p := ⟨bb, off + i * 2 + 1, none⟩) hl0).trans v1
            have lb' : bb < w'.heap.size := by omega
            unfold Oper.wp
            go_simp
            try go_bits
            exact hK _ _ (keepI_refl _ _ _ _ _) (by first | rfl | (show Value.int _ _ = Value.int _ _; go_num; done) | (simp [valOf, *]; done) | (simp [valOf]; omega))
          · intro a' w' hI hs hd Kc hK
            have f59 : a'.tmps[59]?.getD undef = .pointer (some ⟨bb, off + i * 2, none⟩) := hd 6 59 (by first | rfl | decide | simp [Region.binds]) rfl
            clear hs hd
            have hsz : wL.heap.size ≤ w'.heap.size := Nat.le_trans hszr hI.1.size
            have c2' := (hI.1.cell (p := ⟨BX, 2, none⟩) hXL).trans k2
            have y2' := (hI.1.cell (p := ⟨w.heap.size + 1, 2, none⟩) (show w.heap.size + 1 < wL.heap.size by omega)).trans y2
            have lX' : BX < w'.heap.size := by omega
            have l8' : w.heap.size + 1 < w'.heap.size := by omega
            have hww : Below w.heap.size w w' := hbwr.trans (hI.1.mono hwL0)
            have v0' := (hww.cell (p := ⟨bb, off + i * 2, none⟩) hl0).trans v0
            have v1' := (hww.cell (p := ⟨bb, off + i * 2 + 1, none⟩) hl0).trans v1
            have lb' : bb < w'.heap.size := by omega
            unfold Oper.wp
            go_simp
            try go_bits
            exact hK _ _ (keepI_refl _ _ _ _ _) (by first | rfl | (show Value.int _ _ = Value.int _ _; go_num; done) | (simp [valOf, *]; done) | (simp [valOf]; omega))
          · intro a' w' hI hs hd Kc hK
            clear hs hd
            have hsz : wL.heap.size ≤ w'.heap.size := Nat.le_trans hszr hI.1.size
            have c2' := (hI.1.cell (p := ⟨BX, 2, none⟩) hXL).trans k2
            have y2' := (hI.1.cell (p := ⟨w.heap.size + 1, 2, none⟩) (show w.heap.size + 1 < wL.heap.size by omega)).trans y2
            have lX' : BX < w'.heap.size := by omega
            have l8' : w.heap.size + 1 < w'.heap.size := by omega
            have hww : Below w.heap.size w w' := hbwr.trans (hI.1.mono hwL0)
            have v0' := (hww.cell (p := ⟨bb, off + i * 2, none⟩) hl0).trans v0
            have v1' := (hww.cell (p := ⟨bb, off + i * 2 + 1, none⟩) hl0).trans v1
            have lb' : bb < w'.heap.size := by omega
            unfold Oper.wp
            go_simp
            exact hK _ _ (hKB _ _ _ ((Below.refl _ _).alloc (Nat.le_refl _) _)) (nilB_new _ _ hsz)
          · intro a' w' hI hs hd Kc hK
            have f5 : a'.tmps[5]?.getD undef = .pointer (some ⟨w.heap.size + 1, 0, none⟩) := (hs 5 (by decide)).trans rfl
            clear hs hd
            have hsz : wL.heap.size ≤ w'.heap.size := Nat.le_trans hszr hI.1.size
            have c2' := (hI.1.cell (p := ⟨BX, 2, none⟩) hXL).trans k2
            have y2' := (hI.1.cell (p := ⟨w.heap.size + 1, 2, none⟩) (show w.heap.size + 1 < wL.heap.size by omega)).trans y2
            have lX' : BX < w'.heap.size := by omega
            have l8' : w.heap.size + 1 < w'.heap.size := by omega
            have hww : Below w.heap.size w w' := hbwr.trans (hI.1.mono hwL0)
            have v0' := (hww.cell (p := ⟨bb, off + i * 2, none⟩) hl0).trans v0
            have v1' := (hww.cell (p := ⟨bb, off + i * 2 + 1, none⟩) hl0).trans v1
            have lb' : bb < w'.heap.size := by omega
            unfold Oper.wp
            go_simp
            try go_bits
            exact hK _ _ (keepI_refl _ _ _ _ _) (by first | rfl | (show Value.int _ _ = Value.int _ _; go_num; done) | (simp [valOf, *]; done) | (simp [valOf]; omega))
          · intro a' w' hI hs hd Kc hK
            have f62 : a'.tmps[62]?.getD undef = .pointer (some ⟨w.heap.size + 1, 2, none⟩) := hd 9 62 (by first | rfl | decide | simp [Region.binds]) rfl
            clear hs hd
            have hsz : wL.heap.size ≤ w'.heap.size := Nat.le_trans hszr hI.1.size
            have c2' := (hI.1.cell (p := ⟨BX, 2, none⟩) hXL).trans k2
            have y2' := (hI.1.cell (p := ⟨w.heap.size + 1, 2, none⟩) (show w.heap.size + 1 < wL.heap.size by omega)).trans y2
            have lX' : BX < w'.heap.size := by omega
            have l8' : w.heap.size + 1 < w'.heap.size := by omega
            have hww : Below w.heap.size w w' := hbwr.trans (hI.1.mono hwL0)
            have v0' := (hww.cell (p := ⟨bb, off + i * 2, none⟩) hl0).trans v0
            have v1' := (hww.cell (p := ⟨bb, off + i * 2 + 1, none⟩) hl0).trans v1
            have lb' : bb < w'.heap.size := by omega
            unfold Oper.wp
            go_simp
            try go_bits
            exact hK _ _ (keepI_refl _ _ _ _ _) (by first | rfl | (show Value.int _ _ = Value.int _ _; go_num; done) | (simp [valOf, *]; done) | (simp [valOf]; omega))
          · intro a' w' hI hs hd Kc hK
            have f11 : a'.tmps[11]?.getD undef = .int .i64 (i : Int) := (hs 11 (by decide)).trans rfl
            clear hs hd
            have hsz : wL.heap.size ≤ w'.heap.size := Nat.le_trans hszr hI.1.size
            have c2' := (hI.1.cell (p := ⟨BX, 2, none⟩) hXL).trans k2
            have y2' := (hI.1.cell (p := ⟨w.heap.size + 1, 2, none⟩) (show w.heap.size + 1 < wL.heap.size by omega)).trans y2
            have lX' : BX < w'.heap.size := by omega
            have l8' : w.heap.size + 1 < w'.heap.size := by omega
            have hww : Below w.heap.size w w' := hbwr.trans (hI.1.mono hwL0)
            have v0' := (hww.cell (p := ⟨bb, off + i * 2, none⟩) hl0).trans v0
            have v1' := (hww.cell (p := ⟨bb, off + i * 2 + 1, none⟩) hl0).trans v1
            have lb' : bb < w'.heap.size := by omega
            unfold Oper.wp
            go_simp
            try go_bits
            exact hK _ _ (keepI_refl _ _ _ _ _) (by first | rfl | (show Value.int _ _ = Value.int _ _; go_num; done) | (simp [valOf, *]; done) | (simp [valOf]; omega))
          · intro a' w' hI hs hd Kc hK
            have f63 : a'.tmps[63]?.getD undef = .slice (some ⟨bb, off, none⟩) m.nb cb := hd 10 63 (by first | rfl | decide | simp [Region.binds]) rfl
            have f64 : a'.tmps[64]?.getD undef = .int .i64 (i : Int) := hd 11 64 (by first | rfl | decide | simp [Region.binds]) rfl
            clear hs hd
            have hsz : wL.heap.size ≤ w'.heap.size := Nat.le_trans hszr hI.1.size
            have c2' := (hI.1.cell (p := ⟨BX, 2, none⟩) hXL).trans k2
            have y2' := (hI.1.cell (p := ⟨w.heap.size + 1, 2, none⟩) (show w.heap.size + 1 < wL.heap.size by omega)).trans y2
            have lX' : BX < w'.heap.size := by omega
            have l8' : w.heap.size + 1 < w'.heap.size := by omega
            have hww : Below w.heap.size w w' := hbwr.trans (hI.1.mono hwL0)
            have v0' := (hww.cell (p := ⟨bb, off + i * 2, none⟩) hl0).trans v0
            have v1' := (hww.cell (p := ⟨bb, off + i * 2 + 1, none⟩) hl0).trans v1
            have lb' : bb < w'.heap.size := by omega
            unfold Oper.wp
            go_simp
            try go_bits
            exact hK _ _ (keepI_refl _ _ _ _ _) (by first | rfl | (show Value.int _ _ = Value.int _ _; go_num; done) | (simp [valOf, *]; done) | (simp [valOf]; omega))
          · intro a' w' hI hs hd Kc hK
            have f65 : a'.tmps[65]?.getD undef = .pointer (some ⟨bb, off + i * 2, none⟩) := hd 12 65 (by first | rfl | decide | simp [Region.binds]) rfl
            clear hs hd
            have hsz : wL.heap.size ≤ w'.heap.size := Nat.le_trans hszr hI.1.size
            have c2' := (hI.1.cell (p := ⟨BX, 2, none⟩) hXL).trans k2
            have y2' := (hI.1.cell (p := ⟨w.heap.size + 1, 2, none⟩) (show w.heap.size + 1 < wL.heap.size by omega)).trans y2
            have lX' : BX < w'.heap.size := by omega
            have l8' : w.heap.size + 1 < w'.heap.size := by omega
            have hww : Below w.heap.size w w' := hbwr.trans (hI.1.mono hwL0)
            have v0' := (hww.cell (p := ⟨bb, off + i * 2, none⟩) hl0).trans v0
            have v1' := (hww.cell (p := ⟨bb, off + i * 2 + 1, none⟩) hl0).trans v1
            have lb' : bb < w'.heap.size := by omega
            unfold Oper.wp
            go_simp
            try go_bits
            exact hK _ _ (keepI_refl _ _ _ _ _) (by first | rfl | (show Value.int _ _ = Value.int _ _; go_num; done) | (simp [valOf, *]; done) | (simp [valOf]; omega))
          · intro a' w' hI hs hd Kc hK
            have f66 : a'.tmps[66]?.getD undef = .pointer (some ⟨bb, off + i * 2 + 1, none⟩) := hd 13 66 (by first | rfl | decide | simp [Region.binds]) rfl
            clear hs hd
            have hsz : wL.heap.size ≤ w'.heap.size := Nat.le_trans hszr hI.1.size
            have c2' := (hI.1.cell (p := ⟨BX, 2, none⟩) hXL).trans k2
            have y2' := (hI.1.cell (p := ⟨w.heap.size + 1, 2, none⟩) (show w.heap.size + 1 < wL.heap.size by omega)).trans y2
            have lX' : BX < w'.heap.size := by omega
            have l8' : w.heap.size + 1 < w'.heap.size := by omega
            have hww : Below w.heap.size w w' := hbwr.trans (hI.1.mono hwL0)
            have v0' := (hww.cell (p := ⟨bb, off + i * 2, none⟩) hl0).trans v0
            have v1' := (hww.cell (p := ⟨bb, off + i * 2 + 1, none⟩) hl0).trans v1
            have lb' : bb < w'.heap.size := by omega
            unfold Oper.wp
            go_simp
            try go_bits
            exact hK _ _ (keepI_refl _ _ _ _ _) (by first | rfl | (show Value.int _ _ = Value.int _ _; go_num; done) | (simp [valOf, *]; done) | (simp [valOf]; omega))
          · intro a' w' hI hs hd Kc hK
            have f61 : (NilB wL.heap.size 3) (a'.tmps[61]?.getD undef) w' := hd 8 61 (by first | rfl | decide | simp [Region.binds]) rfl
            have f67 : a'.tmps[67]?.getD undef = .slice q2 nn d2 := hd 14 67 (by first | rfl | decide | simp [Region.binds]) rfl
            clear hs hd
            have hsz : wL.heap.size ≤ w'.heap.size := Nat.le_trans hszr hI.1.size
            have c2' := (hI.1.cell (p := ⟨BX, 2, none⟩) hXL).trans k2
            have y2' := (hI.1.cell (p := ⟨w.heap.size + 1, 2, none⟩) (show w.heap.size + 1 < wL.heap.size by omega)).trans y2
            have lX' : BX < w'.heap.size := by omega
            have l8' : w.heap.size + 1 < w'.heap.size := by omega
            have hww : Below w.heap.size w w' := hbwr.trans (hI.1.mono hwL0)
            have v0' := (hww.cell (p := ⟨bb, off + i * 2, none⟩) hl0).trans v0
            have v1' := (hww.cell (p := ⟨bb, off + i * 2 + 1, none⟩) hl0).trans v1
            have lb' : bb < w'.heap.size := by omega
            refine step_copy rfl (.tmp 61) (.tmp 67) 26 rfl 3 i0 (.int .i64 0) 1 8 Tryd.underlying26 hj0 hj1 hj2 hj3 rfl (by decide) wL.heap.size (a'.tmps[61]?.getD undef) (by simp [Act.eval]) (f61.owns 1) q2 nn d2 (vals .i64 nn (m.b i).z) (by rw [← f67]; simp [Act.eval]) (by simp [vals_length]) (fun e => (hin e).1) (ints_cellsB (hii.below hww)) (vals_one _ _ _) (by simp only [maxLen]; omega) (by omega) hsz fun v' w2 ho hbo => ?_
            exact hK _ _ (hKB _ _ _ hbo) ho
          · intro a' w' hI hs hd Kc hK
            have f60 : a'.tmps[60]?.getD undef = .int .i64 rr := hd 7 60 (by first | rfl | decide | simp [Region.binds]) rfl
            have f68 : (CopyB wL.heap.size 3 1 nn (vals .i64 nn (m.b i).z)) (a'.tmps[68]?.getD undef) w' := hd 15 68 (by first | rfl | decide | simp [Region.binds]) rfl
            clear hs hd
            have hsz : wL.heap.size ≤ w'.heap.size := Nat.le_trans hszr hI.1.size
            have c2' := (hI.1.cell (p := ⟨BX, 2, none⟩) hXL).trans k2
            have y2' := (hI.1.cell (p := ⟨w.heap.size + 1, 2, none⟩) (show w.heap.size + 1 < wL.heap.size by omega)).trans y2
            have lX' : BX < w'.heap.size := by omega
            have l8' : w.heap.size + 1 < w'.heap.size := by omega
            have hww : Below w.heap.size w w' := hbwr.trans (hI.1.mono hwL0)
            have v0' := (hww.cell (p := ⟨bb, off + i * 2, none⟩) hl0).trans v0
            have v1' := (hww.cell (p := ⟨bb, off + i * 2 + 1, none⟩) hl0).trans v1
            have lb' : bb < w'.heap.size := by omega
            obtain ⟨p9, c9, ff⟩ := copy_put f68
            rw [ff] at f68
            unfold Oper.wp
            go_simp
            exact hK _ _ (keepI_refl _ _ _ _ _) ⟨p9, c9, rfl, f68⟩
          · intro a' w' hI hs hd Kc hK
            have f69 : (PutG wL.heap.size rr nn (m.b i).z) (a'.tmps[69]?.getD undef) w' := hd 16 69 (by first | rfl | decide | simp [Region.binds]) rfl
            clear hs hd
            have hsz : wL.heap.size ≤ w'.heap.size := Nat.le_trans hszr hI.1.size
            have c2' := (hI.1.cell (p := ⟨BX, 2, none⟩) hXL).trans k2
            have y2' := (hI.1.cell (p := ⟨w.heap.size + 1, 2, none⟩) (show w.heap.size + 1 < wL.heap.size by omega)).trans y2
            have lX' : BX < w'.heap.size := by omega
            have l8' : w.heap.size + 1 < w'.heap.size := by omega
            have hww : Below w.heap.size w w' := hbwr.trans (hI.1.mono hwL0)
            have v0' := (hww.cell (p := ⟨bb, off + i * 2, none⟩) hl0).trans v0
            have v1' := (hww.cell (p := ⟨bb, off + i * 2 + 1, none⟩) hl0).trans v1
            have lb' : bb < w'.heap.size := by omega
            obtain ⟨p9, c9, f69, hcp⟩ := f69
            unfold Oper.wp
            go_simp
            exact hK _ _ (hKB _ _ _ ((Below.refl _ _).alloc (Nat.le_refl _) _)) ⟨p9, c9, oneB_new _ _ _ hsz, hcp.below ((Below.refl _ _).alloc (Nat.le_refl _) _)⟩
          · intro a' w' hI hs hd Kc hK
            have f54 : a'.tmps[54]?.getD undef = .slice pbx i cbx := hd 1 54 (by first | rfl | decide | simp [Region.binds]) rfl
            have f70 : (OneG wL.heap.size rr nn (m.b i).z) (a'.tmps[70]?.getD undef) w' := hd 17 70 (by first | rfl | decide | simp [Region.binds]) rfl
            clear hs hd
            have hsz : wL.heap.size ≤ w'.heap.size := Nat.le_trans hszr hI.1.size
            have c2' := (hI.1.cell (p := ⟨BX, 2, none⟩) hXL).trans k2
            have y2' := (hI.1.cell (p := ⟨w.heap.size + 1, 2, none⟩) (show w.heap.size + 1 < wL.heap.size by omega)).trans y2
            have lX' : BX < w'.heap.size := by omega
            have l8' : w.heap.size + 1 < w'.heap.size := by omega
            have hww : Below w.heap.size w w' := hbwr.trans (hI.1.mono hwL0)
            have v0' := (hww.cell (p := ⟨bb, off + i * 2, none⟩) hl0).trans v0
            have v1' := (hww.cell (p := ⟨bb, off + i * 2 + 1, none⟩) hl0).trans v1
            have lb' : bb < w'.heap.size := by omega
            obtain ⟨p9, c9, h1, h2⟩ := f70
            have hGi := hI.2
            obtain ⟨LL, e1, e2, e3, e4⟩ := id hGi
            refine step_more rfl (.tmp 54) (.tmp 70) 29 rfl 28 u0 (.agg #[.int .i64 0, .slice none 0 0]) 2 32 Tryd.underlying29 hu0 hu1 hu2 hu3 rfl (by decide) wL.heap.size (.slice pbx i cbx) i LL.flatten (by rw [← f54]; simp [Act.eval]) e3 (a'.tmps[70]?.getD undef) [.int .i64 rr, .slice p9 nn c9] (by simp [Act.eval]) h1 rfl (by simp [Value.oneCell']) (by simp only [maxLen]; omega) (by omega) hsz fun v' w2 ho hch => ?_
            rcases hch with hch | hch
            · exact hK _ _ (hKB _ _ _ hch) (GrowR.more e1 e2 rfl ho (fun k l hk => grE_below _ _ _ _ (e4 k l hk) hch) (grE_own hrr hnn (h2.below hch) (by simp only [maxLen]; omega) hii.wf hiw))
            · exact hK _ _ (keepI_of _ (fun _ => ⟨hI.1.trans hch.lower, growG_inPl hGi hch rfl hwL0⟩) ⟨fun _ h => h, fun _ h => h, fun _ h => h, fun _ h => h, fun _ h => h, fun _ h => h, fun _ h => h, fun _ h => h, fun _ h => nilB_others h hch (by decide), fun _ h => h, fun _ h => h, fun _ h => h, fun _ h => h, fun _ h => h, fun _ h => h, fun _ h => copyB_others h hch (by decide), fun _ h => putG_inPl h hch, fun _ h => oneG_inPl h hch, fun _ _ => trivial, fun _ h => h, trivial⟩) (GrowR.more e1 e2 rfl ho (fun k l hk => grE_inPl (e4 k l hk) hch hwL0) (grE_own hrr hnn (copyB_others h2 hch (by decide)) (by simp only [maxLen]; omega) hii.wf hiw))
          · intro a' w' hI hs hd Kc hK
            have f10 : a'.tmps[10]?.getD undef = .pointer (some ⟨BX, 0, none⟩) := (hs 10 (by decide)).trans rfl
            clear hs hd
            have hsz : wL.heap.size ≤ w'.heap.size := Nat.le_trans hszr hI.1.size
            have c2' := (hI.1.cell (p := ⟨BX, 2, none⟩) hXL).trans k2
            have y2' := (hI.1.cell (p := ⟨w.heap.size + 1, 2, none⟩) (show w.heap.size + 1 < wL.heap.size by omega)).trans y2
            have lX' : BX < w'.heap.size := by omega
            have l8' : w.heap.size + 1 < w'.heap.size := by omega
            have hww : Below w.heap.size w w' := hbwr.trans (hI.1.mono hwL0)
            have v0' := (hww.cell (p := ⟨bb, off + i * 2, none⟩) hl0).trans v0
            have v1' := (hww.cell (p := ⟨bb, off + i * 2 + 1, none⟩) hl0).trans v1
            have lb' : bb < w'.heap.size := by omega
            unfold Oper.wp
            go_simp
            try go_bits
            exact hK _ _ (keepI_refl _ _ _ _ _) (by first | rfl | (show Value.int _ _ = Value.int _ _; go_num; done) | (simp [valOf, *]; done) | (simp [valOf]; omega))
        clear hKB
        intro Xf w' hI hv
        have o18 : (GrowRB wL.heap.size w.heap.size (i + 1) m.b) (Xf 71) w' := hv 18 71 rfl rfl
        have q72 : Xf 72 = .pointer (some ⟨BX, 2, none⟩) := hv 19 72 rfl rfl
        clear hv
        simp only [List.map_cons, List.map_nil, q72, puts, Act.put, Nat.reduceAdd, List.setIfInBounds_toArray, List.set_cons_succ, List.set_cons_zero]
        obtain ⟨pn, cn, ff, -, -⟩ := GrowR.rat o18 (by simp only [maxLen]; omega)
        rw [ff] at o18 ⊢
        have gX' := gX.of_block (hI.1.block BX hXL)
        have vX' := TBox.varM (m := { m with nb := i }) gX'
        have gXn := gX'.set 2 (.slice pn (i + 1) cn)
        simp only [List.setIfInBounds_toArray, List.set_cons_succ, List.set_cons_zero] at gXn
        have hGn : GrowR wL.heap.size 28 2 (GrE w.heap.size) (i + 1) m.b (.slice pn (i + 1) cn) (w'.setCell ⟨BX, 2, none⟩ (.slice pn (i + 1) cn)) := growG_puts (k := 2) o18 vX' (by decide) hwX hXL [.slice pn (i + 1) cn]
        have hAn := (aside_join hAs hI.1).trans (putsL_aside (T := fun k => k = BX) rfl [.slice pn (i + 1) cn] 2 w')
        have lX' := gX'.lt
        have c2 := gX'.cell 2
        have j2 := gX'.frozen 2
        simp only [List.getElem?_toArray, List.getElem?_cons_zero, List.getElem?_cons_succ] at c2
        clear o18 ff vX' gX' hI hGr hAs k0 k1 k2 k3 k4 k5 k6 k7 y0 y1 y2 y3 y4 y5 y6 y7 l8 lX
        go_wp2
        go_roundg (m.nb - (i + 1))
        case measure => omega
        case rel => exact ⟨i + 1, pn, cn, by omega, rfl, by go_num, gXn, hGn, hAn⟩
      · obtain rfl : i = m.nb := by omega
        obtain ⟨pn, cn, ff, hrat, hblk⟩ := GrowR.rat hGr (by simp only [maxLen]; omega)
        injection ff with e1 e2 e3
        subst e1 e3
        have vXL := TBox.varM (m := { m with nb := 0 }) gXA
        obtain ⟨hge1, hgk⟩ := rowE_aside hgeXA vXL (by decide) hwX hAs
        obtain ⟨hre1, hrk⟩ := rowE_aside hreXA vXL (by decide) hwX hAs
        have hMx : MAtE w.heap.size wr m pgx cgx pbx cbx prx crx := ⟨hgXA.of_block hszr hgk, hge1, hrat, fun h0 b off sp e => by
          obtain ⟨h1, -, h2⟩ := hblk b off sp e
          exact ⟨h1, .inr h2⟩, hvXA.of_block hszr hrk, hre1⟩
        have hxr : HpIn wr po h.n co qo h.m do_ h.b h := ⟨rfl, rfl, rfl, hxoA.at'.aside hAs fun g hg => by rw [hg]; exact vXL.clear hxoA hn32.1 hn32.2⟩
        have gHr := gHA.of_block (hAs.block _ gHA.lt (by omega))
        have gVr := gVA.of_block (hAs.block _ gVA.lt (by omega))
        obtain ⟨l9, n0, n1, n2⟩ : B9 < wr.heap.size ∧ wr.cell? ⟨B9, 0, none⟩ = some (.slice po h.n co) ∧ wr.cell? ⟨B9, 1, none⟩ = some (.slice qo h.m do_) ∧ wr.cell? ⟨B9, 2, none⟩ = some (.bool h.b) := by
          obtain ⟨h1, h2, h3, h4, -, -, -⟩ := g9A
          have hk := hAs.block B9 h1 (by omega)
          exact ⟨Nat.lt_of_lt_of_le h1 hszr, (World.cell?_of_block (w := wL) (a := ⟨B9, 0, none⟩) hk).trans h2, (World.cell?_of_block (w := wL) (a := ⟨B9, 1, none⟩) hk).trans h3, (World.cell?_of_block (w := wL) (a := ⟨B9, 2, none⟩) hk).trans h4⟩
        have hsz := hbwr.size
        have hSt := mstep_in w.heap.size (hSw.below hbwr) hxr hF'.out hMx hsz hR.out (by omega) (by omega)
        clear hGr hrat hblk hgeXA hreXA hgXA hvXA hxoA g9A gHA gMA gVA hge1 hgk hre1 hrk vXL hAs hbLr gXA hszr
        generalize (stM h m).1 = H1 at *
        generalize (stM h m).2.1 = M1 at *
        generalize (stM h m).2.2 = D1 at *
        go_upto_region 13 with (first
    | (go_at_call 13; refine Calls.mono (hSt) ?_; rintro e w' ⟨p1, c1, q1, d1, pg1, cg1, pb1, cb1, pr1, cr1, rfl, -, -, hb⟩; obtain ⟨hc, hf, hb, hz⟩ := bstep hb (w := wr) (by go_grown); try simp only [World.size_alloc, World.size_setCell, World.size_drew] at hc hf hz)
        )
        replace gHr := gHr.below hb
        replace gVr := gVr.below hb
        replace gMr := gMr.below hb
        replace gX := gX.below hb
        replace hMx := hMx.below hb
        replace hxr := hxr.below hb
        replace hbwr := bjoin hb hbwr
        replace n0 := (hb.cell (p := ⟨B9, 0, none⟩) l9).trans n0
        replace n1 := (hb.cell (p := ⟨B9, 1, none⟩) l9).trans n1
        replace n2 := (hb.cell (p := ⟨B9, 2, none⟩) l9).trans n2
        replace l9 := Nat.lt_of_lt_of_le l9 hb.size
        clear hSt hb hc hf hz k0 k1 k2 k3 k4 k5 k6 k7 y0 y1 y2 y3 y4 y5 y6 y7 l8 lX hsz
        generalize w' = wA at *
        have hsz := hbwr.size
        obtain ⟨lX, k0, k1, k2, k3, k4, k5, k6, k7⟩ := mk_cells gX
        by_cases hnb : 0 < m.nb
        · have hnb' : decide ((0 : Int) < m.nb) = true := by simp; omega
          obtain ⟨ii, hii, hii2⟩ : ∃ ii : Nat, a2 % (m.nb : Int) = ii ∧ ii < m.nb := by
            have h1 := Int.emod_nonneg a2 (show (m.nb : Int) ≠ 0 by omega)
            have h2 := Int.emod_lt_of_pos a2 (show (0 : Int) < m.nb by omega)
            generalize a2 % (m.nb : Int) = t at *
            exact ⟨t.toNat, by omega, by omega⟩
          have hnb0 : ¬ m.nb = 0 := by omega
          have htm : a2.tmod (m.nb : Int) = ii := by rw [Int.tmod_eq_emod_of_nonneg b2.1]; exact hii
          have hNt := fun W (hW : Below wA.heap.size wA W) => mnote_in w.heap.size (i := ii) (v := ⟨vk, vn⟩) (hSw.below (bjoin hW hbwr)) (hxr.below hW) hF'.out (hMx.below hW) (Nat.le_trans hsz hW.size) hR.out hii2 hv3 (by omega) (by omega)
          unfold Vl.agg at hNt
          dsimp only at hNt
          have g2 := gVr.cell 0
          have g3 := gVr.cell 1
          simp only [List.getElem?_toArray, List.getElem?_cons_zero, List.getElem?_cons_succ] at g2 g3
          have lV := gVr.lt
          go_upto_region 14 with fail
          have hKB : ∀ (k : Nat) (w1 w2 : World), Below w1.heap.size w1 w2 → KeepI (fun W9 => Below wA.heap.size wA W9) ([(fun v _ => v = .agg #[.slice po h.n co, .slice qo h.m do_, .bool h.b]), (fun v _ => v = .agg #[.int .i64 m.g.r, .slice pgx m.g.n cgx, .slice pbx m.nb cbx, .slice prx m.nr crx, .int .i64 m.ob, .int .i64 m.fi, .int .i64 m.cu, .bool m.ov]), (fun v _ => v = .int .u8 a2), (fun v _ => v = .int .i64 a2), (fun v _ => v = .pointer (some ⟨BX, 2, none⟩)), (fun v _ => v = .slice pbx m.nb cbx), (fun v _ => v = .int .i64 (m.nb : Int)), (fun v _ => v = .int .i64 (ii : Int)), (fun v _ => v = .agg #[.int .i64 vk, .int .i64 vn])] : List (Value → World → Prop)) [[1, 2, 3, 4, 5, 6, 7, 8], [0, 2, 3, 4, 5, 6, 7, 8], [0, 1, 3, 4, 5, 6, 7, 8], [0, 1, 2, 4, 5, 6, 7, 8], [0, 1, 2, 3, 5, 6, 7, 8], [0, 1, 2, 3, 4, 6, 7, 8], [0, 1, 2, 3, 4, 5, 7, 8], [0, 1, 2, 3, 4, 5, 6, 8], [0, 1, 2, 3, 4, 5, 6, 7]] k w1 w2 := fun k _ _ hb => keepI_below (pv := ([(fun v _ => v = .agg #[.slice po h.n co, .slice qo h.m do_, .bool h.b]), (fun v _ => v = .agg #[.int .i64 m.g.r, .slice pgx m.g.n cgx, .slice pbx m.nb cbx, .slice prx m.nr crx, .int .i64 m.ob, .int .i64 m.fi, .int .i64 m.cu, .bool m.ov]), (fun v _ => v = .int .u8 a2), (fun v _ => v = .int .i64 a2), (fun v _ => v = .pointer (some ⟨BX, 2, none⟩)), (fun v _ => v = .slice pbx m.nb cbx), (fun v _ => v = .int .i64 (m.nb : Int)), (fun v _ => v = .int .i64 (ii : Int)), (fun v _ => v = .agg #[.int .i64 vk, .int .i64 vn])] : List (Value → World → Prop))) (fun _ _ h hb => h.trans (hb.mono h.size)) ⟨fun _ _ _ h _ => h, fun _ _ _ h _ => h, fun _ _ _ h _ => h, fun _ _ _ h _ => h, fun _ _ _ h _ => h, fun _ _ _ h _ => h, fun _ _ _ h _ => h, fun _ _ _ h _ => h, fun _ _ _ h _ => h, trivial⟩ hb k
          refine wp_raw_pv 9 [80, 81, 82, 83, 84, 85, 86, 87, 88] ([(fun v _ => v = .agg #[.slice po h.n co, .slice qo h.m do_, .bool h.b]), (fun v _ => v = .agg #[.int .i64 m.g.r, .slice pgx m.g.n cgx, .slice pbx m.nb cbx, .slice prx m.nr crx, .int .i64 m.ob, .int .i64 m.fi, .int .i64 m.cu, .bool m.ov]), (fun v _ => v = .int .u8 a2), (fun v _ => v = .int .i64 a2), (fun v _ => v = .pointer (some ⟨BX, 2, none⟩)), (fun v _ => v = .slice pbx m.nb cbx), (fun v _ => v = .int .i64 (m.nb : Int)), (fun v _ => v = .int .i64 (ii : Int)), (fun v _ => v = .agg #[.int .i64 vk, .int .i64 vn])] : List (Value → World → Prop)) [0, 1, 2, 3, 4, 5, 6, 7, 8] [[1, 2, 3, 4, 5, 6, 7, 8], [0, 2, 3, 4, 5, 6, 7, 8], [0, 1, 3, 4, 5, 6, 7, 8], [0, 1, 2, 4, 5, 6, 7, 8], [0, 1, 2, 3, 5, 6, 7, 8], [0, 1, 2, 3, 4, 6, 7, 8], [0, 1, 2, 3, 4, 5, 7, 8], [0, 1, 2, 3, 4, 5, 6, 8], [0, 1, 2, 3, 4, 5, 6, 7]] (fun W9 => Below wA.heap.size wA W9) ((Below.refl _ _).drew) (by kernel_rfl) (by kernel_rfl) (by kernel_rfl) (by decide) (by kernel_rfl) (by kernel_rfl) (by kernel_rfl) rfl rfl (by decide) (by simp) ?_ ?_
          · refine ⟨?_, ?_, ?_, ?_, ?_, ?_, ?_, ?_, ?_, trivial⟩
            · intro a' w' hI hs hd Kc hK
              have f9 : a'.tmps[9]?.getD undef = .pointer (some ⟨B9, 0, none⟩) := (hs 9 (by decide)).trans rfl
              clear hs hd
              have n0' := (hI.cell (p := ⟨B9, 0, none⟩) l9).trans n0
              have n1' := (hI.cell (p := ⟨B9, 1, none⟩) l9).trans n1
              have n2' := (hI.cell (p := ⟨B9, 2, none⟩) l9).trans n2
              obtain ⟨lX', k0', k1', k2', k3', k4', k5', k6', k7'⟩ := mk_cells (gX.below hI)
              have g2' := (hI.cell (p := ⟨w.heap.size + 1 + 1, 0, none⟩) lV).trans g2
              have g3' := (hI.cell (p := ⟨w.heap.size + 1 + 1, 1, none⟩) lV).trans g3
              unfold Oper.wp
              go_simp
              try go_bits
              exact hK _ _ (keepI_refl _ _ _ _ _) (by first | rfl | (show Value.int _ _ = Value.int _ _; go_num; done) | (simp [valOf, *]; done) | (simp [valOf]; omega))
            · intro a' w' hI hs hd Kc hK
              have f10 : a'.tmps[10]?.getD undef = .pointer (some ⟨BX, 0, none⟩) := (hs 10 (by decide)).trans rfl
              clear hs hd
              have n0' := (hI.cell (p := ⟨B9, 0, none⟩) l9).trans n0
              have n1' := (hI.cell (p := ⟨B9, 1, none⟩) l9).trans n1
              have n2' := (hI.cell (p := ⟨B9, 2, none⟩) l9).trans n2
              obtain ⟨lX', k0', k1', k2', k3', k4', k5', k6', k7'⟩ := mk_cells (gX.below hI)
              have g2' := (hI.cell (p := ⟨w.heap.size + 1 + 1, 0, none⟩) lV).trans g2
              have g3' := (hI.cell (p := ⟨w.heap.size + 1 + 1, 1, none⟩) lV).trans g3
              unfold Oper.wp
              go_simp
              try go_bits
              exact hK _ _ (keepI_refl _ _ _ _ _) (by first | rfl | (show Value.int _ _ = Value.int _ _; go_num; done) | (simp [valOf, *]; done) | (simp [valOf]; omega))
            · intro a' w' hI hs hd Kc hK
              have f2 : a'.tmps[2]?.getD undef = .int .u8 a2 := (hs 2 (by decide)).trans rfl
              clear hs hd
              have n0' := (hI.cell (p := ⟨B9, 0, none⟩) l9).trans n0
              have n1' := (hI.cell (p := ⟨B9, 1, none⟩) l9).trans n1
              have n2' := (hI.cell (p := ⟨B9, 2, none⟩) l9).trans n2
              obtain ⟨lX', k0', k1', k2', k3', k4', k5', k6', k7'⟩ := mk_cells (gX.below hI)
              have g2' := (hI.cell (p := ⟨w.heap.size + 1 + 1, 0, none⟩) lV).trans g2
              have g3' := (hI.cell (p := ⟨w.heap.size + 1 + 1, 1, none⟩) lV).trans g3
              unfold Oper.wp
              go_simp
              try go_bits
              exact hK _ _ (keepI_refl _ _ _ _ _) (by first | rfl | (show Value.int _ _ = Value.int _ _; go_num; done) | (simp [valOf, *]; done) | (simp [valOf]; omega))
            · intro a' w' hI hs hd Kc hK
              have f82 : a'.tmps[82]?.getD undef = .int .u8 a2 := hd 2 82 (by first | rfl | decide | simp [Region.binds]) rfl
              clear hs hd
              have n0' := (hI.cell (p := ⟨B9, 0, none⟩) l9).trans n0
              have n1' := (hI.cell (p := ⟨B9, 1, none⟩) l9).trans n1
              have n2' := (hI.cell (p := ⟨B9, 2, none⟩) l9).trans n2
              obtain ⟨lX', k0', k1', k2', k3', k4', k5', k6', k7'⟩ := mk_cells (gX.below hI)
              have g2' := (hI.cell (p := ⟨w.heap.size + 1 + 1, 0, none⟩) lV).trans g2
              have g3' := (hI.cell (p := ⟨w.heap.size + 1 + 1, 1, none⟩) lV).trans g3
              unfold Oper.wp
              go_simp
              try go_bits
              exact hK _ _ (keepI_refl _ _ _ _ _) (by first | rfl | (show Value.int _ _ = Value.int _ _; go_num; done) | (simp [valOf, *]; done) | (simp [valOf]; omega))
            · intro a' w' hI hs hd Kc hK
              have f10 : a'.tmps[10]?.getD undef = .pointer (some ⟨BX, 0, none⟩) := (hs 10 (by decide)).trans rfl
              clear hs hd
              have n0' := (hI.cell (p := ⟨B9, 0, none⟩) l9).trans n0
              have n1' := (hI.cell (p := ⟨B9, 1, none⟩) l9).trans n1
              have n2' := (hI.cell (p := ⟨B9, 2, none⟩) l9).trans n2
              obtain ⟨lX', k0', k1', k2', k3', k4', k5', k6', k7'⟩ := mk_cells (gX.below hI)
              have g2' := (hI.cell (p := ⟨w.heap.size + 1 + 1, 0, none⟩) lV).trans g2
              have g3' := (hI.cell (p := ⟨w.heap.size + 1 + 1, 1, none⟩) lV).trans g3
              unfold Oper.wp
              go_simp
              try go_bits
              exact hK _ _ (keepI_refl _ _ _ _ _) (by first | rfl | (show Value.int _ _ = Value.int _ _; go_num; done) | (simp [valOf, *]; done) | (simp [valOf]; omega))
            · intro a' w' hI hs hd Kc hK
              have f84 : a'.tmps[84]?.getD undef = .pointer (some ⟨BX, 2, none⟩) := hd 4 84 (by first | rfl | decide | simp [Region.binds]) rfl
              clear hs hd
              have n0' := (hI.cell (p := ⟨B9, 0, none⟩) l9).trans n0
              have n1' := (hI.cell (p := ⟨B9, 1, none⟩) l9).trans n1
              have n2' := (hI.cell (p := ⟨B9, 2, none⟩) l9).trans n2
              obtain ⟨lX', k0', k1', k2', k3', k4', k5', k6', k7'⟩ := mk_cells (gX.below hI)
              have g2' := (hI.cell (p := ⟨w.heap.size + 1 + 1, 0, none⟩) lV).trans g2
              have g3' := (hI.cell (p := ⟨w.heap.size + 1 + 1, 1, none⟩) lV).trans g3
              unfold Oper.wp
              go_simp
              try go_bits
              exact hK _ _ (keepI_refl _ _ _ _ _) (by first | rfl | (show Value.int _ _ = Value.int _ _; go_num; done) | (simp [valOf, *]; done) | (simp [valOf]; omega))
            · intro a' w' hI hs hd Kc hK
              have f85 : a'.tmps[85]?.getD undef = .slice pbx m.nb cbx := hd 5 85 (by first | rfl | decide | simp [Region.binds]) rfl
              clear hs hd
              have n0' := (hI.cell (p := ⟨B9, 0, none⟩) l9).trans n0
              have n1' := (hI.cell (p := ⟨B9, 1, none⟩) l9).trans n1
              have n2' := (hI.cell (p := ⟨B9, 2, none⟩) l9).trans n2
              obtain ⟨lX', k0', k1', k2', k3', k4', k5', k6', k7'⟩ := mk_cells (gX.below hI)
              have g2' := (hI.cell (p := ⟨w.heap.size + 1 + 1, 0, none⟩) lV).trans g2
              have g3' := (hI.cell (p := ⟨w.heap.size + 1 + 1, 1, none⟩) lV).trans g3
              unfold Oper.wp
              go_simp
              try go_bits
              exact hK _ _ (keepI_refl _ _ _ _ _) (by first | rfl | (show Value.int _ _ = Value.int _ _; go_num; done) | (simp [valOf, *]; done) | (simp [valOf]; omega))
            · intro a' w' hI hs hd Kc hK
              have f83 : a'.tmps[83]?.getD undef = .int .i64 a2 := hd 3 83 (by first | rfl | decide | simp [Region.binds]) rfl
              have f86 : a'.tmps[86]?.getD undef = .int .i64 (m.nb : Int) := hd 6 86 (by first | rfl | decide | simp [Region.binds]) rfl
              clear hs hd
              have n0' := (hI.cell (p := ⟨B9, 0, none⟩) l9).trans n0
              have n1' := (hI.cell (p := ⟨B9, 1, none⟩) l9).trans n1
              have n2' := (hI.cell (p := ⟨B9, 2, none⟩) l9).trans n2
              obtain ⟨lX', k0', k1', k2', k3', k4', k5', k6', k7'⟩ := mk_cells (gX.below hI)
              have g2' := (hI.cell (p := ⟨w.heap.size + 1 + 1, 0, none⟩) lV).trans g2
              have g3' := (hI.cell (p := ⟨w.heap.size + 1 + 1, 1, none⟩) lV).trans g3
              unfold Oper.wp
              go_simp
              try go_bits
              exact hK _ _ (keepI_refl _ _ _ _ _) (by first | rfl | (show Value.int _ _ = Value.int _ _; go_num; done) | (simp [valOf, *]; done) | (simp [valOf]; omega))
            · intro a' w' hI hs hd Kc hK
              have f7 : a'.tmps[7]?.getD undef = .pointer (some ⟨w.heap.size + 1 + 1, 0, none⟩) := (hs 7 (by decide)).trans rfl
              clear hs hd
              have n0' := (hI.cell (p := ⟨B9, 0, none⟩) l9).trans n0
              have n1' := (hI.cell (p := ⟨B9, 1, none⟩) l9).trans n1
              have n2' := (hI.cell (p := ⟨B9, 2, none⟩) l9).trans n2
              obtain ⟨lX', k0', k1', k2', k3', k4', k5', k6', k7'⟩ := mk_cells (gX.below hI)
              have g2' := (hI.cell (p := ⟨w.heap.size + 1 + 1, 0, none⟩) lV).trans g2
              have g3' := (hI.cell (p := ⟨w.heap.size + 1 + 1, 1, none⟩) lV).trans g3
              unfold Oper.wp
              go_simp
              try go_bits
              exact hK _ _ (keepI_refl _ _ _ _ _) (by first | rfl | (show Value.int _ _ = Value.int _ _; go_num; done) | (simp [valOf, *]; done) | (simp [valOf]; omega))
          clear hKB
          intro Xf w' hI hv
          have q80 : Xf 80 = .agg #[.slice po h.n co, .slice qo h.m do_, .bool h.b] := hv 0 80 rfl rfl
          have q81 : Xf 81 = .agg #[.int .i64 m.g.r, .slice pgx m.g.n cgx, .slice pbx m.nb cbx, .slice prx m.nr crx, .int .i64 m.ob, .int .i64 m.fi, .int .i64 m.cu, .bool m.ov] := hv 1 81 rfl rfl
          have q82 : Xf 82 = .int .u8 a2 := hv 2 82 rfl rfl
          have q83 : Xf 83 = .int .i64 a2 := hv 3 83 rfl rfl
          have q84 : Xf 84 = .pointer (some ⟨BX, 2, none⟩) := hv 4 84 rfl rfl
          have q85 : Xf 85 = .slice pbx m.nb cbx := hv 5 85 rfl rfl
          have q86 : Xf 86 = .int .i64 (m.nb : Int) := hv 6 86 rfl rfl
          have q87 : Xf 87 = .int .i64 (ii : Int) := hv 7 87 rfl rfl
          have q88 : Xf 88 = .agg #[.int .i64 vk, .int .i64 vn] := hv 8 88 rfl rfl
          clear hv
          simp only [List.map_cons, List.map_nil, q80, q81, q82, q83, q84, q85, q86, q87, q88, puts, Act.put, Nat.reduceAdd, List.setIfInBounds_toArray, List.set_cons_succ, List.set_cons_zero]
          have hNt' := hNt w' hI
          have l9o := l9
          have n0o := n0
          have n1o := n1
          have n2o := n2
          clear hNt q80 q81 q82 q83 q84 q85 q86 q87 q88 n0 n1 n2 k0 k1 k2 k3 k4 k5 k6 k7 g2 g3
          generalize w' = wB at *
          go_upto_region 15 with (first
    | (go_at_call 21; refine Calls.mono (hNt') ?_; rintro e w' ⟨p2, c2, q2, d2, pg2, cg2, pb2, cb2, pr2, cr2, rfl, -, -, hb⟩; obtain ⟨hc, hf, hb, hz⟩ := bstep hb (w := wB) (by go_grown); try simp only [World.size_alloc, World.size_setCell, World.size_drew] at hc hf hz)
          )
          have hb2 := bjoin hb hI
          replace gHr := gHr.below hb2
          replace gMr := gMr.below hb2
          replace gX := gX.below hb2
          replace hMx := hMx.below hb2
          replace hxr := hxr.below hb2
          replace hbwr := bjoin hb2 hbwr
          replace l9 := Nat.lt_of_lt_of_le l9 hb2.size
          have m0 := (hb2.cell (p := ⟨B9, 0, none⟩) l9o).trans n0o
          have m1 := (hb2.cell (p := ⟨B9, 1, none⟩) l9o).trans n1o
          have m2 := (hb2.cell (p := ⟨B9, 2, none⟩) l9o).trans n2o
          clear hNt' hb hc hf hz hI hb2 n0o n1o n2o gVr lX lV
          generalize w' = wC at *
          obtain ⟨lX, k0, k1, k2, k3, k4, k5, k6, k7⟩ := mk_cells gX
          obtain ⟨l8, y0, y1, y2, y3, y4, y5, y6, y7⟩ := mk_cells gMr
          obtain ⟨l0, x0, x1, x2⟩ : w.heap.size < wC.heap.size ∧ wC.cell? ⟨w.heap.size, 0, none⟩ = some (.slice p h.n c) ∧ wC.cell? ⟨w.heap.size, 1, none⟩ = some (.slice q h.m d) ∧ wC.cell? ⟨w.heap.size, 2, none⟩ = some (.bool h.b) := ⟨gHr.lt, gHr.cell 0, gHr.cell 1, gHr.cell 2⟩
          have hSm := fun W (hW : Below wC.heap.size wC W) => rsame_in (hxr.below hW) (((hat0.below hbwr).in).below hW)
          rw [sameH_self] at hSm
          have hMw := hM0.below hbwr
          have hSn := fun W (hW : Below wC.heap.size wC W) => rsame17_self m pgx cgx pbx cbx prx crx pg cg pb cb pr cr W (hMx.g.below hW) (hMx.b.plain.below grC_below hW) (hMx.r.below hW) (hMw.g.below hW) (hMw.b.plain.below grC_below hW) (hMw.r.below hW)
          clear hMx hMw hxr gHr gMr gX hSw hat0 hM0
          go_wp2_with (first
    | (go_at_call 22; refine Calls.mono (hSm _ (by go_grown)) ?_; rintro e w' ⟨rfl, hb⟩; obtain ⟨hc, hf, hb, hz⟩ := bstep hb (w := wC) (by go_grown); try simp only [World.size_alloc, World.size_setCell, World.size_drew] at hc hf hz)
    | (go_at_call 23; refine Calls.mono (hSn _ (by go_grown)) ?_; rintro e w' ⟨rfl, hb⟩; obtain ⟨hc, hf, hb, hz⟩ := bstep hb (w := wC) (by go_grown); try simp only [World.size_alloc, World.size_setCell, World.size_drew] at hc hf hz)
          )
          refine bodyPost_ret (by simp [results, Tryd.results5, go_sem, *]; try rfl) rfl ?_
          exact ⟨rfl, bjoin hb hbwr⟩
        · have hnb0 : m.nb = 0 := by omega
          have hnb' : decide ((0 : Int) < m.nb) = false := by simp; omega
          have hnb0' : Hid (m.nb = 0) := hnb0
          clear hnb0
          clear gVr k0 k1 k2 k3 k4 k5 k6 k7 lX
          obtain ⟨lX, k0, k1, k2, k3, k4, k5, k6, k7⟩ := mk_cells gX
          obtain ⟨l8, y0, y1, y2, y3, y4, y5, y6, y7⟩ := mk_cells gMr
          obtain ⟨l0, x0, x1, x2⟩ : w.heap.size < wA.heap.size ∧ wA.cell? ⟨w.heap.size, 0, none⟩ = some (.slice p h.n c) ∧ wA.cell? ⟨w.heap.size, 1, none⟩ = some (.slice q h.m d) ∧ wA.cell? ⟨w.heap.size, 2, none⟩ = some (.bool h.b) := ⟨gHr.lt, gHr.cell 0, gHr.cell 1, gHr.cell 2⟩
          have hSm := fun W (hW : Below wA.heap.size wA W) => rsame_in (hxr.below hW) (((hat0.below hbwr).in).below hW)
          rw [sameH_self] at hSm
          have hMw := hM0.below hbwr
          have hSn := fun W (hW : Below wA.heap.size wA W) => rsame17_self m pgx cgx pbx cbx prx crx pg cg pb cb pr cr W (hMx.g.below hW) (hMx.b.plain.below grC_below hW) (hMx.r.below hW) (hMw.g.below hW) (hMw.b.plain.below grC_below hW) (hMw.r.below hW)
          clear hMx hMw hxr gHr gMr gX hSw hat0 hM0
          go_wp2_with (first
    | (go_at_call 22; refine Calls.mono (hSm _ (by go_grown)) ?_; rintro e w' ⟨rfl, hb⟩; obtain ⟨hc, hf, hb, hz⟩ := bstep hb (w := wA) (by go_grown); try simp only [World.size_alloc, World.size_setCell, World.size_drew] at hc hf hz)
    | (go_at_call 23; refine Calls.mono (hSn _ (by go_grown)) ?_; rintro e w' ⟨rfl, hb⟩; obtain ⟨hc, hf, hb, hz⟩ := bstep hb (w := wA) (by go_grown); try simp only [World.size_alloc, World.size_setCell, World.size_drew] at hc hf hz)
          )
          go_returns
          exact ⟨rfl, bjoin hb hbwr⟩
  · have e : ftD h m = false := by simpa using hft
    rw [e] at hFi
    clear hft
    go_enter Tryd.func5, Tryd.ntmps5
    go_upto_region 1 with fail
    rw [← hw0]
    clear hw0
    go_wp2_with (first
    | (go_at_call 7; refine Calls.mono (awake17_any _ (hS.below (by go_grown))) ?_; rintro e w' ⟨rfl, hb⟩; obtain ⟨hc, hf, hb, hz⟩ := bstep hb (w := w0) (by go_grown); try simp only [World.size_alloc, World.size_setCell, World.size_drew] at hc hf hz)
    | (go_at_call 8; refine Calls.mono (hFi _ (by go_grown)) ?_; rintro e w' ⟨rfl, hb⟩; obtain ⟨hc, hf, hb, hz⟩ := bstep hb (w := w0) (by go_grown); try simp only [World.size_alloc, World.size_setCell, World.size_drew] at hc hf hz)
    )
    go_returns
    exact ⟨rfl, bjoin hb hB0⟩
namespace MarkKeeps
/-- What the row lists. -/
def lists : List (String × DataW Unit) := [("flotsam/class.sizes", Rows.laid_flotsam_class_sizes)]
set_option maxRecDepth 100000 in
theorem lifted (os : Os) (started : os.Started) (H : Type) (enc : TypeId × Value → H) :
    ReturnsInHanded {} Tryd.checked os 5 .any (fun w args => (Rows.markKeepsSpec.pre enc Tryd.prog Tryd.f5 Rows.markKeepsRow.domain false w args ∧ laidMetH Tryd.prog lists w) ∧ sizedMet enc Tryd.prog Tryd.f5 (OpenSpec.ofChange Rows.markKeepsSpec) false w args) (Rows.markKeepsSpec.post enc Tryd.prog Tryd.f5 false true false false) := by
  refine law_lifted_laid (C := Tryd.checked) seat_own started (by kernel_rfl) Tryd.func5 (by kernel_rfl) (of_decide_eq_true (by kernel_rfl)) rfl
    (fun ds hd => by have hd' : ds.length = 4 := hd; match ds, hd' with | [d0, d1, d2, d3], _ => rfl) rfl Tryd.underlying4
    (ChangeSpec.witness_shaped (enc := enc) (C := Tryd.checked) (os := os) (X := fun w _ => laidMetH Tryd.prog lists w) false (World.laidAll Tryd.prog os lists) #[.agg #[.slice none 0 0, .slice none 0 0, .bool false], .agg #[.int .i64 0, .slice none 0 0, .slice none 0 0, .slice none 0 0, .int .i64 0, .int .i64 0, .int .i64 0, .bool false], .int .u8 0, .agg #[.int .i64 0, .int .i64 0]] 8 (World.laidAll_os _ _ _)
      (World.shaped_of_ZipB (by kernel_rfl) (by kernel_rfl)) (by kernel_rfl) (by kernel_rfl) (by kernel_rfl)
      (by rw [MakeChecks.laidMetH_plain _ _ _ (by kernel_rfl)]; exact laidMet_laidAll _ (by kernel_rfl) (by kernel_rfl))) ?_
  intro W base args ds p hval hA hlt hL
  have hS : Sz W := sizes_of hL (by kernel_rfl) rfl
  rw [Tryd.params5] at hA hval
  obtain ⟨v0, v1, v2, v3, d0, d1, d2, d3, p0, p1, p2, p3, rfl, rfl, rfl, h0, h1, h2, h3⟩ := trodAll_four hA
  obtain ⟨x0, q0, c0, s0, e0, rfl, hh0⟩ := open_heap Tryd.underlying25 (by kernel_rfl) (by kernel_rfl) Tryd.underlying22 (by kernel_rfl) (by kernel_rfl) Tryd.underlying23 Tryd.underlying67 (by kernel_rfl) (by kernel_rfl) (by kernel_rfl) (by kernel_rfl) (by kernel_rfl) (by kernel_rfl) (hval 0 25 v0 rfl rfl) h0
  obtain ⟨m1, pg1, cg1, pb1, cb1, pr1, cr1, rfl, hg1, hbs1, hro1, hw1⟩ := open_marker Tryd.underlying32 (by kernel_rfl) ⟨rfl, rfl, rfl, rfl, rfl, rfl, rfl⟩ ⟨by kernel_rfl, by kernel_rfl, by kernel_rfl, by kernel_rfl, by kernel_rfl, by kernel_rfl, by kernel_rfl⟩ Tryd.underlying28 rfl rfl (by kernel_rfl) (by kernel_rfl) (by kernel_rfl) Tryd.underlying26 (by kernel_rfl) (by kernel_rfl) Tryd.underlying29 Tryd.underlying30 Tryd.underlying38 (by kernel_rfl) (by kernel_rfl) (by kernel_rfl) (by kernel_rfl) (by kernel_rfl) (by kernel_rfl) (by kernel_rfl) (by kernel_rfl) (hval 1 32 v1 rfl rfl) h1
  obtain ⟨a2, rfl, ha2⟩ := open_u8 Tryd.underlying5 (hval 2 5 v2 rfl rfl) h2
  obtain ⟨a3, b3, rfl, ha3, hb3⟩ := open_int2 Tryd.underlying38 (by kernel_rfl) (by kernel_rfl) (by kernel_rfl) (by kernel_rfl) (hval 3 38 v3 rfl rfl) h3
  exact keeps17_walk m1 pg1 cg1 pb1 cb1 pr1 cr1 a2 ⟨a3, b3⟩ W hh0 hg1 hbs1 hro1 hw1 ha2 ⟨wf_i64_of ha3.1 ha3.2, wf_i64_of hb3.1 hb3.2⟩ hS

theorem row_holds : Rows.MarkKeepsSaid :=
  OpenClaim.holds_of_wide 5 Tryd.f5 rfl rfl rfl rfl rfl rfl rfl ⟨rfl, rfl, rfl, rfl, rfl⟩ rfl rfl rfl rfl rfl (by kernel_rfl) Tryd.func5 (by kernel_rfl)
    (of_decide_eq_true (by kernel_rfl)) (by unfold Func.isWrapper; first | (rw [if_pos (by decide +kernel)]; kernel_rfl) | (rw [if_neg (by decide +kernel)]; exact ⟨rfl, rfl⟩))
    (fun os started H enc _ => lifted os started H enc)
/-- The tied card. -/
theorem holds : Rows.MarkKeepsCardSaid :=
  Claim7.holds_tied_plain_at .later [] [.data] true (true, "762cbfbcb450865e30f4fdf303f4bfd6aa778faf4866a8b4f1a3cf6ef04837f3") false row_holds (fun _ h => by cases h) (by kernel_rfl) (fun _ h => by cases h) markKeeps_row_tie rfl ⟨rfl, rfl⟩ (by kernel_rfl) rfl
    (fun f fn hf hfn => by
      obtain rfl : f = 5 := Option.some.inj ((show Tryd.prog.funcNamed "flotsam/flotsamlaw17.MarkKeeps" = some 5 by kernel_rfl).symm.trans hf) |>.symm
      obtain rfl : fn = Tryd.f5 := (Option.some.inj (Tryd.func5.symm.trans hfn)).symm
      exact ⟨by kernel_rfl, fun j t ht => by
        rw [Tryd.params5] at ht
        have hm : t ∈ [25, 32, 5, 38] := by simpa using Array.mem_of_getElem? ht
        have hall : ([25, 32, 5, 38].all fun u => !Tryd.prog.wantsStandIn u) = true := by kernel_rfl
        exact (show Tryd.prog.wantsStandIn t = false by simpa using List.all_eq_true.1 hall t hm)⟩)
    (by kernel_rfl)
#print axioms holds
end MarkKeeps
end Go.Proofs.YtiofeebiejkajaaDoor
