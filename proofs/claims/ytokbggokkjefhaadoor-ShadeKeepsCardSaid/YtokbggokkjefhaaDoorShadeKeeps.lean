/- ShadeKeeps: shading leaves what it is handed as it was. No condition. -/
import Derived.Test.YtokbggokkjefhaaDoorRows
import Derived.Test.YtokbggokkjefhaaDoorCards
import Derived.Test.YtokbggokkjefhaaDoorTie
import Derived.Test.YtokbggokkjefhaaDoorAwake16
import Derived.SevenTiedAt
namespace Go.Proofs.YtokbggokkjefhaaDoor
set_option linter.unusedSimpArgs false
set_option linter.unusedVariables false
open Go.ChangeShapes Go.WideShapes Go.ChangeAt Go.RowKit Go.Joins

theorem ints_cells {kk : IntKind} {w : World} {p : Option Addr} {n : Nat} {z : Nat → Int} (h : Ints kk w p n z) : ∀ ad, p = some ad → ∀ j u, (vals kk n z)[j]? = some u → w.cell? (ad.add j) = some u := fun ad e j u hj => by
  have hjn : j < n := by
    have := (List.getElem?_eq_some_iff.1 hj).1
    rwa [vals_length] at this
  obtain ⟨ad', e', hc⟩ := h.cells (by omega)
  rw [e] at e'
  injection e' with e'
  subst e'
  exact hc j u hj
set_option maxHeartbeats 16000000 in
set_option maxRecDepth 20000 in
theorem keeps16_walk {p : Option Addr} {c : Nat} {q : Option Addr} {d : Nat} {h : Hp} (r : Int) (pr : Option Addr) (k cr : Nat) (z : Nat → Int) (pv : Option Addr) (l cv : Nat) (y : Nat → Vl) (w : World)
    (hat : HpAt w p c q d h) (hr : -9223372036854775808 ≤ r ∧ r ≤ 9223372036854775807) (hg : GrAt w pr cr k z) (hv : VAt w pv cv l y) (hS : Sz w) :
    Calls Tryd.prog 4 #[.agg #[.slice p h.n c, .slice q h.m d, .bool h.b], .agg #[.int .i64 r, .slice pr k cr], .slice pv l cv] w fun e w' => e = .returned (.bool true) ∧ Below w.heap.size w w' := by
  obtain ⟨w0, hw0⟩ : ∃ w0, w0 = (w.alloc (.cells #[.slice p h.n c, .slice q h.m d, .bool h.b] 25)).alloc (.cells #[.int .i64 r, .slice pr k cr] 28) := ⟨_, rfl⟩
  obtain ⟨g0, g1, hB0⟩ := tbox_two hw0
  have hR : RowE w.heap.size 3 k pr w := rowE_old (fun h0 b off sp e => by
    obtain ⟨⟨b1, o1, e1, hl1, -⟩, -⟩ := hg.ints 0 h0
    rw [e] at e1
    injection e1 with e1
    injection e1 with e1
    omega) (Nat.le_refl _)
  replace hat := hat.below hB0
  replace hS := hS.below hB0
  replace hg := hg.below hB0
  replace hv := hv.below hB0
  replace hR := hR.below hB0
  have x0 := g0.cell 0
  have x1 := g0.cell 1
  have x2 := g0.cell 2
  have y0 := g1.cell 0
  have y1 := g1.cell 1
  simp only [List.getElem?_toArray, List.getElem?_cons_zero, List.getElem?_cons_succ] at x0 x1 x2 y0 y1
  have l0 := g0.lt
  have l1 := g1.lt
  have hFo := fun W (hW : Below w0.heap.size w0 W) => rform_any _ _ _ _ _ W (hat.below hW)
  have hRi := fun W (hW : Below w0.heap.size w0 W) => rgright_any r pr k cr z W (hg.below hW)
  have m1 := hv.nle
  simp only [maxLen] at m1
  by_cases hgo : formB h = true ∧ rightG r k z = true ∧ l ≤ 100
  · obtain ⟨hF, hG, hl⟩ := hgo
    rw [hF] at hFo
    rw [hG] at hRi
    obtain ⟨⟨r0, r1, r2⟩, -⟩ := rightG_iff.1 hG
    have dlen : decide (100 < (l : Int)) = false := by simp; omega
    have hF' : Hid (formB h = true) := hF
    clear hF hG
    go_enter Tryd.func4, Tryd.ntmps4
    go_upto_region 1 with fail
    rw [← hw0]
    clear hw0
    go_upto_region 3 with (first
    | (go_at_call 6; refine Calls.mono (awake16_any _ (hS.below (by go_grown))) ?_; rintro e w' ⟨rfl, hb⟩; obtain ⟨hc, hf, hb, hz⟩ := bstep hb (w := w0) (by go_grown); try simp only [World.size_alloc, World.size_setCell, World.size_drew] at hc hf hz)
    | (go_at_call 7; refine Calls.mono (hFo _ (by go_grown)) ?_; rintro e w' ⟨rfl, hb⟩; obtain ⟨hc, hf, hb, hz⟩ := bstep hb (w := w0) (by go_grown); try simp only [World.size_alloc, World.size_setCell, World.size_drew] at hc hf hz)
    | (go_at_call 9; refine Calls.mono (hRi _ (by go_grown)) ?_; rintro e w' ⟨rfl, hb⟩; obtain ⟨hc, hf, hb, hz⟩ := bstep hb (w := w0) (by go_grown); try simp only [World.size_alloc, World.size_setCell, World.size_drew] at hc hf hz)
    )
    have hbW := bjoin hb hB0
    replace g0 := g0.below hb
    replace g1 := g1.below hb
    replace hat := hat.below hb
    replace hS := hS.below hb
    replace hg := hg.below hb
    replace hv := hv.below hb
    replace hR := hR.below hb
    clear hb hc hf hz x0 x1 x2 y0 y1 l0 l1 hFo hRi hB0
    generalize w' = w3 at *
    refine wp_own_copy (s := 33) (h' := 3) (d' := 7) (pos := "law.go:85") (by kernel_rfl) (by decide) (by decide) (by decide) (by simp) hF'.out hat ⟨g0.lt, g0.cell 0, g0.cell 1, g0.cell 2, g0.frozen 0, g0.frozen 1, g0.frozen 2⟩ rfl ?_
    intro q0 q1 q2 q3 q4 q5 q6 q7 q8 q9 q10 B7 po co qo do_ w4 hown g7 hl7 n1 n2 hb4
    simp only [puts, Act.put, Nat.reduceAdd, List.setIfInBounds_toArray, List.set_cons_succ, List.set_cons_zero]
    have hxo := hown.at.in
    replace hat := hat.below hb4
    replace g0 := g0.below hb4
    replace g1 := g1.below hb4
    replace hS := hS.below hb4
    replace hg := hg.below hb4
    replace hv := hv.below hb4
    replace hR := hR.below hb4
    replace hbW := bjoin hb4 hbW
    clear hown n1 n2 hb4 hl7
    have hNw : w.heap.size ≤ w4.heap.size := hbW.size
    obtain ⟨hn32, hm0, -⟩ := form_room hF'.out
    have y0 := g1.cell 0
    have y1 := g1.cell 1
    simp only [List.getElem?_toArray, List.getElem?_cons_zero, List.getElem?_cons_succ] at y0 y1
    have l1 := g1.lt
    have hgle := hg.nle
    have hgwf := hg.ints.wf
    have hgnil := hg.pnil
    have hk16 : k ≤ 16 := by omega
    go_upto_region 4 with fail
    refine wp_news_pv [(8, 7)] [some 44, some 45, some 46, some 47, some 48, some 49, some 50, some 8, none] [44, 45, 46, 47, 48, 49, 50, 8] ([(fun v _ => v = .pointer (some ⟨w.heap.size + 1, 0, none⟩)), (fun v _ => v = .int .i64 r), (NilB (w4.heap.size) 3), (fun v _ => v = .pointer (some ⟨w.heap.size + 1, 1, none⟩)), (fun v _ => v = .slice pr k cr), (CopyB (w4.heap.size) 3 1 (k) (vals .i64 k z)), (GreyE (w.heap.size) (r) (k) (z)), (PtrV (w4.heap.size) 28 2), (fun _ _ => True)] : List (Value → World → Prop)) (nsF ([(8, FullGE 28 (w.heap.size) (r) (k) (z))] : List (Nat × (Nat → World → Prop)))) 51 (by kernel_rfl) (by kernel_rfl) rfl rfl (by decide) (by decide) (by simp) (by kernel_rfl) ⟨fun _ _ _ h _ => h, fun _ _ _ h _ => h, fun _ _ _ h hb => h.below hb, fun _ _ _ h _ => h, fun _ _ _ h _ => h, fun _ _ _ h hb => h.below hb, fun _ _ _ h hb => h.below hb, fun _ _ _ h hb => h.below hb, fun _ _ _ _ _ => trivial, trivial⟩ (nsF_below (l := ([(8, FullGE 28 (w.heap.size) (r) (k) (z))] : List (Nat × (Nat → World → Prop)))) ⟨fun _ _ _ h hb => h.below hb, trivial⟩) ?_ ?_
    · refine ⟨?_, ?_, ?_, ?_, ?_, ?_, ?_, ?_, ?_, trivial⟩
      · refine news_none rfl ?_
        intro a' w' hb' hs hd Kc hK
        have f4 : a'.tmps[4]?.getD undef = .pointer (some ⟨w.heap.size + 1, 0, none⟩) := (hs 4 (by decide)).trans rfl
        clear hs hd
        have y0' := (hb'.cell (p := ⟨w.heap.size + 1, 0, none⟩) l1).trans y0
        have y1' := (hb'.cell (p := ⟨w.heap.size + 1, 1, none⟩) l1).trans y1
        unfold Oper.wp
        go_simp
        exact hK _ _ (Below.refl _ _) (by first | rfl | (show Value.int _ _ = Value.int _ _; go_num; done) | (simp [valOf, *]; done) | (simp [valOf]; omega))
      · refine news_none rfl ?_
        intro a' w' hb' hs hd Kc hK
        have f44 : a'.tmps[44]?.getD undef = .pointer (some ⟨w.heap.size + 1, 0, none⟩) := hd 0 44 (by first | rfl | decide | simp [Region.binds]) rfl
        clear hs hd
        have y0' := (hb'.cell (p := ⟨w.heap.size + 1, 0, none⟩) l1).trans y0
        have y1' := (hb'.cell (p := ⟨w.heap.size + 1, 1, none⟩) l1).trans y1
        unfold Oper.wp
        go_simp
        exact hK _ _ (Below.refl _ _) (by first | rfl | (show Value.int _ _ = Value.int _ _; go_num; done) | (simp [valOf, *]; done) | (simp [valOf]; omega))
      · refine news_none rfl ?_
        intro a' w' hb' hs hd Kc hK
        clear hs hd
        have y0' := (hb'.cell (p := ⟨w.heap.size + 1, 0, none⟩) l1).trans y0
        have y1' := (hb'.cell (p := ⟨w.heap.size + 1, 1, none⟩) l1).trans y1
        unfold Oper.wp
        go_simp
        exact hK _ _ ((Below.refl _ _).alloc (Nat.le_refl _) _) (nilB_new _ _ hb'.size)
      · refine news_none rfl ?_
        intro a' w' hb' hs hd Kc hK
        have f4 : a'.tmps[4]?.getD undef = .pointer (some ⟨w.heap.size + 1, 0, none⟩) := (hs 4 (by decide)).trans rfl
        clear hs hd
        have y0' := (hb'.cell (p := ⟨w.heap.size + 1, 0, none⟩) l1).trans y0
        have y1' := (hb'.cell (p := ⟨w.heap.size + 1, 1, none⟩) l1).trans y1
        unfold Oper.wp
        go_simp
        exact hK _ _ (Below.refl _ _) (by first | rfl | (show Value.int _ _ = Value.int _ _; go_num; done) | (simp [valOf, *]; done) | (simp [valOf]; omega))
      · refine news_none rfl ?_
        intro a' w' hb' hs hd Kc hK
        have f47 : a'.tmps[47]?.getD undef = .pointer (some ⟨w.heap.size + 1, 1, none⟩) := hd 3 47 (by first | rfl | decide | simp [Region.binds]) rfl
        clear hs hd
        have y0' := (hb'.cell (p := ⟨w.heap.size + 1, 0, none⟩) l1).trans y0
        have y1' := (hb'.cell (p := ⟨w.heap.size + 1, 1, none⟩) l1).trans y1
        unfold Oper.wp
        go_simp
        exact hK _ _ (Below.refl _ _) (by first | rfl | (show Value.int _ _ = Value.int _ _; go_num; done) | (simp [valOf, *]; done) | (simp [valOf]; omega))
      · refine news_none rfl ?_
        intro a' w' hb' hs hd Kc hK
        have f46 : NilB (w4.heap.size) 3 (a'.tmps[46]?.getD undef) w' := hd 2 46 (by first | rfl | decide | simp [Region.binds]) rfl
        have f48 : a'.tmps[48]?.getD undef = .slice pr k cr := hd 4 48 (by first | rfl | decide | simp [Region.binds]) rfl
        clear hs hd
        have y0' := (hb'.cell (p := ⟨w.heap.size + 1, 0, none⟩) l1).trans y0
        have y1' := (hb'.cell (p := ⟨w.heap.size + 1, 1, none⟩) l1).trans y1
        obtain ⟨i0, hj0, hj1, hj2, hj3⟩ := info_parts int_infoG
        refine step_copy rfl (.tmp 46) (.tmp 48) 26 rfl 3 i0 (.int .i64 0) 1 8 Tryd.underlying26 hj0 hj1 hj2 hj3 rfl (by decide) (w4.heap.size) (a'.tmps[46]?.getD undef) (by simp [Act.eval]) (f46.owns 1) (pr) (k) (cr) (vals .i64 k z) (by rw [← f48]; simp [Act.eval]) (by simp [vlVals_length, vals_length]) ((fun e => (hgnil e).1)) ((ints_cells (hg.below hb').ints)) (vals_one _ _ _) (by simp only [maxLen]; omega) (by omega) hb'.size fun v' w2 ho hbo => ?_
        exact hK _ _ hbo ho
      · refine news_none rfl ?_
        intro a' w' hb' hs hd Kc hK
        have f45 : a'.tmps[45]?.getD undef = .int .i64 r := hd 1 45 (by first | rfl | decide | simp [Region.binds]) rfl
        have f49 : CopyB (w4.heap.size) 3 1 (k) (vals .i64 k z) (a'.tmps[49]?.getD undef) w' := hd 5 49 (by first | rfl | decide | simp [Region.binds]) rfl
        clear hs hd
        have y0' := (hb'.cell (p := ⟨w.heap.size + 1, 0, none⟩) l1).trans y0
        have y1' := (hb'.cell (p := ⟨w.heap.size + 1, 1, none⟩) l1).trans y1
        obtain ⟨_, _, f49, hG, hR⟩ := GreyE.of_copy (N := (w.heap.size)) f49 (hgle) (hgwf)
        unfold Oper.wp
        go_simp
        exact hK _ _ (Below.refl _ _) ⟨_, _, rfl, hG, hR⟩
      · refine news_none rfl ?_
        intro a' w' hb' hs hd Kc hK
        clear hs hd
        have y0' := (hb'.cell (p := ⟨w.heap.size + 1, 0, none⟩) l1).trans y0
        have y1' := (hb'.cell (p := ⟨w.heap.size + 1, 1, none⟩) l1).trans y1
        unfold Oper.wp
        go_simp
        exact hK _ _ ((Below.refl _ _).alloc (Nat.le_refl _) _) (ptrV_new _ _ _ plain_grey hb'.size)
      · refine news_some 7 8 rfl rfl ?_
        intro a' w' hb' hs hd Kc hK
        have f8 : PtrV (w4.heap.size) 28 2 (a'.tmps[8]?.getD undef) w' := hd 7 8 (by first | rfl | decide | simp [Region.binds]) rfl
        have f50 : GreyE (w.heap.size) (r) (k) (z) (a'.tmps[50]?.getD undef) w' := hd 6 50 (by first | rfl | decide | simp [Region.binds]) rfl
        clear hs hd
        have y0' := (hb'.cell (p := ⟨w.heap.size + 1, 0, none⟩) l1).trans y0
        have y1' := (hb'.cell (p := ⟨w.heap.size + 1, 1, none⟩) l1).trans y1
        obtain ⟨gg, f8, hg, hv⟩ := f8
        obtain ⟨p', c', f50, hG, hR⟩ := f50
        obtain ⟨x0, x1, gl, y0, y1, z0, z1⟩ := hv.shape.two
        have hy := plainL_grey (r) p' (k) c'
        unfold Oper.wp
        go_simp
        exact hK gg (.tuple #[]) _ f8 (putsL_below hg [.int .i64 (r), .slice p' (k) c'] 0 w') ⟨p', c', hv.shape.full2 _ _, grAt_puts hG hR hv (by decide) (Nat.le_trans (hNw) hg) [.int .i64 (r), .slice p' (k) c'], hR.puts hv (by decide) (Nat.le_trans (hNw) hg) [.int .i64 (r), .slice p' (k) c']⟩ (nsF_stay (l := ([(8, FullGE 28 (w.heap.size) (r) (k) (z))] : List (Nat × (Nat → World → Prop)))) ⟨.inl rfl, trivial⟩) ⟨fun _ hQ => hQ, fun _ hQ => hQ, fun _ hQ => hQ.putsV hv (by decide) [.int .i64 (r), .slice p' (k) c'], fun _ hQ => hQ, fun _ hQ => hQ, fun _ hQ => hQ.putsV hv (by decide) [.int .i64 (r), .slice p' (k) c'], fun _ hQ => hQ.putsV hv (by decide) (Nat.le_trans (hNw) hg) [.int .i64 (r), .slice p' (k) c'], fun _ hQ => hQ.putsV hy, fun _ _ => trivial, trivial⟩
    intro Xf w' hb hv hf
    obtain ⟨g8, q8, o8⟩ := hf 8 7 8 rfl rfl
    have p8 : PtrV (w4.heap.size) 28 2 (Xf 8) w' := hv 7 8 rfl
    replace o8 : FullGE 28 (w.heap.size) (r) (k) (z) g8 w' := o8
    obtain ⟨g', e', hg8, hv8⟩ := p8
    rw [q8] at e'
    injection e' with e'
    injection e' with e'
    injection e' with e'
    subst e'
    clear hv hf
    simp only [List.map_cons, List.map_nil, q8, puts, Act.put, Nat.reduceAdd, List.setIfInBounds_toArray, List.set_cons_succ, List.set_cons_zero]
    obtain ⟨pw, cw, g8b, hgw, hRw⟩ := o8
    have g7' : Box3 B7 (.slice po h.n co) (.slice qo h.m do_) (.bool h.b) w' := g7.below hb
    replace g0 := g0.below hb
    replace g1 := g1.below hb
    replace hxo := hxo.below hb
    have hin : HpIn w' p h.n c q h.m d h.b h := ⟨rfl, rfl, rfl, hat.below hb⟩
    replace hS := hS.below hb
    replace hg := hg.below hb
    replace hv := hv.below hb
    replace hR := hR.below hb
    replace hbW := bjoin hb hbW
    clear hb q8 hg8 hv8 y0 y1 l1 hNw hat g7 hgle hgwf hgnil
    generalize w' = w5 at *
    have hNw : w.heap.size ≤ w5.heap.size := hbW.size
    have hS1 := shall_in w.heap.size r hS hxo hF'.out hgw hRw hNw (by omega) (by omega) hv (by omega)
    obtain ⟨l7, x0, x1, x2, -, -, -⟩ := id g7'
    obtain ⟨l8, y0, y1⟩ : g8 < w5.heap.size ∧ w5.cell? ⟨g8, 0, none⟩ = some (.int .i64 r) ∧ w5.cell? ⟨g8, 1, none⟩ = some (.slice pw k cw) := ⟨g8b.lt, g8b.cell 0, g8b.cell 1⟩
    generalize hSS : sdA r ⟨h, k, z, false⟩ y l = S1 at *
    go_upto_region 6 with (first
      | (go_at_call 10; refine Calls.mono hS1 ?_; rintro e w6 ⟨p1, c1, q1, d1, pr1, cr1, rfl, hh1, hg1, -, hb3⟩)
    )
    obtain ⟨w7, hw⟩ : ∃ W, W = (w6.alloc (.cells #[.slice p1 h.n c1, .slice q1 h.m d1, .bool h.b] 25)).alloc (.cells #[.int .i64 r, .slice pr1 S1.n cr1] 28) := ⟨_, rfl⟩
    obtain ⟨gA, gA', hbn⟩ := tbox_two hw
    rw [← hw]
    have hb4 := bjoin hbn hb3
    replace g0 := g0.below hb4
    replace g1 := g1.below hb4
    replace g7' := g7'.below hb4
    replace g8b := g8b.below hb4
    replace hin := hin.below hb4
    replace hxo := hxo.below hb4
    replace hg := hg.below hb4
    replace hgw := hgw.below hb4
    replace hv := hv.below hb4
    replace hR := hR.below hb4
    replace hbW := bjoin hb4 hbW
    replace hh1 := hh1.below hbn
    replace hg1 := hg1.below hbn
    have hNw7 : w.heap.size ≤ w7.heap.size := hbW.size
    clear hw hbn hb3 hb4 hS1 x0 x1 x2 y0 y1 l7 l8 hNw hS hRw
    generalize w6.heap.size = B1 at *
    have hS2 := rshall_in w.heap.size r hin hF'.out hg hR hNw7 (by omega) hv (by omega)
    rw [hSS] at hS2
    obtain ⟨l0, x0, x1, x2⟩ : w.heap.size < w7.heap.size ∧ w7.cell? ⟨w.heap.size, 0, none⟩ = some (.slice p h.n c) ∧ w7.cell? ⟨w.heap.size, 1, none⟩ = some (.slice q h.m d) ∧ w7.cell? ⟨w.heap.size, 2, none⟩ = some (.bool h.b) := ⟨g0.lt, g0.cell 0, g0.cell 1, g0.cell 2⟩
    obtain ⟨l1, y0, y1⟩ : w.heap.size + 1 < w7.heap.size ∧ w7.cell? ⟨w.heap.size + 1, 0, none⟩ = some (.int .i64 r) ∧ w7.cell? ⟨w.heap.size + 1, 1, none⟩ = some (.slice pr k cr) := ⟨g1.lt, g1.cell 0, g1.cell 1⟩
    go_upto_region 7 with (first
      | (go_at_call 16; refine Calls.mono hS2 ?_; rintro e w8 ⟨p2, c2, q2, d2, pr2, cr2, rfl, hh2, hg2, -, hb3⟩)
    )
    obtain ⟨w9, hw⟩ : ∃ W, W = (w8.alloc (.cells #[.slice p2 h.n c2, .slice q2 h.m d2, .bool h.b] 25)).alloc (.cells #[.int .i64 r, .slice pr2 S1.n cr2] 28) := ⟨_, rfl⟩
    obtain ⟨gB, gB', hbn⟩ := tbox_two hw
    rw [← hw]
    have hb4 := bjoin hbn hb3
    replace g0 := g0.below hb4
    replace g1 := g1.below hb4
    replace g7' := g7'.below hb4
    replace g8b := g8b.below hb4
    replace gA := gA.below hb4
    replace gA' := gA'.below hb4
    replace hin := hin.below hb4
    replace hxo := hxo.below hb4
    replace hg := hg.below hb4
    replace hgw := hgw.below hb4
    replace hh1 := hh1.below hb4
    replace hg1 := hg1.below hb4
    replace hbW := bjoin hb4 hbW
    replace hh2 := hh2.below hbn
    replace hg2 := hg2.below hbn
    clear hw hbn hb3 hb4 hS2 x0 x1 x2 y0 y1 l0 l1 hNw7 hv hR
    generalize w8.heap.size = B2 at *
    obtain ⟨l0, x0, x1, x2⟩ : w.heap.size < w9.heap.size ∧ w9.cell? ⟨w.heap.size, 0, none⟩ = some (.slice p h.n c) ∧ w9.cell? ⟨w.heap.size, 1, none⟩ = some (.slice q h.m d) ∧ w9.cell? ⟨w.heap.size, 2, none⟩ = some (.bool h.b) := ⟨g0.lt, g0.cell 0, g0.cell 1, g0.cell 2⟩
    obtain ⟨l1, y0, y1⟩ : w.heap.size + 1 < w9.heap.size ∧ w9.cell? ⟨w.heap.size + 1, 0, none⟩ = some (.int .i64 r) ∧ w9.cell? ⟨w.heap.size + 1, 1, none⟩ = some (.slice pr k cr) := ⟨g1.lt, g1.cell 0, g1.cell 1⟩
    obtain ⟨l7, t0, t1, t2, -, -, -⟩ := id g7'
    obtain ⟨l8, t3, t4⟩ : g8 < w9.heap.size ∧ w9.cell? ⟨g8, 0, none⟩ = some (.int .i64 r) ∧ w9.cell? ⟨g8, 1, none⟩ = some (.slice pw k cw) := ⟨g8b.lt, g8b.cell 0, g8b.cell 1⟩
    obtain ⟨lA, a0, a1, a2⟩ : B1 < w9.heap.size ∧ w9.cell? ⟨B1, 0, none⟩ = some (.slice p1 h.n c1) ∧ w9.cell? ⟨B1, 1, none⟩ = some (.slice q1 h.m d1) ∧ w9.cell? ⟨B1, 2, none⟩ = some (.bool h.b) := ⟨gA.lt, gA.cell 0, gA.cell 1, gA.cell 2⟩
    obtain ⟨lA', a3, a4⟩ : B1 + 1 < w9.heap.size ∧ w9.cell? ⟨B1 + 1, 0, none⟩ = some (.int .i64 r) ∧ w9.cell? ⟨B1 + 1, 1, none⟩ = some (.slice pr1 S1.n cr1) := ⟨gA'.lt, gA'.cell 0, gA'.cell 1⟩
    obtain ⟨lB, b0, b1, b2⟩ : B2 < w9.heap.size ∧ w9.cell? ⟨B2, 0, none⟩ = some (.slice p2 h.n c2) ∧ w9.cell? ⟨B2, 1, none⟩ = some (.slice q2 h.m d2) ∧ w9.cell? ⟨B2, 2, none⟩ = some (.bool h.b) := ⟨gB.lt, gB.cell 0, gB.cell 1, gB.cell 2⟩
    obtain ⟨lB', b3, b4⟩ : B2 + 1 < w9.heap.size ∧ w9.cell? ⟨B2 + 1, 0, none⟩ = some (.int .i64 r) ∧ w9.cell? ⟨B2 + 1, 1, none⟩ = some (.slice pr2 S1.n cr2) := ⟨gB'.lt, gB'.cell 0, gB'.cell 1⟩
    have hSa : ∀ (W : World) (g : Hp) (p q p' q' : Option Addr) (c d c' d' : Nat), HpIn W p h.n c q h.m d h.b g → HpIn W p' h.n c' q' h.m d' h.b g → Calls Tryd.prog 17 #[.agg #[.slice p h.n c, .slice q h.m d, .bool h.b], .agg #[.slice p' h.n c', .slice q' h.m d', .bool h.b]] W fun e w' => e = .returned (.bool true) ∧ Below W.heap.size W w' := fun W g p q p' q' c d c' d' h1 h2 => by
      have := rsame_in h1 h2
      rwa [sameH_self] at this
    have hSg : ∀ (W : World) (n : Nat) (z : Nat → Int) (p p' : Option Addr) (c c' : Nat), GrAt W p c n z → GrAt W p' c' n z → Calls Tryd.prog 18 #[.agg #[.int .i64 r, .slice p n c], .agg #[.int .i64 r, .slice p' n c']] W fun e w' => e = .returned (.bool true) ∧ Below W.heap.size W w' := fun W n z p p' c c' h1 h2 => by
      have := rgsame_any r r p p' n c n c' z z W h1 h2
      rwa [sameG_self] at this
    clear gA gA' gB gB' g0 g1 g7' g8b hSS
    go_wp2_with (first
    | (go_at_call 17; refine Calls.mono (hSa _ _ _ _ _ _ _ _ _ _ (by first | exact hxo.below (by go_grown) | exact hh1.below (by go_grown)) (by first | exact hin.below (by go_grown) | exact hh2.below (by go_grown))) ?_; rintro e w' ⟨rfl, hb⟩; obtain ⟨hc, hf, hb, hz⟩ := bstep hb (w := w9) (by go_grown); try simp only [World.size_alloc, World.size_setCell, World.size_drew] at hc hf hz)
    | (go_at_call 18; refine Calls.mono (hSg _ _ _ _ _ _ _ (by first | exact hgw.below (by go_grown) | exact hg1.below (by go_grown)) (by first | exact hg.below (by go_grown) | exact hg2.below (by go_grown))) ?_; rintro e w' ⟨rfl, hb⟩; obtain ⟨hc, hf, hb, hz⟩ := bstep hb (w := w9) (by go_grown); try simp only [World.size_alloc, World.size_setCell, World.size_drew] at hc hf hz)
    )
    go_returns
    exact ⟨rfl, bjoin (by go_grown) hbW⟩
  · have hex : (formB h = false) ∨ (formB h = true ∧ rightG r k z = false) ∨ (formB h = true ∧ rightG r k z = true ∧ decide (100 < (l : Int)) = true) := by
      cases h1 : formB h with
      | false => exact .inl rfl
      | true =>
        cases h3 : rightG r k z with
        | false => exact .inr (.inl ⟨rfl, rfl⟩)
        | true =>
          refine .inr (.inr ⟨rfl, rfl, ?_⟩)
          have : ¬ l ≤ 100 := fun e => hgo ⟨h1, h3, e⟩
          simp
          omega
    clear hgo
    rcases hex with e | ⟨e, e3⟩ | ⟨e, e3, e4⟩
    · rw [e] at hFo
      clear e
      go_enter Tryd.func4, Tryd.ntmps4
      go_upto_region 1 with fail
      rw [← hw0]
      clear hw0
      go_wp2_with (first
    | (go_at_call 6; refine Calls.mono (awake16_any _ (hS.below (by go_grown))) ?_; rintro e w' ⟨rfl, hb⟩; obtain ⟨hc, hf, hb, hz⟩ := bstep hb (w := w0) (by go_grown); try simp only [World.size_alloc, World.size_setCell, World.size_drew] at hc hf hz)
    | (go_at_call 7; refine Calls.mono (hFo _ (by go_grown)) ?_; rintro e w' ⟨rfl, hb⟩; obtain ⟨hc, hf, hb, hz⟩ := bstep hb (w := w0) (by go_grown); try simp only [World.size_alloc, World.size_setCell, World.size_drew] at hc hf hz)
      )
      go_returns
      exact ⟨rfl, bjoin hb hB0⟩
    all_goals
      rw [e] at hFo
      rw [e3] at hRi
      clear e e3
      go_enter Tryd.func4, Tryd.ntmps4
      go_upto_region 1 with fail
      rw [← hw0]
      clear hw0
      go_wp2_with (first
    | (go_at_call 6; refine Calls.mono (awake16_any _ (hS.below (by go_grown))) ?_; rintro e w' ⟨rfl, hb⟩; obtain ⟨hc, hf, hb, hz⟩ := bstep hb (w := w0) (by go_grown); try simp only [World.size_alloc, World.size_setCell, World.size_drew] at hc hf hz)
    | (go_at_call 7; refine Calls.mono (hFo _ (by go_grown)) ?_; rintro e w' ⟨rfl, hb⟩; obtain ⟨hc, hf, hb, hz⟩ := bstep hb (w := w0) (by go_grown); try simp only [World.size_alloc, World.size_setCell, World.size_drew] at hc hf hz)
    | (go_at_call 9; refine Calls.mono (hRi _ (by go_grown)) ?_; rintro e w' ⟨rfl, hb⟩; obtain ⟨hc, hf, hb, hz⟩ := bstep hb (w := w0) (by go_grown); try simp only [World.size_alloc, World.size_setCell, World.size_drew] at hc hf hz)
      )
      go_returns
      exact ⟨rfl, bjoin hb hB0⟩
namespace ShadeKeeps
/-- What the row lists. -/
def lists : List (String × DataW Unit) := [("flotsam/class.sizes", Rows.laid_flotsam_class_sizes)]
set_option maxRecDepth 100000 in
theorem lifted (os : Os) (started : os.Started) (H : Type) (enc : TypeId × Value → H) :
    ReturnsInHanded {} Tryd.checked os 4 .any (fun w args => (Rows.shadeKeepsSpec.pre enc Tryd.prog Tryd.f4 Rows.shadeKeepsRow.domain false w args ∧ laidMetH Tryd.prog lists w) ∧ sizedMet enc Tryd.prog Tryd.f4 (OpenSpec.ofChange Rows.shadeKeepsSpec) false w args) (Rows.shadeKeepsSpec.post enc Tryd.prog Tryd.f4 false true false false) := by
  refine law_lifted_laid (C := Tryd.checked) seat_own started (by kernel_rfl) Tryd.func4 (by kernel_rfl) (of_decide_eq_true (by kernel_rfl)) rfl
    (fun ds hd => by have hd' : ds.length = 3 := hd; match ds, hd' with | [d0, d1, d2], _ => rfl) rfl Tryd.underlying4
    (ChangeSpec.witness_shaped (enc := enc) (C := Tryd.checked) (os := os) (X := fun w _ => laidMetH Tryd.prog lists w) false (World.laidAll Tryd.prog os lists) #[.agg #[.slice none 0 0, .slice none 0 0, .bool false], .agg #[.int .i64 0, .slice none 0 0], .slice none 0 0] 8 (World.laidAll_os _ _ _)
      (World.shaped_of_ZipB (by kernel_rfl) (by kernel_rfl)) (by kernel_rfl) (by kernel_rfl) (by kernel_rfl)
      (by rw [MakeChecks.laidMetH_plain _ _ _ (by kernel_rfl)]; exact laidMet_laidAll _ (by kernel_rfl) (by kernel_rfl))) ?_
  intro W base args ds p hval hA hlt hL
  have hS : Sz W := sizes_of hL (by kernel_rfl) rfl
  rw [Tryd.params4] at hA hval
  obtain ⟨v0, v1, v2, d0, d1, d2, p0, p1, p2, rfl, rfl, rfl, h0, h1, h2⟩ := trodAll_three hA
  obtain ⟨x0, q0, c0, s0, e0, rfl, hh0⟩ := open_heap Tryd.underlying25 (by kernel_rfl) (by kernel_rfl) Tryd.underlying22 (by kernel_rfl) (by kernel_rfl) Tryd.underlying23 Tryd.underlying50 (by kernel_rfl) (by kernel_rfl) (by kernel_rfl) (by kernel_rfl) (by kernel_rfl) (by kernel_rfl) (hval 0 25 v0 rfl rfl) h0
  obtain ⟨r1, q1, n1, c1, z1, rfl, hr1, hg1⟩ := open_grey Tryd.underlying28 (by kernel_rfl) (by kernel_rfl) (by kernel_rfl) Tryd.underlying26 (by kernel_rfl) (by kernel_rfl) (hval 1 28 v1 rfl rfl) h1
  obtain ⟨q2, n2, cap2, z2, rfl, hv2⟩ := open_vals Tryd.underlying29 Tryd.underlying38 (by kernel_rfl) (by kernel_rfl) (by kernel_rfl) (by kernel_rfl) (hval 2 29 v2 rfl rfl) h2
  exact keeps16_walk r1 q1 n1 c1 z1 q2 n2 cap2 z2 W hh0 hr1 hg1 hv2 hS

theorem row_holds : Rows.ShadeKeepsSaid :=
  OpenClaim.holds_of_wide 4 Tryd.f4 rfl rfl rfl rfl rfl rfl rfl ⟨rfl, rfl, rfl, rfl, rfl⟩ rfl rfl rfl rfl rfl (by kernel_rfl) Tryd.func4 (by kernel_rfl)
    (of_decide_eq_true (by kernel_rfl)) (by unfold Func.isWrapper; first | (rw [if_pos (by decide +kernel)]; kernel_rfl) | (rw [if_neg (by decide +kernel)]; exact ⟨rfl, rfl⟩))
    (fun os started H enc _ => lifted os started H enc)
/-- The tied card. -/
theorem holds : Rows.ShadeKeepsCardSaid :=
  Claim7.holds_tied_plain_at .later [] [.data] true (true, "6ef351fabaceb77f7170fd89529baea29d54cde26c4cce2a2406eb6ef4667159") false row_holds (fun _ h => by cases h) (by kernel_rfl) (fun _ h => by cases h) shadeKeeps_row_tie rfl ⟨rfl, rfl⟩ (by kernel_rfl) rfl
    (fun f fn hf hfn => by
      obtain rfl : f = 4 := Option.some.inj ((show Tryd.prog.funcNamed "flotsam/flotsamlaw16.ShadeKeeps" = some 4 by kernel_rfl).symm.trans hf) |>.symm
      obtain rfl : fn = Tryd.f4 := (Option.some.inj (Tryd.func4.symm.trans hfn)).symm
      exact ⟨by kernel_rfl, fun j t ht => by
        rw [Tryd.params4] at ht
        have hm : t ∈ [25, 28, 29] := by simpa using Array.mem_of_getElem? ht
        have hall : ([25, 28, 29].all fun u => !Tryd.prog.wantsStandIn u) = true := by kernel_rfl
        exact (show Tryd.prog.wantsStandIn t = false by simpa using List.all_eq_true.1 hall t hm)⟩)
    (by kernel_rfl)
#print axioms holds
end ShadeKeeps
end Go.Proofs.YtokbggokkjefhaaDoor
