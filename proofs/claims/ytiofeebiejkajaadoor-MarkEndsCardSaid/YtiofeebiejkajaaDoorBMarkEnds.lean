/- MarkEnds: from whatever right marker marking is done within so many steps; it stays right; nothing that is black becomes white, no field is changed, and what became black is reached from what was to be looked at, or from what is black. No condition; the table that the code reads is tied to the program's text. -/
import Derived.Test.YtiofeebiejkajaaDoorB52
import Derived.Test.YtiofeebiejkajaaDoorB53
import Derived.Test.YtiofeebiejkajaaDoorB28
import Derived.Test.YtiofeebiejkajaaDoorB29
import Derived.Test.YtiofeebiejkajaaDoorRows
import Derived.Test.YtiofeebiejkajaaDoorCards
import Derived.Test.YtiofeebiejkajaaDoorTie
import Derived.SevenTiedAt
import Derived.Deep.CutRange
namespace Go.Proofs.YtiofeebiejkajaaDoor
set_option linter.unusedSimpArgs false
set_option linter.unusedVariables false
open Go.ChangeShapes Go.WideShapes Go.ChangeAt Go.RowKit Go.Joins

/-- While the values are gathered: the own row, the black objects' row, all that was there. -/
structure VS (w3 W : World) (ov : Value) (L : List Vl) (pw : Option Addr) (kw : Nat) (z : Nat → Int) : Prop where
  own : W.ownsRow w3.heap.size 38 2 ov L.length (LV L)
  wf : ∀ v ∈ L, v.wf
  was : Ints .i64 W pw kw z
  wasE : RowE w3.heap.size 3 kw pw W
  blw : Below w3.heap.size w3 W
theorem three_cells {T g : Nat} {x0 x1 x2 : Value} {w : World} (h : TBox T g #[x0, x1, x2] w) : g < w.heap.size ∧ w.cell? ⟨g, 0, none⟩ = some x0 ∧ w.cell? ⟨g, 1, none⟩ = some x1 ∧ w.cell? ⟨g, 2, none⟩ = some x2 := ⟨h.lt, h.cell 0, h.cell 1, h.cell 2⟩
theorem VS.more {w3 W : World} {ov : Value} {L : List Vl} {pw : Option Addr} {kw : Nat} {z : Nat → Int} (h : VS w3 W ov L pw kw z) {v : Vl} (hv : v.wf) {ov' : Value} {w8 : World}
    (ho : w8.ownsRow w3.heap.size 38 2 ov' (L.length + 1) (LV L ++ [.int .i64 v.k, .int .i64 v.n])) (hg : (W.alloc (.cells #[.int .i64 v.k, .int .i64 v.n] 38)).grownBy w8 ov.ownBlock) : VS w3 w8 ov' (L ++ [v]) pw kw z := by
  have hb : Below W.heap.size W (W.alloc (.cells #[.int .i64 v.k, .int .i64 v.n] 38)) := (Below.refl _ _).alloc (Nat.le_refl _) _
  obtain ⟨k1, k2⟩ := rowE_grown (h.wasE.below hb) (by decide) (owned_below h.own hb) (Nat.le_refl _) hg
  refine ⟨?_, fun u hu => ?_, (h.was.below hb).of_block hg.size k1, k2, (h.blw.alloc h.blw.size _).grown hg (by rw [World.size_alloc]; have := h.blw.size; omega) fun k hk => (h.own.lt k hk).1⟩
  · rw [List.length_append, List.length_singleton, ← LV_snoc]; exact ho
  · rcases List.mem_append.1 hu with hu | hu
    · exact h.wf u hu
    · rw [List.mem_singleton.1 hu]; exact hv
set_option maxHeartbeats 16000000 in
set_option maxRecDepth 20000 in
theorem ends17_walk {p : Option Addr} {c : Nat} {q : Option Addr} {d : Nat} {h : Hp} (m : Mk) (pg : Option Addr) (cg : Nat) (pb : Option Addr) (cb : Nat) (pr : Option Addr) (cr : Nat) (w : World) (hat : HpAt w p c q d h) (hg : GrAt w pg cg m.g.n m.g.z) (hb : RAt GrC 2 w pb cb m.nb m.b) (hv : VAt w pr cr m.nr m.ro) (hw64 : In64 m.g.r ∧ In64 m.ob ∧ In64 m.fi ∧ In64 m.cu) (hS : Sz w) :
    Calls Tryd.prog 3 #[.agg #[.slice p h.n c, .slice q h.m d, .bool h.b], .agg #[.int .i64 m.g.r, .slice pg m.g.n cg, .slice pb m.nb cb, .slice pr m.nr cr, .int .i64 m.ob, .int .i64 m.fi, .int .i64 m.cu, .bool m.ov]] w fun e w' => e = .returned (.bool true) ∧ Below w.heap.size w w' := by
  obtain ⟨w0, hw0⟩ : ∃ w0, w0 = (w.alloc (.cells #[.slice p h.n c, .slice q h.m d, .bool h.b] 25)).alloc (.cells #[.int .i64 m.g.r, .slice pg m.g.n cg, .slice pb m.nb cb, .slice pr m.nr cr, .int .i64 m.ob, .int .i64 m.fi, .int .i64 m.cu, .bool m.ov] 32) := ⟨_, rfl⟩
  obtain ⟨gH, gM, hB0⟩ := tbox_two hw0
  have hSw := hS
  have hat0 := hat
  have hM := MAtE.old (N := w.heap.size) hg hb hv (Nat.le_refl _)
  replace hat := hat.below hB0
  replace hS := hS.below hB0
  replace hg := hg.below hB0
  replace hb := hb.below grC_below hB0
  replace hv := hv.below hB0
  replace hM := hM.below hB0
  have hFi := fun W (hW : Below w0.heap.size w0 W) => fits17_any p c q d h m pg cg pb cb pr cr W (hat.below hW) (hg.below hW) (hb.below grC_below hW)
  obtain ⟨l0, x0, x1, x2⟩ : w.heap.size < w0.heap.size ∧ w0.cell? ⟨w.heap.size, 0, none⟩ = some (.slice p h.n c) ∧ w0.cell? ⟨w.heap.size, 1, none⟩ = some (.slice q h.m d) ∧ w0.cell? ⟨w.heap.size, 2, none⟩ = some (.bool h.b) := ⟨gH.lt, gH.cell 0, gH.cell 1, gH.cell 2⟩
  obtain ⟨l8, y0, y1, y2, y3, y4, y5, y6, y7⟩ := mk_cells gM
  by_cases hgo : ftD h m = true ∧ apB h = true
  · obtain ⟨hft, hA⟩ := hgo
    rw [hft] at hFi
    unfold ftD at hft
    simp only [Bool.and_eq_true, decide_eq_true_eq] at hft
    obtain ⟨⟨⟨hF, hn128⟩, hfew⟩, hrt⟩ := hft
    have hR := rtD_iff.1 hrt
    have hAp := fun W (hW : Below w0.heap.size w0 W) => rapart_any _ _ _ _ _ W (hat.below hW) hF
    rw [hA] at hAp
    have hn32 : 32 ≤ h.n ∧ 0 < h.m := by have := form_iff.1 hF; omega
    obtain ⟨f1, f2, f3, f4⟩ := few_sum hfew
    have f5 : ∀ i, i < m.nb → (m.b i).n ≤ 20 := by
      simp only [fewM, decide_eq_true_eq] at hfew
      exact fun i hi => hfew.1 i hi (by omega)
    have hF' : Hid (formB h = true) := hF
    have hA' : Hid (apB h = true) := hA
    clear hF hA hrt
    go_enter Tryd.func3, Tryd.ntmps3
    go_upto_region 1 with fail
    rw [← hw0]
    clear hw0
    go_upto_region 3 with (first
    | (go_at_call 7; refine Calls.mono (awake17_any _ (hS.below (by go_grown))) ?_; rintro e w' ⟨rfl, hb⟩; obtain ⟨hc, hf, hb, hz⟩ := bstep hb (w := w0) (by go_grown); try simp only [World.size_alloc, World.size_setCell, World.size_drew] at hc hf hz)
    | (go_at_call 8; refine Calls.mono (hFi _ (by go_grown)) ?_; rintro e w' ⟨rfl, hb⟩; obtain ⟨hc, hf, hb, hz⟩ := bstep hb (w := w0) (by go_grown); try simp only [World.size_alloc, World.size_setCell, World.size_drew] at hc hf hz)
    | (go_at_call 9; refine Calls.mono (hAp _ (by go_grown)) ?_; rintro e w' ⟨rfl, hb⟩; obtain ⟨hc, hf, hb, hz⟩ := bstep hb (w := w0) (by go_grown); try simp only [World.size_alloc, World.size_setCell, World.size_drew] at hc hf hz)
    )
    have hbW := bjoin hb hB0
    replace gH := gH.below hb
    replace gM := gM.below hb
    have hin := (hat.below hb).in
    replace hM := hM.below hb
    clear hb hc hf hz x0 x1 x2 l0 y0 y1 y2 y3 y4 y5 y6 y7 l8 hFi hAp hat hg hS hv hB0
    generalize w' = w3 at *
    obtain ⟨t0, hq0, hq1, hq2, hq3⟩ := info_parts val_info
    have hz3 : w.heap.size ≤ w3.heap.size := hbW.size
    obtain ⟨l8, y0, y1, y2, y3, y4, y5, y6, y7⟩ := mk_cells gM
    have hro := hM.r
    go_upto_region 4 with (first
      | (at_builtin; refine wpList_append_row rfl (.tmp 35) (.tmp 37) 30 rfl w3.heap.size 38 t0 (.agg #[.int .i64 0, .int .i64 0]) 2 16 Tryd.underlying30 hq0 hq1 hq2 hq3 rfl (by decide) (.slice (some ⟨w3.heap.size, 0, none⟩) 0 0) 0 [] rfl (World.ownsRow_lit w3 #[] 0 (Nat.le_refl _) (by simp only [maxLen]; omega) rfl) pr m.nr cr (vlVals m.nr m.ro) rfl (by simp [vlVals_length]) (hro.row.below (by go_grown)).cells (vlVals_one _ _) hro.pnil (by simp only [maxLen]; omega) (by omega) (by simp) ?_; intro ov0 w4 hown0 hgrow)
    )
    have hb34 : Below w3.heap.size w3 w4 := ((Below.refl _ _).alloc (Nat.le_refl _) _).grown hgrow (by simp) (fun k hk => by cases hk; exact Nat.le_refl _)
    obtain ⟨L0, hL0, hL0l, hL0w, hL0m⟩ : ∃ L0 : List Vl, LV L0 = vlVals m.nr m.ro ∧ L0.length = m.nr ∧ (∀ v ∈ L0, v.wf) ∧ ∀ i, i < m.nr → m.ro i ∈ L0 :=
      ⟨(List.range m.nr).map m.ro, LV_range _ _, by simp, fun v hv => by obtain ⟨i, hi, rfl⟩ := List.mem_map.1 hv; exact hro.row.wf i (by simpa using hi), fun i hi => List.mem_map.2 ⟨i, by simpa using hi, rfl⟩⟩
    rw [List.nil_append, Nat.zero_add, ← hL0] at hown0
    have hown1 : w4.ownsRow w3.heap.size 38 2 ov0 L0.length (LV L0) := by rw [hL0l]; exact hown0
    have gH4 := gH.below hb34
    have hin4 := hin.below hb34
    have hBl := rblack15_tag p c q d h w4 hin4.at' hF'.out
    obtain ⟨l0, x0, x1, x2⟩ : w.heap.size < w4.heap.size ∧ w4.cell? ⟨w.heap.size, 0, none⟩ = some (.slice p h.n c) ∧ w4.cell? ⟨w.heap.size, 1, none⟩ = some (.slice q h.m d) ∧ w4.cell? ⟨w.heap.size, 2, none⟩ = some (.bool h.b) := ⟨gH4.lt, gH4.cell 0, gH4.cell 1, gH4.cell 2⟩
    have hkb : (bkL h).length ≤ 512 := by
      have h1 := obL_len h h.n
      have h2 : (bkL h).length ≤ (obL h h.n).length := List.length_filter_le _ _
      omega
    generalize hWS : bkL h = WS at *
    obtain ⟨kw, hkw⟩ : ∃ k, k = WS.length := ⟨_, rfl⟩
    rw [← hkw] at hBl hkb
    have hkw' : Hid (kw = WS.length) := hkw
    have hWS' : Hid (bkL h = WS) := hWS
    clear hkw hWS hro hown0 hgrow y0 y1 y2 y3 y4 y5 y6 y7 l8
    go_upto_region 5 with (first
      | (go_at_call 10; refine Calls.mono hBl ?_; rintro e w5 ⟨pw, cw, rfl, hNR, hb5, htag⟩)
    )
    have hz4 := hb34.size
    have hI5 := hNR.ints
    rw [← hkw'.out] at hI5
    have hV0 : VS w3 w5 ov0 L0 pw kw (fun i => WS[i]?.getD 0) := ⟨owned_below hown1 hb5, hL0w, hI5, fun h0 b off sp e => by
      obtain ⟨cs, hcs⟩ := htag b off sp e
      exact ⟨(Array.getElem?_eq_some_iff.1 hcs).1, .inr ⟨cs, hcs⟩⟩, hb34.trans (hb5.mono hz4)⟩
    have hpw : ∀ b off sp, pw = some ⟨b, off, sp⟩ → w3.heap.size ≤ b := fun b off sp e => Nat.le_trans hz4 (hNR.new b off sp e)
    clear hBl hown1 hNR htag hb5 hb34 hin4 gH4 x0 x1 x2 l0 hI5 hz4
    go_wp2
    go_loopg [5, 7] kw (fun g ov iv wr => ∃ (j : Nat) (L : List Vl), j ≤ kw ∧ g = kw - j ∧ iv = .int .i64 j ∧ L.length ≤ 300 + j ∧ (∀ x ∈ L0, x ∈ L) ∧ (∀ i, i < j → rfV (WS[i]?.getD 0) ∈ L) ∧ VS w3 wr ov L pw kw (fun i => WS[i]?.getD 0))
    case atStart => exact ⟨0, L0, by omega, by omega, rfl, by omega, fun x hx => hx, fun i hi => absurd hi (Nat.not_lt_zero i), hV0⟩
    case round =>
      obtain ⟨j, L, jh, rfl, rfl, hLl, hLm, hLw, hV⟩ := hrel
      clear hV0
      by_cases hj : j < kw
      · obtain ⟨⟨b1, o1, rfl, hl1, v0⟩, hvw⟩ := hV.was j hj
        have hown := hV.own
        have hsz := hV.blw.size
        dsimp only at v0 hvw
        obtain ⟨X, hX⟩ : ∃ X, Hid (X = WS[j]?.getD 0) := ⟨_, rfl⟩
        rw [← hX.out] at v0 hvw
        have hLl' : Hid (L.length ≤ 300 + j) := hLl
        generalize hln : L.length = ln at *
        go_wp2_with (first
      | (at_builtin; refine wpList_append_own _ rfl (.tmp 47) (.tmp 53) 30 rfl w3.heap.size 38 t0 (.agg #[.int .i64 0, .int .i64 0]) 2 16 Tryd.underlying30 hq0 hq1 hq2 hq3 rfl (by decide) _ _ _ rfl (hown.alloc _) ⟨wr.heap.size, 0, none⟩ 1 1 [.int .i64 2, .int .i64 X] rfl rfl (two_new _ _ _ _) (by simp [Value.oneCell']) (by simp only [maxLen]; omega) (by omega) (by simp; omega) ?_; intro ov8 w8 hown' hgrow _)
        )
        rw [← hln] at hown'
        have hV8 := hV.more (v := ⟨2, X⟩) ⟨(show (Lit.int .i64 2).wf = true by decide), hvw⟩ hown' hgrow
        go_roundg (kw - (j + 1))
        case measure => omega
        case rel => exact ⟨j + 1, L ++ [rfV X], by omega, rfl, by go_num, by rw [List.length_append, List.length_singleton]; have := hLl'.out; omega, fun x hx => List.mem_append_left _ (hLm x hx), fun i hi => by
          by_cases e : i = j
          · subst e; rw [← hX.out]; exact List.mem_append_right _ (List.mem_singleton.2 rfl)
          · exact List.mem_append_left _ (hLw i (by omega)), hV8⟩
      · obtain ⟨kw', hkk⟩ : ∃ k', k' = j := ⟨_, rfl⟩
        obtain rfl : j = kw := by omega
        rw [← hkk] at hLw
        clear hL0w hL0l
        have hLl1 : Hid (L.length ≤ 812) := show L.length ≤ 812 by omega
        clear hLl
        obtain ⟨l8, y0, y1, y2, y3, y4, y5, y6, y7⟩ := mk_cells (gM.below hV.blw)
        have hobw : In64 m.ob := hw64.2.1
        go_upto_if 57 with fail
        go_cut [5] from 55 to 63 (fun ov wx => ∃ L1 : List Vl, Hid (L1.length ≤ 813) ∧ (∀ x ∈ L, x ∈ L1) ∧ Hid (0 ≤ m.ob → rfV m.ob ∈ L1) ∧ VS w3 wx ov L1 pw j (fun i => WS[i]?.getD 0))
        case first =>
          by_cases hob : 0 ≤ m.ob
          · have hown := hV.own
            have hsz := hV.blw.size
            have hL812 := hLl1.out
            generalize hln : L.length = ln at hown hL812
            have hln' : Hid (L.length = ln) := hln
            clear hln
            go_wp2_with (first
        | (at_builtin; refine wpList_append_own _ rfl (.tmp 58) (.tmp 62) 30 rfl w3.heap.size 38 t0 (.agg #[.int .i64 0, .int .i64 0]) 2 16 Tryd.underlying30 hq0 hq1 hq2 hq3 rfl (by decide) _ _ _ rfl (hown.alloc _) ⟨wr.heap.size, 0, none⟩ 1 1 [.int .i64 2, .int .i64 m.ob] rfl rfl (two_new _ _ _ _) (by simp [Value.oneCell']) (by simp only [maxLen]; omega) (by omega) (by simp; omega) ?_; intro ov8 w8 hown' hgrow _)
            )
            rw [← hln'.out] at hown'
            have hV1 := hV.more (v := rfV m.ob) ⟨(show (Lit.int .i64 2).wf = true by decide), wf_i64_of hobw.1 hobw.2⟩ hown' hgrow
            go_meet
            exact ⟨L ++ [rfV m.ob], (show (L ++ [rfV m.ob]).length ≤ 813 by rw [List.length_append, List.length_singleton]; have := hLl1.out; omega), fun x hx => List.mem_append_left _ hx, fun _ => List.mem_append_right _ (List.mem_singleton.2 rfl), hV1⟩
          · have hob' : decide (0 ≤ m.ob) = false := decide_eq_false hob
            go_wp2
            go_meet
            exact ⟨L, (show L.length ≤ 813 by have := hLl1.out; omega), fun x hx => hx, fun h => absurd h (by omega), hV⟩
        case rest =>
          obtain ⟨L1, hLl2, hLm1, hLo, hV1⟩ := hcut
          have hLa : ∀ x ∈ L0, x ∈ L1 := fun x hx => hLm1 x (hLm x hx)
          have hLb : ∀ i, i < kw' → rfV (WS[i]?.getD 0) ∈ L1 := fun i hi => hLm1 _ (hLw i hi)
          clear hLm hLw hLm1 hLl1 l8 y0 y1 y2 y3 y4 y5 y6 y7 hV
          have hV1' := hV1
          have hgn : m.g.n ≤ 20 := f2
          go_wp2
          go_loopg [5, 8] m.g.n (fun g ov iv wr => ∃ (i : Nat) (L : List Vl), i ≤ m.g.n ∧ g = m.g.n - i ∧ iv = .int .i64 i ∧ Hid (L.length ≤ 813 + i) ∧ (∀ x ∈ L1, x ∈ L) ∧ (∀ t, t < i → rfV (m.g.z t) ∈ L) ∧ VS w3 wr ov L pw j (fun i => WS[i]?.getD 0))
          case atStart => exact ⟨0, L1, by omega, by omega, rfl, hLl2, fun x hx => hx, fun i hi => absurd hi (Nat.not_lt_zero i), hV1⟩
          case round =>
            clear hV1 hV1' hLl2
            obtain ⟨i, L2, ih, rfl, rfl, hLl3, hLm2, hLg, hV2⟩ := hrel
            obtain ⟨l8, y0, y1, y2, y3, y4, y5, y6, y7⟩ := mk_cells (gM.below hV2.blw)
            by_cases hi : i < m.g.n
            · obtain ⟨⟨bi, oi, epg, hli, vi⟩, hvw⟩ := (hM.g.below hV2.blw).ints i hi
              obtain ⟨X, hX⟩ : ∃ X, Hid (X = m.g.z i) := ⟨_, rfl⟩
              rw [← hX.out] at vi hvw
              have hown := hV2.own
              have hsz := hV2.blw.size
              have hL812 := hLl3.out
              generalize hln : L2.length = ln at hown hL812
              have hln' : Hid (L2.length = ln) := hln
              clear hln
              rw [epg] at y1
              have epg' : Hid (pg = some ⟨bi, oi, none⟩) := epg
              clear epg
              generalize hgg : m.g.n = gn at *
              go_wp2_with (first
            | (at_builtin; refine wpList_append_own _ rfl (.tmp 72) (.tmp 80) 30 rfl w3.heap.size 38 t0 (.agg #[.int .i64 0, .int .i64 0]) 2 16 Tryd.underlying30 hq0 hq1 hq2 hq3 rfl (by decide) _ _ _ rfl (hown.alloc _) ⟨wr.heap.size, 0, none⟩ 1 1 [.int .i64 2, .int .i64 X] rfl rfl (two_new _ _ _ _) (by simp [Value.oneCell']) (by simp only [maxLen]; omega) (by omega) (by simp; omega) ?_; intro ov7 w7 hown' hgrow _)
              )
              rw [← hln'.out] at hown'
              have hV3 := hV2.more (v := rfV X) ⟨(show (Lit.int .i64 2).wf = true by decide), hvw⟩ hown' hgrow
              go_roundg (gn - (i + 1))
              case measure => omega
              case rel => exact ⟨i + 1, L2 ++ [rfV X], by omega, rfl, by go_num, (show (L2 ++ [rfV X]).length ≤ 813 + (i + 1) by rw [List.length_append, List.length_singleton]; have := hLl3.out; omega), fun x hx => List.mem_append_left _ (hLm2 x hx), fun t ht => by
                by_cases e : t = i
                · subst e; rw [← hX.out]; exact List.mem_append_right _ (List.mem_singleton.2 rfl)
                · exact List.mem_append_left _ (hLg t (by omega)), hV3⟩
            · obtain rfl : i = m.g.n := by omega
              have hLl4 : Hid (L2.length ≤ 833) := show L2.length ≤ 833 by have := hLl3.out; omega
              have hLc : ∀ x ∈ L0, x ∈ L2 := fun x hx => hLm2 x (hLa x hx)
              have hLd : ∀ i, i < kw' → rfV (WS[i]?.getD 0) ∈ L2 := fun i hi => hLm2 _ (hLb i hi)
              have hLe : Hid (0 ≤ m.ob → rfV m.ob ∈ L2) := fun h => hLm2 _ (hLo.out h)
              have hnb10 : m.nb ≤ 10 := f3
              clear hLm2 hLl3 hLa hLb hLo hi ih
              go_wp2
              go_loopg [5, 9, 10] m.nb (fun g ov iv kv wr => ∃ (i : Nat) (L : List Vl), i ≤ m.nb ∧ g = m.nb - i ∧ iv = .int .i64 i ∧ Hid (L.length ≤ 833 + 20 * i) ∧ (∀ x ∈ L2, x ∈ L) ∧ (∀ s, s < i → ∀ t, t < (m.b s).n → rfV ((m.b s).z t) ∈ L) ∧ VS w3 wr ov L pw j (fun i => WS[i]?.getD 0))
              case atStart => exact ⟨0, L2, by omega, by omega, rfl, hLl4, fun x hx => hx, fun i hi => absurd hi (Nat.not_lt_zero i), hV2⟩
              case round =>
                clear hV2 hLl4 l8 y0 y1 y2 y3 y4 y5 y6 y7
                obtain ⟨i, L3, ih, rfl, rfl, hLl5, hLm3, hLi, hV3⟩ := hrel
                obtain ⟨l8, y0, y1, y2, y3, y4, y5, y6, y7⟩ := mk_cells (gM.below hV3.blw)
                by_cases hi : i < m.nb
                · obtain ⟨bb, ob, q2, d2, epb, hlt, v0, v1, -, -⟩ := (hM.b.plain.below grC_below hV3.blw).gy hi
                  rw [epb] at y2
                  have epb' : Hid (pb = some ⟨bb, ob, none⟩) := epb
                  have hbi := f5 i hi
                  clear epb
                  generalize hgb : (m.b i).n = gb at v1 hbi
                  have hgb' : Hid ((m.b i).n = gb) := hgb
                  clear hgb
                  go_wp2
                  go_loopg [5, 10] gb (fun g ov kv wr => ∃ (k : Nat) (L : List Vl), k ≤ gb ∧ g = gb - k ∧ kv = .int .i64 k ∧ Hid (L.length ≤ 833 + 20 * i + k) ∧ (∀ x ∈ L3, x ∈ L) ∧ (∀ t, t < k → rfV ((m.b i).z t) ∈ L) ∧ VS w3 wr ov L pw j (fun i => WS[i]?.getD 0))
                  case atStart => exact ⟨0, L3, by omega, by omega, rfl, hLl5, fun x hx => hx, fun i hi => absurd hi (Nat.not_lt_zero i), hV3⟩
                  case round =>
                    clear hV3 hLl5 l8 y0 y1 y2 y3 y4 y5 y6 y7 v0 v1 hlt
                    obtain ⟨k, L4, kh, rfl, rfl, hLl6, hLm4, hLk, hV4⟩ := hrel
                    obtain ⟨l8, y0, y1, y2, y3, y4, y5, y6, y7⟩ := mk_cells (gM.below hV4.blw)
                    obtain ⟨bb2, ob2, q3, d3, epb, hlt, v0, v1, hgr, -⟩ := (hM.b.plain.below grC_below hV4.blw).gy hi
                    rw [epb] at y2
                    clear epb
                    have hz4 := hgr.ints
                    rw [hgb'.out] at v1 hz4
                    by_cases hk : k < gb
                    · obtain ⟨⟨bi, oi, rfl, hli, vi⟩, hvw⟩ := hz4 k hk
                      obtain ⟨X, hX⟩ : ∃ X, Hid (X = (m.b i).z k) := ⟨_, rfl⟩
                      rw [← hX.out] at vi hvw
                      have hown := hV4.own
                      have hsz := hV4.blw.size
                      have hL812 := hLl6.out
                      generalize hln : L4.length = ln at hown hL812
                      have hln' : Hid (L4.length = ln) := hln
                      clear hln hz4 hgr
                      generalize (m.b i).r = gr at *
                      go_wp2_with (first
                  | (at_builtin; refine wpList_append_own _ rfl (.tmp 100) (.tmp 111) 30 rfl w3.heap.size 38 t0 (.agg #[.int .i64 0, .int .i64 0]) 2 16 Tryd.underlying30 hq0 hq1 hq2 hq3 rfl (by decide) _ _ _ rfl (hown.alloc _) ⟨wr.heap.size, 0, none⟩ 1 1 [.int .i64 2, .int .i64 X] rfl rfl (two_new _ _ _ _) (by simp [Value.oneCell']) (by simp only [maxLen]; omega) (by omega) (by simp; omega) ?_; intro ov7 w7 hown' hgrow _)
                      )
                      rw [← hln'.out] at hown'
                      have hV5 := hV4.more (v := rfV X) ⟨(show (Lit.int .i64 2).wf = true by decide), hvw⟩ hown' hgrow
                      go_roundg (gb - (k + 1))
                      case measure => omega
                      case rel => exact ⟨k + 1, L4 ++ [rfV X], by omega, rfl, by go_num, (show (L4 ++ [rfV X]).length ≤ 833 + 20 * i + (k + 1) by rw [List.length_append, List.length_singleton]; have := hLl6.out; omega), fun x hx => List.mem_append_left _ (hLm4 x hx), fun t ht => by
                        by_cases e : t = k
                        · subst e; rw [← hX.out]; exact List.mem_append_right _ (List.mem_singleton.2 rfl)
                        · exact List.mem_append_left _ (hLk t (by omega)), hV5⟩
                    · obtain rfl : k = gb := by omega
                      clear hgr hz4
                      generalize (m.b i).r = gr at *
                      go_wp2
                      go_roundg (m.nb - (i + 1))
                      case measure => omega
                      case rel => exact ⟨i + 1, L4, by omega, rfl, by go_num, (show L4.length ≤ 833 + 20 * (i + 1) by have := hLl6.out; omega), fun x hx => hLm4 x (hLm3 x hx), fun s hs t ht => by
                        by_cases e : s = i
                        · subst e; exact hLk t (by rw [← hgb'.out]; exact ht)
                        · exact hLm4 _ (hLi s (by omega) t ht), hV4⟩
                · obtain rfl : i = m.nb := by omega
                  have hL1033 : L3.length ≤ 1033 := by have := hLl5.out; omega
                  have hown := hV3.own
                  have hwas := hV3.was
                  have hb3r := hV3.blw
                  have hLw3 := hV3.wf
                  obtain ⟨pv, cv, rfl, -⟩ := owned_new hown
                  have hvA := va_list hown (by simp only [maxLen]; omega) hLw3
                  have hinr := (hin.below hb3r).at'
                  have gHr := gH.below hb3r
                  have gMr := gM.below hb3r
                  have hMr := hM.below hb3r
                  have hbWr : Below w.heap.size w wr := hbW.trans (hb3r.mono hz3)
                  have hFr : Calls Tryd.prog 11 #[.agg #[.slice p h.n c, .slice q h.m d, .bool h.b], .slice pv L3.length cv] wr fun e w' => ∃ pl cl, e = .returned (.slice pl (rcL h (vrL (fun i => L3[i]?.getD ⟨0, 0⟩) L3.length)).length cl) ∧ NumRow wr.heap.size (rcL h (vrL (fun i => L3[i]?.getD ⟨0, 0⟩) L3.length)) w' pl cl ∧ Below wr.heap.size wr w' :=
                    rfrom15_any p c q d h pv L3.length cv _ wr hinr hF'.out hvA (by omega)
                  have hmS : ∀ a, rfV a ∈ L3 → a ∈ vrL (fun i => L3[i]?.getD ⟨0, 0⟩) L3.length := fun a ha => by
                    obtain ⟨i, hi, e⟩ := List.getElem_of_mem ha
                    refine vrL_mem.2 ⟨i, hi, ?_, ?_⟩
                    · show (L3[i]?.getD ⟨0, 0⟩).k = 2; rw [List.getElem?_eq_getElem hi, e]; rfl
                    · show (L3[i]?.getD ⟨0, 0⟩).n = a; rw [List.getElem?_eq_getElem hi, e]; rfl
                  have hU0 : MkU h (Rch h (vrL (fun i => L3[i]?.getD ⟨0, 0⟩) L3.length)) h m := by
                    refine ⟨.refl hF'.out, fun a ha => ?_, fun hn => ?_, fun a ha ho => ?_, fun i hi hk ho => ?_⟩
                    · have hm : a ∈ bkL h := List.mem_filter.2 ⟨(mem_obL hF'.out).2 (black_ob ha), ha⟩
                      rw [hWS'.out] at hm
                      obtain ⟨i, hi, e⟩ := List.getElem_of_mem hm
                      have := hLd i (by rw [hkk, hkw'.out]; exact hi)
                      rw [List.getElem?_eq_getElem hi, e] at this
                      exact .root (hmS a (hLm3 _ this)) (black_ob ha)
                    · rcases hR.2.2.2 with ⟨e, -⟩ | ⟨-, e⟩
                      · exact absurd e hn
                      · have ho := (fd_ok e).1
                        exact .root (hmS _ (hLm3 _ (hLe.out (ob_range hF'.out ho).1))) ho
                    · rcases ha with ⟨t, ht, rfl⟩ | ⟨s, hs, t, ht, rfl⟩
                      · exact .root (hmS _ (hLm3 _ (hLg t ht))) ho
                      · exact .root (hmS _ (hLi s hs t ht)) ho
                    · have hm := hLm3 _ (hLc _ (hL0m i hi))
                      have e : m.ro i = rfV (m.ro i).n := by
                        have : ∀ v : Vl, v.k = 2 → v = rfV v.n := fun v hv => by cases v; cases hv; rfl
                        exact this _ hk
                      rw [e] at hm
                      exact .root (hmS _ hm) ho
                  generalize vrL (fun i => L3[i]?.getD ⟨0, 0⟩) L3.length = S at *
                  have hrl : (rcL h S).length ≤ h.n := rc_len (h := h) S
                  obtain ⟨km, hkm⟩ : ∃ k, k = (rcL h S).length := ⟨_, rfl⟩
                  rw [← hkm] at hFr hrl
                  have hkm' : Hid (km = (rcL h S).length) := hkm
                  clear hkm hmS hLc hLd hLe hLg hLi hLm3 hL0m hvA hLw3 hV3 hLl5 hown
                  obtain ⟨l0, x0, x1, x2⟩ : w.heap.size < wr.heap.size ∧ wr.cell? ⟨w.heap.size, 0, none⟩ = some (.slice p h.n c) ∧ wr.cell? ⟨w.heap.size, 1, none⟩ = some (.slice q h.m d) ∧ wr.cell? ⟨w.heap.size, 2, none⟩ = some (.bool h.b) := ⟨gHr.lt, gHr.cell 0, gHr.cell 1, gHr.cell 2⟩
                  clear hi ih
                  go_upto_region 23 with (first
                    | (go_at_call 11; refine Calls.mono hFr ?_; rintro e w6 ⟨pm, cm, rfl, hNR, hb6⟩)
                  )
                  have hIm := hNR.ints
                  rw [← hkm'.out] at hIm
                  have hz6 := hb6.size
                  have hpm : ∀ b off sp, pm = some ⟨b, off, sp⟩ → w3.heap.size ≤ b := fun b off sp e => by have := hNR.new b off sp e; have := hb3r.size; omega
                  have hpm2 : 0 < km → ∀ b off sp, pm = some ⟨b, off, sp⟩ → b < w6.heap.size := fun h0 b off sp e => by
                    obtain ⟨⟨b1, o1, e1, hl1, -⟩, -⟩ := hIm 0 h0
                    rw [e] at e1
                    injection e1 with e1
                    injection e1 with e1
                    omega
                  have hwas6 := hwas.below hb6
                  have hpw2 : 0 < j → ∀ b off sp, pw = some ⟨b, off, sp⟩ → b < w6.heap.size := fun h0 b off sp e => by
                    obtain ⟨⟨b1, o1, e1, hl1, -⟩, -⟩ := hwas6 0 h0
                    rw [e] at e1
                    injection e1 with e1
                    injection e1 with e1
                    omega
                  replace hinr := hinr.below hb6
                  replace gHr := gHr.below hb6
                  replace gMr := gMr.below hb6
                  replace hMr := hMr.below hb6
                  have hbW6 := bjoin hb6 hbWr
                  have hs36 : w3.heap.size ≤ w6.heap.size := by have := hb3r.size; omega
                  clear hFr hNR hwas hb6 hbWr hb3r x0 x1 x2 l0 y0 y1 y2 y3 y4 y5 y6 y7 l8 hz6
                  obtain ⟨l0, x0, x1, x2⟩ : w.heap.size < w6.heap.size ∧ w6.cell? ⟨w.heap.size, 0, none⟩ = some (.slice p h.n c) ∧ w6.cell? ⟨w.heap.size, 1, none⟩ = some (.slice q h.m d) ∧ w6.cell? ⟨w.heap.size, 2, none⟩ = some (.bool h.b) := ⟨gHr.lt, gHr.cell 0, gHr.cell 1, gHr.cell 2⟩
                  obtain ⟨l8, y0, y1, y2, y3, y4, y5, y6, y7⟩ := mk_cells gMr
                  have hBd := rbound17_any p c q d h m pg cg pb cb pr cr w6 hinr hF'.out hMr.b.plain hfew
                  have hboB : boM h m ≤ 5000000 := by
                    have h1 := obL_len h h.n
                    have h3 : nOb h ≤ 128 := by show (obL h h.n).length ≤ 128; omega
                    have h2 : (nOb h + 3) * (17 * nOb h + 8) ≤ 131 * 2184 := Nat.mul_le_mul (by omega) (by omega)
                    unfold boM
                    omega
                  have hmu0 : Hid (muM h m ≤ boM h m) := mu_bound hF'.out hR
                  generalize boM h m = BO at *
                  go_upto_region 24 with (first
                    | (go_at_call 12; refine Calls.mono hBd ?_; rintro e w7 ⟨rfl, hb7⟩)
                  )
                  replace hinr := hinr.below hb7
                  replace gHr := gHr.below hb7
                  replace gMr := gMr.below hb7
                  replace hMr := hMr.below hb7
                  replace hIm := hIm.below hb7
                  replace hwas6 := hwas6.below hb7
                  have hbW7 := bjoin hb7 hbW6
                  have hs67 := hb7.size
                  clear hBd hb7 hbW6 x0 x1 x2 l0 y0 y1 y2 y3 y4 y5 y6 y7 l8
                  obtain ⟨l0, x0, x1, x2⟩ : w.heap.size < w7.heap.size ∧ w7.cell? ⟨w.heap.size, 0, none⟩ = some (.slice p h.n c) ∧ w7.cell? ⟨w.heap.size, 1, none⟩ = some (.slice q h.m d) ∧ w7.cell? ⟨w.heap.size, 2, none⟩ = some (.bool h.b) := ⟨gHr.lt, gHr.cell 0, gHr.cell 1, gHr.cell 2⟩
                  go_upto_region 25 with fail
                  obtain ⟨w8, hw8⟩ : ∃ W, W = w7.alloc (.cells #[.slice p h.n c, .slice q h.m d, .bool h.b] 25) := ⟨_, rfl⟩
                  have gG : TBox 25 w7.heap.size #[.slice p h.n c, .slice q h.m d, .bool h.b] w8 := by rw [hw8]; exact TBox.new _ _ _
                  have hb8 : Below w7.heap.size w7 w8 := by rw [hw8]; exact (Below.refl _ _).alloc (Nat.le_refl _) _
                  rw [← hw8]
                  clear hw8
                  replace hinr := (hinr.below hb8).in
                  replace gHr := gHr.below hb8
                  replace gMr := gMr.below hb8
                  replace hMr := hMr.below hb8
                  replace hIm := hIm.below hb8
                  replace hwas6 := hwas6.below hb8
                  have hbW8 := bjoin hb8 hbW7
                  have hpw3 : 0 < j → ∀ b off sp, pw = some ⟨b, off, sp⟩ → b < w7.heap.size := fun h0 b off sp e => by have := hpw2 h0 b off sp e; omega
                  have hpm3 : 0 < km → ∀ b off sp, pm = some ⟨b, off, sp⟩ → b < w7.heap.size := fun h0 b off sp e => by have := hpm2 h0 b off sp e; omega
                  have hM1 : w.heap.size + 1 < w3.heap.size := gM.lt
                  have hG3 : w3.heap.size ≤ w7.heap.size := by omega
                  clear hb8 hbW7 hpw2 hpm2 x0 x1 x2 l0 hs36 hs67
                  generalize w7.heap.size = BG at *
                  have hR' : Hid (rightM h m) := hR
                  have hf4 : m.nr ≤ 300 := f4
                  go_wp2
                  go_loopg [14] (BO + 1) (fun g iv wr => ∃ (i : Nat) (H : Hp) (M : Mk) (p' : Option Addr) (c' : Nat) (q' : Option Addr) (d' : Nat) (pg : Option Addr) (cg : Nat) (pb : Option Addr) (cb : Nat) (pr : Option Addr) (cr : Nat), g = BO + 1 - i ∧ iv = .int .i64 i ∧ Hid (muM H M ≤ BO - i) ∧ MkU h (Rch h S) H M ∧ Hid (rightM H M) ∧ Hid (M.nb = m.nb) ∧ M.nr ≤ 300 ∧
                    TBox 25 BG #[.slice p' h.n c', .slice q' h.m d', .bool h.b] wr ∧ TBox 32 (w.heap.size + 1) #[.int .i64 M.g.r, .slice pg M.g.n cg, .slice pb M.nb cb, .slice pr M.nr cr, .int .i64 M.ob, .int .i64 M.fi, .int .i64 M.cu, .bool M.ov] wr ∧ TBox 25 w.heap.size #[.slice p h.n c, .slice q h.m d, .bool h.b] wr ∧
                    HpIn wr p' h.n c' q' h.m d' h.b H ∧ MAtE w.heap.size wr M pg cg pb cb pr cr ∧ (Ints .i64 wr pw j fun i => WS[i]?.getD 0) ∧ (Ints .i64 wr pm km fun i => (rcL h S)[i]?.getD 0) ∧ Below w.heap.size w wr)
                  case atStart => exact ⟨0, h, m, p, c, q, d, pg, cg, pb, cb, pr, cr, by omega, rfl, by have := hmu0.out; show muM h m ≤ BO - ((0 : Nat) : Int); omega, hU0, hR', rfl, hf4, gG, gMr, gHr, hinr, hMr, hwas6, hIm, hbW8⟩
                  case round =>
                    clear gHr gG hinr hMr hwas6 hIm hbW8 hU0 hmu0 hin gMr
                    obtain ⟨i, H, M, p1, c1, q1, d1, pg, cg, pb, cb, pr, cr, rfl, rfl, hmu, hU, hRR, hnb, hnr, gG, gMM, gHH, hh, hMM, hIw, hIm, hbw⟩ := hrel
                    have hmn := mu_nonneg hRR.out
                    have hle : i ≤ BO := by have := hmu.out; omega
                    have hsz := hbw.size
                    have hFH : Hid (formB H = true) := hU.pn.form hF'.out
                    have hSt := mstep_in w.heap.size (hSw.below hbw) hh hFH.out hMM hsz hRR.out (by omega) (by rw [hnb.out]; omega)
                    obtain ⟨l0, x0, x1, x2⟩ : BG < wr.heap.size ∧ wr.cell? ⟨BG, 0, none⟩ = some (.slice p1 h.n c1) ∧ wr.cell? ⟨BG, 1, none⟩ = some (.slice q1 h.m d1) ∧ wr.cell? ⟨BG, 2, none⟩ = some (.bool h.b) := ⟨gG.lt, gG.cell 0, gG.cell 1, gG.cell 2⟩
                    obtain ⟨l8, y0, y1, y2, y3, y4, y5, y6, y7⟩ := mk_cells gMM
                    have hnx := st_nb H M
                    have hnx1' : Hid ((stM H M).2.1.nb = m.nb) := hnx.1.trans hnb.out
                    have hnx2' : (stM H M).2.1.nr ≤ 300 := by have := hnx.2; omega
                    have hstep : Hid ((stM H M).2.2 = false → MkU h (Rch h S) (stM H M).1 (stM H M).2.1 ∧ rightM (stM H M).1 (stM H M).2.1 ∧ muM (stM H M).1 (stM H M).2.1 + 1 ≤ muM H M) := fun hd => by
                      obtain ⟨h1, h2⟩ := st_step hFH.out hRR.out hd
                      exact ⟨hU.step hF'.out hA'.out hRR.out rch_closed, h2, h1⟩
                    have hdn : Hid ((∀ a, blB h a = true → blB H a = true) ∧ (∀ a, blB H a = true → Rch h S a) ∧ obL H H.n = obL h h.n ∧ ∀ a, rfH H a = rfH h a) :=
                      ⟨fun a ha => hU.pn.black hF'.out ha, hU.up, (hU.pn.list hF'.out).1, hU.pn.refs hF'.out hA'.out⟩
                    clear hmn hnx hnb hnr hU
                    generalize (stM H M).1 = H1 at *
                    generalize (stM H M).2.1 = M1 at *
                    generalize (stM H M).2.2 = D at *
                    go_upto_region 29 with (first
    | (go_at_call 13; refine Calls.mono (hSt) ?_; rintro e w' ⟨p2, c2, q2, d2, pg2, cg2, pb2, cb2, pr2, cr2, rfl, hH1, hM1, hb⟩; obtain ⟨hc, hf, hb, hz⟩ := bstep hb (w := wr) (by go_grown); try simp only [World.size_alloc, World.size_setCell, World.size_drew] at hc hf hz)
                    )
                    obtain ⟨w5b, hw5⟩ : ∃ W, W = (w'.alloc (.cells #[.slice p2 h.n c2, .slice q2 h.m d2, .bool h.b] 25)).alloc (.cells #[.int .i64 M1.g.r, .slice pg2 M1.g.n cg2, .slice pb2 M1.nb cb2, .slice pr2 M1.nr cr2, .int .i64 M1.ob, .int .i64 M1.fi, .int .i64 M1.cu, .bool M1.ov] 32) := ⟨_, rfl⟩
                    obtain ⟨gK, gX, hbn⟩ := tbox_two hw5
                    rw [← hw5]
                    clear hw5
                    have hb5 := bjoin hbn hb
                    replace gG := gG.below hb5
                    replace gMM := gMM.below hb5
                    replace gHH := gHH.below hb5
                    replace hh := hh.below hb5
                    replace hH1 := hH1.below hbn
                    replace hM1 := hM1.below hbn
                    replace hIw := hIw.below hb5
                    replace hIm := hIm.below hb5
                    have hbw5 := bjoin hb5 hbw
                    have hKG : BG < w'.heap.size := Nat.lt_of_lt_of_le l0 hb.size
                    clear hb5 hb hc hf hz hbn x0 x1 x2 l0 l8 y0 y1 y2 y3 y4 y5 y6 y7 hSt hMM hbw hsz
                    generalize w'.heap.size = BK at *
                    have hsz5 := hbw5.size
                    cases D with
                    | true =>
                      clear hstep hH1 hM1 gMM gK gX
                      obtain ⟨d1', d2', d3', d4'⟩ := hdn.out
                      have hBk : Calls Tryd.prog 10 #[.agg #[.slice p1 h.n c1, .slice q1 h.m d1, .bool h.b]] w5b fun e w' => ∃ pl cl, e = .returned (.slice pl (bkL H).length cl) ∧ NumRow w5b.heap.size (bkL H) w' pl cl ∧ Below w5b.heap.size w5b w' := by
                        obtain ⟨en, em, eb, hat5⟩ := hh
                        have := rblack15_any p1 c1 q1 d1 H w5b hat5 hFH.out
                        rw [← en, ← em, ← eb] at this
                        exact this
                      have hab : ∀ x, x ∈ WS → x ∈ bkL H := fun x hx => by
                        rw [← hWS'.out] at hx
                        obtain ⟨h1, h2⟩ := List.mem_filter.1 hx
                        exact List.mem_filter.2 ⟨by rw [d3']; exact h1, d1' x h2⟩
                      have hbc : ∀ x, x ∈ bkL H → x ∈ rcL h S := fun x hx => (mem_rc hF'.out).2 (d2' x (List.mem_filter.1 hx).2)
                      have hnl : (bkL H).length ≤ 512 := by
                        have h1 : (bkL H).length ≤ (obL H H.n).length := List.length_filter_le _ _
                        rw [d3'] at h1
                        have h2 := obL_len h h.n
                        omega
                      generalize bkL H = NS at *
                      obtain ⟨kn, hkn⟩ : ∃ k, k = NS.length := ⟨_, rfl⟩
                      rw [← hkn] at hBk hnl
                      have hkn' : Hid (kn = NS.length) := hkn
                      clear hkn d1' d2'
                      obtain ⟨l0, x0, x1, x2⟩ : BG < w5b.heap.size ∧ w5b.cell? ⟨BG, 0, none⟩ = some (.slice p1 h.n c1) ∧ w5b.cell? ⟨BG, 1, none⟩ = some (.slice q1 h.m d1) ∧ w5b.cell? ⟨BG, 2, none⟩ = some (.bool h.b) := ⟨gG.lt, gG.cell 0, gG.cell 1, gG.cell 2⟩
                      go_upto_region 31 with (first
    | (go_at_call 10; refine Calls.mono (hBk) ?_; rintro e w' ⟨pn, cn, rfl, hNR, hb⟩; obtain ⟨hc, hf, hb, hz⟩ := bstep hb (w := w5b) (by go_grown); try simp only [World.size_alloc, World.size_setCell, World.size_drew] at hc hf hz)
                      )
                      have hIn := hNR.ints
                      rw [← hkn'.out] at hIn
                      replace gG := gG.below hb
                      replace gHH := gHH.below hb
                      replace hh := hh.below hb
                      replace hIw := hIw.below hb
                      replace hIm := hIm.below hb
                      replace hbw5 := bjoin hb hbw5
                      clear hBk hNR hb hc hf hz x0 x1 x2 l0
                      generalize w' = w6 at *
                      have hLi := rlist8_any p c q d h w6 (hat0.below hbw5) hF'.out
                      have hLiw : ∀ x ∈ obL h h.n, (Lit.int .i64 x).wf = true := obL_wf h (by omega)
                      have hll : (obL h h.n).length ≤ 128 := by have := obL_len h h.n; omega
                      have hLg : Calls Tryd.prog 14 #[.agg #[.slice p1 h.n c1, .slice q1 h.m d1, .bool h.b]] = Calls Tryd.prog 14 #[.agg #[.slice p1 H.n c1, .slice q1 H.m d1, .bool H.b]] := by rw [hh.n_eq, hh.m_eq, hh.b_eq]
                      have hLh := fun W (hW : Below w6.heap.size w6 W) => rlist8_any p1 c1 q1 d1 H W (hh.below hW).at' hFH.out
                      rw [d3', ← hLg] at hLh
                      clear hLg
                      generalize obL h h.n = LS at *
                      obtain ⟨kl, hkl⟩ : ∃ k, k = LS.length := ⟨_, rfl⟩
                      rw [← hkl] at hLi hLh hll
                      have hkl' : Hid (kl = LS.length) := hkl
                      clear hkl
                      obtain ⟨l0, x0, x1, x2⟩ : w.heap.size < w6.heap.size ∧ w6.cell? ⟨w.heap.size, 0, none⟩ = some (.slice p h.n c) ∧ w6.cell? ⟨w.heap.size, 1, none⟩ = some (.slice q h.m d) ∧ w6.cell? ⟨w.heap.size, 2, none⟩ = some (.bool h.b) := ⟨gHH.lt, gHH.cell 0, gHH.cell 1, gHH.cell 2⟩
                      go_upto_region 32 with (first
    | (go_at_call 14; refine Calls.mono (hLi) ?_; rintro e w' ⟨vl, rfl, hownL, hb⟩; obtain ⟨hc, hf, hb, hz⟩ := bstep hb (w := w6) (by go_grown); try simp only [World.size_alloc, World.size_setCell, World.size_drew] at hc hf hz)
                      )
                      rw [hkl'.out] at hownL
                      obtain ⟨pl, cl, rfl, hNR⟩ := row_owned hownL hLiw
                      rw [← hkl'.out]
                      have hIl := hNR.ints
                      rw [← hkl'.out] at hIl
                      replace gG := gG.below hb
                      replace gHH := gHH.below hb
                      replace hh := hh.below hb
                      replace hIw := hIw.below hb
                      replace hIm := hIm.below hb
                      replace hIn := hIn.below hb
                      replace hbw5 := bjoin hb hbw5
                      have hLh7 := hLh _ hb
                      clear hLi hLh hNR hownL hb hc hf hz x0 x1 x2 l0
                      generalize w' = w7 at *
                      obtain ⟨l0, x0, x1, x2⟩ : BG < w7.heap.size ∧ w7.cell? ⟨BG, 0, none⟩ = some (.slice p1 h.n c1) ∧ w7.cell? ⟨BG, 1, none⟩ = some (.slice q1 h.m d1) ∧ w7.cell? ⟨BG, 2, none⟩ = some (.bool h.b) := ⟨gG.lt, gG.cell 0, gG.cell 1, gG.cell 2⟩
                      have hLh8 : Calls Tryd.prog 14 #[.agg #[.slice p1 h.n c1, .slice q1 h.m d1, .bool h.b]] w7 fun e w' => ∃ pl cl, e = .returned (.slice pl kl cl) ∧ (Ints .i64 w' pl kl fun i => LS[i]?.getD 0) ∧ Below w7.heap.size w7 w' := by
                        refine Calls.mono hLh7 ?_
                        rintro e w' ⟨v, rfl, ho, hb⟩
                        rw [hkl'.out] at ho
                        obtain ⟨pl, cl, rfl, hNR⟩ := row_owned ho hLiw
                        have h1 := hNR.ints
                        rw [← hkl'.out] at h1 ⊢
                        exact ⟨pl, cl, rfl, h1, hb⟩
                      have hIs : ∀ (W : World) (pa pb : Option Addr) (ca cb : Nat), Ints .i64 W pa kl (fun i => LS[i]?.getD 0) → Ints .i64 W pb kl (fun i => LS[i]?.getD 0) → Calls Tryd.prog 15 #[.slice pa kl ca, .slice pb kl cb] W fun e w' => e = .returned (.bool true) ∧ Below W.heap.size W w' := fun W pa pb ca cb h1 h2 => by
                        have := rintsG_any pa pb kl ca kl cb _ _ W h1 h2 (by simp only [maxLen]; omega) (by simp only [maxLen]; omega)
                        rwa [sameI_self] at this
                      clear hLh7
                      go_upto_region 34 with (first
    | (go_at_call 14; refine Calls.mono (hLh8) ?_; rintro e w' ⟨px, cx, rfl, hIx, hb⟩; obtain ⟨hc, hf, hb, hz⟩ := bstep hb (w := w7) (by go_grown); try simp only [World.size_alloc, World.size_setCell, World.size_drew] at hc hf hz)
    | (go_at_call 15; refine Calls.mono (hIs _ _ _ _ _ (hIl.below (by go_grown)) hIx) ?_; rintro e w' ⟨rfl, hb⟩; obtain ⟨hc, hf, hb, hz⟩ := bstep hb (w := w7) (by go_grown); try simp only [World.size_alloc, World.size_setCell, World.size_drew] at hc hf hz)
                      )
                      have hb78 := hb
                      replace gG := gG.below hb
                      replace gHH := gHH.below hb
                      replace hh := hh.below hb
                      replace hIw := hIw.below hb
                      replace hIm := hIm.below hb
                      replace hIn := hIn.below hb
                      replace hIl := hIl.below hb
                      replace hbw5 := bjoin hb hbw5
                      clear hLh8 hIs hb hc hf hz x0 x1 x2 l0 hb78
                      generalize w' = w8 at *
                      have hat8 := (hat0.below hbw5).in
                      have hInn : ∀ (W : World) (p : Option Addr) (L : List Int) (n c : Nat) (r : Bool) {X : Int}, Ints .i64 W p n (fun i => L[i]?.getD 0) → Hid (n = L.length ∧ n ≤ 512 ∧ decide (X ∈ L) = r) → Calls Tryd.prog 16 #[.slice p n c, .int .i64 X] W fun e w' => e = .returned (.bool r) ∧ Below W.heap.size W w' := fun W p L n c r X hi hx => by
                        obtain ⟨rfl, h5, e⟩ := hx.out
                        have e2 : inZ L.length (fun i => L[i]?.getD 0) X = decide (X ∈ L) := by rw [Bool.eq_iff_iff, inZ_mem]; simp
                        rw [← e, ← e2]
                        exact rin8_any p L.length c _ X W hi (by simp only [maxLen]; omega)
                      have hRf : ∀ (W : World) (p : Option Addr) (c : Nat) (q : Option Addr) (d : Nat) (g : Hp) {X : Int} {RL : List Int}, HpIn W p h.n c q h.m d h.b g → Hid (formB g = true ∧ rfH g X = RL) → Calls Tryd.prog 17 #[.agg #[.slice p h.n c, .slice q h.m d, .bool h.b], .int .i64 X] W fun e w' => ∃ pm cm, e = .returned (.slice pm RL.length cm) ∧ (Ints .i64 w' pm RL.length fun i => RL[i]?.getD 0) ∧ Below W.heap.size W w' := fun W p c q d g X RL hh hx => by
                        obtain ⟨h1, rfl⟩ := hx.out
                        obtain ⟨en, em, eb, ha⟩ := hh
                        have := rrefs15 h1 X W ha
                        rw [← en, ← em, ← eb] at this
                        refine Calls.mono this ?_
                        rintro e w' ⟨pm, cm, h2, h3, h4⟩
                        exact ⟨pm, cm, h2, h3.ints, h4⟩
                      go_wp2
                      go_loopg [20] kl (fun g iv wr => ∃ k : Nat, k ≤ kl ∧ g = kl - k ∧ iv = .int .i64 k ∧ Below w8.heap.size w8 wr)
                      case atStart => exact ⟨0, by omega, by omega, rfl, Below.refl _ _⟩
                      case round =>
                        obtain ⟨k, kh, rfl, rfl, hbr⟩ := hrel
                        by_cases hk : k < kl
                        · obtain ⟨⟨bl, ol, rfl, hlk, vk⟩, -⟩ := (hIl.below hbr) k hk
                          dsimp only at vk
                          have i1 := hIw.below hbr
                          have i2 := hIn.below hbr
                          have i3 := hIm.below hbr
                          have k1 := hat8.below hbr
                          have k2 := hh.below hbr
                          have gHr := gHH.below hbr
                          have gGr := gG.below hbr
                          obtain ⟨X, hX⟩ : ∃ X, Hid (X = LS[k]?.getD 0) := ⟨_, rfl⟩
                          rw [← hX.out] at vk
                          obtain ⟨RL, hRL⟩ : ∃ RL, Hid (rfH h X = RL) := ⟨_, rfl⟩
                          have r1 : Hid (formB h = true ∧ rfH h X = RL) := ⟨hF'.out, hRL.out⟩
                          have r2 : Hid (formB H = true ∧ rfH H X = RL) := ⟨hFH.out, (d4' X).trans hRL.out⟩
                          have hRLl : RL.length ≤ 15 := by rw [← hRL.out]; exact rfH_len15 h hF'.out X
                          have hII : ∀ (W : World) (pa pb : Option Addr) (ca cb : Nat), Ints .i64 W pa RL.length (fun i => RL[i]?.getD 0) → Ints .i64 W pb RL.length (fun i => RL[i]?.getD 0) → Calls Tryd.prog 15 #[.slice pa RL.length ca, .slice pb RL.length cb] W fun e w' => e = .returned (.bool true) ∧ Below W.heap.size W w' := fun W pa pb ca cb h1 h2 => by
                            have := rintsG_any pa pb RL.length ca RL.length cb _ _ W h1 h2 (by simp only [maxLen]; omega) (by simp only [maxLen]; omega)
                            rwa [sameI_self] at this
                          have hcs : (Hid (j = WS.length ∧ j ≤ 512 ∧ decide (X ∈ WS) = false) ∧ Hid (kn = NS.length ∧ kn ≤ 512 ∧ decide (X ∈ NS) = false)) ∨ (Hid (j = WS.length ∧ j ≤ 512 ∧ decide (X ∈ WS) = false) ∧ Hid (kn = NS.length ∧ kn ≤ 512 ∧ decide (X ∈ NS) = true) ∧ Hid (km = (rcL h S).length ∧ km ≤ 512 ∧ decide (X ∈ rcL h S) = true)) ∨
                              (Hid (j = WS.length ∧ j ≤ 512 ∧ decide (X ∈ WS) = true) ∧ Hid (kn = NS.length ∧ kn ≤ 512 ∧ decide (X ∈ NS) = true) ∧ Hid (km = (rcL h S).length ∧ km ≤ 512 ∧ decide (X ∈ rcL h S) = true)) := by
                            by_cases h1 : X ∈ WS
                            · exact .inr (.inr ⟨⟨hkw'.out, hkb, decide_eq_true h1⟩, ⟨hkn'.out, hnl, decide_eq_true (hab X h1)⟩, ⟨hkm'.out, by omega, decide_eq_true (hbc X (hab X h1))⟩⟩)
                            · by_cases h2 : X ∈ NS
                              · exact .inr (.inl ⟨⟨hkw'.out, hkb, decide_eq_false h1⟩, ⟨hkn'.out, hnl, decide_eq_true h2⟩, ⟨hkm'.out, by omega, decide_eq_true (hbc X h2)⟩⟩)
                              · exact .inl ⟨⟨hkw'.out, hkb, decide_eq_false h1⟩, ⟨hkn'.out, hnl, decide_eq_false h2⟩⟩
                          clear hab hbc d4' hIw hIn hIm hh gG gHH hat8
                          generalize rcL h S = RS at *
                          go_upto_region 37 with fail
                          rcases hcs with ⟨e1, e2⟩ | ⟨e1, e2, e3⟩ | ⟨e1, e2, e3⟩
                          · skip
                            refine wp_late (ds := [some 148, some 149, some 150, some 151, some 152, some 153, some 154, some 155, some 156, some 157, some 158, some 159, some 160, some 161, some 162, some 163, some 164, some 165, some 166, some 167, some 168, some 169, some 170, some 171, some 172, some 173, some 174, some 175, some 176, some 177, some 178, some 179, some 180, some 181, some 182, some 183, some 184, some 185, some 186, some 187, some 188, some 189, some 190, some 191, some 192, some 193, some 194, some 195]) (ts := [148, 149, 150, 151, 152, 153, 154, 155, 156, 157, 158, 159, 160, 161, 162, 163, 164, 165, 166, 167, 168, 169, 170, 171, 172, 173, 174, 175, 176, 177, 178, 179, 180, 181, 182, 183, 184, 185, 186, 187, 188, 189, 190, 191, 192, 193, 194, 195]) (pv := [(fun v _ => v = .slice pw j cw), (fun v _ => v = .slice (some ⟨bl, ol, none⟩) kl cl), (fun v _ => v = .int .i64 (k : Int)), (fun v _ => v = .pointer (some ⟨bl, ol + k, none⟩)), (fun v _ => v = .int .i64 X), (fun v _ => v = .bool false), (fun v _ => v = .bool false), (fun _ _ => True), (fun _ _ => True), (fun _ _ => True), (fun v _ => v = .pointer (some ⟨bl, ol + k, none⟩)), (fun v _ => v = .int .i64 X), (fun v _ => v = .bool false), (fun _ _ => True), (fun v _ => v = .bool false), (fun v _ => v = .bool false), (fun v _ => v = .slice pn kn cn), (fun v _ => v = .slice (some ⟨bl, ol, none⟩) kl cl), (fun v _ => v = .int .i64 (k : Int)), (fun v _ => v = .pointer (some ⟨bl, ol + k, none⟩)), (fun v _ => v = .int .i64 X), (fun v _ => v = .bool false), (fun v _ => v = .bool false), (fun _ _ => True), (fun _ _ => True), (fun _ _ => True), (fun v _ => v = .pointer (some ⟨bl, ol + k, none⟩)), (fun v _ => v = .int .i64 X), (fun v _ => v = .bool true), (fun _ _ => True), (fun v _ => v = .bool false), (fun v _ => v = .bool false), (fun v _ => v = .bool false), (fun v _ => v = .agg #[.slice p h.n c, .slice q h.m d, .bool h.b]), (fun v _ => v = .slice (some ⟨bl, ol, none⟩) kl cl), (fun v _ => v = .int .i64 (k : Int)), (fun v _ => v = .pointer (some ⟨bl, ol + k, none⟩)), (fun v _ => v = .int .i64 X), RowV (RL.length) (fun i => RL[i]?.getD 0), (fun v _ => v = .agg #[.slice p1 h.n c1, .slice q1 h.m d1, .bool h.b]), (fun v _ => v = .slice (some ⟨bl, ol, none⟩) kl cl), (fun v _ => v = .int .i64 (k : Int)), (fun v _ => v = .pointer (some ⟨bl, ol + k, none⟩)), (fun v _ => v = .int .i64 X), RowV (RL.length) (fun i => RL[i]?.getD 0), (fun v _ => v = .bool true), (fun v _ => v = .bool false), (fun v _ => v = .bool false)]) (skip := fun i => ([7, 8, 9, 10, 11, 12, 13, 23, 24, 25, 26, 27, 28, 29] : List Nat).contains i) (ia := 1000) (is := 1000) (k := 196) (Shape := (fun _ _ => True)) (Full := (fun _ _ => True)) (by kernel_rfl) (by kernel_rfl) rfl rfl (by decide) (by decide) (by simp) ?_ (by decide) (fun _ _ _ _ _ => trivial) (fun _ _ _ _ _ => trivial) ?_ ?_ ?_ ?_
                            · exact .inl rfl
                            · exact ⟨fun _ _ _ h _ => h, fun _ _ _ h _ => h, fun _ _ _ h _ => h, fun _ _ _ h _ => h, fun _ _ _ h _ => h, fun _ _ _ h _ => h, fun _ _ _ h _ => h, fun _ _ _ h _ => h, fun _ _ _ h _ => h, fun _ _ _ h _ => h, fun _ _ _ h _ => h, fun _ _ _ h _ => h, fun _ _ _ h _ => h, fun _ _ _ h _ => h, fun _ _ _ h _ => h, fun _ _ _ h _ => h, fun _ _ _ h _ => h, fun _ _ _ h _ => h, fun _ _ _ h _ => h, fun _ _ _ h _ => h, fun _ _ _ h _ => h, fun _ _ _ h _ => h, fun _ _ _ h _ => h, fun _ _ _ h _ => h, fun _ _ _ h _ => h, fun _ _ _ h _ => h, fun _ _ _ h _ => h, fun _ _ _ h _ => h, fun _ _ _ h _ => h, fun _ _ _ h _ => h, fun _ _ _ h _ => h, fun _ _ _ h _ => h, fun _ _ _ h _ => h, fun _ _ _ h _ => h, fun _ _ _ h _ => h, fun _ _ _ h _ => h, fun _ _ _ h _ => h, fun _ _ _ h _ => h, fun _ _ _ h hb => h.below hb, fun _ _ _ h _ => h, fun _ _ _ h _ => h, fun _ _ _ h _ => h, fun _ _ _ h _ => h, fun _ _ _ h _ => h, fun _ _ _ h hb => h.below hb, fun _ _ _ h _ => h, fun _ _ _ h _ => h, fun _ _ _ h _ => h, trivial⟩
                            · exact ⟨rfl, rfl, rfl, rfl, rfl, rfl, rfl, ⟨rfl, ⟨_, rfl⟩, by decide, by decide, fun _ _ h => h⟩, ⟨rfl, ⟨_, rfl⟩, by decide, by decide, fun _ _ h => h⟩, ⟨rfl, ⟨_, rfl⟩, by decide, by decide, fun _ _ h => h⟩, ⟨rfl, ⟨_, rfl⟩, by decide, by decide, fun _ _ h => h⟩, ⟨rfl, ⟨_, rfl⟩, by decide, by decide, fun _ _ h => h⟩, ⟨rfl, ⟨_, rfl⟩, by decide, by decide, fun _ _ h => h⟩, ⟨rfl, ⟨_, rfl⟩, by decide, by decide, fun _ _ h => h⟩, rfl, rfl, ⟨rfl, ⟨_, rfl⟩, by decide, by decide, fun _ _ h => h⟩, ⟨rfl, ⟨_, rfl⟩, by decide, by decide, fun _ _ h => h⟩, ⟨rfl, ⟨_, rfl⟩, by decide, by decide, fun _ _ h => h⟩, ⟨rfl, ⟨_, rfl⟩, by decide, by decide, fun _ _ h => h⟩, ⟨rfl, ⟨_, rfl⟩, by decide, by decide, fun _ _ h => h⟩, ⟨rfl, ⟨_, rfl⟩, by decide, by decide, fun _ _ h => h⟩, ⟨rfl, ⟨_, rfl⟩, by decide, by decide, fun _ _ h => h⟩, ⟨rfl, ⟨_, rfl⟩, by decide, by decide, fun _ _ h => h⟩, ⟨rfl, ⟨_, rfl⟩, by decide, by decide, fun _ _ h => h⟩, ⟨rfl, ⟨_, rfl⟩, by decide, by decide, fun _ _ h => h⟩, ⟨rfl, ⟨_, rfl⟩, by decide, by decide, fun _ _ h => h⟩, ⟨rfl, ⟨_, rfl⟩, by decide, by decide, fun _ _ h => h⟩, ⟨rfl, ⟨_, rfl⟩, by decide, by decide, fun _ _ h => h⟩, ⟨rfl, ⟨_, rfl⟩, by decide, by decide, fun _ _ h => h⟩, ⟨rfl, ⟨_, rfl⟩, by decide, by decide, fun _ _ h => h⟩, rfl, rfl, ⟨rfl, ⟨_, rfl⟩, by decide, by decide, fun _ _ h => h⟩, ⟨rfl, ⟨_, rfl⟩, by decide, by decide, fun _ _ h => h⟩, ⟨rfl, ⟨_, rfl⟩, by decide, by decide, fun _ _ h => h⟩, ⟨rfl, ⟨_, rfl⟩, by decide, by decide, fun _ _ h => h⟩, ⟨rfl, ⟨_, rfl⟩, by decide, by decide, fun _ _ h => h⟩, ⟨rfl, ⟨_, rfl⟩, by decide, by decide, fun _ _ h => h⟩, ⟨rfl, ⟨_, rfl⟩, by decide, by decide, fun _ _ h => h⟩, ⟨rfl, ⟨_, rfl⟩, by decide, by decide, fun _ _ h => h⟩, ⟨rfl, ⟨_, rfl⟩, by decide, by decide, fun _ _ h => h⟩, ⟨rfl, ⟨_, rfl⟩, by decide, by decide, fun _ _ h => h⟩, ⟨rfl, ⟨_, rfl⟩, by decide, by decide, fun _ _ h => h⟩, ⟨rfl, ⟨_, rfl⟩, by decide, by decide, fun _ _ h => h⟩, ⟨rfl, ⟨_, rfl⟩, by decide, by decide, fun _ _ h => h⟩, ⟨rfl, ⟨_, rfl⟩, by decide, by decide, fun _ _ h => h⟩, rfl, trivial⟩
                            · refine ⟨?_, ?_, ?_, ?_, ?_, ?_, ?_, ?_, ?_, ?_, ?_, ?_, ?_, ?_, ?_, ?_, ?_, ?_, ?_, ?_, ?_, ?_, ?_, ?_, ?_, ?_, ?_, ?_, ?_, ?_, ?_, ?_, ?_, ?_, ?_, ?_, ?_, ?_, ?_, ?_, ?_, ?_, ?_, ?_, ?_, ?_, ?_, ?_, trivial⟩
                              · intro _ a' w' hb' hs hd hn Kc hK
                                have f6 : a'.tmps[6]?.getD undef = .slice pw j cw := (hs 6 (by decide)).trans rfl
                                clear hs hd hn
                                rw [if_neg (by decide), if_neg (by decide)] at hK
                                have v0' := (hb'.cell (p := ⟨bl, ol + k, none⟩) hlk).trans vk
                                have i1' := i1.below hb'
                                have i2' := i2.below hb'
                                have i3' := i3.below hb'
                                have k1' := k1.below hb'
                                have k2' := k2.below hb'
                                obtain ⟨lh, h0', h1', h2'⟩ := three_cells (gHr.below hb')
                                obtain ⟨lg, g0', g1', g2'⟩ := three_cells (gGr.below hb')
                                unfold Oper.wp
                                go_simp
                                try go_bits
                                exact hK _ _ (Below.refl _ _) (by first | rfl | (show Value.int _ _ = Value.int _ _; go_num; done) | (simp [valOf, *]; done) | (simp [valOf]; omega))
                              · intro _ a' w' hb' hs hd hn Kc hK
                                have f19 : a'.tmps[19]?.getD undef = .slice (some ⟨bl, ol, none⟩) kl cl := (hs 19 (by decide)).trans rfl
                                clear hs hd hn
                                rw [if_neg (by decide), if_neg (by decide)] at hK
                                have v0' := (hb'.cell (p := ⟨bl, ol + k, none⟩) hlk).trans vk
                                have i1' := i1.below hb'
                                have i2' := i2.below hb'
                                have i3' := i3.below hb'
                                have k1' := k1.below hb'
                                have k2' := k2.below hb'
                                obtain ⟨lh, h0', h1', h2'⟩ := three_cells (gHr.below hb')
                                obtain ⟨lg, g0', g1', g2'⟩ := three_cells (gGr.below hb')
                                unfold Oper.wp
                                go_simp
                                try go_bits
                                exact hK _ _ (Below.refl _ _) (by first | rfl | (show Value.int _ _ = Value.int _ _; go_num; done) | (simp [valOf, *]; done) | (simp [valOf]; omega))
                              · intro _ a' w' hb' hs hd hn Kc hK
                                have f20 : a'.tmps[20]?.getD undef = .int .i64 (k : Int) := (hs 20 (by decide)).trans rfl
                                clear hs hd hn
                                rw [if_neg (by decide), if_neg (by decide)] at hK
                                have v0' := (hb'.cell (p := ⟨bl, ol + k, none⟩) hlk).trans vk
                                have i1' := i1.below hb'
                                have i2' := i2.below hb'
                                have i3' := i3.below hb'
                                have k1' := k1.below hb'
                                have k2' := k2.below hb'
                                obtain ⟨lh, h0', h1', h2'⟩ := three_cells (gHr.below hb')
                                obtain ⟨lg, g0', g1', g2'⟩ := three_cells (gGr.below hb')
                                unfold Oper.wp
                                go_simp
                                try go_bits
                                exact hK _ _ (Below.refl _ _) (by first | rfl | (show Value.int _ _ = Value.int _ _; go_num; done) | (simp [valOf, *]; done) | (simp [valOf]; omega))
                              · intro _ a' w' hb' hs hd hn Kc hK
                                have f149 : a'.tmps[149]?.getD undef = .slice (some ⟨bl, ol, none⟩) kl cl := hd 1 149 (by first | rfl | decide | simp [Region.binds]) rfl (by decide) (by decide) rfl
                                have f150 : a'.tmps[150]?.getD undef = .int .i64 (k : Int) := hd 2 150 (by first | rfl | decide | simp [Region.binds]) rfl (by decide) (by decide) rfl
                                clear hs hd hn
                                rw [if_neg (by decide), if_neg (by decide)] at hK
                                have v0' := (hb'.cell (p := ⟨bl, ol + k, none⟩) hlk).trans vk
                                have i1' := i1.below hb'
                                have i2' := i2.below hb'
                                have i3' := i3.below hb'
                                have k1' := k1.below hb'
                                have k2' := k2.below hb'
                                obtain ⟨lh, h0', h1', h2'⟩ := three_cells (gHr.below hb')
                                obtain ⟨lg, g0', g1', g2'⟩ := three_cells (gGr.below hb')
                                unfold Oper.wp
                                go_simp
                                try go_bits
                                exact hK _ _ (Below.refl _ _) (by first | rfl | (show Value.int _ _ = Value.int _ _; go_num; done) | (simp [valOf, *]; done) | (simp [valOf]; omega))
                              · intro _ a' w' hb' hs hd hn Kc hK
                                have f151 : a'.tmps[151]?.getD undef = .pointer (some ⟨bl, ol + k, none⟩) := hd 3 151 (by first | rfl | decide | simp [Region.binds]) rfl (by decide) (by decide) rfl
                                clear hs hd hn
                                rw [if_neg (by decide), if_neg (by decide)] at hK
                                have v0' := (hb'.cell (p := ⟨bl, ol + k, none⟩) hlk).trans vk
                                have i1' := i1.below hb'
                                have i2' := i2.below hb'
                                have i3' := i3.below hb'
                                have k1' := k1.below hb'
                                have k2' := k2.below hb'
                                obtain ⟨lh, h0', h1', h2'⟩ := three_cells (gHr.below hb')
                                obtain ⟨lg, g0', g1', g2'⟩ := three_cells (gGr.below hb')
                                unfold Oper.wp
                                go_simp
                                try go_bits
                                exact hK _ _ (Below.refl _ _) (by first | rfl | (show Value.int _ _ = Value.int _ _; go_num; done) | (simp [valOf, *]; done) | (simp [valOf]; omega))
                              · intro _ a' w' hb' hs hd hn Kc hK
                                have f148 : a'.tmps[148]?.getD undef = .slice pw j cw := hd 0 148 (by first | rfl | decide | simp [Region.binds]) rfl (by decide) (by decide) rfl
                                have f152 : a'.tmps[152]?.getD undef = .int .i64 X := hd 4 152 (by first | rfl | decide | simp [Region.binds]) rfl (by decide) (by decide) rfl
                                clear hs hd hn
                                rw [if_neg (by decide), if_neg (by decide)] at hK
                                have v0' := (hb'.cell (p := ⟨bl, ol + k, none⟩) hlk).trans vk
                                have i1' := i1.below hb'
                                have i2' := i2.below hb'
                                have i3' := i3.below hb'
                                have k1' := k1.below hb'
                                have k2' := k2.below hb'
                                obtain ⟨lh, h0', h1', h2'⟩ := three_cells (gHr.below hb')
                                obtain ⟨lg, g0', g1', g2'⟩ := three_cells (gGr.below hb')
                                unfold Oper.wp
                                go_simp
                                try go_bits
                                refine Calls.mono (hInn _ _ _ _ _ _ (by assumption) (by assumption)) ?_
                                rintro e w'' ⟨rfl, hb2⟩
                                exact hK _ _ hb2 rfl
                              · intro _ a' w' hb' hs hd hn Kc hK
                                have f153 : a'.tmps[153]?.getD undef = .bool false := hd 5 153 (by first | rfl | decide | simp [Region.binds]) rfl (by decide) (by decide) rfl
                                clear hs hd hn
                                rw [if_neg (by decide), if_neg (by decide)] at hK
                                have v0' := (hb'.cell (p := ⟨bl, ol + k, none⟩) hlk).trans vk
                                have i1' := i1.below hb'
                                have i2' := i2.below hb'
                                have i3' := i3.below hb'
                                have k1' := k1.below hb'
                                have k2' := k2.below hb'
                                obtain ⟨lh, h0', h1', h2'⟩ := three_cells (gHr.below hb')
                                obtain ⟨lg, g0', g1', g2'⟩ := three_cells (gGr.below hb')
                                unfold Oper.wp
                                go_simp
                                try go_bits
                                exact hK _ _ (Below.refl _ _) (by first | rfl | (show Value.int _ _ = Value.int _ _; go_num; done) | (simp [valOf, *]; done) | (simp [valOf]; omega))
                              · exact fun h => absurd h (by decide)
                              · exact fun h => absurd h (by decide)
                              · exact fun h => absurd h (by decide)
                              · exact fun h => absurd h (by decide)
                              · exact fun h => absurd h (by decide)
                              · exact fun h => absurd h (by decide)
                              · exact fun h => absurd h (by decide)
                              · intro _ a' w' hb' hs hd hn Kc hK
                                have f154 : a'.tmps[154]?.getD undef = .bool false := hd 6 154 (by first | rfl | decide | simp [Region.binds]) rfl (by decide) (by decide) rfl
                                clear hs hd hn
                                rw [if_neg (by decide), if_neg (by decide)] at hK
                                have v0' := (hb'.cell (p := ⟨bl, ol + k, none⟩) hlk).trans vk
                                have i1' := i1.below hb'
                                have i2' := i2.below hb'
                                have i3' := i3.below hb'
                                have k1' := k1.below hb'
                                have k2' := k2.below hb'
                                obtain ⟨lh, h0', h1', h2'⟩ := three_cells (gHr.below hb')
                                obtain ⟨lg, g0', g1', g2'⟩ := three_cells (gGr.below hb')
                                unfold Oper.wp
                                go_simp
                                try go_bits
                                exact hK _ _ (Below.refl _ _) (by first | rfl | (show Value.int _ _ = Value.int _ _; go_num; done) | (simp [valOf, *]; done) | (simp [valOf]; omega))
                              · intro _ a' w' hb' hs hd hn Kc hK
                                have f162 : a'.tmps[162]?.getD undef = .bool false := hd 14 162 (by first | rfl | decide | simp [Region.binds]) rfl (by decide) (by decide) rfl
                                clear hs hd hn
                                rw [if_neg (by decide), if_neg (by decide)] at hK
                                have v0' := (hb'.cell (p := ⟨bl, ol + k, none⟩) hlk).trans vk
                                have i1' := i1.below hb'
                                have i2' := i2.below hb'
                                have i3' := i3.below hb'
                                have k1' := k1.below hb'
                                have k2' := k2.below hb'
                                obtain ⟨lh, h0', h1', h2'⟩ := three_cells (gHr.below hb')
                                obtain ⟨lg, g0', g1', g2'⟩ := three_cells (gGr.below hb')
                                unfold Oper.wp
                                go_simp
                                try go_bits
                                exact hK _ _ (Below.refl _ _) (by first | rfl | (show Value.int _ _ = Value.int _ _; go_num; done) | (simp [valOf, *]; done) | (simp [valOf]; omega))
                              · intro _ a' w' hb' hs hd hn Kc hK
                                have f18 : a'.tmps[18]?.getD undef = .slice pn kn cn := (hs 18 (by decide)).trans rfl
                                clear hs hd hn
                                rw [if_neg (by decide), if_neg (by decide)] at hK
                                have v0' := (hb'.cell (p := ⟨bl, ol + k, none⟩) hlk).trans vk
                                have i1' := i1.below hb'
                                have i2' := i2.below hb'
                                have i3' := i3.below hb'
                                have k1' := k1.below hb'
                                have k2' := k2.below hb'
                                obtain ⟨lh, h0', h1', h2'⟩ := three_cells (gHr.below hb')
                                obtain ⟨lg, g0', g1', g2'⟩ := three_cells (gGr.below hb')
                                unfold Oper.wp
                                go_simp
                                try go_bits
                                exact hK _ _ (Below.refl _ _) (by first | rfl | (show Value.int _ _ = Value.int _ _; go_num; done) | (simp [valOf, *]; done) | (simp [valOf]; omega))
                              · intro _ a' w' hb' hs hd hn Kc hK
                                have f19 : a'.tmps[19]?.getD undef = .slice (some ⟨bl, ol, none⟩) kl cl := (hs 19 (by decide)).trans rfl
                                clear hs hd hn
                                rw [if_neg (by decide), if_neg (by decide)] at hK
                                have v0' := (hb'.cell (p := ⟨bl, ol + k, none⟩) hlk).trans vk
                                have i1' := i1.below hb'
                                have i2' := i2.below hb'
                                have i3' := i3.below hb'
                                have k1' := k1.below hb'
                                have k2' := k2.below hb'
                                obtain ⟨lh, h0', h1', h2'⟩ := three_cells (gHr.below hb')
                                obtain ⟨lg, g0', g1', g2'⟩ := three_cells (gGr.below hb')
                                unfold Oper.wp
                                go_simp
                                try go_bits
                                exact hK _ _ (Below.refl _ _) (by first | rfl | (show Value.int _ _ = Value.int _ _; go_num; done) | (simp [valOf, *]; done) | (simp [valOf]; omega))
                              · intro _ a' w' hb' hs hd hn Kc hK
                                have f20 : a'.tmps[20]?.getD undef = .int .i64 (k : Int) := (hs 20 (by decide)).trans rfl
                                clear hs hd hn
                                rw [if_neg (by decide), if_neg (by decide)] at hK
                                have v0' := (hb'.cell (p := ⟨bl, ol + k, none⟩) hlk).trans vk
                                have i1' := i1.below hb'
                                have i2' := i2.below hb'
                                have i3' := i3.below hb'
                                have k1' := k1.below hb'
                                have k2' := k2.below hb'
                                obtain ⟨lh, h0', h1', h2'⟩ := three_cells (gHr.below hb')
                                obtain ⟨lg, g0', g1', g2'⟩ := three_cells (gGr.below hb')
                                unfold Oper.wp
                                go_simp
                                try go_bits
                                exact hK _ _ (Below.refl _ _) (by first | rfl | (show Value.int _ _ = Value.int _ _; go_num; done) | (simp [valOf, *]; done) | (simp [valOf]; omega))
                              · intro _ a' w' hb' hs hd hn Kc hK
                                have f165 : a'.tmps[165]?.getD undef = .slice (some ⟨bl, ol, none⟩) kl cl := hd 17 165 (by first | rfl | decide | simp [Region.binds]) rfl (by decide) (by decide) rfl
                                have f166 : a'.tmps[166]?.getD undef = .int .i64 (k : Int) := hd 18 166 (by first | rfl | decide | simp [Region.binds]) rfl (by decide) (by decide) rfl
                                clear hs hd hn
                                rw [if_neg (by decide), if_neg (by decide)] at hK
                                have v0' := (hb'.cell (p := ⟨bl, ol + k, none⟩) hlk).trans vk
                                have i1' := i1.below hb'
                                have i2' := i2.below hb'
                                have i3' := i3.below hb'
                                have k1' := k1.below hb'
                                have k2' := k2.below hb'
                                obtain ⟨lh, h0', h1', h2'⟩ := three_cells (gHr.below hb')
                                obtain ⟨lg, g0', g1', g2'⟩ := three_cells (gGr.below hb')
                                unfold Oper.wp
                                go_simp
                                try go_bits
                                exact hK _ _ (Below.refl _ _) (by first | rfl | (show Value.int _ _ = Value.int _ _; go_num; done) | (simp [valOf, *]; done) | (simp [valOf]; omega))
                              · intro _ a' w' hb' hs hd hn Kc hK
                                have f167 : a'.tmps[167]?.getD undef = .pointer (some ⟨bl, ol + k, none⟩) := hd 19 167 (by first | rfl | decide | simp [Region.binds]) rfl (by decide) (by decide) rfl
                                clear hs hd hn
                                rw [if_neg (by decide), if_neg (by decide)] at hK
                                have v0' := (hb'.cell (p := ⟨bl, ol + k, none⟩) hlk).trans vk
                                have i1' := i1.below hb'
                                have i2' := i2.below hb'
                                have i3' := i3.below hb'
                                have k1' := k1.below hb'
                                have k2' := k2.below hb'
                                obtain ⟨lh, h0', h1', h2'⟩ := three_cells (gHr.below hb')
                                obtain ⟨lg, g0', g1', g2'⟩ := three_cells (gGr.below hb')
                                unfold Oper.wp
                                go_simp
                                try go_bits
                                exact hK _ _ (Below.refl _ _) (by first | rfl | (show Value.int _ _ = Value.int _ _; go_num; done) | (simp [valOf, *]; done) | (simp [valOf]; omega))
                              · intro _ a' w' hb' hs hd hn Kc hK
                                have f164 : a'.tmps[164]?.getD undef = .slice pn kn cn := hd 16 164 (by first | rfl | decide | simp [Region.binds]) rfl (by decide) (by decide) rfl
                                have f168 : a'.tmps[168]?.getD undef = .int .i64 X := hd 20 168 (by first | rfl | decide | simp [Region.binds]) rfl (by decide) (by decide) rfl
                                clear hs hd hn
                                rw [if_neg (by decide), if_neg (by decide)] at hK
                                have v0' := (hb'.cell (p := ⟨bl, ol + k, none⟩) hlk).trans vk
                                have i1' := i1.below hb'
                                have i2' := i2.below hb'
                                have i3' := i3.below hb'
                                have k1' := k1.below hb'
                                have k2' := k2.below hb'
                                obtain ⟨lh, h0', h1', h2'⟩ := three_cells (gHr.below hb')
                                obtain ⟨lg, g0', g1', g2'⟩ := three_cells (gGr.below hb')
                                unfold Oper.wp
                                go_simp
                                try go_bits
                                refine Calls.mono (hInn _ _ _ _ _ _ (by assumption) (by assumption)) ?_
                                rintro e w'' ⟨rfl, hb2⟩
                                exact hK _ _ hb2 rfl
                              · intro _ a' w' hb' hs hd hn Kc hK
                                have f169 : a'.tmps[169]?.getD undef = .bool false := hd 21 169 (by first | rfl | decide | simp [Region.binds]) rfl (by decide) (by decide) rfl
                                clear hs hd hn
                                rw [if_neg (by decide), if_neg (by decide)] at hK
                                have v0' := (hb'.cell (p := ⟨bl, ol + k, none⟩) hlk).trans vk
                                have i1' := i1.below hb'
                                have i2' := i2.below hb'
                                have i3' := i3.below hb'
                                have k1' := k1.below hb'
                                have k2' := k2.below hb'
                                obtain ⟨lh, h0', h1', h2'⟩ := three_cells (gHr.below hb')
                                obtain ⟨lg, g0', g1', g2'⟩ := three_cells (gGr.below hb')
                                unfold Oper.wp
                                go_simp
                                try go_bits
                                exact hK _ _ (Below.refl _ _) (by first | rfl | (show Value.int _ _ = Value.int _ _; go_num; done) | (simp [valOf, *]; done) | (simp [valOf]; omega))
                              · exact fun h => absurd h (by decide)
                              · exact fun h => absurd h (by decide)
                              · exact fun h => absurd h (by decide)
                              · exact fun h => absurd h (by decide)
                              · exact fun h => absurd h (by decide)
                              · exact fun h => absurd h (by decide)
                              · exact fun h => absurd h (by decide)
                              · intro _ a' w' hb' hs hd hn Kc hK
                                have f170 : a'.tmps[170]?.getD undef = .bool false := hd 22 170 (by first | rfl | decide | simp [Region.binds]) rfl (by decide) (by decide) rfl
                                clear hs hd hn
                                rw [if_neg (by decide), if_neg (by decide)] at hK
                                have v0' := (hb'.cell (p := ⟨bl, ol + k, none⟩) hlk).trans vk
                                have i1' := i1.below hb'
                                have i2' := i2.below hb'
                                have i3' := i3.below hb'
                                have k1' := k1.below hb'
                                have k2' := k2.below hb'
                                obtain ⟨lh, h0', h1', h2'⟩ := three_cells (gHr.below hb')
                                obtain ⟨lg, g0', g1', g2'⟩ := three_cells (gGr.below hb')
                                unfold Oper.wp
                                go_simp
                                try go_bits
                                exact hK _ _ (Below.refl _ _) (by first | rfl | (show Value.int _ _ = Value.int _ _; go_num; done) | (simp [valOf, *]; done) | (simp [valOf]; omega))
                              · intro _ a' w' hb' hs hd hn Kc hK
                                have f163 : a'.tmps[163]?.getD undef = .bool false := hd 15 163 (by first | rfl | decide | simp [Region.binds]) rfl (by decide) (by decide) rfl
                                have f178 : a'.tmps[178]?.getD undef = .bool false := hd 30 178 (by first | rfl | decide | simp [Region.binds]) rfl (by decide) (by decide) rfl
                                clear hs hd hn
                                rw [if_neg (by decide), if_neg (by decide)] at hK
                                have v0' := (hb'.cell (p := ⟨bl, ol + k, none⟩) hlk).trans vk
                                have i1' := i1.below hb'
                                have i2' := i2.below hb'
                                have i3' := i3.below hb'
                                have k1' := k1.below hb'
                                have k2' := k2.below hb'
                                obtain ⟨lh, h0', h1', h2'⟩ := three_cells (gHr.below hb')
                                obtain ⟨lg, g0', g1', g2'⟩ := three_cells (gGr.below hb')
                                unfold Oper.wp
                                go_simp
                                try go_bits
                                exact hK _ _ (Below.refl _ _) (by first | rfl | (show Value.int _ _ = Value.int _ _; go_num; done) | (simp [valOf, *]; done) | (simp [valOf]; omega))
                              · intro _ a' w' hb' hs hd hn Kc hK
                                have f179 : a'.tmps[179]?.getD undef = .bool false := hd 31 179 (by first | rfl | decide | simp [Region.binds]) rfl (by decide) (by decide) rfl
                                clear hs hd hn
                                rw [if_neg (by decide), if_neg (by decide)] at hK
                                have v0' := (hb'.cell (p := ⟨bl, ol + k, none⟩) hlk).trans vk
                                have i1' := i1.below hb'
                                have i2' := i2.below hb'
                                have i3' := i3.below hb'
                                have k1' := k1.below hb'
                                have k2' := k2.below hb'
                                obtain ⟨lh, h0', h1', h2'⟩ := three_cells (gHr.below hb')
                                obtain ⟨lg, g0', g1', g2'⟩ := three_cells (gGr.below hb')
                                unfold Oper.wp
                                go_simp
                                try go_bits
                                exact hK _ _ (Below.refl _ _) (by first | rfl | (show Value.int _ _ = Value.int _ _; go_num; done) | (simp [valOf, *]; done) | (simp [valOf]; omega))
                              · intro _ a' w' hb' hs hd hn Kc hK
                                have f2 : a'.tmps[2]?.getD undef = .pointer (some ⟨w.heap.size, 0, none⟩) := (hs 2 (by decide)).trans rfl
                                clear hs hd hn
                                rw [if_neg (by decide), if_neg (by decide)] at hK
                                have v0' := (hb'.cell (p := ⟨bl, ol + k, none⟩) hlk).trans vk
                                have i1' := i1.below hb'
                                have i2' := i2.below hb'
                                have i3' := i3.below hb'
                                have k1' := k1.below hb'
                                have k2' := k2.below hb'
                                obtain ⟨lh, h0', h1', h2'⟩ := three_cells (gHr.below hb')
                                obtain ⟨lg, g0', g1', g2'⟩ := three_cells (gGr.below hb')
                                unfold Oper.wp
                                go_simp
                                try go_bits
                                exact hK _ _ (Below.refl _ _) (by first | rfl | (show Value.int _ _ = Value.int _ _; go_num; done) | (simp [valOf, *]; done) | (simp [valOf]; omega))
                              · intro _ a' w' hb' hs hd hn Kc hK
                                have f19 : a'.tmps[19]?.getD undef = .slice (some ⟨bl, ol, none⟩) kl cl := (hs 19 (by decide)).trans rfl
                                clear hs hd hn
                                rw [if_neg (by decide), if_neg (by decide)] at hK
                                have v0' := (hb'.cell (p := ⟨bl, ol + k, none⟩) hlk).trans vk
                                have i1' := i1.below hb'
                                have i2' := i2.below hb'
                                have i3' := i3.below hb'
                                have k1' := k1.below hb'
                                have k2' := k2.below hb'
                                obtain ⟨lh, h0', h1', h2'⟩ := three_cells (gHr.below hb')
                                obtain ⟨lg, g0', g1', g2'⟩ := three_cells (gGr.below hb')
                                unfold Oper.wp
                                go_simp
                                try go_bits
                                exact hK _ _ (Below.refl _ _) (by first | rfl | (show Value.int _ _ = Value.int _ _; go_num; done) | (simp [valOf, *]; done) | (simp [valOf]; omega))
                              · intro _ a' w' hb' hs hd hn Kc hK
                                have f20 : a'.tmps[20]?.getD undef = .int .i64 (k : Int) := (hs 20 (by decide)).trans rfl
                                clear hs hd hn
                                rw [if_neg (by decide), if_neg (by decide)] at hK
                                have v0' := (hb'.cell (p := ⟨bl, ol + k, none⟩) hlk).trans vk
                                have i1' := i1.below hb'
                                have i2' := i2.below hb'
                                have i3' := i3.below hb'
                                have k1' := k1.below hb'
                                have k2' := k2.below hb'
                                obtain ⟨lh, h0', h1', h2'⟩ := three_cells (gHr.below hb')
                                obtain ⟨lg, g0', g1', g2'⟩ := three_cells (gGr.below hb')
                                unfold Oper.wp
                                go_simp
                                try go_bits
                                exact hK _ _ (Below.refl _ _) (by first | rfl | (show Value.int _ _ = Value.int _ _; go_num; done) | (simp [valOf, *]; done) | (simp [valOf]; omega))
                              · intro _ a' w' hb' hs hd hn Kc hK
                                have f182 : a'.tmps[182]?.getD undef = .slice (some ⟨bl, ol, none⟩) kl cl := hd 34 182 (by first | rfl | decide | simp [Region.binds]) rfl (by decide) (by decide) rfl
                                have f183 : a'.tmps[183]?.getD undef = .int .i64 (k : Int) := hd 35 183 (by first | rfl | decide | simp [Region.binds]) rfl (by decide) (by decide) rfl
                                clear hs hd hn
                                rw [if_neg (by decide), if_neg (by decide)] at hK
                                have v0' := (hb'.cell (p := ⟨bl, ol + k, none⟩) hlk).trans vk
                                have i1' := i1.below hb'
                                have i2' := i2.below hb'
                                have i3' := i3.below hb'
                                have k1' := k1.below hb'
                                have k2' := k2.below hb'
                                obtain ⟨lh, h0', h1', h2'⟩ := three_cells (gHr.below hb')
                                obtain ⟨lg, g0', g1', g2'⟩ := three_cells (gGr.below hb')
                                unfold Oper.wp
                                go_simp
                                try go_bits
                                exact hK _ _ (Below.refl _ _) (by first | rfl | (show Value.int _ _ = Value.int _ _; go_num; done) | (simp [valOf, *]; done) | (simp [valOf]; omega))
                              · intro _ a' w' hb' hs hd hn Kc hK
                                have f184 : a'.tmps[184]?.getD undef = .pointer (some ⟨bl, ol + k, none⟩) := hd 36 184 (by first | rfl | decide | simp [Region.binds]) rfl (by decide) (by decide) rfl
                                clear hs hd hn
                                rw [if_neg (by decide), if_neg (by decide)] at hK
                                have v0' := (hb'.cell (p := ⟨bl, ol + k, none⟩) hlk).trans vk
                                have i1' := i1.below hb'
                                have i2' := i2.below hb'
                                have i3' := i3.below hb'
                                have k1' := k1.below hb'
                                have k2' := k2.below hb'
                                obtain ⟨lh, h0', h1', h2'⟩ := three_cells (gHr.below hb')
                                obtain ⟨lg, g0', g1', g2'⟩ := three_cells (gGr.below hb')
                                unfold Oper.wp
                                go_simp
                                try go_bits
                                exact hK _ _ (Below.refl _ _) (by first | rfl | (show Value.int _ _ = Value.int _ _; go_num; done) | (simp [valOf, *]; done) | (simp [valOf]; omega))
                              · intro _ a' w' hb' hs hd hn Kc hK
                                have f181 : a'.tmps[181]?.getD undef = .agg #[.slice p h.n c, .slice q h.m d, .bool h.b] := hd 33 181 (by first | rfl | decide | simp [Region.binds]) rfl (by decide) (by decide) rfl
                                have f185 : a'.tmps[185]?.getD undef = .int .i64 X := hd 37 185 (by first | rfl | decide | simp [Region.binds]) rfl (by decide) (by decide) rfl
                                clear hs hd hn
                                rw [if_neg (by decide), if_neg (by decide)] at hK
                                have v0' := (hb'.cell (p := ⟨bl, ol + k, none⟩) hlk).trans vk
                                have i1' := i1.below hb'
                                have i2' := i2.below hb'
                                have i3' := i3.below hb'
                                have k1' := k1.below hb'
                                have k2' := k2.below hb'
                                obtain ⟨lh, h0', h1', h2'⟩ := three_cells (gHr.below hb')
                                obtain ⟨lg, g0', g1', g2'⟩ := three_cells (gGr.below hb')
                                unfold Oper.wp
                                go_simp
                                try go_bits
                                refine Calls.mono (hRf _ _ _ _ _ _ (by assumption) (by assumption)) ?_
                                rintro e w'' ⟨pm, cm, rfl, hA, hb2⟩
                                exact hK _ _ hb2 ⟨_, _, rfl, hA⟩
                              · intro _ a' w' hb' hs hd hn Kc hK
                                have f13 : a'.tmps[13]?.getD undef = .pointer (some ⟨BG, 0, none⟩) := (hs 13 (by decide)).trans rfl
                                clear hs hd hn
                                rw [if_neg (by decide), if_neg (by decide)] at hK
                                have v0' := (hb'.cell (p := ⟨bl, ol + k, none⟩) hlk).trans vk
                                have i1' := i1.below hb'
                                have i2' := i2.below hb'
                                have i3' := i3.below hb'
                                have k1' := k1.below hb'
                                have k2' := k2.below hb'
                                obtain ⟨lh, h0', h1', h2'⟩ := three_cells (gHr.below hb')
                                obtain ⟨lg, g0', g1', g2'⟩ := three_cells (gGr.below hb')
                                unfold Oper.wp
                                go_simp
                                try go_bits
                                exact hK _ _ (Below.refl _ _) (by first | rfl | (show Value.int _ _ = Value.int _ _; go_num; done) | (simp [valOf, *]; done) | (simp [valOf]; omega))
                              · intro _ a' w' hb' hs hd hn Kc hK
                                have f19 : a'.tmps[19]?.getD undef = .slice (some ⟨bl, ol, none⟩) kl cl := (hs 19 (by decide)).trans rfl
                                clear hs hd hn
                                rw [if_neg (by decide), if_neg (by decide)] at hK
                                have v0' := (hb'.cell (p := ⟨bl, ol + k, none⟩) hlk).trans vk
                                have i1' := i1.below hb'
                                have i2' := i2.below hb'
                                have i3' := i3.below hb'
                                have k1' := k1.below hb'
                                have k2' := k2.below hb'
                                obtain ⟨lh, h0', h1', h2'⟩ := three_cells (gHr.below hb')
                                obtain ⟨lg, g0', g1', g2'⟩ := three_cells (gGr.below hb')
                                unfold Oper.wp
                                go_simp
                                try go_bits
                                exact hK _ _ (Below.refl _ _) (by first | rfl | (show Value.int _ _ = Value.int _ _; go_num; done) | (simp [valOf, *]; done) | (simp [valOf]; omega))
                              · intro _ a' w' hb' hs hd hn Kc hK
                                have f20 : a'.tmps[20]?.getD undef = .int .i64 (k : Int) := (hs 20 (by decide)).trans rfl
                                clear hs hd hn
                                rw [if_neg (by decide), if_neg (by decide)] at hK
                                have v0' := (hb'.cell (p := ⟨bl, ol + k, none⟩) hlk).trans vk
                                have i1' := i1.below hb'
                                have i2' := i2.below hb'
                                have i3' := i3.below hb'
                                have k1' := k1.below hb'
                                have k2' := k2.below hb'
                                obtain ⟨lh, h0', h1', h2'⟩ := three_cells (gHr.below hb')
                                obtain ⟨lg, g0', g1', g2'⟩ := three_cells (gGr.below hb')
                                unfold Oper.wp
                                go_simp
                                try go_bits
                                exact hK _ _ (Below.refl _ _) (by first | rfl | (show Value.int _ _ = Value.int _ _; go_num; done) | (simp [valOf, *]; done) | (simp [valOf]; omega))
                              · intro _ a' w' hb' hs hd hn Kc hK
                                have f188 : a'.tmps[188]?.getD undef = .slice (some ⟨bl, ol, none⟩) kl cl := hd 40 188 (by first | rfl | decide | simp [Region.binds]) rfl (by decide) (by decide) rfl
                                have f189 : a'.tmps[189]?.getD undef = .int .i64 (k : Int) := hd 41 189 (by first | rfl | decide | simp [Region.binds]) rfl (by decide) (by decide) rfl
                                clear hs hd hn
                                rw [if_neg (by decide), if_neg (by decide)] at hK
                                have v0' := (hb'.cell (p := ⟨bl, ol + k, none⟩) hlk).trans vk
                                have i1' := i1.below hb'
                                have i2' := i2.below hb'
                                have i3' := i3.below hb'
                                have k1' := k1.below hb'
                                have k2' := k2.below hb'
                                obtain ⟨lh, h0', h1', h2'⟩ := three_cells (gHr.below hb')
                                obtain ⟨lg, g0', g1', g2'⟩ := three_cells (gGr.below hb')
                                unfold Oper.wp
                                go_simp
                                try go_bits
                                exact hK _ _ (Below.refl _ _) (by first | rfl | (show Value.int _ _ = Value.int _ _; go_num; done) | (simp [valOf, *]; done) | (simp [valOf]; omega))
                              · intro _ a' w' hb' hs hd hn Kc hK
                                have f190 : a'.tmps[190]?.getD undef = .pointer (some ⟨bl, ol + k, none⟩) := hd 42 190 (by first | rfl | decide | simp [Region.binds]) rfl (by decide) (by decide) rfl
                                clear hs hd hn
                                rw [if_neg (by decide), if_neg (by decide)] at hK
                                have v0' := (hb'.cell (p := ⟨bl, ol + k, none⟩) hlk).trans vk
                                have i1' := i1.below hb'
                                have i2' := i2.below hb'
                                have i3' := i3.below hb'
                                have k1' := k1.below hb'
                                have k2' := k2.below hb'
                                obtain ⟨lh, h0', h1', h2'⟩ := three_cells (gHr.below hb')
                                obtain ⟨lg, g0', g1', g2'⟩ := three_cells (gGr.below hb')
                                unfold Oper.wp
                                go_simp
                                try go_bits
                                exact hK _ _ (Below.refl _ _) (by first | rfl | (show Value.int _ _ = Value.int _ _; go_num; done) | (simp [valOf, *]; done) | (simp [valOf]; omega))
                              · intro _ a' w' hb' hs hd hn Kc hK
                                have f187 : a'.tmps[187]?.getD undef = .agg #[.slice p1 h.n c1, .slice q1 h.m d1, .bool h.b] := hd 39 187 (by first | rfl | decide | simp [Region.binds]) rfl (by decide) (by decide) rfl
                                have f191 : a'.tmps[191]?.getD undef = .int .i64 X := hd 43 191 (by first | rfl | decide | simp [Region.binds]) rfl (by decide) (by decide) rfl
                                clear hs hd hn
                                rw [if_neg (by decide), if_neg (by decide)] at hK
                                have v0' := (hb'.cell (p := ⟨bl, ol + k, none⟩) hlk).trans vk
                                have i1' := i1.below hb'
                                have i2' := i2.below hb'
                                have i3' := i3.below hb'
                                have k1' := k1.below hb'
                                have k2' := k2.below hb'
                                obtain ⟨lh, h0', h1', h2'⟩ := three_cells (gHr.below hb')
                                obtain ⟨lg, g0', g1', g2'⟩ := three_cells (gGr.below hb')
                                unfold Oper.wp
                                go_simp
                                try go_bits
                                refine Calls.mono (hRf _ _ _ _ _ _ (by assumption) (by assumption)) ?_
                                rintro e w'' ⟨pm, cm, rfl, hA, hb2⟩
                                exact hK _ _ hb2 ⟨_, _, rfl, hA⟩
                              · intro _ a' w' hb' hs hd hn Kc hK
                                obtain ⟨pm, cm, f186, hA⟩ := hd 38 186 (by first | rfl | decide | simp [Region.binds]) rfl (by decide) (by decide) rfl
                                obtain ⟨pm, cm, f192, hA⟩ := hd 44 192 (by first | rfl | decide | simp [Region.binds]) rfl (by decide) (by decide) rfl
                                clear hs hd hn
                                rw [if_neg (by decide), if_neg (by decide)] at hK
                                have v0' := (hb'.cell (p := ⟨bl, ol + k, none⟩) hlk).trans vk
                                have i1' := i1.below hb'
                                have i2' := i2.below hb'
                                have i3' := i3.below hb'
                                have k1' := k1.below hb'
                                have k2' := k2.below hb'
                                obtain ⟨lh, h0', h1', h2'⟩ := three_cells (gHr.below hb')
                                obtain ⟨lg, g0', g1', g2'⟩ := three_cells (gGr.below hb')
                                unfold Oper.wp
                                go_simp
                                try go_bits
                                refine Calls.mono (hII _ _ _ _ _ (by assumption) (by assumption)) ?_
                                rintro e w'' ⟨rfl, hb2⟩
                                exact hK _ _ hb2 rfl
                              · intro _ a' w' hb' hs hd hn Kc hK
                                have f193 : a'.tmps[193]?.getD undef = .bool true := hd 45 193 (by first | rfl | decide | simp [Region.binds]) rfl (by decide) (by decide) rfl
                                clear hs hd hn
                                rw [if_neg (by decide), if_neg (by decide)] at hK
                                have v0' := (hb'.cell (p := ⟨bl, ol + k, none⟩) hlk).trans vk
                                have i1' := i1.below hb'
                                have i2' := i2.below hb'
                                have i3' := i3.below hb'
                                have k1' := k1.below hb'
                                have k2' := k2.below hb'
                                obtain ⟨lh, h0', h1', h2'⟩ := three_cells (gHr.below hb')
                                obtain ⟨lg, g0', g1', g2'⟩ := three_cells (gGr.below hb')
                                unfold Oper.wp
                                go_simp
                                try go_bits
                                exact hK _ _ (Below.refl _ _) (by first | rfl | (show Value.int _ _ = Value.int _ _; go_num; done) | (simp [valOf, *]; done) | (simp [valOf]; omega))
                              · intro _ a' w' hb' hs hd hn Kc hK
                                have f180 : a'.tmps[180]?.getD undef = .bool false := hd 32 180 (by first | rfl | decide | simp [Region.binds]) rfl (by decide) (by decide) rfl
                                have f194 : a'.tmps[194]?.getD undef = .bool false := hd 46 194 (by first | rfl | decide | simp [Region.binds]) rfl (by decide) (by decide) rfl
                                clear hs hd hn
                                rw [if_neg (by decide), if_neg (by decide)] at hK
                                have v0' := (hb'.cell (p := ⟨bl, ol + k, none⟩) hlk).trans vk
                                have i1' := i1.below hb'
                                have i2' := i2.below hb'
                                have i3' := i3.below hb'
                                have k1' := k1.below hb'
                                have k2' := k2.below hb'
                                obtain ⟨lh, h0', h1', h2'⟩ := three_cells (gHr.below hb')
                                obtain ⟨lg, g0', g1', g2'⟩ := three_cells (gGr.below hb')
                                unfold Oper.wp
                                go_simp
                                try go_bits
                                exact hK _ _ (Below.refl _ _) (by first | rfl | (show Value.int _ _ = Value.int _ _; go_num; done) | (simp [valOf, *]; done) | (simp [valOf]; omega))
                            intro Xf g w' hX hb hv
                            have q195 : Xf 195 = .bool false := hv 47 195 rfl rfl (by decide) (by decide)
                            clear hX hv
                            simp only [List.map_cons, List.map_nil, q195, puts, Act.put, Nat.reduceAdd, List.setIfInBounds_toArray, List.set_cons_succ, List.set_cons_zero]
                            go_wp2
                            go_roundg (kl - (k + 1))
                            case measure => omega
                            case rel => exact ⟨k + 1, by omega, rfl, by go_num, bjoin hb hbr⟩
                          · skip
                            refine wp_late (ds := [some 148, some 149, some 150, some 151, some 152, some 153, some 154, some 155, some 156, some 157, some 158, some 159, some 160, some 161, some 162, some 163, some 164, some 165, some 166, some 167, some 168, some 169, some 170, some 171, some 172, some 173, some 174, some 175, some 176, some 177, some 178, some 179, some 180, some 181, some 182, some 183, some 184, some 185, some 186, some 187, some 188, some 189, some 190, some 191, some 192, some 193, some 194, some 195]) (ts := [148, 149, 150, 151, 152, 153, 154, 155, 156, 157, 158, 159, 160, 161, 162, 163, 164, 165, 166, 167, 168, 169, 170, 171, 172, 173, 174, 175, 176, 177, 178, 179, 180, 181, 182, 183, 184, 185, 186, 187, 188, 189, 190, 191, 192, 193, 194, 195]) (pv := [(fun v _ => v = .slice pw j cw), (fun v _ => v = .slice (some ⟨bl, ol, none⟩) kl cl), (fun v _ => v = .int .i64 (k : Int)), (fun v _ => v = .pointer (some ⟨bl, ol + k, none⟩)), (fun v _ => v = .int .i64 X), (fun v _ => v = .bool false), (fun v _ => v = .bool false), (fun _ _ => True), (fun _ _ => True), (fun _ _ => True), (fun v _ => v = .pointer (some ⟨bl, ol + k, none⟩)), (fun v _ => v = .int .i64 X), (fun v _ => v = .bool true), (fun _ _ => True), (fun v _ => v = .bool false), (fun v _ => v = .bool false), (fun v _ => v = .slice pn kn cn), (fun v _ => v = .slice (some ⟨bl, ol, none⟩) kl cl), (fun v _ => v = .int .i64 (k : Int)), (fun v _ => v = .pointer (some ⟨bl, ol + k, none⟩)), (fun v _ => v = .int .i64 X), (fun v _ => v = .bool true), (fun v _ => v = .bool true), (fun v _ => v = .slice pm km cm), (fun v _ => v = .slice (some ⟨bl, ol, none⟩) kl cl), (fun v _ => v = .int .i64 (k : Int)), (fun v _ => v = .pointer (some ⟨bl, ol + k, none⟩)), (fun v _ => v = .int .i64 X), (fun v _ => v = .bool true), (fun v _ => v = .bool false), (fun v _ => v = .bool false), (fun v _ => v = .bool false), (fun v _ => v = .bool false), (fun v _ => v = .agg #[.slice p h.n c, .slice q h.m d, .bool h.b]), (fun v _ => v = .slice (some ⟨bl, ol, none⟩) kl cl), (fun v _ => v = .int .i64 (k : Int)), (fun v _ => v = .pointer (some ⟨bl, ol + k, none⟩)), (fun v _ => v = .int .i64 X), RowV (RL.length) (fun i => RL[i]?.getD 0), (fun v _ => v = .agg #[.slice p1 h.n c1, .slice q1 h.m d1, .bool h.b]), (fun v _ => v = .slice (some ⟨bl, ol, none⟩) kl cl), (fun v _ => v = .int .i64 (k : Int)), (fun v _ => v = .pointer (some ⟨bl, ol + k, none⟩)), (fun v _ => v = .int .i64 X), RowV (RL.length) (fun i => RL[i]?.getD 0), (fun v _ => v = .bool true), (fun v _ => v = .bool false), (fun v _ => v = .bool false)]) (skip := fun i => ([7, 8, 9, 10, 11, 12, 13] : List Nat).contains i) (ia := 1000) (is := 1000) (k := 196) (Shape := (fun _ _ => True)) (Full := (fun _ _ => True)) (by kernel_rfl) (by kernel_rfl) rfl rfl (by decide) (by decide) (by simp) ?_ (by decide) (fun _ _ _ _ _ => trivial) (fun _ _ _ _ _ => trivial) ?_ ?_ ?_ ?_
                            · exact .inl rfl
                            · exact ⟨fun _ _ _ h _ => h, fun _ _ _ h _ => h, fun _ _ _ h _ => h, fun _ _ _ h _ => h, fun _ _ _ h _ => h, fun _ _ _ h _ => h, fun _ _ _ h _ => h, fun _ _ _ h _ => h, fun _ _ _ h _ => h, fun _ _ _ h _ => h, fun _ _ _ h _ => h, fun _ _ _ h _ => h, fun _ _ _ h _ => h, fun _ _ _ h _ => h, fun _ _ _ h _ => h, fun _ _ _ h _ => h, fun _ _ _ h _ => h, fun _ _ _ h _ => h, fun _ _ _ h _ => h, fun _ _ _ h _ => h, fun _ _ _ h _ => h, fun _ _ _ h _ => h, fun _ _ _ h _ => h, fun _ _ _ h _ => h, fun _ _ _ h _ => h, fun _ _ _ h _ => h, fun _ _ _ h _ => h, fun _ _ _ h _ => h, fun _ _ _ h _ => h, fun _ _ _ h _ => h, fun _ _ _ h _ => h, fun _ _ _ h _ => h, fun _ _ _ h _ => h, fun _ _ _ h _ => h, fun _ _ _ h _ => h, fun _ _ _ h _ => h, fun _ _ _ h _ => h, fun _ _ _ h _ => h, fun _ _ _ h hb => h.below hb, fun _ _ _ h _ => h, fun _ _ _ h _ => h, fun _ _ _ h _ => h, fun _ _ _ h _ => h, fun _ _ _ h _ => h, fun _ _ _ h hb => h.below hb, fun _ _ _ h _ => h, fun _ _ _ h _ => h, fun _ _ _ h _ => h, trivial⟩
                            · exact ⟨rfl, rfl, rfl, rfl, rfl, rfl, rfl, ⟨rfl, ⟨_, rfl⟩, by decide, by decide, fun _ _ h => h⟩, ⟨rfl, ⟨_, rfl⟩, by decide, by decide, fun _ _ h => h⟩, ⟨rfl, ⟨_, rfl⟩, by decide, by decide, fun _ _ h => h⟩, ⟨rfl, ⟨_, rfl⟩, by decide, by decide, fun _ _ h => h⟩, ⟨rfl, ⟨_, rfl⟩, by decide, by decide, fun _ _ h => h⟩, ⟨rfl, ⟨_, rfl⟩, by decide, by decide, fun _ _ h => h⟩, ⟨rfl, ⟨_, rfl⟩, by decide, by decide, fun _ _ h => h⟩, rfl, rfl, ⟨rfl, ⟨_, rfl⟩, by decide, by decide, fun _ _ h => h⟩, ⟨rfl, ⟨_, rfl⟩, by decide, by decide, fun _ _ h => h⟩, ⟨rfl, ⟨_, rfl⟩, by decide, by decide, fun _ _ h => h⟩, ⟨rfl, ⟨_, rfl⟩, by decide, by decide, fun _ _ h => h⟩, ⟨rfl, ⟨_, rfl⟩, by decide, by decide, fun _ _ h => h⟩, ⟨rfl, ⟨_, rfl⟩, by decide, by decide, fun _ _ h => h⟩, ⟨rfl, ⟨_, rfl⟩, by decide, by decide, fun _ _ h => h⟩, ⟨rfl, ⟨_, rfl⟩, by decide, by decide, fun _ _ h => h⟩, ⟨rfl, ⟨_, rfl⟩, by decide, by decide, fun _ _ h => h⟩, ⟨rfl, ⟨_, rfl⟩, by decide, by decide, fun _ _ h => h⟩, ⟨rfl, ⟨_, rfl⟩, by decide, by decide, fun _ _ h => h⟩, ⟨rfl, ⟨_, rfl⟩, by decide, by decide, fun _ _ h => h⟩, ⟨rfl, ⟨_, rfl⟩, by decide, by decide, fun _ _ h => h⟩, ⟨rfl, ⟨_, rfl⟩, by decide, by decide, fun _ _ h => h⟩, ⟨rfl, ⟨_, rfl⟩, by decide, by decide, fun _ _ h => h⟩, rfl, rfl, ⟨rfl, ⟨_, rfl⟩, by decide, by decide, fun _ _ h => h⟩, ⟨rfl, ⟨_, rfl⟩, by decide, by decide, fun _ _ h => h⟩, ⟨rfl, ⟨_, rfl⟩, by decide, by decide, fun _ _ h => h⟩, ⟨rfl, ⟨_, rfl⟩, by decide, by decide, fun _ _ h => h⟩, ⟨rfl, ⟨_, rfl⟩, by decide, by decide, fun _ _ h => h⟩, ⟨rfl, ⟨_, rfl⟩, by decide, by decide, fun _ _ h => h⟩, ⟨rfl, ⟨_, rfl⟩, by decide, by decide, fun _ _ h => h⟩, ⟨rfl, ⟨_, rfl⟩, by decide, by decide, fun _ _ h => h⟩, ⟨rfl, ⟨_, rfl⟩, by decide, by decide, fun _ _ h => h⟩, ⟨rfl, ⟨_, rfl⟩, by decide, by decide, fun _ _ h => h⟩, ⟨rfl, ⟨_, rfl⟩, by decide, by decide, fun _ _ h => h⟩, ⟨rfl, ⟨_, rfl⟩, by decide, by decide, fun _ _ h => h⟩, ⟨rfl, ⟨_, rfl⟩, by decide, by decide, fun _ _ h => h⟩, ⟨rfl, ⟨_, rfl⟩, by decide, by decide, fun _ _ h => h⟩, rfl, trivial⟩
                            · refine ⟨?_, ?_, ?_, ?_, ?_, ?_, ?_, ?_, ?_, ?_, ?_, ?_, ?_, ?_, ?_, ?_, ?_, ?_, ?_, ?_, ?_, ?_, ?_, ?_, ?_, ?_, ?_, ?_, ?_, ?_, ?_, ?_, ?_, ?_, ?_, ?_, ?_, ?_, ?_, ?_, ?_, ?_, ?_, ?_, ?_, ?_, ?_, ?_, trivial⟩
                              · intro _ a' w' hb' hs hd hn Kc hK
                                have f6 : a'.tmps[6]?.getD undef = .slice pw j cw := (hs 6 (by decide)).trans rfl
                                clear hs hd hn
                                rw [if_neg (by decide), if_neg (by decide)] at hK
                                have v0' := (hb'.cell (p := ⟨bl, ol + k, none⟩) hlk).trans vk
                                have i1' := i1.below hb'
                                have i2' := i2.below hb'
                                have i3' := i3.below hb'
                                have k1' := k1.below hb'
                                have k2' := k2.below hb'
                                obtain ⟨lh, h0', h1', h2'⟩ := three_cells (gHr.below hb')
                                obtain ⟨lg, g0', g1', g2'⟩ := three_cells (gGr.below hb')
                                unfold Oper.wp
                                go_simp
                                try go_bits
                                exact hK _ _ (Below.refl _ _) (by first | rfl | (show Value.int _ _ = Value.int _ _; go_num; done) | (simp [valOf, *]; done) | (simp [valOf]; omega))
                              · intro _ a' w' hb' hs hd hn Kc hK
                                have f19 : a'.tmps[19]?.getD undef = .slice (some ⟨bl, ol, none⟩) kl cl := (hs 19 (by decide)).trans rfl
                                clear hs hd hn
                                rw [if_neg (by decide), if_neg (by decide)] at hK
                                have v0' := (hb'.cell (p := ⟨bl, ol + k, none⟩) hlk).trans vk
                                have i1' := i1.below hb'
                                have i2' := i2.below hb'
                                have i3' := i3.below hb'
                                have k1' := k1.below hb'
                                have k2' := k2.below hb'
                                obtain ⟨lh, h0', h1', h2'⟩ := three_cells (gHr.below hb')
                                obtain ⟨lg, g0', g1', g2'⟩ := three_cells (gGr.below hb')
                                unfold Oper.wp
                                go_simp
                                try go_bits
                                exact hK _ _ (Below.refl _ _) (by first | rfl | (show Value.int _ _ = Value.int _ _; go_num; done) | (simp [valOf, *]; done) | (simp [valOf]; omega))
                              · intro _ a' w' hb' hs hd hn Kc hK
                                have f20 : a'.tmps[20]?.getD undef = .int .i64 (k : Int) := (hs 20 (by decide)).trans rfl
                                clear hs hd hn
                                rw [if_neg (by decide), if_neg (by decide)] at hK
                                have v0' := (hb'.cell (p := ⟨bl, ol + k, none⟩) hlk).trans vk
                                have i1' := i1.below hb'
                                have i2' := i2.below hb'
                                have i3' := i3.below hb'
                                have k1' := k1.below hb'
                                have k2' := k2.below hb'
                                obtain ⟨lh, h0', h1', h2'⟩ := three_cells (gHr.below hb')
                                obtain ⟨lg, g0', g1', g2'⟩ := three_cells (gGr.below hb')
                                unfold Oper.wp
                                go_simp
                                try go_bits
                                exact hK _ _ (Below.refl _ _) (by first | rfl | (show Value.int _ _ = Value.int _ _; go_num; done) | (simp [valOf, *]; done) | (simp [valOf]; omega))
                              · intro _ a' w' hb' hs hd hn Kc hK
                                have f149 : a'.tmps[149]?.getD undef = .slice (some ⟨bl, ol, none⟩) kl cl := hd 1 149 (by first | rfl | decide | simp [Region.binds]) rfl (by decide) (by decide) rfl
                                have f150 : a'.tmps[150]?.getD undef = .int .i64 (k : Int) := hd 2 150 (by first | rfl | decide | simp [Region.binds]) rfl (by decide) (by decide) rfl
                                clear hs hd hn
                                rw [if_neg (by decide), if_neg (by decide)] at hK
                                have v0' := (hb'.cell (p := ⟨bl, ol + k, none⟩) hlk).trans vk
                                have i1' := i1.below hb'
                                have i2' := i2.below hb'
                                have i3' := i3.below hb'
                                have k1' := k1.below hb'
                                have k2' := k2.below hb'
                                obtain ⟨lh, h0', h1', h2'⟩ := three_cells (gHr.below hb')
                                obtain ⟨lg, g0', g1', g2'⟩ := three_cells (gGr.below hb')
                                unfold Oper.wp
                                go_simp
                                try go_bits
                                exact hK _ _ (Below.refl _ _) (by first | rfl | (show Value.int _ _ = Value.int _ _; go_num; done) | (simp [valOf, *]; done) | (simp [valOf]; omega))
                              · intro _ a' w' hb' hs hd hn Kc hK
                                have f151 : a'.tmps[151]?.getD undef = .pointer (some ⟨bl, ol + k, none⟩) := hd 3 151 (by first | rfl | decide | simp [Region.binds]) rfl (by decide) (by decide) rfl
                                clear hs hd hn
                                rw [if_neg (by decide), if_neg (by decide)] at hK
                                have v0' := (hb'.cell (p := ⟨bl, ol + k, none⟩) hlk).trans vk
                                have i1' := i1.below hb'
                                have i2' := i2.below hb'
                                have i3' := i3.below hb'
                                have k1' := k1.below hb'
                                have k2' := k2.below hb'
                                obtain ⟨lh, h0', h1', h2'⟩ := three_cells (gHr.below hb')
                                obtain ⟨lg, g0', g1', g2'⟩ := three_cells (gGr.below hb')
                                unfold Oper.wp
                                go_simp
                                try go_bits
                                exact hK _ _ (Below.refl _ _) (by first | rfl | (show Value.int _ _ = Value.int _ _; go_num; done) | (simp [valOf, *]; done) | (simp [valOf]; omega))
                              · intro _ a' w' hb' hs hd hn Kc hK
                                have f148 : a'.tmps[148]?.getD undef = .slice pw j cw := hd 0 148 (by first | rfl | decide | simp [Region.binds]) rfl (by decide) (by decide) rfl
                                have f152 : a'.tmps[152]?.getD undef = .int .i64 X := hd 4 152 (by first | rfl | decide | simp [Region.binds]) rfl (by decide) (by decide) rfl
                                clear hs hd hn
                                rw [if_neg (by decide), if_neg (by decide)] at hK
                                have v0' := (hb'.cell (p := ⟨bl, ol + k, none⟩) hlk).trans vk
                                have i1' := i1.below hb'
                                have i2' := i2.below hb'
                                have i3' := i3.below hb'
                                have k1' := k1.below hb'
                                have k2' := k2.below hb'
                                obtain ⟨lh, h0', h1', h2'⟩ := three_cells (gHr.below hb')
                                obtain ⟨lg, g0', g1', g2'⟩ := three_cells (gGr.below hb')
                                unfold Oper.wp
                                go_simp
                                try go_bits
                                refine Calls.mono (hInn _ _ _ _ _ _ (by assumption) (by assumption)) ?_
                                rintro e w'' ⟨rfl, hb2⟩
                                exact hK _ _ hb2 rfl
                              · intro _ a' w' hb' hs hd hn Kc hK
                                have f153 : a'.tmps[153]?.getD undef = .bool false := hd 5 153 (by first | rfl | decide | simp [Region.binds]) rfl (by decide) (by decide) rfl
                                clear hs hd hn
                                rw [if_neg (by decide), if_neg (by decide)] at hK
                                have v0' := (hb'.cell (p := ⟨bl, ol + k, none⟩) hlk).trans vk
                                have i1' := i1.below hb'
                                have i2' := i2.below hb'
                                have i3' := i3.below hb'
                                have k1' := k1.below hb'
                                have k2' := k2.below hb'
                                obtain ⟨lh, h0', h1', h2'⟩ := three_cells (gHr.below hb')
                                obtain ⟨lg, g0', g1', g2'⟩ := three_cells (gGr.below hb')
                                unfold Oper.wp
                                go_simp
                                try go_bits
                                exact hK _ _ (Below.refl _ _) (by first | rfl | (show Value.int _ _ = Value.int _ _; go_num; done) | (simp [valOf, *]; done) | (simp [valOf]; omega))
                              · exact fun h => absurd h (by decide)
                              · exact fun h => absurd h (by decide)
                              · exact fun h => absurd h (by decide)
                              · exact fun h => absurd h (by decide)
                              · exact fun h => absurd h (by decide)
                              · exact fun h => absurd h (by decide)
                              · exact fun h => absurd h (by decide)
                              · intro _ a' w' hb' hs hd hn Kc hK
                                have f154 : a'.tmps[154]?.getD undef = .bool false := hd 6 154 (by first | rfl | decide | simp [Region.binds]) rfl (by decide) (by decide) rfl
                                clear hs hd hn
                                rw [if_neg (by decide), if_neg (by decide)] at hK
                                have v0' := (hb'.cell (p := ⟨bl, ol + k, none⟩) hlk).trans vk
                                have i1' := i1.below hb'
                                have i2' := i2.below hb'
                                have i3' := i3.below hb'
                                have k1' := k1.below hb'
                                have k2' := k2.below hb'
                                obtain ⟨lh, h0', h1', h2'⟩ := three_cells (gHr.below hb')
                                obtain ⟨lg, g0', g1', g2'⟩ := three_cells (gGr.below hb')
                                unfold Oper.wp
                                go_simp
                                try go_bits
                                exact hK _ _ (Below.refl _ _) (by first | rfl | (show Value.int _ _ = Value.int _ _; go_num; done) | (simp [valOf, *]; done) | (simp [valOf]; omega))
                              · intro _ a' w' hb' hs hd hn Kc hK
                                have f162 : a'.tmps[162]?.getD undef = .bool false := hd 14 162 (by first | rfl | decide | simp [Region.binds]) rfl (by decide) (by decide) rfl
                                clear hs hd hn
                                rw [if_neg (by decide), if_neg (by decide)] at hK
                                have v0' := (hb'.cell (p := ⟨bl, ol + k, none⟩) hlk).trans vk
                                have i1' := i1.below hb'
                                have i2' := i2.below hb'
                                have i3' := i3.below hb'
                                have k1' := k1.below hb'
                                have k2' := k2.below hb'
                                obtain ⟨lh, h0', h1', h2'⟩ := three_cells (gHr.below hb')
                                obtain ⟨lg, g0', g1', g2'⟩ := three_cells (gGr.below hb')
                                unfold Oper.wp
                                go_simp
                                try go_bits
                                exact hK _ _ (Below.refl _ _) (by first | rfl | (show Value.int _ _ = Value.int _ _; go_num; done) | (simp [valOf, *]; done) | (simp [valOf]; omega))
                              · intro _ a' w' hb' hs hd hn Kc hK
                                have f18 : a'.tmps[18]?.getD undef = .slice pn kn cn := (hs 18 (by decide)).trans rfl
                                clear hs hd hn
                                rw [if_neg (by decide), if_neg (by decide)] at hK
                                have v0' := (hb'.cell (p := ⟨bl, ol + k, none⟩) hlk).trans vk
                                have i1' := i1.below hb'
                                have i2' := i2.below hb'
                                have i3' := i3.below hb'
                                have k1' := k1.below hb'
                                have k2' := k2.below hb'
                                obtain ⟨lh, h0', h1', h2'⟩ := three_cells (gHr.below hb')
                                obtain ⟨lg, g0', g1', g2'⟩ := three_cells (gGr.below hb')
                                unfold Oper.wp
                                go_simp
                                try go_bits
                                exact hK _ _ (Below.refl _ _) (by first | rfl | (show Value.int _ _ = Value.int _ _; go_num; done) | (simp [valOf, *]; done) | (simp [valOf]; omega))
                              · intro _ a' w' hb' hs hd hn Kc hK
                                have f19 : a'.tmps[19]?.getD undef = .slice (some ⟨bl, ol, none⟩) kl cl := (hs 19 (by decide)).trans rfl
                                clear hs hd hn
                                rw [if_neg (by decide), if_neg (by decide)] at hK
                                have v0' := (hb'.cell (p := ⟨bl, ol + k, none⟩) hlk).trans vk
                                have i1' := i1.below hb'
                                have i2' := i2.below hb'
                                have i3' := i3.below hb'
                                have k1' := k1.below hb'
                                have k2' := k2.below hb'
                                obtain ⟨lh, h0', h1', h2'⟩ := three_cells (gHr.below hb')
                                obtain ⟨lg, g0', g1', g2'⟩ := three_cells (gGr.below hb')
                                unfold Oper.wp
                                go_simp
                                try go_bits
                                exact hK _ _ (Below.refl _ _) (by first | rfl | (show Value.int _ _ = Value.int _ _; go_num; done) | (simp [valOf, *]; done) | (simp [valOf]; omega))
                              · intro _ a' w' hb' hs hd hn Kc hK
                                have f20 : a'.tmps[20]?.getD undef = .int .i64 (k : Int) := (hs 20 (by decide)).trans rfl
                                clear hs hd hn
                                rw [if_neg (by decide), if_neg (by decide)] at hK
                                have v0' := (hb'.cell (p := ⟨bl, ol + k, none⟩) hlk).trans vk
                                have i1' := i1.below hb'
                                have i2' := i2.below hb'
                                have i3' := i3.below hb'
                                have k1' := k1.below hb'
                                have k2' := k2.below hb'
                                obtain ⟨lh, h0', h1', h2'⟩ := three_cells (gHr.below hb')
                                obtain ⟨lg, g0', g1', g2'⟩ := three_cells (gGr.below hb')
                                unfold Oper.wp
                                go_simp
                                try go_bits
                                exact hK _ _ (Below.refl _ _) (by first | rfl | (show Value.int _ _ = Value.int _ _; go_num; done) | (simp [valOf, *]; done) | (simp [valOf]; omega))
                              · intro _ a' w' hb' hs hd hn Kc hK
                                have f165 : a'.tmps[165]?.getD undef = .slice (some ⟨bl, ol, none⟩) kl cl := hd 17 165 (by first | rfl | decide | simp [Region.binds]) rfl (by decide) (by decide) rfl
                                have f166 : a'.tmps[166]?.getD undef = .int .i64 (k : Int) := hd 18 166 (by first | rfl | decide | simp [Region.binds]) rfl (by decide) (by decide) rfl
                                clear hs hd hn
                                rw [if_neg (by decide), if_neg (by decide)] at hK
                                have v0' := (hb'.cell (p := ⟨bl, ol + k, none⟩) hlk).trans vk
                                have i1' := i1.below hb'
                                have i2' := i2.below hb'
                                have i3' := i3.below hb'
                                have k1' := k1.below hb'
                                have k2' := k2.below hb'
                                obtain ⟨lh, h0', h1', h2'⟩ := three_cells (gHr.below hb')
                                obtain ⟨lg, g0', g1', g2'⟩ := three_cells (gGr.below hb')
                                unfold Oper.wp
                                go_simp
                                try go_bits
                                exact hK _ _ (Below.refl _ _) (by first | rfl | (show Value.int _ _ = Value.int _ _; go_num; done) | (simp [valOf, *]; done) | (simp [valOf]; omega))
                              · intro _ a' w' hb' hs hd hn Kc hK
                                have f167 : a'.tmps[167]?.getD undef = .pointer (some ⟨bl, ol + k, none⟩) := hd 19 167 (by first | rfl | decide | simp [Region.binds]) rfl (by decide) (by decide) rfl
                                clear hs hd hn
                                rw [if_neg (by decide), if_neg (by decide)] at hK
                                have v0' := (hb'.cell (p := ⟨bl, ol + k, none⟩) hlk).trans vk
                                have i1' := i1.below hb'
                                have i2' := i2.below hb'
                                have i3' := i3.below hb'
                                have k1' := k1.below hb'
                                have k2' := k2.below hb'
                                obtain ⟨lh, h0', h1', h2'⟩ := three_cells (gHr.below hb')
                                obtain ⟨lg, g0', g1', g2'⟩ := three_cells (gGr.below hb')
                                unfold Oper.wp
                                go_simp
                                try go_bits
                                exact hK _ _ (Below.refl _ _) (by first | rfl | (show Value.int _ _ = Value.int _ _; go_num; done) | (simp [valOf, *]; done) | (simp [valOf]; omega))
                              · intro _ a' w' hb' hs hd hn Kc hK
                                have f164 : a'.tmps[164]?.getD undef = .slice pn kn cn := hd 16 164 (by first | rfl | decide | simp [Region.binds]) rfl (by decide) (by decide) rfl
                                have f168 : a'.tmps[168]?.getD undef = .int .i64 X := hd 20 168 (by first | rfl | decide | simp [Region.binds]) rfl (by decide) (by decide) rfl
                                clear hs hd hn
                                rw [if_neg (by decide), if_neg (by decide)] at hK
                                have v0' := (hb'.cell (p := ⟨bl, ol + k, none⟩) hlk).trans vk
                                have i1' := i1.below hb'
                                have i2' := i2.below hb'
                                have i3' := i3.below hb'
                                have k1' := k1.below hb'
                                have k2' := k2.below hb'
                                obtain ⟨lh, h0', h1', h2'⟩ := three_cells (gHr.below hb')
                                obtain ⟨lg, g0', g1', g2'⟩ := three_cells (gGr.below hb')
                                unfold Oper.wp
                                go_simp
                                try go_bits
                                refine Calls.mono (hInn _ _ _ _ _ _ (by assumption) (by assumption)) ?_
                                rintro e w'' ⟨rfl, hb2⟩
                                exact hK _ _ hb2 rfl
                              · intro _ a' w' hb' hs hd hn Kc hK
                                have f169 : a'.tmps[169]?.getD undef = .bool true := hd 21 169 (by first | rfl | decide | simp [Region.binds]) rfl (by decide) (by decide) rfl
                                clear hs hd hn
                                rw [if_neg (by decide), if_neg (by decide)] at hK
                                have v0' := (hb'.cell (p := ⟨bl, ol + k, none⟩) hlk).trans vk
                                have i1' := i1.below hb'
                                have i2' := i2.below hb'
                                have i3' := i3.below hb'
                                have k1' := k1.below hb'
                                have k2' := k2.below hb'
                                obtain ⟨lh, h0', h1', h2'⟩ := three_cells (gHr.below hb')
                                obtain ⟨lg, g0', g1', g2'⟩ := three_cells (gGr.below hb')
                                unfold Oper.wp
                                go_simp
                                try go_bits
                                exact hK _ _ (Below.refl _ _) (by first | rfl | (show Value.int _ _ = Value.int _ _; go_num; done) | (simp [valOf, *]; done) | (simp [valOf]; omega))
                              · intro _ a' w' hb' hs hd hn Kc hK
                                have f11 : a'.tmps[11]?.getD undef = .slice pm km cm := (hs 11 (by decide)).trans rfl
                                clear hs hd hn
                                rw [if_neg (by decide), if_neg (by decide)] at hK
                                have v0' := (hb'.cell (p := ⟨bl, ol + k, none⟩) hlk).trans vk
                                have i1' := i1.below hb'
                                have i2' := i2.below hb'
                                have i3' := i3.below hb'
                                have k1' := k1.below hb'
                                have k2' := k2.below hb'
                                obtain ⟨lh, h0', h1', h2'⟩ := three_cells (gHr.below hb')
                                obtain ⟨lg, g0', g1', g2'⟩ := three_cells (gGr.below hb')
                                unfold Oper.wp
                                go_simp
                                try go_bits
                                exact hK _ _ (Below.refl _ _) (by first | rfl | (show Value.int _ _ = Value.int _ _; go_num; done) | (simp [valOf, *]; done) | (simp [valOf]; omega))
                              · intro _ a' w' hb' hs hd hn Kc hK
                                have f19 : a'.tmps[19]?.getD undef = .slice (some ⟨bl, ol, none⟩) kl cl := (hs 19 (by decide)).trans rfl
                                clear hs hd hn
                                rw [if_neg (by decide), if_neg (by decide)] at hK
                                have v0' := (hb'.cell (p := ⟨bl, ol + k, none⟩) hlk).trans vk
                                have i1' := i1.below hb'
                                have i2' := i2.below hb'
                                have i3' := i3.below hb'
                                have k1' := k1.below hb'
                                have k2' := k2.below hb'
                                obtain ⟨lh, h0', h1', h2'⟩ := three_cells (gHr.below hb')
                                obtain ⟨lg, g0', g1', g2'⟩ := three_cells (gGr.below hb')
                                unfold Oper.wp
                                go_simp
                                try go_bits
                                exact hK _ _ (Below.refl _ _) (by first | rfl | (show Value.int _ _ = Value.int _ _; go_num; done) | (simp [valOf, *]; done) | (simp [valOf]; omega))
                              · intro _ a' w' hb' hs hd hn Kc hK
                                have f20 : a'.tmps[20]?.getD undef = .int .i64 (k : Int) := (hs 20 (by decide)).trans rfl
                                clear hs hd hn
                                rw [if_neg (by decide), if_neg (by decide)] at hK
                                have v0' := (hb'.cell (p := ⟨bl, ol + k, none⟩) hlk).trans vk
                                have i1' := i1.below hb'
                                have i2' := i2.below hb'
                                have i3' := i3.below hb'
                                have k1' := k1.below hb'
                                have k2' := k2.below hb'
                                obtain ⟨lh, h0', h1', h2'⟩ := three_cells (gHr.below hb')
                                obtain ⟨lg, g0', g1', g2'⟩ := three_cells (gGr.below hb')
                                unfold Oper.wp
                                go_simp
                                try go_bits
                                exact hK _ _ (Below.refl _ _) (by first | rfl | (show Value.int _ _ = Value.int _ _; go_num; done) | (simp [valOf, *]; done) | (simp [valOf]; omega))
                              · intro _ a' w' hb' hs hd hn Kc hK
                                have f172 : a'.tmps[172]?.getD undef = .slice (some ⟨bl, ol, none⟩) kl cl := hd 24 172 (by first | rfl | decide | simp [Region.binds]) rfl (by decide) (by decide) rfl
                                have f173 : a'.tmps[173]?.getD undef = .int .i64 (k : Int) := hd 25 173 (by first | rfl | decide | simp [Region.binds]) rfl (by decide) (by decide) rfl
                                clear hs hd hn
                                rw [if_neg (by decide), if_neg (by decide)] at hK
                                have v0' := (hb'.cell (p := ⟨bl, ol + k, none⟩) hlk).trans vk
                                have i1' := i1.below hb'
                                have i2' := i2.below hb'
                                have i3' := i3.below hb'
                                have k1' := k1.below hb'
                                have k2' := k2.below hb'
                                obtain ⟨lh, h0', h1', h2'⟩ := three_cells (gHr.below hb')
                                obtain ⟨lg, g0', g1', g2'⟩ := three_cells (gGr.below hb')
                                unfold Oper.wp
                                go_simp
                                try go_bits
                                exact hK _ _ (Below.refl _ _) (by first | rfl | (show Value.int _ _ = Value.int _ _; go_num; done) | (simp [valOf, *]; done) | (simp [valOf]; omega))
                              · intro _ a' w' hb' hs hd hn Kc hK
                                have f174 : a'.tmps[174]?.getD undef = .pointer (some ⟨bl, ol + k, none⟩) := hd 26 174 (by first | rfl | decide | simp [Region.binds]) rfl (by decide) (by decide) rfl
                                clear hs hd hn
                                rw [if_neg (by decide), if_neg (by decide)] at hK
                                have v0' := (hb'.cell (p := ⟨bl, ol + k, none⟩) hlk).trans vk
                                have i1' := i1.below hb'
                                have i2' := i2.below hb'
                                have i3' := i3.below hb'
                                have k1' := k1.below hb'
                                have k2' := k2.below hb'
                                obtain ⟨lh, h0', h1', h2'⟩ := three_cells (gHr.below hb')
                                obtain ⟨lg, g0', g1', g2'⟩ := three_cells (gGr.below hb')
                                unfold Oper.wp
                                go_simp
                                try go_bits
                                exact hK _ _ (Below.refl _ _) (by first | rfl | (show Value.int _ _ = Value.int _ _; go_num; done) | (simp [valOf, *]; done) | (simp [valOf]; omega))
                              · intro _ a' w' hb' hs hd hn Kc hK
                                have f171 : a'.tmps[171]?.getD undef = .slice pm km cm := hd 23 171 (by first | rfl | decide | simp [Region.binds]) rfl (by decide) (by decide) rfl
                                have f175 : a'.tmps[175]?.getD undef = .int .i64 X := hd 27 175 (by first | rfl | decide | simp [Region.binds]) rfl (by decide) (by decide) rfl
                                clear hs hd hn
                                rw [if_neg (by decide), if_neg (by decide)] at hK
                                have v0' := (hb'.cell (p := ⟨bl, ol + k, none⟩) hlk).trans vk
                                have i1' := i1.below hb'
                                have i2' := i2.below hb'
                                have i3' := i3.below hb'
                                have k1' := k1.below hb'
                                have k2' := k2.below hb'
                                obtain ⟨lh, h0', h1', h2'⟩ := three_cells (gHr.below hb')
                                obtain ⟨lg, g0', g1', g2'⟩ := three_cells (gGr.below hb')
                                unfold Oper.wp
                                go_simp
                                try go_bits
                                refine Calls.mono (hInn _ _ _ _ _ _ (by assumption) (by assumption)) ?_
                                rintro e w'' ⟨rfl, hb2⟩
                                exact hK _ _ hb2 rfl
                              · intro _ a' w' hb' hs hd hn Kc hK
                                have f176 : a'.tmps[176]?.getD undef = .bool true := hd 28 176 (by first | rfl | decide | simp [Region.binds]) rfl (by decide) (by decide) rfl
                                clear hs hd hn
                                rw [if_neg (by decide), if_neg (by decide)] at hK
                                have v0' := (hb'.cell (p := ⟨bl, ol + k, none⟩) hlk).trans vk
                                have i1' := i1.below hb'
                                have i2' := i2.below hb'
                                have i3' := i3.below hb'
                                have k1' := k1.below hb'
                                have k2' := k2.below hb'
                                obtain ⟨lh, h0', h1', h2'⟩ := three_cells (gHr.below hb')
                                obtain ⟨lg, g0', g1', g2'⟩ := three_cells (gGr.below hb')
                                unfold Oper.wp
                                go_simp
                                try go_bits
                                exact hK _ _ (Below.refl _ _) (by first | rfl | (show Value.int _ _ = Value.int _ _; go_num; done) | (simp [valOf, *]; done) | (simp [valOf]; omega))
                              · intro _ a' w' hb' hs hd hn Kc hK
                                have f170 : a'.tmps[170]?.getD undef = .bool true := hd 22 170 (by first | rfl | decide | simp [Region.binds]) rfl (by decide) (by decide) rfl
                                have f177 : a'.tmps[177]?.getD undef = .bool false := hd 29 177 (by first | rfl | decide | simp [Region.binds]) rfl (by decide) (by decide) rfl
                                clear hs hd hn
                                rw [if_neg (by decide), if_neg (by decide)] at hK
                                have v0' := (hb'.cell (p := ⟨bl, ol + k, none⟩) hlk).trans vk
                                have i1' := i1.below hb'
                                have i2' := i2.below hb'
                                have i3' := i3.below hb'
                                have k1' := k1.below hb'
                                have k2' := k2.below hb'
                                obtain ⟨lh, h0', h1', h2'⟩ := three_cells (gHr.below hb')
                                obtain ⟨lg, g0', g1', g2'⟩ := three_cells (gGr.below hb')
                                unfold Oper.wp
                                go_simp
                                try go_bits
                                exact hK _ _ (Below.refl _ _) (by first | rfl | (show Value.int _ _ = Value.int _ _; go_num; done) | (simp [valOf, *]; done) | (simp [valOf]; omega))
                              · intro _ a' w' hb' hs hd hn Kc hK
                                have f163 : a'.tmps[163]?.getD undef = .bool false := hd 15 163 (by first | rfl | decide | simp [Region.binds]) rfl (by decide) (by decide) rfl
                                have f178 : a'.tmps[178]?.getD undef = .bool false := hd 30 178 (by first | rfl | decide | simp [Region.binds]) rfl (by decide) (by decide) rfl
                                clear hs hd hn
                                rw [if_neg (by decide), if_neg (by decide)] at hK
                                have v0' := (hb'.cell (p := ⟨bl, ol + k, none⟩) hlk).trans vk
                                have i1' := i1.below hb'
                                have i2' := i2.below hb'
                                have i3' := i3.below hb'
                                have k1' := k1.below hb'
                                have k2' := k2.below hb'
                                obtain ⟨lh, h0', h1', h2'⟩ := three_cells (gHr.below hb')
                                obtain ⟨lg, g0', g1', g2'⟩ := three_cells (gGr.below hb')
                                unfold Oper.wp
                                go_simp
                                try go_bits
                                exact hK _ _ (Below.refl _ _) (by first | rfl | (show Value.int _ _ = Value.int _ _; go_num; done) | (simp [valOf, *]; done) | (simp [valOf]; omega))
                              · intro _ a' w' hb' hs hd hn Kc hK
                                have f179 : a'.tmps[179]?.getD undef = .bool false := hd 31 179 (by first | rfl | decide | simp [Region.binds]) rfl (by decide) (by decide) rfl
                                clear hs hd hn
                                rw [if_neg (by decide), if_neg (by decide)] at hK
                                have v0' := (hb'.cell (p := ⟨bl, ol + k, none⟩) hlk).trans vk
                                have i1' := i1.below hb'
                                have i2' := i2.below hb'
                                have i3' := i3.below hb'
                                have k1' := k1.below hb'
                                have k2' := k2.below hb'
                                obtain ⟨lh, h0', h1', h2'⟩ := three_cells (gHr.below hb')
                                obtain ⟨lg, g0', g1', g2'⟩ := three_cells (gGr.below hb')
                                unfold Oper.wp
                                go_simp
                                try go_bits
                                exact hK _ _ (Below.refl _ _) (by first | rfl | (show Value.int _ _ = Value.int _ _; go_num; done) | (simp [valOf, *]; done) | (simp [valOf]; omega))
                              · intro _ a' w' hb' hs hd hn Kc hK
                                have f2 : a'.tmps[2]?.getD undef = .pointer (some ⟨w.heap.size, 0, none⟩) := (hs 2 (by decide)).trans rfl
                                clear hs hd hn
                                rw [if_neg (by decide), if_neg (by decide)] at hK
                                have v0' := (hb'.cell (p := ⟨bl, ol + k, none⟩) hlk).trans vk
                                have i1' := i1.below hb'
                                have i2' := i2.below hb'
                                have i3' := i3.below hb'
                                have k1' := k1.below hb'
                                have k2' := k2.below hb'
                                obtain ⟨lh, h0', h1', h2'⟩ := three_cells (gHr.below hb')
                                obtain ⟨lg, g0', g1', g2'⟩ := three_cells (gGr.below hb')
                                unfold Oper.wp
                                go_simp
                                try go_bits
                                exact hK _ _ (Below.refl _ _) (by first | rfl | (show Value.int _ _ = Value.int _ _; go_num; done) | (simp [valOf, *]; done) | (simp [valOf]; omega))
                              · intro _ a' w' hb' hs hd hn Kc hK
                                have f19 : a'.tmps[19]?.getD undef = .slice (some ⟨bl, ol, none⟩) kl cl := (hs 19 (by decide)).trans rfl
                                clear hs hd hn
                                rw [if_neg (by decide), if_neg (by decide)] at hK
                                have v0' := (hb'.cell (p := ⟨bl, ol + k, none⟩) hlk).trans vk
                                have i1' := i1.below hb'
                                have i2' := i2.below hb'
                                have i3' := i3.below hb'
                                have k1' := k1.below hb'
                                have k2' := k2.below hb'
                                obtain ⟨lh, h0', h1', h2'⟩ := three_cells (gHr.below hb')
                                obtain ⟨lg, g0', g1', g2'⟩ := three_cells (gGr.below hb')
                                unfold Oper.wp
                                go_simp
                                try go_bits
                                exact hK _ _ (Below.refl _ _) (by first | rfl | (show Value.int _ _ = Value.int _ _; go_num; done) | (simp [valOf, *]; done) | (simp [valOf]; omega))
                              · intro _ a' w' hb' hs hd hn Kc hK
                                have f20 : a'.tmps[20]?.getD undef = .int .i64 (k : Int) := (hs 20 (by decide)).trans rfl
                                clear hs hd hn
                                rw [if_neg (by decide), if_neg (by decide)] at hK
                                have v0' := (hb'.cell (p := ⟨bl, ol + k, none⟩) hlk).trans vk
                                have i1' := i1.below hb'
                                have i2' := i2.below hb'
                                have i3' := i3.below hb'
                                have k1' := k1.below hb'
                                have k2' := k2.below hb'
                                obtain ⟨lh, h0', h1', h2'⟩ := three_cells (gHr.below hb')
                                obtain ⟨lg, g0', g1', g2'⟩ := three_cells (gGr.below hb')
                                unfold Oper.wp
                                go_simp
                                try go_bits
                                exact hK _ _ (Below.refl _ _) (by first | rfl | (show Value.int _ _ = Value.int _ _; go_num; done) | (simp [valOf, *]; done) | (simp [valOf]; omega))
                              · intro _ a' w' hb' hs hd hn Kc hK
                                have f182 : a'.tmps[182]?.getD undef = .slice (some ⟨bl, ol, none⟩) kl cl := hd 34 182 (by first | rfl | decide | simp [Region.binds]) rfl (by decide) (by decide) rfl
                                have f183 : a'.tmps[183]?.getD undef = .int .i64 (k : Int) := hd 35 183 (by first | rfl | decide | simp [Region.binds]) rfl (by decide) (by decide) rfl
                                clear hs hd hn
                                rw [if_neg (by decide), if_neg (by decide)] at hK
                                have v0' := (hb'.cell (p := ⟨bl, ol + k, none⟩) hlk).trans vk
                                have i1' := i1.below hb'
                                have i2' := i2.below hb'
                                have i3' := i3.below hb'
                                have k1' := k1.below hb'
                                have k2' := k2.below hb'
                                obtain ⟨lh, h0', h1', h2'⟩ := three_cells (gHr.below hb')
                                obtain ⟨lg, g0', g1', g2'⟩ := three_cells (gGr.below hb')
                                unfold Oper.wp
                                go_simp
                                try go_bits
                                exact hK _ _ (Below.refl _ _) (by first | rfl | (show Value.int _ _ = Value.int _ _; go_num; done) | (simp [valOf, *]; done) | (simp [valOf]; omega))
                              · intro _ a' w' hb' hs hd hn Kc hK
                                have f184 : a'.tmps[184]?.getD undef = .pointer (some ⟨bl, ol + k, none⟩) := hd 36 184 (by first | rfl | decide | simp [Region.binds]) rfl (by decide) (by decide) rfl
                                clear hs hd hn
                                rw [if_neg (by decide), if_neg (by decide)] at hK
                                have v0' := (hb'.cell (p := ⟨bl, ol + k, none⟩) hlk).trans vk
                                have i1' := i1.below hb'
                                have i2' := i2.below hb'
                                have i3' := i3.below hb'
                                have k1' := k1.below hb'
                                have k2' := k2.below hb'
                                obtain ⟨lh, h0', h1', h2'⟩ := three_cells (gHr.below hb')
                                obtain ⟨lg, g0', g1', g2'⟩ := three_cells (gGr.below hb')
                                unfold Oper.wp
                                go_simp
                                try go_bits
                                exact hK _ _ (Below.refl _ _) (by first | rfl | (show Value.int _ _ = Value.int _ _; go_num; done) | (simp [valOf, *]; done) | (simp [valOf]; omega))
                              · intro _ a' w' hb' hs hd hn Kc hK
                                have f181 : a'.tmps[181]?.getD undef = .agg #[.slice p h.n c, .slice q h.m d, .bool h.b] := hd 33 181 (by first | rfl | decide | simp [Region.binds]) rfl (by decide) (by decide) rfl
                                have f185 : a'.tmps[185]?.getD undef = .int .i64 X := hd 37 185 (by first | rfl | decide | simp [Region.binds]) rfl (by decide) (by decide) rfl
                                clear hs hd hn
                                rw [if_neg (by decide), if_neg (by decide)] at hK
                                have v0' := (hb'.cell (p := ⟨bl, ol + k, none⟩) hlk).trans vk
                                have i1' := i1.below hb'
                                have i2' := i2.below hb'
                                have i3' := i3.below hb'
                                have k1' := k1.below hb'
                                have k2' := k2.below hb'
                                obtain ⟨lh, h0', h1', h2'⟩ := three_cells (gHr.below hb')
                                obtain ⟨lg, g0', g1', g2'⟩ := three_cells (gGr.below hb')
                                unfold Oper.wp
                                go_simp
                                try go_bits
                                refine Calls.mono (hRf _ _ _ _ _ _ (by assumption) (by assumption)) ?_
                                rintro e w'' ⟨pm, cm, rfl, hA, hb2⟩
                                exact hK _ _ hb2 ⟨_, _, rfl, hA⟩
                              · intro _ a' w' hb' hs hd hn Kc hK
                                have f13 : a'.tmps[13]?.getD undef = .pointer (some ⟨BG, 0, none⟩) := (hs 13 (by decide)).trans rfl
                                clear hs hd hn
                                rw [if_neg (by decide), if_neg (by decide)] at hK
                                have v0' := (hb'.cell (p := ⟨bl, ol + k, none⟩) hlk).trans vk
                                have i1' := i1.below hb'
                                have i2' := i2.below hb'
                                have i3' := i3.below hb'
                                have k1' := k1.below hb'
                                have k2' := k2.below hb'
                                obtain ⟨lh, h0', h1', h2'⟩ := three_cells (gHr.below hb')
                                obtain ⟨lg, g0', g1', g2'⟩ := three_cells (gGr.below hb')
                                unfold Oper.wp
                                go_simp
                                try go_bits
                                exact hK _ _ (Below.refl _ _) (by first | rfl | (show Value.int _ _ = Value.int _ _; go_num; done) | (simp [valOf, *]; done) | (simp [valOf]; omega))
                              · intro _ a' w' hb' hs hd hn Kc hK
                                have f19 : a'.tmps[19]?.getD undef = .slice (some ⟨bl, ol, none⟩) kl cl := (hs 19 (by decide)).trans rfl
                                clear hs hd hn
                                rw [if_neg (by decide), if_neg (by decide)] at hK
                                have v0' := (hb'.cell (p := ⟨bl, ol + k, none⟩) hlk).trans vk
                                have i1' := i1.below hb'
                                have i2' := i2.below hb'
                                have i3' := i3.below hb'
                                have k1' := k1.below hb'
                                have k2' := k2.below hb'
                                obtain ⟨lh, h0', h1', h2'⟩ := three_cells (gHr.below hb')
                                obtain ⟨lg, g0', g1', g2'⟩ := three_cells (gGr.below hb')
                                unfold Oper.wp
                                go_simp
                                try go_bits
                                exact hK _ _ (Below.refl _ _) (by first | rfl | (show Value.int _ _ = Value.int _ _; go_num; done) | (simp [valOf, *]; done) | (simp [valOf]; omega))
                              · intro _ a' w' hb' hs hd hn Kc hK
                                have f20 : a'.tmps[20]?.getD undef = .int .i64 (k : Int) := (hs 20 (by decide)).trans rfl
                                clear hs hd hn
                                rw [if_neg (by decide), if_neg (by decide)] at hK
                                have v0' := (hb'.cell (p := ⟨bl, ol + k, none⟩) hlk).trans vk
                                have i1' := i1.below hb'
                                have i2' := i2.below hb'
                                have i3' := i3.below hb'
                                have k1' := k1.below hb'
                                have k2' := k2.below hb'
                                obtain ⟨lh, h0', h1', h2'⟩ := three_cells (gHr.below hb')
                                obtain ⟨lg, g0', g1', g2'⟩ := three_cells (gGr.below hb')
                                unfold Oper.wp
                                go_simp
                                try go_bits
                                exact hK _ _ (Below.refl _ _) (by first | rfl | (show Value.int _ _ = Value.int _ _; go_num; done) | (simp [valOf, *]; done) | (simp [valOf]; omega))
                              · intro _ a' w' hb' hs hd hn Kc hK
                                have f188 : a'.tmps[188]?.getD undef = .slice (some ⟨bl, ol, none⟩) kl cl := hd 40 188 (by first | rfl | decide | simp [Region.binds]) rfl (by decide) (by decide) rfl
                                have f189 : a'.tmps[189]?.getD undef = .int .i64 (k : Int) := hd 41 189 (by first | rfl | decide | simp [Region.binds]) rfl (by decide) (by decide) rfl
                                clear hs hd hn
                                rw [if_neg (by decide), if_neg (by decide)] at hK
                                have v0' := (hb'.cell (p := ⟨bl, ol + k, none⟩) hlk).trans vk
                                have i1' := i1.below hb'
                                have i2' := i2.below hb'
                                have i3' := i3.below hb'
                                have k1' := k1.below hb'
                                have k2' := k2.below hb'
                                obtain ⟨lh, h0', h1', h2'⟩ := three_cells (gHr.below hb')
                                obtain ⟨lg, g0', g1', g2'⟩ := three_cells (gGr.below hb')
                                unfold Oper.wp
                                go_simp
                                try go_bits
                                exact hK _ _ (Below.refl _ _) (by first | rfl | (show Value.int _ _ = Value.int _ _; go_num; done) | (simp [valOf, *]; done) | (simp [valOf]; omega))
                              · intro _ a' w' hb' hs hd hn Kc hK
                                have f190 : a'.tmps[190]?.getD undef = .pointer (some ⟨bl, ol + k, none⟩) := hd 42 190 (by first | rfl | decide | simp [Region.binds]) rfl (by decide) (by decide) rfl
                                clear hs hd hn
                                rw [if_neg (by decide), if_neg (by decide)] at hK
                                have v0' := (hb'.cell (p := ⟨bl, ol + k, none⟩) hlk).trans vk
                                have i1' := i1.below hb'
                                have i2' := i2.below hb'
                                have i3' := i3.below hb'
                                have k1' := k1.below hb'
                                have k2' := k2.below hb'
                                obtain ⟨lh, h0', h1', h2'⟩ := three_cells (gHr.below hb')
                                obtain ⟨lg, g0', g1', g2'⟩ := three_cells (gGr.below hb')
                                unfold Oper.wp
                                go_simp
                                try go_bits
                                exact hK _ _ (Below.refl _ _) (by first | rfl | (show Value.int _ _ = Value.int _ _; go_num; done) | (simp [valOf, *]; done) | (simp [valOf]; omega))
                              · intro _ a' w' hb' hs hd hn Kc hK
                                have f187 : a'.tmps[187]?.getD undef = .agg #[.slice p1 h.n c1, .slice q1 h.m d1, .bool h.b] := hd 39 187 (by first | rfl | decide | simp [Region.binds]) rfl (by decide) (by decide) rfl
                                have f191 : a'.tmps[191]?.getD undef = .int .i64 X := hd 43 191 (by first | rfl | decide | simp [Region.binds]) rfl (by decide) (by decide) rfl
                                clear hs hd hn
                                rw [if_neg (by decide), if_neg (by decide)] at hK
                                have v0' := (hb'.cell (p := ⟨bl, ol + k, none⟩) hlk).trans vk
                                have i1' := i1.below hb'
                                have i2' := i2.below hb'
                                have i3' := i3.below hb'
                                have k1' := k1.below hb'
                                have k2' := k2.below hb'
                                obtain ⟨lh, h0', h1', h2'⟩ := three_cells (gHr.below hb')
                                obtain ⟨lg, g0', g1', g2'⟩ := three_cells (gGr.below hb')
                                unfold Oper.wp
                                go_simp
                                try go_bits
                                refine Calls.mono (hRf _ _ _ _ _ _ (by assumption) (by assumption)) ?_
                                rintro e w'' ⟨pm, cm, rfl, hA, hb2⟩
                                exact hK _ _ hb2 ⟨_, _, rfl, hA⟩
                              · intro _ a' w' hb' hs hd hn Kc hK
                                obtain ⟨pm, cm, f186, hA⟩ := hd 38 186 (by first | rfl | decide | simp [Region.binds]) rfl (by decide) (by decide) rfl
                                obtain ⟨pm, cm, f192, hA⟩ := hd 44 192 (by first | rfl | decide | simp [Region.binds]) rfl (by decide) (by decide) rfl
                                clear hs hd hn
                                rw [if_neg (by decide), if_neg (by decide)] at hK
                                have v0' := (hb'.cell (p := ⟨bl, ol + k, none⟩) hlk).trans vk
                                have i1' := i1.below hb'
                                have i2' := i2.below hb'
                                have i3' := i3.below hb'
                                have k1' := k1.below hb'
                                have k2' := k2.below hb'
                                obtain ⟨lh, h0', h1', h2'⟩ := three_cells (gHr.below hb')
                                obtain ⟨lg, g0', g1', g2'⟩ := three_cells (gGr.below hb')
                                unfold Oper.wp
                                go_simp
                                try go_bits
                                refine Calls.mono (hII _ _ _ _ _ (by assumption) (by assumption)) ?_
                                rintro e w'' ⟨rfl, hb2⟩
                                exact hK _ _ hb2 rfl
                              · intro _ a' w' hb' hs hd hn Kc hK
                                have f193 : a'.tmps[193]?.getD undef = .bool true := hd 45 193 (by first | rfl | decide | simp [Region.binds]) rfl (by decide) (by decide) rfl
                                clear hs hd hn
                                rw [if_neg (by decide), if_neg (by decide)] at hK
                                have v0' := (hb'.cell (p := ⟨bl, ol + k, none⟩) hlk).trans vk
                                have i1' := i1.below hb'
                                have i2' := i2.below hb'
                                have i3' := i3.below hb'
                                have k1' := k1.below hb'
                                have k2' := k2.below hb'
                                obtain ⟨lh, h0', h1', h2'⟩ := three_cells (gHr.below hb')
                                obtain ⟨lg, g0', g1', g2'⟩ := three_cells (gGr.below hb')
                                unfold Oper.wp
                                go_simp
                                try go_bits
                                exact hK _ _ (Below.refl _ _) (by first | rfl | (show Value.int _ _ = Value.int _ _; go_num; done) | (simp [valOf, *]; done) | (simp [valOf]; omega))
                              · intro _ a' w' hb' hs hd hn Kc hK
                                have f180 : a'.tmps[180]?.getD undef = .bool false := hd 32 180 (by first | rfl | decide | simp [Region.binds]) rfl (by decide) (by decide) rfl
                                have f194 : a'.tmps[194]?.getD undef = .bool false := hd 46 194 (by first | rfl | decide | simp [Region.binds]) rfl (by decide) (by decide) rfl
                                clear hs hd hn
                                rw [if_neg (by decide), if_neg (by decide)] at hK
                                have v0' := (hb'.cell (p := ⟨bl, ol + k, none⟩) hlk).trans vk
                                have i1' := i1.below hb'
                                have i2' := i2.below hb'
                                have i3' := i3.below hb'
                                have k1' := k1.below hb'
                                have k2' := k2.below hb'
                                obtain ⟨lh, h0', h1', h2'⟩ := three_cells (gHr.below hb')
                                obtain ⟨lg, g0', g1', g2'⟩ := three_cells (gGr.below hb')
                                unfold Oper.wp
                                go_simp
                                try go_bits
                                exact hK _ _ (Below.refl _ _) (by first | rfl | (show Value.int _ _ = Value.int _ _; go_num; done) | (simp [valOf, *]; done) | (simp [valOf]; omega))
                            intro Xf g w' hX hb hv
                            have q195 : Xf 195 = .bool false := hv 47 195 rfl rfl (by decide) (by decide)
                            clear hX hv
                            simp only [List.map_cons, List.map_nil, q195, puts, Act.put, Nat.reduceAdd, List.setIfInBounds_toArray, List.set_cons_succ, List.set_cons_zero]
                            go_wp2
                            go_roundg (kl - (k + 1))
                            case measure => omega
                            case rel => exact ⟨k + 1, by omega, rfl, by go_num, bjoin hb hbr⟩
                          · skip
                            refine wp_late (ds := [some 148, some 149, some 150, some 151, some 152, some 153, some 154, some 155, some 156, some 157, some 158, some 159, some 160, some 161, some 162, some 163, some 164, some 165, some 166, some 167, some 168, some 169, some 170, some 171, some 172, some 173, some 174, some 175, some 176, some 177, some 178, some 179, some 180, some 181, some 182, some 183, some 184, some 185, some 186, some 187, some 188, some 189, some 190, some 191, some 192, some 193, some 194, some 195]) (ts := [148, 149, 150, 151, 152, 153, 154, 155, 156, 157, 158, 159, 160, 161, 162, 163, 164, 165, 166, 167, 168, 169, 170, 171, 172, 173, 174, 175, 176, 177, 178, 179, 180, 181, 182, 183, 184, 185, 186, 187, 188, 189, 190, 191, 192, 193, 194, 195]) (pv := [(fun v _ => v = .slice pw j cw), (fun v _ => v = .slice (some ⟨bl, ol, none⟩) kl cl), (fun v _ => v = .int .i64 (k : Int)), (fun v _ => v = .pointer (some ⟨bl, ol + k, none⟩)), (fun v _ => v = .int .i64 X), (fun v _ => v = .bool true), (fun v _ => v = .bool true), (fun v _ => v = .slice pn kn cn), (fun v _ => v = .slice (some ⟨bl, ol, none⟩) kl cl), (fun v _ => v = .int .i64 (k : Int)), (fun v _ => v = .pointer (some ⟨bl, ol + k, none⟩)), (fun v _ => v = .int .i64 X), (fun v _ => v = .bool true), (fun v _ => v = .bool false), (fun v _ => v = .bool false), (fun v _ => v = .bool false), (fun v _ => v = .slice pn kn cn), (fun v _ => v = .slice (some ⟨bl, ol, none⟩) kl cl), (fun v _ => v = .int .i64 (k : Int)), (fun v _ => v = .pointer (some ⟨bl, ol + k, none⟩)), (fun v _ => v = .int .i64 X), (fun v _ => v = .bool true), (fun v _ => v = .bool true), (fun v _ => v = .slice pm km cm), (fun v _ => v = .slice (some ⟨bl, ol, none⟩) kl cl), (fun v _ => v = .int .i64 (k : Int)), (fun v _ => v = .pointer (some ⟨bl, ol + k, none⟩)), (fun v _ => v = .int .i64 X), (fun v _ => v = .bool true), (fun v _ => v = .bool false), (fun v _ => v = .bool false), (fun v _ => v = .bool false), (fun v _ => v = .bool false), (fun v _ => v = .agg #[.slice p h.n c, .slice q h.m d, .bool h.b]), (fun v _ => v = .slice (some ⟨bl, ol, none⟩) kl cl), (fun v _ => v = .int .i64 (k : Int)), (fun v _ => v = .pointer (some ⟨bl, ol + k, none⟩)), (fun v _ => v = .int .i64 X), RowV (RL.length) (fun i => RL[i]?.getD 0), (fun v _ => v = .agg #[.slice p1 h.n c1, .slice q1 h.m d1, .bool h.b]), (fun v _ => v = .slice (some ⟨bl, ol, none⟩) kl cl), (fun v _ => v = .int .i64 (k : Int)), (fun v _ => v = .pointer (some ⟨bl, ol + k, none⟩)), (fun v _ => v = .int .i64 X), RowV (RL.length) (fun i => RL[i]?.getD 0), (fun v _ => v = .bool true), (fun v _ => v = .bool false), (fun v _ => v = .bool false)]) (skip := fun i => ([] : List Nat).contains i) (ia := 1000) (is := 1000) (k := 196) (Shape := (fun _ _ => True)) (Full := (fun _ _ => True)) (by kernel_rfl) (by kernel_rfl) rfl rfl (by decide) (by decide) (by simp) ?_ (by decide) (fun _ _ _ _ _ => trivial) (fun _ _ _ _ _ => trivial) ?_ ?_ ?_ ?_
                            · exact .inl rfl
                            · exact ⟨fun _ _ _ h _ => h, fun _ _ _ h _ => h, fun _ _ _ h _ => h, fun _ _ _ h _ => h, fun _ _ _ h _ => h, fun _ _ _ h _ => h, fun _ _ _ h _ => h, fun _ _ _ h _ => h, fun _ _ _ h _ => h, fun _ _ _ h _ => h, fun _ _ _ h _ => h, fun _ _ _ h _ => h, fun _ _ _ h _ => h, fun _ _ _ h _ => h, fun _ _ _ h _ => h, fun _ _ _ h _ => h, fun _ _ _ h _ => h, fun _ _ _ h _ => h, fun _ _ _ h _ => h, fun _ _ _ h _ => h, fun _ _ _ h _ => h, fun _ _ _ h _ => h, fun _ _ _ h _ => h, fun _ _ _ h _ => h, fun _ _ _ h _ => h, fun _ _ _ h _ => h, fun _ _ _ h _ => h, fun _ _ _ h _ => h, fun _ _ _ h _ => h, fun _ _ _ h _ => h, fun _ _ _ h _ => h, fun _ _ _ h _ => h, fun _ _ _ h _ => h, fun _ _ _ h _ => h, fun _ _ _ h _ => h, fun _ _ _ h _ => h, fun _ _ _ h _ => h, fun _ _ _ h _ => h, fun _ _ _ h hb => h.below hb, fun _ _ _ h _ => h, fun _ _ _ h _ => h, fun _ _ _ h _ => h, fun _ _ _ h _ => h, fun _ _ _ h _ => h, fun _ _ _ h hb => h.below hb, fun _ _ _ h _ => h, fun _ _ _ h _ => h, fun _ _ _ h _ => h, trivial⟩
                            · exact ⟨rfl, rfl, rfl, rfl, rfl, rfl, rfl, ⟨rfl, ⟨_, rfl⟩, by decide, by decide, fun _ _ h => h⟩, ⟨rfl, ⟨_, rfl⟩, by decide, by decide, fun _ _ h => h⟩, ⟨rfl, ⟨_, rfl⟩, by decide, by decide, fun _ _ h => h⟩, ⟨rfl, ⟨_, rfl⟩, by decide, by decide, fun _ _ h => h⟩, ⟨rfl, ⟨_, rfl⟩, by decide, by decide, fun _ _ h => h⟩, ⟨rfl, ⟨_, rfl⟩, by decide, by decide, fun _ _ h => h⟩, ⟨rfl, ⟨_, rfl⟩, by decide, by decide, fun _ _ h => h⟩, rfl, rfl, ⟨rfl, ⟨_, rfl⟩, by decide, by decide, fun _ _ h => h⟩, ⟨rfl, ⟨_, rfl⟩, by decide, by decide, fun _ _ h => h⟩, ⟨rfl, ⟨_, rfl⟩, by decide, by decide, fun _ _ h => h⟩, ⟨rfl, ⟨_, rfl⟩, by decide, by decide, fun _ _ h => h⟩, ⟨rfl, ⟨_, rfl⟩, by decide, by decide, fun _ _ h => h⟩, ⟨rfl, ⟨_, rfl⟩, by decide, by decide, fun _ _ h => h⟩, ⟨rfl, ⟨_, rfl⟩, by decide, by decide, fun _ _ h => h⟩, ⟨rfl, ⟨_, rfl⟩, by decide, by decide, fun _ _ h => h⟩, ⟨rfl, ⟨_, rfl⟩, by decide, by decide, fun _ _ h => h⟩, ⟨rfl, ⟨_, rfl⟩, by decide, by decide, fun _ _ h => h⟩, ⟨rfl, ⟨_, rfl⟩, by decide, by decide, fun _ _ h => h⟩, ⟨rfl, ⟨_, rfl⟩, by decide, by decide, fun _ _ h => h⟩, ⟨rfl, ⟨_, rfl⟩, by decide, by decide, fun _ _ h => h⟩, ⟨rfl, ⟨_, rfl⟩, by decide, by decide, fun _ _ h => h⟩, ⟨rfl, ⟨_, rfl⟩, by decide, by decide, fun _ _ h => h⟩, rfl, rfl, ⟨rfl, ⟨_, rfl⟩, by decide, by decide, fun _ _ h => h⟩, ⟨rfl, ⟨_, rfl⟩, by decide, by decide, fun _ _ h => h⟩, ⟨rfl, ⟨_, rfl⟩, by decide, by decide, fun _ _ h => h⟩, ⟨rfl, ⟨_, rfl⟩, by decide, by decide, fun _ _ h => h⟩, ⟨rfl, ⟨_, rfl⟩, by decide, by decide, fun _ _ h => h⟩, ⟨rfl, ⟨_, rfl⟩, by decide, by decide, fun _ _ h => h⟩, ⟨rfl, ⟨_, rfl⟩, by decide, by decide, fun _ _ h => h⟩, ⟨rfl, ⟨_, rfl⟩, by decide, by decide, fun _ _ h => h⟩, ⟨rfl, ⟨_, rfl⟩, by decide, by decide, fun _ _ h => h⟩, ⟨rfl, ⟨_, rfl⟩, by decide, by decide, fun _ _ h => h⟩, ⟨rfl, ⟨_, rfl⟩, by decide, by decide, fun _ _ h => h⟩, ⟨rfl, ⟨_, rfl⟩, by decide, by decide, fun _ _ h => h⟩, ⟨rfl, ⟨_, rfl⟩, by decide, by decide, fun _ _ h => h⟩, ⟨rfl, ⟨_, rfl⟩, by decide, by decide, fun _ _ h => h⟩, rfl, trivial⟩
                            · refine ⟨?_, ?_, ?_, ?_, ?_, ?_, ?_, ?_, ?_, ?_, ?_, ?_, ?_, ?_, ?_, ?_, ?_, ?_, ?_, ?_, ?_, ?_, ?_, ?_, ?_, ?_, ?_, ?_, ?_, ?_, ?_, ?_, ?_, ?_, ?_, ?_, ?_, ?_, ?_, ?_, ?_, ?_, ?_, ?_, ?_, ?_, ?_, ?_, trivial⟩
                              · intro _ a' w' hb' hs hd hn Kc hK
                                have f6 : a'.tmps[6]?.getD undef = .slice pw j cw := (hs 6 (by decide)).trans rfl
                                clear hs hd hn
                                rw [if_neg (by decide), if_neg (by decide)] at hK
                                have v0' := (hb'.cell (p := ⟨bl, ol + k, none⟩) hlk).trans vk
                                have i1' := i1.below hb'
                                have i2' := i2.below hb'
                                have i3' := i3.below hb'
                                have k1' := k1.below hb'
                                have k2' := k2.below hb'
                                obtain ⟨lh, h0', h1', h2'⟩ := three_cells (gHr.below hb')
                                obtain ⟨lg, g0', g1', g2'⟩ := three_cells (gGr.below hb')
                                unfold Oper.wp
                                go_simp
                                try go_bits
                                exact hK _ _ (Below.refl _ _) (by first | rfl | (show Value.int _ _ = Value.int _ _; go_num; done) | (simp [valOf, *]; done) | (simp [valOf]; omega))
                              · intro _ a' w' hb' hs hd hn Kc hK
                                have f19 : a'.tmps[19]?.getD undef = .slice (some ⟨bl, ol, none⟩) kl cl := (hs 19 (by decide)).trans rfl
                                clear hs hd hn
                                rw [if_neg (by decide), if_neg (by decide)] at hK
                                have v0' := (hb'.cell (p := ⟨bl, ol + k, none⟩) hlk).trans vk
                                have i1' := i1.below hb'
                                have i2' := i2.below hb'
                                have i3' := i3.below hb'
                                have k1' := k1.below hb'
                                have k2' := k2.below hb'
                                obtain ⟨lh, h0', h1', h2'⟩ := three_cells (gHr.below hb')
                                obtain ⟨lg, g0', g1', g2'⟩ := three_cells (gGr.below hb')
                                unfold Oper.wp
                                go_simp
                                try go_bits
                                exact hK _ _ (Below.refl _ _) (by first | rfl | (show Value.int _ _ = Value.int _ _; go_num; done) | (simp [valOf, *]; done) | (simp [valOf]; omega))
                              · intro _ a' w' hb' hs hd hn Kc hK
                                have f20 : a'.tmps[20]?.getD undef = .int .i64 (k : Int) := (hs 20 (by decide)).trans rfl
                                clear hs hd hn
                                rw [if_neg (by decide), if_neg (by decide)] at hK
                                have v0' := (hb'.cell (p := ⟨bl, ol + k, none⟩) hlk).trans vk
                                have i1' := i1.below hb'
                                have i2' := i2.below hb'
                                have i3' := i3.below hb'
                                have k1' := k1.below hb'
                                have k2' := k2.below hb'
                                obtain ⟨lh, h0', h1', h2'⟩ := three_cells (gHr.below hb')
                                obtain ⟨lg, g0', g1', g2'⟩ := three_cells (gGr.below hb')
                                unfold Oper.wp
                                go_simp
                                try go_bits
                                exact hK _ _ (Below.refl _ _) (by first | rfl | (show Value.int _ _ = Value.int _ _; go_num; done) | (simp [valOf, *]; done) | (simp [valOf]; omega))
                              · intro _ a' w' hb' hs hd hn Kc hK
                                have f149 : a'.tmps[149]?.getD undef = .slice (some ⟨bl, ol, none⟩) kl cl := hd 1 149 (by first | rfl | decide | simp [Region.binds]) rfl (by decide) (by decide) rfl
                                have f150 : a'.tmps[150]?.getD undef = .int .i64 (k : Int) := hd 2 150 (by first | rfl | decide | simp [Region.binds]) rfl (by decide) (by decide) rfl
                                clear hs hd hn
                                rw [if_neg (by decide), if_neg (by decide)] at hK
                                have v0' := (hb'.cell (p := ⟨bl, ol + k, none⟩) hlk).trans vk
                                have i1' := i1.below hb'
                                have i2' := i2.below hb'
                                have i3' := i3.below hb'
                                have k1' := k1.below hb'
                                have k2' := k2.below hb'
                                obtain ⟨lh, h0', h1', h2'⟩ := three_cells (gHr.below hb')
                                obtain ⟨lg, g0', g1', g2'⟩ := three_cells (gGr.below hb')
                                unfold Oper.wp
                                go_simp
                                try go_bits
                                exact hK _ _ (Below.refl _ _) (by first | rfl | (show Value.int _ _ = Value.int _ _; go_num; done) | (simp [valOf, *]; done) | (simp [valOf]; omega))
                              · intro _ a' w' hb' hs hd hn Kc hK
                                have f151 : a'.tmps[151]?.getD undef = .pointer (some ⟨bl, ol + k, none⟩) := hd 3 151 (by first | rfl | decide | simp [Region.binds]) rfl (by decide) (by decide) rfl
                                clear hs hd hn
                                rw [if_neg (by decide), if_neg (by decide)] at hK
                                have v0' := (hb'.cell (p := ⟨bl, ol + k, none⟩) hlk).trans vk
                                have i1' := i1.below hb'
                                have i2' := i2.below hb'
                                have i3' := i3.below hb'
                                have k1' := k1.below hb'
                                have k2' := k2.below hb'
                                obtain ⟨lh, h0', h1', h2'⟩ := three_cells (gHr.below hb')
                                obtain ⟨lg, g0', g1', g2'⟩ := three_cells (gGr.below hb')
                                unfold Oper.wp
                                go_simp
                                try go_bits
                                exact hK _ _ (Below.refl _ _) (by first | rfl | (show Value.int _ _ = Value.int _ _; go_num; done) | (simp [valOf, *]; done) | (simp [valOf]; omega))
                              · intro _ a' w' hb' hs hd hn Kc hK
                                have f148 : a'.tmps[148]?.getD undef = .slice pw j cw := hd 0 148 (by first | rfl | decide | simp [Region.binds]) rfl (by decide) (by decide) rfl
                                have f152 : a'.tmps[152]?.getD undef = .int .i64 X := hd 4 152 (by first | rfl | decide | simp [Region.binds]) rfl (by decide) (by decide) rfl
                                clear hs hd hn
                                rw [if_neg (by decide), if_neg (by decide)] at hK
                                have v0' := (hb'.cell (p := ⟨bl, ol + k, none⟩) hlk).trans vk
                                have i1' := i1.below hb'
                                have i2' := i2.below hb'
                                have i3' := i3.below hb'
                                have k1' := k1.below hb'
                                have k2' := k2.below hb'
                                obtain ⟨lh, h0', h1', h2'⟩ := three_cells (gHr.below hb')
                                obtain ⟨lg, g0', g1', g2'⟩ := three_cells (gGr.below hb')
                                unfold Oper.wp
                                go_simp
                                try go_bits
                                refine Calls.mono (hInn _ _ _ _ _ _ (by assumption) (by assumption)) ?_
                                rintro e w'' ⟨rfl, hb2⟩
                                exact hK _ _ hb2 rfl
                              · intro _ a' w' hb' hs hd hn Kc hK
                                have f153 : a'.tmps[153]?.getD undef = .bool true := hd 5 153 (by first | rfl | decide | simp [Region.binds]) rfl (by decide) (by decide) rfl
                                clear hs hd hn
                                rw [if_neg (by decide), if_neg (by decide)] at hK
                                have v0' := (hb'.cell (p := ⟨bl, ol + k, none⟩) hlk).trans vk
                                have i1' := i1.below hb'
                                have i2' := i2.below hb'
                                have i3' := i3.below hb'
                                have k1' := k1.below hb'
                                have k2' := k2.below hb'
                                obtain ⟨lh, h0', h1', h2'⟩ := three_cells (gHr.below hb')
                                obtain ⟨lg, g0', g1', g2'⟩ := three_cells (gGr.below hb')
                                unfold Oper.wp
                                go_simp
                                try go_bits
                                exact hK _ _ (Below.refl _ _) (by first | rfl | (show Value.int _ _ = Value.int _ _; go_num; done) | (simp [valOf, *]; done) | (simp [valOf]; omega))
                              · intro _ a' w' hb' hs hd hn Kc hK
                                have f18 : a'.tmps[18]?.getD undef = .slice pn kn cn := (hs 18 (by decide)).trans rfl
                                clear hs hd hn
                                rw [if_neg (by decide), if_neg (by decide)] at hK
                                have v0' := (hb'.cell (p := ⟨bl, ol + k, none⟩) hlk).trans vk
                                have i1' := i1.below hb'
                                have i2' := i2.below hb'
                                have i3' := i3.below hb'
                                have k1' := k1.below hb'
                                have k2' := k2.below hb'
                                obtain ⟨lh, h0', h1', h2'⟩ := three_cells (gHr.below hb')
                                obtain ⟨lg, g0', g1', g2'⟩ := three_cells (gGr.below hb')
                                unfold Oper.wp
                                go_simp
                                try go_bits
                                exact hK _ _ (Below.refl _ _) (by first | rfl | (show Value.int _ _ = Value.int _ _; go_num; done) | (simp [valOf, *]; done) | (simp [valOf]; omega))
                              · intro _ a' w' hb' hs hd hn Kc hK
                                have f19 : a'.tmps[19]?.getD undef = .slice (some ⟨bl, ol, none⟩) kl cl := (hs 19 (by decide)).trans rfl
                                clear hs hd hn
                                rw [if_neg (by decide), if_neg (by decide)] at hK
                                have v0' := (hb'.cell (p := ⟨bl, ol + k, none⟩) hlk).trans vk
                                have i1' := i1.below hb'
                                have i2' := i2.below hb'
                                have i3' := i3.below hb'
                                have k1' := k1.below hb'
                                have k2' := k2.below hb'
                                obtain ⟨lh, h0', h1', h2'⟩ := three_cells (gHr.below hb')
                                obtain ⟨lg, g0', g1', g2'⟩ := three_cells (gGr.below hb')
                                unfold Oper.wp
                                go_simp
                                try go_bits
                                exact hK _ _ (Below.refl _ _) (by first | rfl | (show Value.int _ _ = Value.int _ _; go_num; done) | (simp [valOf, *]; done) | (simp [valOf]; omega))
                              · intro _ a' w' hb' hs hd hn Kc hK
                                have f20 : a'.tmps[20]?.getD undef = .int .i64 (k : Int) := (hs 20 (by decide)).trans rfl
                                clear hs hd hn
                                rw [if_neg (by decide), if_neg (by decide)] at hK
                                have v0' := (hb'.cell (p := ⟨bl, ol + k, none⟩) hlk).trans vk
                                have i1' := i1.below hb'
                                have i2' := i2.below hb'
                                have i3' := i3.below hb'
                                have k1' := k1.below hb'
                                have k2' := k2.below hb'
                                obtain ⟨lh, h0', h1', h2'⟩ := three_cells (gHr.below hb')
                                obtain ⟨lg, g0', g1', g2'⟩ := three_cells (gGr.below hb')
                                unfold Oper.wp
                                go_simp
                                try go_bits
                                exact hK _ _ (Below.refl _ _) (by first | rfl | (show Value.int _ _ = Value.int _ _; go_num; done) | (simp [valOf, *]; done) | (simp [valOf]; omega))
                              · intro _ a' w' hb' hs hd hn Kc hK
                                have f156 : a'.tmps[156]?.getD undef = .slice (some ⟨bl, ol, none⟩) kl cl := hd 8 156 (by first | rfl | decide | simp [Region.binds]) rfl (by decide) (by decide) rfl
                                have f157 : a'.tmps[157]?.getD undef = .int .i64 (k : Int) := hd 9 157 (by first | rfl | decide | simp [Region.binds]) rfl (by decide) (by decide) rfl
                                clear hs hd hn
                                rw [if_neg (by decide), if_neg (by decide)] at hK
                                have v0' := (hb'.cell (p := ⟨bl, ol + k, none⟩) hlk).trans vk
                                have i1' := i1.below hb'
                                have i2' := i2.below hb'
                                have i3' := i3.below hb'
                                have k1' := k1.below hb'
                                have k2' := k2.below hb'
                                obtain ⟨lh, h0', h1', h2'⟩ := three_cells (gHr.below hb')
                                obtain ⟨lg, g0', g1', g2'⟩ := three_cells (gGr.below hb')
                                unfold Oper.wp
                                go_simp
                                try go_bits
                                exact hK _ _ (Below.refl _ _) (by first | rfl | (show Value.int _ _ = Value.int _ _; go_num; done) | (simp [valOf, *]; done) | (simp [valOf]; omega))
                              · intro _ a' w' hb' hs hd hn Kc hK
                                have f158 : a'.tmps[158]?.getD undef = .pointer (some ⟨bl, ol + k, none⟩) := hd 10 158 (by first | rfl | decide | simp [Region.binds]) rfl (by decide) (by decide) rfl
                                clear hs hd hn
                                rw [if_neg (by decide), if_neg (by decide)] at hK
                                have v0' := (hb'.cell (p := ⟨bl, ol + k, none⟩) hlk).trans vk
                                have i1' := i1.below hb'
                                have i2' := i2.below hb'
                                have i3' := i3.below hb'
                                have k1' := k1.below hb'
                                have k2' := k2.below hb'
                                obtain ⟨lh, h0', h1', h2'⟩ := three_cells (gHr.below hb')
                                obtain ⟨lg, g0', g1', g2'⟩ := three_cells (gGr.below hb')
                                unfold Oper.wp
                                go_simp
                                try go_bits
                                exact hK _ _ (Below.refl _ _) (by first | rfl | (show Value.int _ _ = Value.int _ _; go_num; done) | (simp [valOf, *]; done) | (simp [valOf]; omega))
                              · intro _ a' w' hb' hs hd hn Kc hK
                                have f155 : a'.tmps[155]?.getD undef = .slice pn kn cn := hd 7 155 (by first | rfl | decide | simp [Region.binds]) rfl (by decide) (by decide) rfl
                                have f159 : a'.tmps[159]?.getD undef = .int .i64 X := hd 11 159 (by first | rfl | decide | simp [Region.binds]) rfl (by decide) (by decide) rfl
                                clear hs hd hn
                                rw [if_neg (by decide), if_neg (by decide)] at hK
                                have v0' := (hb'.cell (p := ⟨bl, ol + k, none⟩) hlk).trans vk
                                have i1' := i1.below hb'
                                have i2' := i2.below hb'
                                have i3' := i3.below hb'
                                have k1' := k1.below hb'
                                have k2' := k2.below hb'
                                obtain ⟨lh, h0', h1', h2'⟩ := three_cells (gHr.below hb')
                                obtain ⟨lg, g0', g1', g2'⟩ := three_cells (gGr.below hb')
                                unfold Oper.wp
                                go_simp
                                try go_bits
                                refine Calls.mono (hInn _ _ _ _ _ _ (by assumption) (by assumption)) ?_
                                rintro e w'' ⟨rfl, hb2⟩
                                exact hK _ _ hb2 rfl
                              · intro _ a' w' hb' hs hd hn Kc hK
                                have f160 : a'.tmps[160]?.getD undef = .bool true := hd 12 160 (by first | rfl | decide | simp [Region.binds]) rfl (by decide) (by decide) rfl
                                clear hs hd hn
                                rw [if_neg (by decide), if_neg (by decide)] at hK
                                have v0' := (hb'.cell (p := ⟨bl, ol + k, none⟩) hlk).trans vk
                                have i1' := i1.below hb'
                                have i2' := i2.below hb'
                                have i3' := i3.below hb'
                                have k1' := k1.below hb'
                                have k2' := k2.below hb'
                                obtain ⟨lh, h0', h1', h2'⟩ := three_cells (gHr.below hb')
                                obtain ⟨lg, g0', g1', g2'⟩ := three_cells (gGr.below hb')
                                unfold Oper.wp
                                go_simp
                                try go_bits
                                exact hK _ _ (Below.refl _ _) (by first | rfl | (show Value.int _ _ = Value.int _ _; go_num; done) | (simp [valOf, *]; done) | (simp [valOf]; omega))
                              · intro _ a' w' hb' hs hd hn Kc hK
                                have f154 : a'.tmps[154]?.getD undef = .bool true := hd 6 154 (by first | rfl | decide | simp [Region.binds]) rfl (by decide) (by decide) rfl
                                have f161 : a'.tmps[161]?.getD undef = .bool false := hd 13 161 (by first | rfl | decide | simp [Region.binds]) rfl (by decide) (by decide) rfl
                                clear hs hd hn
                                rw [if_neg (by decide), if_neg (by decide)] at hK
                                have v0' := (hb'.cell (p := ⟨bl, ol + k, none⟩) hlk).trans vk
                                have i1' := i1.below hb'
                                have i2' := i2.below hb'
                                have i3' := i3.below hb'
                                have k1' := k1.below hb'
                                have k2' := k2.below hb'
                                obtain ⟨lh, h0', h1', h2'⟩ := three_cells (gHr.below hb')
                                obtain ⟨lg, g0', g1', g2'⟩ := three_cells (gGr.below hb')
                                unfold Oper.wp
                                go_simp
                                try go_bits
                                exact hK _ _ (Below.refl _ _) (by first | rfl | (show Value.int _ _ = Value.int _ _; go_num; done) | (simp [valOf, *]; done) | (simp [valOf]; omega))
                              · intro _ a' w' hb' hs hd hn Kc hK
                                have f162 : a'.tmps[162]?.getD undef = .bool false := hd 14 162 (by first | rfl | decide | simp [Region.binds]) rfl (by decide) (by decide) rfl
                                clear hs hd hn
                                rw [if_neg (by decide), if_neg (by decide)] at hK
                                have v0' := (hb'.cell (p := ⟨bl, ol + k, none⟩) hlk).trans vk
                                have i1' := i1.below hb'
                                have i2' := i2.below hb'
                                have i3' := i3.below hb'
                                have k1' := k1.below hb'
                                have k2' := k2.below hb'
                                obtain ⟨lh, h0', h1', h2'⟩ := three_cells (gHr.below hb')
                                obtain ⟨lg, g0', g1', g2'⟩ := three_cells (gGr.below hb')
                                unfold Oper.wp
                                go_simp
                                try go_bits
                                exact hK _ _ (Below.refl _ _) (by first | rfl | (show Value.int _ _ = Value.int _ _; go_num; done) | (simp [valOf, *]; done) | (simp [valOf]; omega))
                              · intro _ a' w' hb' hs hd hn Kc hK
                                have f18 : a'.tmps[18]?.getD undef = .slice pn kn cn := (hs 18 (by decide)).trans rfl
                                clear hs hd hn
                                rw [if_neg (by decide), if_neg (by decide)] at hK
                                have v0' := (hb'.cell (p := ⟨bl, ol + k, none⟩) hlk).trans vk
                                have i1' := i1.below hb'
                                have i2' := i2.below hb'
                                have i3' := i3.below hb'
                                have k1' := k1.below hb'
                                have k2' := k2.below hb'
                                obtain ⟨lh, h0', h1', h2'⟩ := three_cells (gHr.below hb')
                                obtain ⟨lg, g0', g1', g2'⟩ := three_cells (gGr.below hb')
                                unfold Oper.wp
                                go_simp
                                try go_bits
                                exact hK _ _ (Below.refl _ _) (by first | rfl | (show Value.int _ _ = Value.int _ _; go_num; done) | (simp [valOf, *]; done) | (simp [valOf]; omega))
                              · intro _ a' w' hb' hs hd hn Kc hK
                                have f19 : a'.tmps[19]?.getD undef = .slice (some ⟨bl, ol, none⟩) kl cl := (hs 19 (by decide)).trans rfl
                                clear hs hd hn
                                rw [if_neg (by decide), if_neg (by decide)] at hK
                                have v0' := (hb'.cell (p := ⟨bl, ol + k, none⟩) hlk).trans vk
                                have i1' := i1.below hb'
                                have i2' := i2.below hb'
                                have i3' := i3.below hb'
                                have k1' := k1.below hb'
                                have k2' := k2.below hb'
                                obtain ⟨lh, h0', h1', h2'⟩ := three_cells (gHr.below hb')
                                obtain ⟨lg, g0', g1', g2'⟩ := three_cells (gGr.below hb')
                                unfold Oper.wp
                                go_simp
                                try go_bits
                                exact hK _ _ (Below.refl _ _) (by first | rfl | (show Value.int _ _ = Value.int _ _; go_num; done) | (simp [valOf, *]; done) | (simp [valOf]; omega))
                              · intro _ a' w' hb' hs hd hn Kc hK
                                have f20 : a'.tmps[20]?.getD undef = .int .i64 (k : Int) := (hs 20 (by decide)).trans rfl
                                clear hs hd hn
                                rw [if_neg (by decide), if_neg (by decide)] at hK
                                have v0' := (hb'.cell (p := ⟨bl, ol + k, none⟩) hlk).trans vk
                                have i1' := i1.below hb'
                                have i2' := i2.below hb'
                                have i3' := i3.below hb'
                                have k1' := k1.below hb'
                                have k2' := k2.below hb'
                                obtain ⟨lh, h0', h1', h2'⟩ := three_cells (gHr.below hb')
                                obtain ⟨lg, g0', g1', g2'⟩ := three_cells (gGr.below hb')
                                unfold Oper.wp
                                go_simp
                                try go_bits
                                exact hK _ _ (Below.refl _ _) (by first | rfl | (show Value.int _ _ = Value.int _ _; go_num; done) | (simp [valOf, *]; done) | (simp [valOf]; omega))
                              · intro _ a' w' hb' hs hd hn Kc hK
                                have f165 : a'.tmps[165]?.getD undef = .slice (some ⟨bl, ol, none⟩) kl cl := hd 17 165 (by first | rfl | decide | simp [Region.binds]) rfl (by decide) (by decide) rfl
                                have f166 : a'.tmps[166]?.getD undef = .int .i64 (k : Int) := hd 18 166 (by first | rfl | decide | simp [Region.binds]) rfl (by decide) (by decide) rfl
                                clear hs hd hn
                                rw [if_neg (by decide), if_neg (by decide)] at hK
                                have v0' := (hb'.cell (p := ⟨bl, ol + k, none⟩) hlk).trans vk
                                have i1' := i1.below hb'
                                have i2' := i2.below hb'
                                have i3' := i3.below hb'
                                have k1' := k1.below hb'
                                have k2' := k2.below hb'
                                obtain ⟨lh, h0', h1', h2'⟩ := three_cells (gHr.below hb')
                                obtain ⟨lg, g0', g1', g2'⟩ := three_cells (gGr.below hb')
                                unfold Oper.wp
                                go_simp
                                try go_bits
                                exact hK _ _ (Below.refl _ _) (by first | rfl | (show Value.int _ _ = Value.int _ _; go_num; done) | (simp [valOf, *]; done) | (simp [valOf]; omega))
                              · intro _ a' w' hb' hs hd hn Kc hK
                                have f167 : a'.tmps[167]?.getD undef = .pointer (some ⟨bl, ol + k, none⟩) := hd 19 167 (by first | rfl | decide | simp [Region.binds]) rfl (by decide) (by decide) rfl
                                clear hs hd hn
                                rw [if_neg (by decide), if_neg (by decide)] at hK
                                have v0' := (hb'.cell (p := ⟨bl, ol + k, none⟩) hlk).trans vk
                                have i1' := i1.below hb'
                                have i2' := i2.below hb'
                                have i3' := i3.below hb'
                                have k1' := k1.below hb'
                                have k2' := k2.below hb'
                                obtain ⟨lh, h0', h1', h2'⟩ := three_cells (gHr.below hb')
                                obtain ⟨lg, g0', g1', g2'⟩ := three_cells (gGr.below hb')
                                unfold Oper.wp
                                go_simp
                                try go_bits
                                exact hK _ _ (Below.refl _ _) (by first | rfl | (show Value.int _ _ = Value.int _ _; go_num; done) | (simp [valOf, *]; done) | (simp [valOf]; omega))
                              · intro _ a' w' hb' hs hd hn Kc hK
                                have f164 : a'.tmps[164]?.getD undef = .slice pn kn cn := hd 16 164 (by first | rfl | decide | simp [Region.binds]) rfl (by decide) (by decide) rfl
                                have f168 : a'.tmps[168]?.getD undef = .int .i64 X := hd 20 168 (by first | rfl | decide | simp [Region.binds]) rfl (by decide) (by decide) rfl
                                clear hs hd hn
                                rw [if_neg (by decide), if_neg (by decide)] at hK
                                have v0' := (hb'.cell (p := ⟨bl, ol + k, none⟩) hlk).trans vk
                                have i1' := i1.below hb'
                                have i2' := i2.below hb'
                                have i3' := i3.below hb'
                                have k1' := k1.below hb'
                                have k2' := k2.below hb'
                                obtain ⟨lh, h0', h1', h2'⟩ := three_cells (gHr.below hb')
                                obtain ⟨lg, g0', g1', g2'⟩ := three_cells (gGr.below hb')
                                unfold Oper.wp
                                go_simp
                                try go_bits
                                refine Calls.mono (hInn _ _ _ _ _ _ (by assumption) (by assumption)) ?_
                                rintro e w'' ⟨rfl, hb2⟩
                                exact hK _ _ hb2 rfl
                              · intro _ a' w' hb' hs hd hn Kc hK
                                have f169 : a'.tmps[169]?.getD undef = .bool true := hd 21 169 (by first | rfl | decide | simp [Region.binds]) rfl (by decide) (by decide) rfl
                                clear hs hd hn
                                rw [if_neg (by decide), if_neg (by decide)] at hK
                                have v0' := (hb'.cell (p := ⟨bl, ol + k, none⟩) hlk).trans vk
                                have i1' := i1.below hb'
                                have i2' := i2.below hb'
                                have i3' := i3.below hb'
                                have k1' := k1.below hb'
                                have k2' := k2.below hb'
                                obtain ⟨lh, h0', h1', h2'⟩ := three_cells (gHr.below hb')
                                obtain ⟨lg, g0', g1', g2'⟩ := three_cells (gGr.below hb')
                                unfold Oper.wp
                                go_simp
                                try go_bits
                                exact hK _ _ (Below.refl _ _) (by first | rfl | (show Value.int _ _ = Value.int _ _; go_num; done) | (simp [valOf, *]; done) | (simp [valOf]; omega))
                              · intro _ a' w' hb' hs hd hn Kc hK
                                have f11 : a'.tmps[11]?.getD undef = .slice pm km cm := (hs 11 (by decide)).trans rfl
                                clear hs hd hn
                                rw [if_neg (by decide), if_neg (by decide)] at hK
                                have v0' := (hb'.cell (p := ⟨bl, ol + k, none⟩) hlk).trans vk
                                have i1' := i1.below hb'
                                have i2' := i2.below hb'
                                have i3' := i3.below hb'
                                have k1' := k1.below hb'
                                have k2' := k2.below hb'
                                obtain ⟨lh, h0', h1', h2'⟩ := three_cells (gHr.below hb')
                                obtain ⟨lg, g0', g1', g2'⟩ := three_cells (gGr.below hb')
                                unfold Oper.wp
                                go_simp
                                try go_bits
                                exact hK _ _ (Below.refl _ _) (by first | rfl | (show Value.int _ _ = Value.int _ _; go_num; done) | (simp [valOf, *]; done) | (simp [valOf]; omega))
                              · intro _ a' w' hb' hs hd hn Kc hK
                                have f19 : a'.tmps[19]?.getD undef = .slice (some ⟨bl, ol, none⟩) kl cl := (hs 19 (by decide)).trans rfl
                                clear hs hd hn
                                rw [if_neg (by decide), if_neg (by decide)] at hK
                                have v0' := (hb'.cell (p := ⟨bl, ol + k, none⟩) hlk).trans vk
                                have i1' := i1.below hb'
                                have i2' := i2.below hb'
                                have i3' := i3.below hb'
                                have k1' := k1.below hb'
                                have k2' := k2.below hb'
                                obtain ⟨lh, h0', h1', h2'⟩ := three_cells (gHr.below hb')
                                obtain ⟨lg, g0', g1', g2'⟩ := three_cells (gGr.below hb')
                                unfold Oper.wp
                                go_simp
                                try go_bits
                                exact hK _ _ (Below.refl _ _) (by first | rfl | (show Value.int _ _ = Value.int _ _; go_num; done) | (simp [valOf, *]; done) | (simp [valOf]; omega))
                              · intro _ a' w' hb' hs hd hn Kc hK
                                have f20 : a'.tmps[20]?.getD undef = .int .i64 (k : Int) := (hs 20 (by decide)).trans rfl
                                clear hs hd hn
                                rw [if_neg (by decide), if_neg (by decide)] at hK
                                have v0' := (hb'.cell (p := ⟨bl, ol + k, none⟩) hlk).trans vk
                                have i1' := i1.below hb'
                                have i2' := i2.below hb'
                                have i3' := i3.below hb'
                                have k1' := k1.below hb'
                                have k2' := k2.below hb'
                                obtain ⟨lh, h0', h1', h2'⟩ := three_cells (gHr.below hb')
                                obtain ⟨lg, g0', g1', g2'⟩ := three_cells (gGr.below hb')
                                unfold Oper.wp
                                go_simp
                                try go_bits
                                exact hK _ _ (Below.refl _ _) (by first | rfl | (show Value.int _ _ = Value.int _ _; go_num; done) | (simp [valOf, *]; done) | (simp [valOf]; omega))
                              · intro _ a' w' hb' hs hd hn Kc hK
                                have f172 : a'.tmps[172]?.getD undef = .slice (some ⟨bl, ol, none⟩) kl cl := hd 24 172 (by first | rfl | decide | simp [Region.binds]) rfl (by decide) (by decide) rfl
                                have f173 : a'.tmps[173]?.getD undef = .int .i64 (k : Int) := hd 25 173 (by first | rfl | decide | simp [Region.binds]) rfl (by decide) (by decide) rfl
                                clear hs hd hn
                                rw [if_neg (by decide), if_neg (by decide)] at hK
                                have v0' := (hb'.cell (p := ⟨bl, ol + k, none⟩) hlk).trans vk
                                have i1' := i1.below hb'
                                have i2' := i2.below hb'
                                have i3' := i3.below hb'
                                have k1' := k1.below hb'
                                have k2' := k2.below hb'
                                obtain ⟨lh, h0', h1', h2'⟩ := three_cells (gHr.below hb')
                                obtain ⟨lg, g0', g1', g2'⟩ := three_cells (gGr.below hb')
                                unfold Oper.wp
                                go_simp
                                try go_bits
                                exact hK _ _ (Below.refl _ _) (by first | rfl | (show Value.int _ _ = Value.int _ _; go_num; done) | (simp [valOf, *]; done) | (simp [valOf]; omega))
                              · intro _ a' w' hb' hs hd hn Kc hK
                                have f174 : a'.tmps[174]?.getD undef = .pointer (some ⟨bl, ol + k, none⟩) := hd 26 174 (by first | rfl | decide | simp [Region.binds]) rfl (by decide) (by decide) rfl
                                clear hs hd hn
                                rw [if_neg (by decide), if_neg (by decide)] at hK
                                have v0' := (hb'.cell (p := ⟨bl, ol + k, none⟩) hlk).trans vk
                                have i1' := i1.below hb'
                                have i2' := i2.below hb'
                                have i3' := i3.below hb'
                                have k1' := k1.below hb'
                                have k2' := k2.below hb'
                                obtain ⟨lh, h0', h1', h2'⟩ := three_cells (gHr.below hb')
                                obtain ⟨lg, g0', g1', g2'⟩ := three_cells (gGr.below hb')
                                unfold Oper.wp
                                go_simp
                                try go_bits
                                exact hK _ _ (Below.refl _ _) (by first | rfl | (show Value.int _ _ = Value.int _ _; go_num; done) | (simp [valOf, *]; done) | (simp [valOf]; omega))
                              · intro _ a' w' hb' hs hd hn Kc hK
                                have f171 : a'.tmps[171]?.getD undef = .slice pm km cm := hd 23 171 (by first | rfl | decide | simp [Region.binds]) rfl (by decide) (by decide) rfl
                                have f175 : a'.tmps[175]?.getD undef = .int .i64 X := hd 27 175 (by first | rfl | decide | simp [Region.binds]) rfl (by decide) (by decide) rfl
                                clear hs hd hn
                                rw [if_neg (by decide), if_neg (by decide)] at hK
                                have v0' := (hb'.cell (p := ⟨bl, ol + k, none⟩) hlk).trans vk
                                have i1' := i1.below hb'
                                have i2' := i2.below hb'
                                have i3' := i3.below hb'
                                have k1' := k1.below hb'
                                have k2' := k2.below hb'
                                obtain ⟨lh, h0', h1', h2'⟩ := three_cells (gHr.below hb')
                                obtain ⟨lg, g0', g1', g2'⟩ := three_cells (gGr.below hb')
                                unfold Oper.wp
                                go_simp
                                try go_bits
                                refine Calls.mono (hInn _ _ _ _ _ _ (by assumption) (by assumption)) ?_
                                rintro e w'' ⟨rfl, hb2⟩
                                exact hK _ _ hb2 rfl
                              · intro _ a' w' hb' hs hd hn Kc hK
                                have f176 : a'.tmps[176]?.getD undef = .bool true := hd 28 176 (by first | rfl | decide | simp [Region.binds]) rfl (by decide) (by decide) rfl
                                clear hs hd hn
                                rw [if_neg (by decide), if_neg (by decide)] at hK
                                have v0' := (hb'.cell (p := ⟨bl, ol + k, none⟩) hlk).trans vk
                                have i1' := i1.below hb'
                                have i2' := i2.below hb'
                                have i3' := i3.below hb'
                                have k1' := k1.below hb'
                                have k2' := k2.below hb'
                                obtain ⟨lh, h0', h1', h2'⟩ := three_cells (gHr.below hb')
                                obtain ⟨lg, g0', g1', g2'⟩ := three_cells (gGr.below hb')
                                unfold Oper.wp
                                go_simp
                                try go_bits
                                exact hK _ _ (Below.refl _ _) (by first | rfl | (show Value.int _ _ = Value.int _ _; go_num; done) | (simp [valOf, *]; done) | (simp [valOf]; omega))
                              · intro _ a' w' hb' hs hd hn Kc hK
                                have f170 : a'.tmps[170]?.getD undef = .bool true := hd 22 170 (by first | rfl | decide | simp [Region.binds]) rfl (by decide) (by decide) rfl
                                have f177 : a'.tmps[177]?.getD undef = .bool false := hd 29 177 (by first | rfl | decide | simp [Region.binds]) rfl (by decide) (by decide) rfl
                                clear hs hd hn
                                rw [if_neg (by decide), if_neg (by decide)] at hK
                                have v0' := (hb'.cell (p := ⟨bl, ol + k, none⟩) hlk).trans vk
                                have i1' := i1.below hb'
                                have i2' := i2.below hb'
                                have i3' := i3.below hb'
                                have k1' := k1.below hb'
                                have k2' := k2.below hb'
                                obtain ⟨lh, h0', h1', h2'⟩ := three_cells (gHr.below hb')
                                obtain ⟨lg, g0', g1', g2'⟩ := three_cells (gGr.below hb')
                                unfold Oper.wp
                                go_simp
                                try go_bits
                                exact hK _ _ (Below.refl _ _) (by first | rfl | (show Value.int _ _ = Value.int _ _; go_num; done) | (simp [valOf, *]; done) | (simp [valOf]; omega))
                              · intro _ a' w' hb' hs hd hn Kc hK
                                have f163 : a'.tmps[163]?.getD undef = .bool false := hd 15 163 (by first | rfl | decide | simp [Region.binds]) rfl (by decide) (by decide) rfl
                                have f178 : a'.tmps[178]?.getD undef = .bool false := hd 30 178 (by first | rfl | decide | simp [Region.binds]) rfl (by decide) (by decide) rfl
                                clear hs hd hn
                                rw [if_neg (by decide), if_neg (by decide)] at hK
                                have v0' := (hb'.cell (p := ⟨bl, ol + k, none⟩) hlk).trans vk
                                have i1' := i1.below hb'
                                have i2' := i2.below hb'
                                have i3' := i3.below hb'
                                have k1' := k1.below hb'
                                have k2' := k2.below hb'
                                obtain ⟨lh, h0', h1', h2'⟩ := three_cells (gHr.below hb')
                                obtain ⟨lg, g0', g1', g2'⟩ := three_cells (gGr.below hb')
                                unfold Oper.wp
                                go_simp
                                try go_bits
                                exact hK _ _ (Below.refl _ _) (by first | rfl | (show Value.int _ _ = Value.int _ _; go_num; done) | (simp [valOf, *]; done) | (simp [valOf]; omega))
                              · intro _ a' w' hb' hs hd hn Kc hK
                                have f179 : a'.tmps[179]?.getD undef = .bool false := hd 31 179 (by first | rfl | decide | simp [Region.binds]) rfl (by decide) (by decide) rfl
                                clear hs hd hn
                                rw [if_neg (by decide), if_neg (by decide)] at hK
                                have v0' := (hb'.cell (p := ⟨bl, ol + k, none⟩) hlk).trans vk
                                have i1' := i1.below hb'
                                have i2' := i2.below hb'
                                have i3' := i3.below hb'
                                have k1' := k1.below hb'
                                have k2' := k2.below hb'
                                obtain ⟨lh, h0', h1', h2'⟩ := three_cells (gHr.below hb')
                                obtain ⟨lg, g0', g1', g2'⟩ := three_cells (gGr.below hb')
                                unfold Oper.wp
                                go_simp
                                try go_bits
                                exact hK _ _ (Below.refl _ _) (by first | rfl | (show Value.int _ _ = Value.int _ _; go_num; done) | (simp [valOf, *]; done) | (simp [valOf]; omega))
                              · intro _ a' w' hb' hs hd hn Kc hK
                                have f2 : a'.tmps[2]?.getD undef = .pointer (some ⟨w.heap.size, 0, none⟩) := (hs 2 (by decide)).trans rfl
                                clear hs hd hn
                                rw [if_neg (by decide), if_neg (by decide)] at hK
                                have v0' := (hb'.cell (p := ⟨bl, ol + k, none⟩) hlk).trans vk
                                have i1' := i1.below hb'
                                have i2' := i2.below hb'
                                have i3' := i3.below hb'
                                have k1' := k1.below hb'
                                have k2' := k2.below hb'
                                obtain ⟨lh, h0', h1', h2'⟩ := three_cells (gHr.below hb')
                                obtain ⟨lg, g0', g1', g2'⟩ := three_cells (gGr.below hb')
                                unfold Oper.wp
                                go_simp
                                try go_bits
                                exact hK _ _ (Below.refl _ _) (by first | rfl | (show Value.int _ _ = Value.int _ _; go_num; done) | (simp [valOf, *]; done) | (simp [valOf]; omega))
                              · intro _ a' w' hb' hs hd hn Kc hK
                                have f19 : a'.tmps[19]?.getD undef = .slice (some ⟨bl, ol, none⟩) kl cl := (hs 19 (by decide)).trans rfl
                                clear hs hd hn
                                rw [if_neg (by decide), if_neg (by decide)] at hK
                                have v0' := (hb'.cell (p := ⟨bl, ol + k, none⟩) hlk).trans vk
                                have i1' := i1.below hb'
                                have i2' := i2.below hb'
                                have i3' := i3.below hb'
                                have k1' := k1.below hb'
                                have k2' := k2.below hb'
                                obtain ⟨lh, h0', h1', h2'⟩ := three_cells (gHr.below hb')
                                obtain ⟨lg, g0', g1', g2'⟩ := three_cells (gGr.below hb')
                                unfold Oper.wp
                                go_simp
                                try go_bits
                                exact hK _ _ (Below.refl _ _) (by first | rfl | (show Value.int _ _ = Value.int _ _; go_num; done) | (simp [valOf, *]; done) | (simp [valOf]; omega))
                              · intro _ a' w' hb' hs hd hn Kc hK
                                have f20 : a'.tmps[20]?.getD undef = .int .i64 (k : Int) := (hs 20 (by decide)).trans rfl
                                clear hs hd hn
                                rw [if_neg (by decide), if_neg (by decide)] at hK
                                have v0' := (hb'.cell (p := ⟨bl, ol + k, none⟩) hlk).trans vk
                                have i1' := i1.below hb'
                                have i2' := i2.below hb'
                                have i3' := i3.below hb'
                                have k1' := k1.below hb'
                                have k2' := k2.below hb'
                                obtain ⟨lh, h0', h1', h2'⟩ := three_cells (gHr.below hb')
                                obtain ⟨lg, g0', g1', g2'⟩ := three_cells (gGr.below hb')
                                unfold Oper.wp
                                go_simp
                                try go_bits
                                exact hK _ _ (Below.refl _ _) (by first | rfl | (show Value.int _ _ = Value.int _ _; go_num; done) | (simp [valOf, *]; done) | (simp [valOf]; omega))
                              · intro _ a' w' hb' hs hd hn Kc hK
                                have f182 : a'.tmps[182]?.getD undef = .slice (some ⟨bl, ol, none⟩) kl cl := hd 34 182 (by first | rfl | decide | simp [Region.binds]) rfl (by decide) (by decide) rfl
                                have f183 : a'.tmps[183]?.getD undef = .int .i64 (k : Int) := hd 35 183 (by first | rfl | decide | simp [Region.binds]) rfl (by decide) (by decide) rfl
                                clear hs hd hn
                                rw [if_neg (by decide), if_neg (by decide)] at hK
                                have v0' := (hb'.cell (p := ⟨bl, ol + k, none⟩) hlk).trans vk
                                have i1' := i1.below hb'
                                have i2' := i2.below hb'
                                have i3' := i3.below hb'
                                have k1' := k1.below hb'
                                have k2' := k2.below hb'
                                obtain ⟨lh, h0', h1', h2'⟩ := three_cells (gHr.below hb')
                                obtain ⟨lg, g0', g1', g2'⟩ := three_cells (gGr.below hb')
                                unfold Oper.wp
                                go_simp
                                try go_bits
                                exact hK _ _ (Below.refl _ _) (by first | rfl | (show Value.int _ _ = Value.int _ _; go_num; done) | (simp [valOf, *]; done) | (simp [valOf]; omega))
                              · intro _ a' w' hb' hs hd hn Kc hK
                                have f184 : a'.tmps[184]?.getD undef = .pointer (some ⟨bl, ol + k, none⟩) := hd 36 184 (by first | rfl | decide | simp [Region.binds]) rfl (by decide) (by decide) rfl
                                clear hs hd hn
                                rw [if_neg (by decide), if_neg (by decide)] at hK
                                have v0' := (hb'.cell (p := ⟨bl, ol + k, none⟩) hlk).trans vk
                                have i1' := i1.below hb'
                                have i2' := i2.below hb'
                                have i3' := i3.below hb'
                                have k1' := k1.below hb'
                                have k2' := k2.below hb'
                                obtain ⟨lh, h0', h1', h2'⟩ := three_cells (gHr.below hb')
                                obtain ⟨lg, g0', g1', g2'⟩ := three_cells (gGr.below hb')
                                unfold Oper.wp
                                go_simp
                                try go_bits
                                exact hK _ _ (Below.refl _ _) (by first | rfl | (show Value.int _ _ = Value.int _ _; go_num; done) | (simp [valOf, *]; done) | (simp [valOf]; omega))
                              · intro _ a' w' hb' hs hd hn Kc hK
                                have f181 : a'.tmps[181]?.getD undef = .agg #[.slice p h.n c, .slice q h.m d, .bool h.b] := hd 33 181 (by first | rfl | decide | simp [Region.binds]) rfl (by decide) (by decide) rfl
                                have f185 : a'.tmps[185]?.getD undef = .int .i64 X := hd 37 185 (by first | rfl | decide | simp [Region.binds]) rfl (by decide) (by decide) rfl
                                clear hs hd hn
                                rw [if_neg (by decide), if_neg (by decide)] at hK
                                have v0' := (hb'.cell (p := ⟨bl, ol + k, none⟩) hlk).trans vk
                                have i1' := i1.below hb'
                                have i2' := i2.below hb'
                                have i3' := i3.below hb'
                                have k1' := k1.below hb'
                                have k2' := k2.below hb'
                                obtain ⟨lh, h0', h1', h2'⟩ := three_cells (gHr.below hb')
                                obtain ⟨lg, g0', g1', g2'⟩ := three_cells (gGr.below hb')
                                unfold Oper.wp
                                go_simp
                                try go_bits
                                refine Calls.mono (hRf _ _ _ _ _ _ (by assumption) (by assumption)) ?_
                                rintro e w'' ⟨pm, cm, rfl, hA, hb2⟩
                                exact hK _ _ hb2 ⟨_, _, rfl, hA⟩
                              · intro _ a' w' hb' hs hd hn Kc hK
                                have f13 : a'.tmps[13]?.getD undef = .pointer (some ⟨BG, 0, none⟩) := (hs 13 (by decide)).trans rfl
                                clear hs hd hn
                                rw [if_neg (by decide), if_neg (by decide)] at hK
                                have v0' := (hb'.cell (p := ⟨bl, ol + k, none⟩) hlk).trans vk
                                have i1' := i1.below hb'
                                have i2' := i2.below hb'
                                have i3' := i3.below hb'
                                have k1' := k1.below hb'
                                have k2' := k2.below hb'
                                obtain ⟨lh, h0', h1', h2'⟩ := three_cells (gHr.below hb')
                                obtain ⟨lg, g0', g1', g2'⟩ := three_cells (gGr.below hb')
                                unfold Oper.wp
                                go_simp
                                try go_bits
                                exact hK _ _ (Below.refl _ _) (by first | rfl | (show Value.int _ _ = Value.int _ _; go_num; done) | (simp [valOf, *]; done) | (simp [valOf]; omega))
                              · intro _ a' w' hb' hs hd hn Kc hK
                                have f19 : a'.tmps[19]?.getD undef = .slice (some ⟨bl, ol, none⟩) kl cl := (hs 19 (by decide)).trans rfl
                                clear hs hd hn
                                rw [if_neg (by decide), if_neg (by decide)] at hK
                                have v0' := (hb'.cell (p := ⟨bl, ol + k, none⟩) hlk).trans vk
                                have i1' := i1.below hb'
                                have i2' := i2.below hb'
                                have i3' := i3.below hb'
                                have k1' := k1.below hb'
                                have k2' := k2.below hb'
                                obtain ⟨lh, h0', h1', h2'⟩ := three_cells (gHr.below hb')
                                obtain ⟨lg, g0', g1', g2'⟩ := three_cells (gGr.below hb')
                                unfold Oper.wp
                                go_simp
                                try go_bits
                                exact hK _ _ (Below.refl _ _) (by first | rfl | (show Value.int _ _ = Value.int _ _; go_num; done) | (simp [valOf, *]; done) | (simp [valOf]; omega))
                              · intro _ a' w' hb' hs hd hn Kc hK
                                have f20 : a'.tmps[20]?.getD undef = .int .i64 (k : Int) := (hs 20 (by decide)).trans rfl
                                clear hs hd hn
                                rw [if_neg (by decide), if_neg (by decide)] at hK
                                have v0' := (hb'.cell (p := ⟨bl, ol + k, none⟩) hlk).trans vk
                                have i1' := i1.below hb'
                                have i2' := i2.below hb'
                                have i3' := i3.below hb'
                                have k1' := k1.below hb'
                                have k2' := k2.below hb'
                                obtain ⟨lh, h0', h1', h2'⟩ := three_cells (gHr.below hb')
                                obtain ⟨lg, g0', g1', g2'⟩ := three_cells (gGr.below hb')
                                unfold Oper.wp
                                go_simp
                                try go_bits
                                exact hK _ _ (Below.refl _ _) (by first | rfl | (show Value.int _ _ = Value.int _ _; go_num; done) | (simp [valOf, *]; done) | (simp [valOf]; omega))
                              · intro _ a' w' hb' hs hd hn Kc hK
                                have f188 : a'.tmps[188]?.getD undef = .slice (some ⟨bl, ol, none⟩) kl cl := hd 40 188 (by first | rfl | decide | simp [Region.binds]) rfl (by decide) (by decide) rfl
                                have f189 : a'.tmps[189]?.getD undef = .int .i64 (k : Int) := hd 41 189 (by first | rfl | decide | simp [Region.binds]) rfl (by decide) (by decide) rfl
                                clear hs hd hn
                                rw [if_neg (by decide), if_neg (by decide)] at hK
                                have v0' := (hb'.cell (p := ⟨bl, ol + k, none⟩) hlk).trans vk
                                have i1' := i1.below hb'
                                have i2' := i2.below hb'
                                have i3' := i3.below hb'
                                have k1' := k1.below hb'
                                have k2' := k2.below hb'
                                obtain ⟨lh, h0', h1', h2'⟩ := three_cells (gHr.below hb')
                                obtain ⟨lg, g0', g1', g2'⟩ := three_cells (gGr.below hb')
                                unfold Oper.wp
                                go_simp
                                try go_bits
                                exact hK _ _ (Below.refl _ _) (by first | rfl | (show Value.int _ _ = Value.int _ _; go_num; done) | (simp [valOf, *]; done) | (simp [valOf]; omega))
                              · intro _ a' w' hb' hs hd hn Kc hK
                                have f190 : a'.tmps[190]?.getD undef = .pointer (some ⟨bl, ol + k, none⟩) := hd 42 190 (by first | rfl | decide | simp [Region.binds]) rfl (by decide) (by decide) rfl
                                clear hs hd hn
                                rw [if_neg (by decide), if_neg (by decide)] at hK
                                have v0' := (hb'.cell (p := ⟨bl, ol + k, none⟩) hlk).trans vk
                                have i1' := i1.below hb'
                                have i2' := i2.below hb'
                                have i3' := i3.below hb'
                                have k1' := k1.below hb'
                                have k2' := k2.below hb'
                                obtain ⟨lh, h0', h1', h2'⟩ := three_cells (gHr.below hb')
                                obtain ⟨lg, g0', g1', g2'⟩ := three_cells (gGr.below hb')
                                unfold Oper.wp
                                go_simp
                                try go_bits
                                exact hK _ _ (Below.refl _ _) (by first | rfl | (show Value.int _ _ = Value.int _ _; go_num; done) | (simp [valOf, *]; done) | (simp [valOf]; omega))
                              · intro _ a' w' hb' hs hd hn Kc hK
                                have f187 : a'.tmps[187]?.getD undef = .agg #[.slice p1 h.n c1, .slice q1 h.m d1, .bool h.b] := hd 39 187 (by first | rfl | decide | simp [Region.binds]) rfl (by decide) (by decide) rfl
                                have f191 : a'.tmps[191]?.getD undef = .int .i64 X := hd 43 191 (by first | rfl | decide | simp [Region.binds]) rfl (by decide) (by decide) rfl
                                clear hs hd hn
                                rw [if_neg (by decide), if_neg (by decide)] at hK
                                have v0' := (hb'.cell (p := ⟨bl, ol + k, none⟩) hlk).trans vk
                                have i1' := i1.below hb'
                                have i2' := i2.below hb'
                                have i3' := i3.below hb'
                                have k1' := k1.below hb'
                                have k2' := k2.below hb'
                                obtain ⟨lh, h0', h1', h2'⟩ := three_cells (gHr.below hb')
                                obtain ⟨lg, g0', g1', g2'⟩ := three_cells (gGr.below hb')
                                unfold Oper.wp
                                go_simp
                                try go_bits
                                refine Calls.mono (hRf _ _ _ _ _ _ (by assumption) (by assumption)) ?_
                                rintro e w'' ⟨pm, cm, rfl, hA, hb2⟩
                                exact hK _ _ hb2 ⟨_, _, rfl, hA⟩
                              · intro _ a' w' hb' hs hd hn Kc hK
                                obtain ⟨pm, cm, f186, hA⟩ := hd 38 186 (by first | rfl | decide | simp [Region.binds]) rfl (by decide) (by decide) rfl
                                obtain ⟨pm, cm, f192, hA⟩ := hd 44 192 (by first | rfl | decide | simp [Region.binds]) rfl (by decide) (by decide) rfl
                                clear hs hd hn
                                rw [if_neg (by decide), if_neg (by decide)] at hK
                                have v0' := (hb'.cell (p := ⟨bl, ol + k, none⟩) hlk).trans vk
                                have i1' := i1.below hb'
                                have i2' := i2.below hb'
                                have i3' := i3.below hb'
                                have k1' := k1.below hb'
                                have k2' := k2.below hb'
                                obtain ⟨lh, h0', h1', h2'⟩ := three_cells (gHr.below hb')
                                obtain ⟨lg, g0', g1', g2'⟩ := three_cells (gGr.below hb')
                                unfold Oper.wp
                                go_simp
                                try go_bits
                                refine Calls.mono (hII _ _ _ _ _ (by assumption) (by assumption)) ?_
                                rintro e w'' ⟨rfl, hb2⟩
                                exact hK _ _ hb2 rfl
                              · intro _ a' w' hb' hs hd hn Kc hK
                                have f193 : a'.tmps[193]?.getD undef = .bool true := hd 45 193 (by first | rfl | decide | simp [Region.binds]) rfl (by decide) (by decide) rfl
                                clear hs hd hn
                                rw [if_neg (by decide), if_neg (by decide)] at hK
                                have v0' := (hb'.cell (p := ⟨bl, ol + k, none⟩) hlk).trans vk
                                have i1' := i1.below hb'
                                have i2' := i2.below hb'
                                have i3' := i3.below hb'
                                have k1' := k1.below hb'
                                have k2' := k2.below hb'
                                obtain ⟨lh, h0', h1', h2'⟩ := three_cells (gHr.below hb')
                                obtain ⟨lg, g0', g1', g2'⟩ := three_cells (gGr.below hb')
                                unfold Oper.wp
                                go_simp
                                try go_bits
                                exact hK _ _ (Below.refl _ _) (by first | rfl | (show Value.int _ _ = Value.int _ _; go_num; done) | (simp [valOf, *]; done) | (simp [valOf]; omega))
                              · intro _ a' w' hb' hs hd hn Kc hK
                                have f180 : a'.tmps[180]?.getD undef = .bool false := hd 32 180 (by first | rfl | decide | simp [Region.binds]) rfl (by decide) (by decide) rfl
                                have f194 : a'.tmps[194]?.getD undef = .bool false := hd 46 194 (by first | rfl | decide | simp [Region.binds]) rfl (by decide) (by decide) rfl
                                clear hs hd hn
                                rw [if_neg (by decide), if_neg (by decide)] at hK
                                have v0' := (hb'.cell (p := ⟨bl, ol + k, none⟩) hlk).trans vk
                                have i1' := i1.below hb'
                                have i2' := i2.below hb'
                                have i3' := i3.below hb'
                                have k1' := k1.below hb'
                                have k2' := k2.below hb'
                                obtain ⟨lh, h0', h1', h2'⟩ := three_cells (gHr.below hb')
                                obtain ⟨lg, g0', g1', g2'⟩ := three_cells (gGr.below hb')
                                unfold Oper.wp
                                go_simp
                                try go_bits
                                exact hK _ _ (Below.refl _ _) (by first | rfl | (show Value.int _ _ = Value.int _ _; go_num; done) | (simp [valOf, *]; done) | (simp [valOf]; omega))
                            intro Xf g w' hX hb hv
                            have q195 : Xf 195 = .bool false := hv 47 195 rfl rfl (by decide) (by decide)
                            clear hX hv
                            simp only [List.map_cons, List.map_nil, q195, puts, Act.put, Nat.reduceAdd, List.setIfInBounds_toArray, List.set_cons_succ, List.set_cons_zero]
                            go_wp2
                            go_roundg (kl - (k + 1))
                            case measure => omega
                            case rel => exact ⟨k + 1, by omega, rfl, by go_num, bjoin hb hbr⟩
                        · obtain rfl : k = kl := by omega
                          go_wp2
                          go_returns
                          exact ⟨rfl, bjoin hbr hbw5⟩
                    | false =>
                      obtain ⟨hU1, hR1, hmu1⟩ := hstep.out rfl
                      have hF1 := hU1.pn.form hF'.out
                      have hrt := rtD_iff.2 hR1
                      have hRi : Calls Tryd.prog 18 #[.agg #[.slice p2 h.n c2, .slice q2 h.m d2, .bool h.b], .agg #[.int .i64 M1.g.r, .slice pg2 M1.g.n cg2, .slice pb2 M1.nb cb2, .slice pr2 M1.nr cr2, .int .i64 M1.ob, .int .i64 M1.fi, .int .i64 M1.cu, .bool M1.ov]] w5b fun e w' => e = .returned (.bool true) ∧ Below w5b.heap.size w5b w' := by
                        obtain ⟨en, em, eb, ha⟩ := hH1
                        have := rright17_any p2 c2 q2 d2 H1 M1 pg2 cg2 pb2 cb2 pr2 cr2 w5b ha hF1 hM1.g hM1.b.plain
                        rw [hrt, ← en, ← em, ← eb] at this
                        exact this
                      have hmu2 : Hid (muM H1 M1 ≤ BO - ((i + 1 : Nat) : Int)) := by
                        have := hmu.out
                        show muM H1 M1 ≤ BO - ((i + 1 : Nat) : Int)
                        push_cast
                        omega
                      have hR1' : Hid (rightM H1 M1) := hR1
                      obtain ⟨l0, x0, x1, x2⟩ : BK < w5b.heap.size ∧ w5b.cell? ⟨BK, 0, none⟩ = some (.slice p2 h.n c2) ∧ w5b.cell? ⟨BK, 1, none⟩ = some (.slice q2 h.m d2) ∧ w5b.cell? ⟨BK, 2, none⟩ = some (.bool h.b) := ⟨gK.lt, gK.cell 0, gK.cell 1, gK.cell 2⟩
                      obtain ⟨l8, y0, y1, y2, y3, y4, y5, y6, y7⟩ := mk_cells gX
                      clear hstep hdn hmu hmu1 hrt hR1 hh hF1 hFH hRR
                      go_upto_region 42 with (first
    | (go_at_call 18; refine Calls.mono (hRi) ?_; rintro e w' ⟨rfl, hb⟩; obtain ⟨hc, hf, hb, hz⟩ := bstep hb (w := w5b) (by go_grown); try simp only [World.size_alloc, World.size_setCell, World.size_drew] at hc hf hz)
                      )
                      have hb6 := hb
                      replace gG := gG.below hb
                      replace gMM := gMM.below hb
                      replace gHH := gHH.below hb
                      replace gK := gK.below hb
                      replace gX := gX.below hb
                      replace hH1 := hH1.below hb
                      replace hM1 := hM1.below hb
                      replace hIw := hIw.below hb
                      replace hIm := hIm.below hb
                      replace hbw5 := bjoin hb hbw5
                      clear hRi hb hc hf hz x0 x1 x2 l0 y0 y1 y2 y3 y4 y5 y6 y7 l8 hb6 hsz5
                      generalize w' = w6 at *
                      obtain ⟨l0, x0, x1, x2, f0, f1, f2⟩ : BG < w6.heap.size ∧ w6.cell? ⟨BG, 0, none⟩ = some (.slice p1 h.n c1) ∧ w6.cell? ⟨BG, 1, none⟩ = some (.slice q1 h.m d1) ∧ w6.cell? ⟨BG, 2, none⟩ = some (.bool h.b) ∧ w6.frozen? ⟨BG, 0, none⟩ = false ∧ w6.frozen? ⟨BG, 1, none⟩ = false ∧ w6.frozen? ⟨BG, 2, none⟩ = false := ⟨gG.lt, gG.cell 0, gG.cell 1, gG.cell 2, gG.frozen 0, gG.frozen 1, gG.frozen 2⟩
                      obtain ⟨lK, k0, k1, k2⟩ : BK < w6.heap.size ∧ w6.cell? ⟨BK, 0, none⟩ = some (.slice p2 h.n c2) ∧ w6.cell? ⟨BK, 1, none⟩ = some (.slice q2 h.m d2) ∧ w6.cell? ⟨BK, 2, none⟩ = some (.bool h.b) := ⟨gK.lt, gK.cell 0, gK.cell 1, gK.cell 2⟩
                      go_upto_region 43 with fail
                      obtain ⟨w7, hw7⟩ : ∃ W, W = ((w6.setCell ⟨BG, 0, none⟩ (.slice p2 h.n c2)).setCell ⟨BG, 1, none⟩ (.slice q2 h.m d2)).setCell ⟨BG, 2, none⟩ (.bool h.b) := ⟨_, rfl⟩
                      have hp7 : putsL BG 0 [.slice p2 h.n c2, .slice q2 h.m d2, .bool h.b] w6 = w7 := hw7.symm
                      rw [← hw7]
                      clear hw7 x0 x1 x2 f0 f1 f2 l0 k0 k1 k2 lK
                      have hwG : w.heap.size ≤ BG := by omega
                      have hvH := gG.varH
                      have gG7 := gG.putsL [.slice p2 h.n c2, .slice q2 h.m d2, .bool h.b] 0
                      have gM7 := gMM.of_block (putsL_other (show ¬ w.heap.size + 1 = BG by omega) [.slice p2 h.n c2, .slice q2 h.m d2, .bool h.b] 0 w6)
                      have gH7 := gHH.of_block (putsL_other (show ¬ w.heap.size = BG by omega) [.slice p2 h.n c2, .slice q2 h.m d2, .bool h.b] 0 w6)
                      have gX7 := gX.of_block (putsL_other (show ¬ BK + 1 = BG by omega) [.slice p2 h.n c2, .slice q2 h.m d2, .bool h.b] 0 w6)
                      have hH7 := hpIn_puts (hvH.clear hH1 hn32.1 hn32.2) [.slice p2 h.n c2, .slice q2 h.m d2, .bool h.b] 0 hH1
                      have hM7 := hM1.puts hvH (by decide) (by decide) (by decide) hwG [.slice p2 h.n c2, .slice q2 h.m d2, .bool h.b]
                      have hIw7 := hIw.of_block (w' := putsL BG 0 [.slice p2 h.n c2, .slice q2 h.m d2, .bool h.b] w6) (by rw [putsL_size]; exact Nat.le_refl _) fun h0 b off sp e => putsL_other (show ¬ b = BG by have := hpw3 h0 b off sp e; omega) [.slice p2 h.n c2, .slice q2 h.m d2, .bool h.b] 0 w6
                      have hIm7 := hIm.of_block (w' := putsL BG 0 [.slice p2 h.n c2, .slice q2 h.m d2, .bool h.b] w6) (by rw [putsL_size]; exact Nat.le_refl _) fun h0 b off sp e => putsL_other (show ¬ b = BG by have := hpm3 h0 b off sp e; omega) [.slice p2 h.n c2, .slice q2 h.m d2, .bool h.b] 0 w6
                      have hbw7 := hbw5.trans (putsL_below hwG [.slice p2 h.n c2, .slice q2 h.m d2, .bool h.b] 0 w6)
                      rw [hp7] at gG7 gM7 gH7 gX7 hH7 hM7 hIw7 hIm7 hbw7
                      clear hp7 hbw5 hvH gK gG gMM gHH gX hH1 hM1 hIw hIm
                      obtain ⟨lX, k0, k1, k2, k3, k4, k5, k6, k7⟩ := mk_cells gX7
                      obtain ⟨l8, y0, y1, y2, y3, y4, y5, y6, y7⟩ := mk_cells gM7
                      obtain ⟨f0, f1, f2, f3, f4, f5, f6, f7⟩ := mk_frozen gM7
                      go_upto_region 27 with fail
                      obtain ⟨w9, hw9⟩ : ∃ W, W = (((((((w7.setCell ⟨w.heap.size + 1, 0, none⟩ (.int .i64 M1.g.r)).setCell ⟨w.heap.size + 1, 1, none⟩ (.slice pg2 M1.g.n cg2)).setCell ⟨w.heap.size + 1, 2, none⟩ (.slice pb2 M1.nb cb2)).setCell ⟨w.heap.size + 1, 3, none⟩ (.slice pr2 M1.nr cr2)).setCell ⟨w.heap.size + 1, 4, none⟩ (.int .i64 M1.ob)).setCell ⟨w.heap.size + 1, 5, none⟩ (.int .i64 M1.fi)).setCell ⟨w.heap.size + 1, 6, none⟩ (.int .i64 M1.cu)).setCell ⟨w.heap.size + 1, 7, none⟩ (.bool M1.ov) := ⟨_, rfl⟩
                      have hp9 : putsL (w.heap.size + 1) 0 [.int .i64 M1.g.r, .slice pg2 M1.g.n cg2, .slice pb2 M1.nb cb2, .slice pr2 M1.nr cr2, .int .i64 M1.ob, .int .i64 M1.fi, .int .i64 M1.cu, .bool M1.ov] w7 = w9 := hw9.symm
                      rw [← hw9]
                      clear hw9 k0 k1 k2 k3 k4 k5 k6 k7 y0 y1 y2 y3 y4 y5 y6 y7 f0 f1 f2 f3 f4 f5 f6 f7 lX l8
                      have hvM := gM7.varM
                      have hw1 : w.heap.size ≤ w.heap.size + 1 := Nat.le_succ _
                      have gM9 := gM7.putsL [.int .i64 M1.g.r, .slice pg2 M1.g.n cg2, .slice pb2 M1.nb cb2, .slice pr2 M1.nr cr2, .int .i64 M1.ob, .int .i64 M1.fi, .int .i64 M1.cu, .bool M1.ov] 0
                      rw [set_eight] at gM9
                      have gG9 := gG7.of_block (putsL_other (show ¬ BG = w.heap.size + 1 by omega) [.int .i64 M1.g.r, .slice pg2 M1.g.n cg2, .slice pb2 M1.nb cb2, .slice pr2 M1.nr cr2, .int .i64 M1.ob, .int .i64 M1.fi, .int .i64 M1.cu, .bool M1.ov] 0 w7)
                      have gH9 := gH7.of_block (putsL_other (show ¬ w.heap.size = w.heap.size + 1 by omega) [.int .i64 M1.g.r, .slice pg2 M1.g.n cg2, .slice pb2 M1.nb cb2, .slice pr2 M1.nr cr2, .int .i64 M1.ob, .int .i64 M1.fi, .int .i64 M1.cu, .bool M1.ov] 0 w7)
                      have hH9 := hpIn_puts (hvM.clear hH7 hn32.1 hn32.2) [.int .i64 M1.g.r, .slice pg2 M1.g.n cg2, .slice pb2 M1.nb cb2, .slice pr2 M1.nr cr2, .int .i64 M1.ob, .int .i64 M1.fi, .int .i64 M1.cu, .bool M1.ov] 0 hH7
                      have hM9 := hM7.puts hvM (by decide) (by decide) (by decide) hw1 [.int .i64 M1.g.r, .slice pg2 M1.g.n cg2, .slice pb2 M1.nb cb2, .slice pr2 M1.nr cr2, .int .i64 M1.ob, .int .i64 M1.fi, .int .i64 M1.cu, .bool M1.ov]
                      have hIw9 := hIw7.of_block (w' := putsL (w.heap.size + 1) 0 [.int .i64 M1.g.r, .slice pg2 M1.g.n cg2, .slice pb2 M1.nb cb2, .slice pr2 M1.nr cr2, .int .i64 M1.ob, .int .i64 M1.fi, .int .i64 M1.cu, .bool M1.ov] w7) (by rw [putsL_size]; exact Nat.le_refl _) fun h0 b off sp e => putsL_other (show ¬ b = w.heap.size + 1 by have := hpw b off sp e; omega) [.int .i64 M1.g.r, .slice pg2 M1.g.n cg2, .slice pb2 M1.nb cb2, .slice pr2 M1.nr cr2, .int .i64 M1.ob, .int .i64 M1.fi, .int .i64 M1.cu, .bool M1.ov] 0 w7
                      have hIm9 := hIm7.of_block (w' := putsL (w.heap.size + 1) 0 [.int .i64 M1.g.r, .slice pg2 M1.g.n cg2, .slice pb2 M1.nb cb2, .slice pr2 M1.nr cr2, .int .i64 M1.ob, .int .i64 M1.fi, .int .i64 M1.cu, .bool M1.ov] w7) (by rw [putsL_size]; exact Nat.le_refl _) fun h0 b off sp e => putsL_other (show ¬ b = w.heap.size + 1 by have := hpm b off sp e; omega) [.int .i64 M1.g.r, .slice pg2 M1.g.n cg2, .slice pb2 M1.nb cb2, .slice pr2 M1.nr cr2, .int .i64 M1.ob, .int .i64 M1.fi, .int .i64 M1.cu, .bool M1.ov] 0 w7
                      have hbw9 := hbw7.trans (putsL_below hw1 [.int .i64 M1.g.r, .slice pg2 M1.g.n cg2, .slice pb2 M1.nb cb2, .slice pr2 M1.nr cr2, .int .i64 M1.ob, .int .i64 M1.fi, .int .i64 M1.cu, .bool M1.ov] 0 w7)
                      rw [hp9] at gM9 gG9 gH9 hH9 hM9 hIw9 hIm9 hbw9
                      clear hp9 hbw7 hvM gX7 gM7 gH7 gG7 hH7 hM7 hIw7 hIm7
                      go_wp2
                      go_roundg (BO + 1 - (i + 1))
                      case measure => omega
                      case rel => exact ⟨i + 1, H1, M1, p2, c2, q2, d2, pg2, cg2, pb2, cb2, pr2, cr2, rfl, by go_num, hmu2, hU1, hR1', hnx1', hnx2', gG9, gM9, gH9, hH9, hM9, hIw9, hIm9, hbw9⟩
  · have hcs : (ftD h m = false) ∨ (ftD h m = true ∧ apB h = false) := by
      cases e : ftD h m with
      | false => exact .inl rfl
      | true =>
        cases e2 : apB h with
        | false => exact .inr ⟨rfl, rfl⟩
        | true => exact absurd ⟨e, e2⟩ hgo
    have hAp := fun (hF : formB h = true) W (hW : Below w0.heap.size w0 W) => rapart_any _ _ _ _ _ W (hat.below hW) hF
    clear hgo
    rcases hcs with e | ⟨e, e2⟩
    case' inl =>
      rw [e] at hFi
      clear hAp
    case' inr =>
      have hF : formB h = true := by
        unfold ftD at e
        simp only [Bool.and_eq_true] at e
        exact e.1.1.1
      rw [e] at hFi
      replace hAp := hAp hF
      rw [e2] at hAp
      clear hF
    all_goals
      go_enter Tryd.func3, Tryd.ntmps3
      go_upto_region 1 with fail
      rw [← hw0]
      clear hw0
      go_wp2_with (first
    | (go_at_call 7; refine Calls.mono (awake17_any _ (hS.below (by go_grown))) ?_; rintro e w' ⟨rfl, hb⟩; obtain ⟨hc, hf, hb, hz⟩ := bstep hb (w := w0) (by go_grown); try simp only [World.size_alloc, World.size_setCell, World.size_drew] at hc hf hz)
    | (go_at_call 8; refine Calls.mono (hFi _ (by go_grown)) ?_; rintro e w' ⟨rfl, hb⟩; obtain ⟨hc, hf, hb, hz⟩ := bstep hb (w := w0) (by go_grown); try simp only [World.size_alloc, World.size_setCell, World.size_drew] at hc hf hz)
    | (go_at_call 9; refine Calls.mono (hAp _ (by go_grown)) ?_; rintro e w' ⟨rfl, hb⟩; obtain ⟨hc, hf, hb, hz⟩ := bstep hb (w := w0) (by go_grown); try simp only [World.size_alloc, World.size_setCell, World.size_drew] at hc hf hz)
      )
      go_returns
      exact ⟨rfl, bjoin hb hB0⟩
namespace MarkEnds
/-- What the row lists. -/
def lists : List (String × DataW Unit) := [("flotsam/class.sizes", Rows.laid_flotsam_class_sizes)]
set_option maxRecDepth 100000 in
theorem lifted (os : Os) (started : os.Started) (H : Type) (enc : TypeId × Value → H) :
    ReturnsInHanded {} Tryd.checked os 3 .any (fun w args => (Rows.markEndsSpec.pre enc Tryd.prog Tryd.f3 Rows.markEndsRow.domain false w args ∧ laidMetH Tryd.prog lists w) ∧ sizedMet enc Tryd.prog Tryd.f3 (OpenSpec.ofChange Rows.markEndsSpec) false w args) (Rows.markEndsSpec.post enc Tryd.prog Tryd.f3 false true false false) := by
  refine law_lifted_laid (C := Tryd.checked) seat_own started (by kernel_rfl) Tryd.func3 (by kernel_rfl) (of_decide_eq_true (by kernel_rfl)) rfl
    (fun ds hd => by have hd' : ds.length = 2 := hd; match ds, hd' with | [d0, d1], _ => rfl) rfl Tryd.underlying4
    (ChangeSpec.witness_shaped (enc := enc) (C := Tryd.checked) (os := os) (X := fun w _ => laidMetH Tryd.prog lists w) false (World.laidAll Tryd.prog os lists) #[.agg #[.slice none 0 0, .slice none 0 0, .bool false], .agg #[.int .i64 0, .slice none 0 0, .slice none 0 0, .slice none 0 0, .int .i64 0, .int .i64 0, .int .i64 0, .bool false]] 8 (World.laidAll_os _ _ _)
      (World.shaped_of_ZipB (by kernel_rfl) (by kernel_rfl)) (by kernel_rfl) (by kernel_rfl) (by kernel_rfl)
      (by rw [MakeChecks.laidMetH_plain _ _ _ (by kernel_rfl)]; exact laidMet_laidAll _ (by kernel_rfl) (by kernel_rfl))) ?_
  intro W base args ds p hval hA hlt hL
  have hS : Sz W := sizes_of hL (by kernel_rfl) rfl
  rw [Tryd.params3] at hA hval
  obtain ⟨v0, v1, d0, d1, p0, p1, rfl, rfl, rfl, h0, h1⟩ := trodAll_two hA
  obtain ⟨x0, q0, c0, s0, e0, rfl, hh0⟩ := open_heap Tryd.underlying25 (by kernel_rfl) (by kernel_rfl) Tryd.underlying22 (by kernel_rfl) (by kernel_rfl) Tryd.underlying23 Tryd.underlying67 (by kernel_rfl) (by kernel_rfl) (by kernel_rfl) (by kernel_rfl) (by kernel_rfl) (by kernel_rfl) (hval 0 25 v0 rfl rfl) h0
  obtain ⟨m1, pg1, cg1, pb1, cb1, pr1, cr1, rfl, hg1, hbs1, hro1, hw1⟩ := open_marker Tryd.underlying32 (by kernel_rfl) ⟨rfl, rfl, rfl, rfl, rfl, rfl, rfl⟩ ⟨by kernel_rfl, by kernel_rfl, by kernel_rfl, by kernel_rfl, by kernel_rfl, by kernel_rfl, by kernel_rfl⟩ Tryd.underlying28 rfl rfl (by kernel_rfl) (by kernel_rfl) (by kernel_rfl) Tryd.underlying26 (by kernel_rfl) (by kernel_rfl) Tryd.underlying29 Tryd.underlying30 Tryd.underlying38 (by kernel_rfl) (by kernel_rfl) (by kernel_rfl) (by kernel_rfl) (by kernel_rfl) (by kernel_rfl) (by kernel_rfl) (by kernel_rfl) (hval 1 32 v1 rfl rfl) h1
  exact ends17_walk m1 pg1 cg1 pb1 cb1 pr1 cr1 W hh0 hg1 hbs1 hro1 hw1 hS

theorem row_holds : Rows.MarkEndsSaid :=
  OpenClaim.holds_of_wide 3 Tryd.f3 rfl rfl rfl rfl rfl rfl rfl ⟨rfl, rfl, rfl, rfl, rfl⟩ rfl rfl rfl rfl rfl (by kernel_rfl) Tryd.func3 (by kernel_rfl)
    (of_decide_eq_true (by kernel_rfl)) (by unfold Func.isWrapper; first | (rw [if_pos (by decide +kernel)]; kernel_rfl) | (rw [if_neg (by decide +kernel)]; exact ⟨rfl, rfl⟩))
    (fun os started H enc _ => lifted os started H enc)
/-- The tied card. -/
theorem holds : Rows.MarkEndsCardSaid :=
  Claim7.holds_tied_plain_at .later [] [.data] true (true, "762cbfbcb450865e30f4fdf303f4bfd6aa778faf4866a8b4f1a3cf6ef04837f3") false row_holds (fun _ h => by cases h) (by kernel_rfl) (fun _ h => by cases h) markEnds_row_tie rfl ⟨rfl, rfl⟩ (by kernel_rfl) rfl
    (fun f fn hf hfn => by
      obtain rfl : f = 3 := Option.some.inj ((show Tryd.prog.funcNamed "flotsam/flotsamlaw17.MarkEnds" = some 3 by kernel_rfl).symm.trans hf) |>.symm
      obtain rfl : fn = Tryd.f3 := (Option.some.inj (Tryd.func3.symm.trans hfn)).symm
      exact ⟨by kernel_rfl, fun j t ht => by
        rw [Tryd.params3] at ht
        have hm : t ∈ [25, 32] := by simpa using Array.mem_of_getElem? ht
        have hall : ([25, 32].all fun u => !Tryd.prog.wantsStandIn u) = true := by kernel_rfl
        exact (show Tryd.prog.wantsStandIn t = false by simpa using List.all_eq_true.1 hall t hm)⟩)
    (by kernel_rfl)
#print axioms holds
end MarkEnds
end Go.Proofs.YtiofeebiejkajaaDoor
