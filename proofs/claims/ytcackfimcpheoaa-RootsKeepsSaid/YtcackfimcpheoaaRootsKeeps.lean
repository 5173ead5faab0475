/- RootsKeeps: what is handed in stays, the room behind it, too; what is answered is new memory. No condition. -/
import Derived.Test.YtcackfimcpheoaaRows
import Derived.Test.YtcackfimcpheoaaAwake14
import Derived.Test.YtcackfimcpheoaaCopyS
namespace Go.Proofs.Ytcackfimcpheoaa
set_option linter.unusedSimpArgs false
set_option linter.unusedVariables false
open Go.ChangeShapes Go.WideShapes Go.ChangeAt Go.RowKit Go.Joins

set_option maxHeartbeats 16000000 in
set_option maxRecDepth 20000 in
theorem keeps14_walk (p : Option Addr) (n c : Nat) (z : Nat → Vl) (v : Vl) (w : World) (hA : VAt w p c n z) (hv : v.wf) :
    Calls Try.prog 5 #[.slice p n c, v.agg] w fun e w' => e = .returned (.bool true) ∧ Below w.heap.size w w' := by
  have hnm := hA.nle
  simp only [maxLen] at hnm
  obtain ⟨V0, V1⟩ := v
  unfold Vl.agg
  by_cases hbig : 100 < n
  · have d0 : decide (100 < (n : Int)) = true := by simp; omega
    go_enter Try.func5, Try.ntmps5
    go_wp2_with (first
    | (go_at_call 7; refine Calls.mono (awake14_any _) ?_; rintro e w' ⟨rfl, hb⟩; obtain ⟨hc, hf, hb, hz⟩ := bstep hb (w := w) (by go_grown); try simp only [World.size_alloc, World.size_setCell, World.size_drew] at hc hf hz)
    )
    go_returns
    first | exact ⟨rfl, hb⟩ | exact ⟨ret_bool (by simp), hb⟩ | exact ⟨rfl, by go_grown⟩
  · have d0 : decide (100 < (n : Int)) = false := by simp; omega
    obtain ⟨w0, hw0⟩ : ∃ w0, w0 = w.alloc (.cells #[.int .i64 V0, .int .i64 V1] 24) := ⟨_, rfl⟩
    have hb0 : Below w.heap.size w w0 := by rw [hw0]; exact (Below.refl _ _).alloc (Nat.le_refl _) _
    have gV : TBox 24 w.heap.size #[.int .i64 V0, .int .i64 V1] w0 := by rw [hw0]; exact TBox.new _ _ _
    have hlow : 0 < n → ∀ b off sp, p = some ⟨b, off, sp⟩ → b < w.heap.size := fun h => hA.lt h
    have hn1 : n ≤ 1000000 := by omega
    obtain ⟨i0, hi, hq0, hq1, hq2⟩ := info_parts val_info
    go_enter Try.func5, Try.ntmps5
    go_upto_region 1 with fail
    rw [← hw0]
    clear hw0
    go_upto_region 4 with (first
    | (go_at_call 7; refine Calls.mono (awake14_any _) ?_; rintro e w' ⟨rfl, hb⟩; obtain ⟨hc, hf, hb, hz⟩ := bstep hb (w := w0) (by go_grown); try simp only [World.size_alloc, World.size_setCell, World.size_drew] at hc hf hz)
    )
    replace gV := gV.below hb
    replace hb0 := bjoin hb hb0
    replace hA := hA.below hb0
    clear hb hc hf hz
    generalize w' = w3 at *
    have hgw : w.heap.size < w3.heap.size := gV.lt
    go_upto_region 5 with (first
      | (at_make; refine wpList_make_full _ rfl (.tmp 30) (.tmp 30) 22 rfl w3.heap.size 24 i0 (.agg #[.int .i64 0, .int .i64 0]) 2 Try.underlying22 hi hq0 hq1 _ _ _ _ (n + 2) rfl rfl rfl rfl (by rw [hq2]; omega) (by simp only [maxLen]; omega) (by simp) ?_; intro w4 hown4 hgrow4)
    )
    rw [made_vals] at hown4
    have row4 := tbox_owned hown4
    have hb4 : Below w3.heap.size w3 w4 := (Below.refl _ _).grown hgrow4 (Nat.le_refl _) (by simp)
    have hA4 := hA.below hb4
    clear hown4 hgrow4
    go_upto_region 6 with (first
      | (refine wpList_copy_s (o := ⟨some 34, _, _, _, _, _⟩) rfl (.tmp 32) (.tmp 33) 22 22 rfl 24 i0 2 Try.underlying22 hi hq1 w3.heap.size (n + 2) (n + 2) p n c rfl rfl 24 _ row4 (vlVals n z) (by omega) (vlVals_length _ _) (fun e => (hA4.pnil e).1) hA4.row.cells (by simp [vlVals_length]; omega) (vlVals_one _ _) ?_)
    )
    have row5 := row4.putsL (vlVals n z) 0
    rw [cv_from n (n + 2) (by omega)] at row5
    have hb5 : Below w3.heap.size w3 (putsL w3.heap.size 0 (vlVals n z) w4) := hb4.trans (putsL_below (Nat.le_refl _) _ _ _)
    generalize putsL w3.heap.size 0 (vlVals n z) w4 = w5 at *
    replace hA := hA.below hb5
    replace gV := gV.below hb5
    replace hb0 := bjoin hb5 hb0
    clear hb4 hb5 hA4 row4 hi hq0 hq1 hq2
    have hO : VAt w5 (some ⟨w3.heap.size, 0, none⟩) (n + 2) n z := by
      refine ⟨fun i hi => ?_, by simp only [maxLen]; omega, nofun, by omega, by simp only [maxLen]; omega⟩
      obtain ⟨g0, g1⟩ := vlVals_get (cvZ n z) (n := n + 2) (i := i) (by omega)
      have e : cvZ n z i = z i := if_pos hi
      rw [e] at g0 g1
      refine ⟨⟨w3.heap.size, 0, rfl, row5.lt, ?_, ?_⟩, hA.row.wf i hi⟩
      · rw [Nat.zero_add, row5.cell]; simpa using g0
      · rw [Nat.zero_add, row5.cell]; simpa using g1
    generalize w3.heap.size = g at *
    have hnc : n ≤ n + 2 := by omega
    have hgl := row5.lt
    simp only [Act.put, Nat.reduceAdd, List.setIfInBounds_toArray, List.set_cons_succ, List.set_cons_zero]
    have hc2 : (n : Int) ≤ (n : Int) + 2 := by omega
    have ePB : vpB n ((n : Int) + 1) = true := by simp [vpB]; omega
    have hP := fun W (h : VAt W (some ⟨g, 0, none⟩) (n + 2) n z) => vpush_any ((n : Int) + 1) ⟨V0, V1⟩ (some ⟨g, 0, none⟩) n (n + 2) z W h hn1 hv
    have hPr := fun W (h : VAt W p c n z) => rvpush_any ((n : Int) + 1) ⟨V0, V1⟩ p n c z W h hn1 hv
    simp only [show vpN n ((n : Int) + 1) = n + 1 from by unfold vpN; rw [if_pos ePB], show vpE n ((n : Int) + 1) = 0 from by unfold vpE; rw [if_pos ePB], show vpZ n ((n : Int) + 1) z ⟨V0, V1⟩ = pvZ z n ⟨V0, V1⟩ from by unfold vpZ; rw [if_pos ePB], Vl.agg, ePB, forall_const] at hP hPr
    generalize pvZ z n ⟨V0, V1⟩ = Z at *
    have hQ := fun W (h : VAt W (some ⟨g, 0, none⟩) (n + 2) n z) => vpop_any (some ⟨g, 0, none⟩) n (n + 2) z W h hn1
    have hQr := fun W (h : VAt W p c n z) => rvpop_any p n c z W h hn1
    unfold Vl.agg at hQ hQr
    have hE0 : vqE n = 0 ∨ vqE n = 3 := by unfold vqE; split <;> simp
    have hD0 : vqE n = 0 → 0 < n := fun h => by unfold vqE at h; split at h <;> omega
    generalize vqE n = E at *
    generalize vqX n z = X at *
    obtain ⟨X0, X1⟩ := X
    dsimp only at hQ hQr
    obtain ⟨N1, eN1⟩ : ∃ N1, n - 1 = N1 := ⟨_, rfl⟩
    rw [eN1] at hQ hQr
    clear eN1 ePB
    have lV := gV.lt
    have v0 : w5.cell? ⟨w.heap.size, 0, none⟩ = some (.int .i64 V0) := gV.cell 0
    have v1 : w5.cell? ⟨w.heap.size, 1, none⟩ = some (.int .i64 V1) := gV.cell 1
    go_upto_region 8 with (first
      | (go_at_call 8; refine Calls.mono (hP _ hO) ?_; rintro e w6 ⟨p1, c1, rfl, hB, nB, hb1⟩)
    )
    have nB2 : ∀ b off sp, p1 = some ⟨b, off, sp⟩ → b ≠ g := fun b off sp e => by have := nB b off sp e; omega
    replace hA := hA.below hb1
    replace gV := gV.below hb1
    replace hO := hO.below hb1
    replace row5 := row5.below hb1
    replace hb0 := bjoin hb1 hb0
    clear hb1 hP v0 v1 lV nB hgl
    have hgl := row5.lt
    go_upto_region 9 with (first
      | (go_at_call 10; refine Calls.mono (hQ _ hO) ?_; rintro e w7 ⟨p3, c3, rfl, hC, nC, hb1⟩)
    )
    have nC2 : 0 < n → ∀ b off sp, p3 = some ⟨b, off, sp⟩ → b ≠ g := fun h b off sp e => by have := nC h b off sp e; omega
    obtain ⟨w8, hw8⟩ : ∃ W, W = w7.alloc (.cells #[.int .i64 X0, .int .i64 X1] 24) := ⟨_, rfl⟩
    have hb2 : Below w7.heap.size w7 w8 := by rw [hw8]; exact (Below.refl _ _).alloc (Nat.le_refl _) _
    rw [← hw8]
    clear hw8
    replace hC := hC.below hb2
    replace hb1 := bjoin hb2 hb1
    replace hA := hA.below hb1
    replace hB := hB.below hb1
    replace gV := gV.below hb1
    replace hO := hO.below hb1
    replace row5 := row5.below hb1
    replace hb0 := bjoin hb1 hb0
    clear hb1 hb2 hQ nC hgl
    have hgl := row5.lt
    have hSm := rvsame_any (some ⟨g, 0, none⟩) p n (n + 2) n c z z w8 hO hA
    rw [sameV_self] at hSm
    have hk0 : w8.cell? ⟨g, n * 2, none⟩ = some (.int .i64 0) := by
      rw [row5.cell]
      have := (vlVals_get (cvZ n z) (n := n + 2) (i := n) (by omega)).1
      rw [show cvZ n z n = ⟨0, 0⟩ from if_neg (by omega)] at this
      simpa using this
    have hk1 : w8.cell? ⟨g, n * 2 + 1, none⟩ = some (.int .i64 0) := by
      rw [row5.cell]
      have := (vlVals_get (cvZ n z) (n := n + 2) (i := n) (by omega)).2
      rw [show cvZ n z n = ⟨0, 0⟩ from if_neg (by omega)] at this
      simpa using this
    have hn2 : (n : Int) < n + 2 := by omega
    have hn3 : n < n + 2 := by omega
    go_upto_region 11 with (first
      | (go_at_call 16; refine Calls.mono hSm ?_; rintro e w9 ⟨rfl, hb9⟩; have hk0' := (hb9.cell (p := ⟨g, n * 2, none⟩) hgl).trans hk0; have hk1' := (hb9.cell (p := ⟨g, n * 2 + 1, none⟩) hgl).trans hk1)
    )
    have hA9 := hA.below hb9
    have hB9 := hB.below hb9
    have hC9 := fun _ : 0 < n => hC.below hb9
    have gV9 := gV.below hb9
    have row9 := row5.below hb9
    have hb0' := bjoin hb9 hb0
    clear hb9 hA hB hC gV hO row5 hb0 hgl hSm hk0 hk1 hk0' hk1' hn3 hnc hc2
    generalize w9 = w10 at *
    go_wp2
    go_loopg [13] (n + 2) (fun m jv wr => ∃ j : Nat, j ≤ n + 2 ∧ m = n + 2 - j ∧ jv = .int .i64 j ∧ (∃ Y, TBox 24 g (vlVals (n + 2) Y).toArray wr) ∧ VAt wr p1 c1 (n + 1) Z ∧ (0 < n → VAt wr p3 c3 N1 z) ∧ VAt wr p c n z ∧ TBox 24 w.heap.size #[.int .i64 V0, .int .i64 V1] wr ∧ Below w.heap.size w wr)
    case atStart => exact ⟨0, by omega, by omega, rfl, ⟨_, row9⟩, hB9, hC9, hA9, gV9, hb0'⟩
    case round =>
      obtain ⟨j, jh, rfl, rfl, ⟨Y, row⟩, hB, hC, hA, gV, hbr⟩ := hrel
      clear hA9 hB9 hC9 gV9 row9 hb0'
      by_cases hj : j < n + 2
      · have hgl := row.lt
        have hjl : j * 2 + 1 < (vlVals (n + 2) Y).toArray.size := by simp [vlVals_length]; omega
        have f0 := row.frozen (j * 2)
        have f1 := row.frozen (j * 2 + 1)
        have hk0 : ∃ u, wr.cell? ⟨g, j * 2, none⟩ = some u := ⟨_, by rw [row.cell, Array.getElem?_eq_getElem (by omega)]⟩
        have hk1 : ∃ u, wr.cell? ⟨g, j * 2 + 1, none⟩ = some u := ⟨_, by rw [row.cell, Array.getElem?_eq_getElem (by omega)]⟩
        obtain ⟨u0, k0⟩ := hk0
        obtain ⟨u1, k1⟩ := hk1
        have hst := (row.set (j * 2) (.int .i64 9)).set (j * 2 + 1) (.int .i64 0)
        rw [sv_set (n + 2) Y j ⟨9, 0⟩ hj] at hst
        have hB2 : VAt ((wr.setCell ⟨g, j * 2, none⟩ (.int .i64 9)).setCell ⟨g, j * 2 + 1, none⟩ (.int .i64 0)) p1 c1 (n + 1) Z := (hB.setCell (fun _ => nB2) _ _).setCell (fun _ => nB2) _ _
        have hC2 : 0 < n → VAt ((wr.setCell ⟨g, j * 2, none⟩ (.int .i64 9)).setCell ⟨g, j * 2 + 1, none⟩ (.int .i64 0)) p3 c3 N1 z := fun h => ((hC h).setCell (fun _ => nC2 h) _ _).setCell (fun _ => nC2 h) _ _
        have hpg : 0 < n → ∀ b off sp, p = some ⟨b, off, sp⟩ → b ≠ g := fun h b off sp e => by have := hlow h b off sp e; omega
        have hA2 : VAt ((wr.setCell ⟨g, j * 2, none⟩ (.int .i64 9)).setCell ⟨g, j * 2 + 1, none⟩ (.int .i64 0)) p c n z := (hA.setCell hpg _ _).setCell hpg _ _
        have gV2 := (gV.other (b := g) (by omega) (j * 2) (.int .i64 9)).other (b := g) (by omega) (j * 2 + 1) (.int .i64 0)
        have hb2 : Below w.heap.size w ((wr.setCell ⟨g, j * 2, none⟩ (.int .i64 9)).setCell ⟨g, j * 2 + 1, none⟩ (.int .i64 0)) := (hbr.setCell (Nat.le_of_lt hgw) _).setCell (Nat.le_of_lt hgw) _
        clear row hB hC hA gV hbr hPr hQr hjl
        go_wp2
        go_roundg (n + 2 - (j + 1))
        case measure => omega
        case rel => exact ⟨j + 1, by omega, rfl, by go_num, ⟨_, hst⟩, hB2, hC2, hA2, gV2, hb2⟩
      · clear row
        have lV := gV.lt
        have v0 : wr.cell? ⟨w.heap.size, 0, none⟩ = some (.int .i64 V0) := gV.cell 0
        have v1 : wr.cell? ⟨w.heap.size, 1, none⟩ = some (.int .i64 V1) := gV.cell 1
        go_upto_region 16 with (first
          | (go_at_call 9; refine Calls.mono (hPr _ hA) ?_; rintro e w11 ⟨p2, c2, rfl, hD, hb1⟩)
        )
        replace hA := hA.below hb1
        replace hB := hB.below hb1
        replace hC := fun h => (hC h).below hb1
        replace hbr := bjoin hb1 hbr
        clear hb1 hPr gV lV v0 v1
        go_upto_region 17 with (first
          | (go_at_call 11; refine Calls.mono (hQr _ hA) ?_; rintro e w12 ⟨p4, c4, rfl, hE, hb1⟩)
        )
        have hb2 := bjoin ((Below.refl w12.heap.size w12).alloc (Nat.le_refl _) (.cells #[.int .i64 X0, .int .i64 X1] 24)) hb1
        replace hE := hE.below ((Below.refl w12.heap.size w12).alloc (Nat.le_refl _) (.cells #[.int .i64 X0, .int .i64 X1] 24))
        generalize w12.alloc (.cells #[.int .i64 X0, .int .i64 X1] 24) = w13 at hb2 hE ⊢
        replace hB := hB.below hb2
        replace hC := fun h => (hC h).below hb2
        replace hD := hD.below hb2
        replace hbr := bjoin hb2 hbr
        have hSm : ∀ W p c q d n z, VAt W p c n z → VAt W q d n z → Calls Try.prog 16 #[.slice p n c, .slice q n d] W fun e w' => e = .returned (.bool true) ∧ Below W.heap.size W w' := fun W p c q d n z h1 h2 => by
          have := rvsame_any p q n c n d z z W h1 h2
          rwa [sameV_self] at this
        clear hb1 hb2 hQr hA
        rcases hE0 with rfl | rfl
        · have hF := hC (hD0 rfl)
          clear hC hD0
          go_wp2_with (first
    | (go_at_call 16; refine Calls.mono (hSm _ _ _ _ _ _ _ (by assumption) (by assumption)) ?_; rintro e w' ⟨rfl, hb⟩; (first | replace hF := hF.below hb | replace hF := (hF.below (by go_grown)).below hb | skip); (first | replace hE := hE.below hb | replace hE := (hE.below (by go_grown)).below hb | skip); obtain ⟨hc, hf, hb, hz⟩ := bstep hb (w := w13) (by go_grown); try simp only [World.size_alloc, World.size_setCell, World.size_drew] at hc hf hz)
          )
          go_returns
          exact ⟨rfl, bjoin hb hbr⟩
        · clear hC hD0
          go_wp2_with (first
    | (go_at_call 16; refine Calls.mono (hSm _ _ _ _ _ _ _ hB hD) ?_; rintro e w' ⟨rfl, hb⟩; obtain ⟨hc, hf, hb, hz⟩ := bstep hb (w := w13) (by go_grown); try simp only [World.size_alloc, World.size_setCell, World.size_drew] at hc hf hz)
          )
          go_returns
          exact ⟨rfl, bjoin hb hbr⟩
namespace RootsKeeps
theorem own : ownKnob Try.prog.godebug = none := by kernel_rfl
set_option maxRecDepth 100000 in
theorem lifted (os : Os) (started : os.Started) (H : Type) (enc : TypeId × Value → H) :
    ReturnsInHanded {} Try.checked os 5 .any (Rows.rootsKeepsSpec.pre6 enc Try.prog Try.f5 Rows.rootsKeepsRow.domain false) (Rows.rootsKeepsSpec.post enc Try.prog Try.f5 false true false false) := by
  refine law_lifted (C := Try.checked) own started (by kernel_rfl) Try.func5 (by kernel_rfl) (of_decide_eq_true (by kernel_rfl)) rfl
    (fun ds hd => by have hd' : ds.length = 2 := hd; match ds, hd' with | [d0, d1], _ => rfl) rfl Try.underlying4
    (ChangeSpec.witness6 (enc := enc) (C := Try.checked) false ⟨#[], #[.slice none 0 0, .agg #[.int .i64 0, .int .i64 0]], []⟩ 8 (by kernel_rfl) (by kernel_rfl) (by kernel_rfl) (by kernel_rfl)) ?_
  intro W base args ds p hval hA hlt
  rw [Try.params5] at hA hval
  obtain ⟨v0, v1, d0, d1, p0, p1, rfl, rfl, rfl, h0, h1⟩ := trodAll_two hA
  obtain ⟨q0, n0, cap0, z0, rfl, hv0⟩ := open_vals Try.underlying22 Try.underlying24 (by kernel_rfl) (by kernel_rfl) (by kernel_rfl) (by kernel_rfl) (hval 0 22 v0 rfl rfl) h0
  obtain ⟨a1, b1, rfl, ha1, hb1⟩ := open_int2 Try.underlying24 (by kernel_rfl) (by kernel_rfl) (by kernel_rfl) (by kernel_rfl) (hval 1 24 v1 rfl rfl) h1
  exact keeps14_walk q0 n0 cap0 z0 ⟨a1, b1⟩ W hv0 (vl_wf ha1 hb1)

/-- The statement. -/
theorem holds : Rows.RootsKeepsSaid :=
  OpenClaim.holds_of_wide 5 Try.f5 rfl rfl rfl rfl rfl rfl rfl ⟨rfl, rfl, rfl, rfl, rfl⟩ rfl rfl rfl rfl rfl (by kernel_rfl) Try.func5 (by kernel_rfl)
    (of_decide_eq_true (by kernel_rfl)) (by unfold Func.isWrapper; first | (rw [if_pos (by decide +kernel)]; kernel_rfl) | (rw [if_neg (by decide +kernel)]; exact ⟨rfl, rfl⟩))
    (fun os started H enc _ => lifted os started H enc)
#print axioms holds
end RootsKeeps
end Go.Proofs.Ytcackfimcpheoaa
