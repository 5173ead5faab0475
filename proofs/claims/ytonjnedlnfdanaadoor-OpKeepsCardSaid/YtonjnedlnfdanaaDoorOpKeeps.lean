/- OpKeeps: what is handed in stays, as an operation is looked at. No condition; the table that the code reads is tied to the program's text. -/
import Derived.Test.YtonjnedlnfdanaaDoorRows
import Derived.Test.YtonjnedlnfdanaaDoorCards
import Derived.Test.YtonjnedlnfdanaaDoorTie
import Derived.Test.YtonjnedlnfdanaaDoorAwake19
import Derived.Test.YtonjnedlnfdanaaDoorAppRow
import Derived.SevenTiedAt
import Derived.BigQuiet
namespace Go.Proofs.YtonjnedlnfdanaaDoor
set_option linter.unusedSimpArgs false
set_option linter.unusedVariables false
open Go.ChangeShapes Go.WideShapes Go.ChangeAt Go.RowKit Go.Joins

theorem ints19_cells {W : World} {p : Option Addr} {n : Nat} {z : Nat → Int} (h : Ints .u64 W p n z) : ∀ ad, p = some ad → ∀ j u, (vals .u64 n z)[j]? = some u → W.cell? (ad.add j) = some u := fun ad e j u hj => by
  have hj0 : j < n := by have := (List.getElem?_eq_some_iff.1 hj).1; rwa [vals_length] at this
  obtain ⟨ad', e', hc⟩ := h.cells (by omega)
  rw [e] at e'
  injection e' with e'
  subst e'
  exact hc j u hj
set_option maxHeartbeats 16000000 in
set_option maxRecDepth 20000 in
theorem opkeeps_walk {p : Option Addr} {c : Nat} {q : Option Addr} {d : Nat} {h : Hp} (pv : Option Addr) (n cv : Nat) (z : Nat → Vl) (rm k a b e : Int) (w : World) (hat : HpAt w p c q d h) (hZ : VAt w pv cv n z) (hr : 0 ≤ rm ∧ rm < 256) (hS : Sz w) :
    Calls Tryd.prog 4 #[.agg #[.slice p h.n c, .slice q h.m d, .bool h.b], .slice pv n cv, .int .u8 rm, .agg #[.int .i64 k, .int .i64 a, .int .i64 b, .int .i64 e]] w fun e w' => e = .returned (.bool true) ∧ Below w.heap.size w w' := by
  obtain ⟨w0, hw0⟩ : ∃ w0, w0 = (w.alloc (.cells #[.slice p h.n c, .slice q h.m d, .bool h.b] 25)).alloc (.cells #[.int .i64 k, .int .i64 a, .int .i64 b, .int .i64 e] 28) := ⟨_, rfl⟩
  obtain ⟨gH, gO, hB0⟩ := tbox_two hw0
  replace hat := hat.below hB0
  replace hS := hS.below hB0
  replace hZ := hZ.below hB0
  have hFi := fun W (hW : Below w0.heap.size w0 W) => rform_in (hat.below hW).in
  have hAw := fun W (hW : Below w0.heap.size w0 W) => awake19_any W (hS.below hW)
  obtain ⟨l0, x0, x1, x2⟩ := three19 gH
  by_cases hgo : formB h = true ∧ n ≤ 50
  · obtain ⟨hF, hn⟩ := hgo
    rw [hF] at hFi
    have hF' : Hid (formB h = true) := hF
    have hn50 : ¬ (n : Int) > 50 := by omega
    have hCk : ∀ (W : World) (m cm : Nat) (pm : Option Addr) (y : Nat → Vl) (r k a b e : Int), Below w0.heap.size w0 W → VAt W pm cm m y → Calls Tryd.prog 7 #[.agg #[.slice p h.n c, .slice q h.m d, .bool h.b], .slice pm m cm, .int .i64 r, .agg #[.int .i64 k, .int .i64 a, .int .i64 b, .int .i64 e]] W fun e' w' => e' = .returned (.int .i64 (ckO h m y r k a b e)) ∧ Below W.heap.size W w' := fun W m cm pm y r k a b e hW hy => ocheck_any p c q d h pm m cm y r k a b e W (hS.below hW) (hat.below hW) hF hy
    clear hF
    go_enter Tryd.func4, Tryd.ntmps4
    go_upto_region 1 with fail
    rw [← hw0]
    clear hw0
    go_upto_region 3 with (first
    | (go_at_call 5; refine Calls.mono (hAw _ (by go_grown)) ?_; rintro e w' ⟨rfl, hb⟩; obtain ⟨hc, hf, hb, hz⟩ := bstep hb (w := w0) (by go_grown); try simp only [World.size_alloc, World.size_setCell, World.size_drew] at hc hf hz)
    | (go_at_call 6; refine Calls.mono (hFi _ (by go_grown)) ?_; rintro e w' ⟨rfl, hb⟩; obtain ⟨hc, hf, hb, hz⟩ := bstep hb (w := w0) (by go_grown); try simp only [World.size_alloc, World.size_setCell, World.size_drew] at hc hf hz)
    )
    have hbW := bjoin hb hB0
    have hb0 := hb
    replace gH := gH.below hb
    replace gO := gO.below hb
    have hzb := hZ.below hb
    have hab := hat.below hb
    clear hc hf hb hFi hAw x0 x1 x2 l0
    generalize w' = wA at *
    obtain ⟨t0, hq0, hq1, hq2, hq3⟩ := info_parts val_info
    obtain ⟨i0, hj0, hj1, hj2, hj3⟩ := info_parts infoW
    have hbn : ∀ (W : World) R t, Below W.heap.size W (W.alloc (.cells R t)) := fun W R t => (Below.refl _ _).alloc (Nat.le_refl _) _
    go_upto_region 4 with (first
      | (at_builtin; refine wpList_append_row rfl (.tmp 26) (.tmp 27) 26 rfl wA.heap.size 30 t0 (.agg #[.int .i64 0, .int .i64 0]) 2 16 Tryd.underlying26 hq0 hq1 hq2 hq3 rfl (by decide) (.slice (some ⟨wA.heap.size, 0, none⟩) 0 0) 0 [] rfl (World.ownsRow_lit wA #[] 0 (Nat.le_refl _) (by simp only [maxLen]; omega) rfl) pv n cv (vlVals n z) rfl (by simp [vlVals_length]) (hzb.below (hbn _ _ _)).row.cells (vlVals_one _ _) hzb.pnil (by simp only [maxLen]; omega) (by omega) (by simp) ?_; intro ov0 wB hown0 hgrow; rw [Nat.zero_add, List.nil_append] at hown0)
    )
    have hbB : Below wA.heap.size wA wB := (hbn wA _ _).grown hgrow (by simp) (fun k hk => by cases hk; exact Nat.le_refl _)
    obtain ⟨po, co, rfl, -⟩ := owned_new hown0
    have hVo : VAt wB po co n z := va_owned hown0 (by simp only [maxLen]; omega) hzb.row.wf
    replace gH := gH.below hbB
    replace gO := gO.below hbB
    replace hzb := hzb.below hbB
    replace hab := hab.below hbB
    replace hbW := bjoin hbB hbW
    replace hb0 := bjoin hbB hb0
    clear hown0 hgrow hbB
    obtain ⟨l0, x0, x1, x2⟩ := three19 gH
    have hN := form_iff.1 hF'.out
    have hn5 : h.n ≤ 512 := by omega
    clear hN
    go_upto_region 5 with (first
      | (at_builtin; refine wpList_append_row rfl (.tmp 29) (.tmp 31) 22 rfl wB.heap.size 36 i0 (.int .u64 0) 1 8 Tryd.underlying22 hj0 hj1 hj2 hj3 rfl (by decide) (.slice (some ⟨wB.heap.size, 0, none⟩) 0 0) 0 [] rfl (World.ownsRow_lit wB #[] 0 (Nat.le_refl _) (by simp only [maxLen]; omega) rfl) p h.n c (vals .u64 h.n h.z) rfl (by simp [vals_length]) (ints19_cells (hab.ints.below (hbn _ _ _))) (vals_one _ _ _) hab.pnil (by simp only [maxLen]; omega) (by omega) (by simp) ?_; intro ov1 wC hown1 hgrow1; rw [Nat.zero_add, List.nil_append] at hown1)
    )
    have hbC : Below wB.heap.size wB wC := (hbn wB _ _).grown hgrow1 (by simp) (fun k hk => by cases hk; exact Nat.le_refl _)
    obtain ⟨pw, cw, rfl, -⟩ := owned_new hown1
    have hIw : Ints .u64 wC pw h.n h.z := ints_owned hown1 (hab.ints.wf)
    replace gH := gH.below hbC
    replace gO := gO.below hbC
    replace hzb := hzb.below hbC
    replace hab := hab.below hbC
    replace hVo := hVo.below hbC
    replace hbW := bjoin hbC hbW
    replace hb0 := bjoin hbC hb0
    clear hown1 hgrow1 hbC x0 x1 x2 l0
    obtain ⟨l0, x0, x1, x2⟩ := three19 gH
    obtain ⟨l1, y0, y1, y2, y3⟩ := four19 gO
    have hC1 := hCk wC n co po z rm k a b e hb0 hVo
    go_upto_region 6 with (first
      | (go_at_call 7; refine Calls.mono hC1 ?_; rintro e' w' ⟨rfl, hb⟩)
    )
    replace gH := gH.below hb
    replace hzb := hzb.below hb
    replace hab := hab.below hb
    replace hVo := hVo.below hb
    replace hIw := hIw.below hb
    replace hbW := bjoin hb hbW
    clear hb hC1 x0 x1 x2 l0 y0 y1 y2 y3 l1 hb0 gO hbn hCk hF' hat hZ hS
    generalize w' = wD at *
    generalize ckO h n z rm k a b e = E at *
    go_wp2
    go_loopg [11] h.n (fun g iv wr => ∃ i : Nat, i ≤ h.n ∧ g = h.n - i ∧ iv = .int .i64 i ∧ Below wD.heap.size wD wr)
    case atStart => exact ⟨0, by omega, by omega, rfl, Below.refl _ _⟩
    case round =>
      obtain ⟨i, hi, rfl, rfl, hbw⟩ := hrel
      by_cases hil : i < h.n
      · obtain ⟨l0, x0, x1, x2⟩ := three19 (gH.below hbw)
        obtain ⟨⟨b1, o1, rfl, hl1, v1⟩, -⟩ := (hIw.below hbw) i hil
        obtain ⟨⟨b2, o2, rfl, hl2, v2⟩, -⟩ := (hab.ints.below hbw) i hil
        have hii : (i : Int) < h.n := by omega
        go_upto_region 9 with fail
        go_quiet (fail)
        go_wp2
        go_roundg (h.n - (i + 1))
        case measure => omega
        case rel => exact ⟨i + 1, by omega, rfl, by go_num, hbw.trans ⟨rfl, rfl, rfl, Nat.le_refl _, fun _ _ => rfl⟩⟩
      · go_upto_region 11 with fail
        replace gH := gH.below hbw
        replace hzb := hzb.below hbw
        replace hVo := hVo.below hbw
        replace hbW := bjoin hbw hbW
        clear hbw hil hi hIw hab
        generalize wr = wE at *
        go_wp2
        go_loopg [12] n (fun g iv wr => ∃ i : Nat, i ≤ n ∧ g = n - i ∧ iv = .int .i64 i ∧ Below wE.heap.size wE wr)
        case atStart => exact ⟨0, by omega, by omega, rfl, Below.refl _ _⟩
        case round =>
          obtain ⟨i, hi, rfl, rfl, hbw⟩ := hrel
          by_cases hil : i < n
          · obtain ⟨⟨b1, o1, rfl, hl1, v1, v1'⟩, -⟩ := (hVo.below hbw).row i hil
            obtain ⟨⟨b2, o2, rfl, hl2, v2, v2'⟩, -⟩ := (hzb.below hbw).row i hil
            have hii : (i : Int) < n := by omega
            go_upto_region 14 with fail
            go_quiet (fail)
            go_wp2
            go_roundg (n - (i + 1))
            case measure => omega
            case rel => exact ⟨i + 1, by omega, rfl, by go_num, hbw.trans ⟨rfl, rfl, rfl, Nat.le_refl _, fun _ _ => rfl⟩⟩
          · obtain rfl : i = n := by omega
            obtain ⟨l0, x0, x1, x2⟩ := three19 (gH.below hbw)
            have hbZ := bjoin hbw hbW
            go_wp2
            go_returns
            exact ⟨ret_bool (by simp), hbZ⟩
  · have hgo' : formB h = false ∨ (formB h = true ∧ (n : Int) > 50) := by
      cases hf : formB h with
      | false => exact .inl rfl
      | true => exact .inr ⟨rfl, by have : ¬ n ≤ 50 := fun e => hgo ⟨hf, e⟩; omega⟩
    clear hgo
    rcases hgo' with hF | ⟨hF, hn⟩
    all_goals
      rw [hF] at hFi
      clear hF
      go_enter Tryd.func4, Tryd.ntmps4
      go_upto_region 1 with fail
      rw [← hw0]
      clear hw0
      go_wp2_with (first
    | (go_at_call 5; refine Calls.mono (hAw _ (by go_grown)) ?_; rintro e w' ⟨rfl, hb⟩; obtain ⟨hc, hf, hb, hz⟩ := bstep hb (w := w0) (by go_grown); try simp only [World.size_alloc, World.size_setCell, World.size_drew] at hc hf hz)
    | (go_at_call 6; refine Calls.mono (hFi _ (by go_grown)) ?_; rintro e w' ⟨rfl, hb⟩; obtain ⟨hc, hf, hb, hz⟩ := bstep hb (w := w0) (by go_grown); try simp only [World.size_alloc, World.size_setCell, World.size_drew] at hc hf hz)
      )
      go_returns
      exact ⟨rfl, bjoin hb hB0⟩
namespace OpKeeps
/-- What the row lists. -/
def lists : List (String × DataW Unit) := [("flotsam/class.sizes", Rows.laid_flotsam_class_sizes)]
set_option maxRecDepth 100000 in
theorem lifted (os : Os) (started : os.Started) (H : Type) (enc : TypeId × Value → H) :
    ReturnsInHanded {} Tryd.checked os 4 .any (fun w args => (Rows.opKeepsSpec.pre enc Tryd.prog Tryd.f4 Rows.opKeepsRow.domain false w args ∧ laidMetH Tryd.prog lists w) ∧ sizedMet enc Tryd.prog Tryd.f4 (OpenSpec.ofChange Rows.opKeepsSpec) false w args) (Rows.opKeepsSpec.post enc Tryd.prog Tryd.f4 false true false false) := by
  refine law_lifted_laid (C := Tryd.checked) seat_own started (by kernel_rfl) Tryd.func4 (by kernel_rfl) (of_decide_eq_true (by kernel_rfl)) rfl
    (fun ds hd => by have hd' : ds.length = 4 := hd; match ds, hd' with | [d0, d1, d2, d3], _ => rfl) rfl Tryd.underlying4
    (ChangeSpec.witness_shaped (enc := enc) (C := Tryd.checked) (os := os) (X := fun w _ => laidMetH Tryd.prog lists w) false (World.laidAll Tryd.prog os lists) #[.agg #[.slice none 0 0, .slice none 0 0, .bool false], .slice none 0 0, .int .u8 0, .agg #[.int .i64 0, .int .i64 0, .int .i64 0, .int .i64 0]] 8 (World.laidAll_os _ _ _)
      (World.shaped_of_ZipB (by kernel_rfl) (by kernel_rfl)) (by kernel_rfl) (by kernel_rfl) (by kernel_rfl)
      (by rw [MakeChecks.laidMetH_plain _ _ _ (by kernel_rfl)]; exact laidMet_laidAll _ (by kernel_rfl) (by kernel_rfl))) ?_
  intro W base args ds p hval hA hlt hL
  have hS : Sz W := sizes_of hL (by kernel_rfl) rfl
  rw [Tryd.params4] at hA hval
  obtain ⟨v0, v1, v2, v3, d0, d1, d2, d3, p0, p1, p2, p3, rfl, rfl, rfl, h0, h1, h2, h3⟩ := trodAll_four hA
  obtain ⟨x0, q0, c0, s0, e0, rfl, hh0⟩ := open_heap Tryd.underlying25 (by kernel_rfl) (by kernel_rfl) Tryd.underlying22 (by kernel_rfl) (by kernel_rfl) Tryd.underlying23 Tryd.underlying46 (by kernel_rfl) (by kernel_rfl) (by kernel_rfl) (by kernel_rfl) (by kernel_rfl) (by kernel_rfl) (hval 0 25 v0 rfl rfl) h0
  obtain ⟨q1, n1, cap1, z1, rfl, hv1⟩ := open_vals Tryd.underlying26 Tryd.underlying30 (by kernel_rfl) (by kernel_rfl) (by kernel_rfl) (by kernel_rfl) (hval 1 26 v1 rfl rfl) h1
  obtain ⟨a2, rfl, ha2⟩ := open_u8 Tryd.underlying5 (hval 2 5 v2 rfl rfl) h2
  obtain ⟨k3, a3, b3, c3, rfl, hk3, ha3, hb3, hc3⟩ := open_op Tryd.underlying28 (by kernel_rfl) (by kernel_rfl) (by kernel_rfl) (by kernel_rfl) (by kernel_rfl) (by kernel_rfl) (hval 3 28 v3 rfl rfl) h3
  exact opkeeps_walk q1 n1 cap1 z1 a2 k3 a3 b3 c3 W hh0 hv1 ha2 hS

theorem row_holds : Rows.OpKeepsSaid :=
  OpenClaim.holds_of_wide 4 Tryd.f4 rfl rfl rfl rfl rfl rfl rfl ⟨rfl, rfl, rfl, rfl, rfl⟩ rfl rfl rfl rfl rfl (by kernel_rfl) Tryd.func4 (by kernel_rfl)
    (of_decide_eq_true (by kernel_rfl)) (by unfold Func.isWrapper; first | (rw [if_pos (by decide +kernel)]; kernel_rfl) | (rw [if_neg (by decide +kernel)]; exact ⟨rfl, rfl⟩))
    (fun os started H enc _ => lifted os started H enc)
/-- The tied card. -/
theorem holds : Rows.OpKeepsCardSaid :=
  Claim7.holds_tied_plain_at .later [] [.data] true (true, "a4e16072d0b8a80a6a9a8ec20c3dee9269dd19b262ba38d691ec3a0650b8ed94") false row_holds (fun _ h => by cases h) (by kernel_rfl) (fun _ h => by cases h) opKeeps_row_tie rfl ⟨rfl, rfl⟩ (by kernel_rfl) rfl
    (fun f fn hf hfn => by
      obtain rfl : f = 4 := Option.some.inj ((show Tryd.prog.funcNamed "flotsam/flotsamlaw19.OpKeeps" = some 4 by kernel_rfl).symm.trans hf) |>.symm
      obtain rfl : fn = Tryd.f4 := (Option.some.inj (Tryd.func4.symm.trans hfn)).symm
      exact ⟨by kernel_rfl, fun j t ht => by
        rw [Tryd.params4] at ht
        have hm : t ∈ [25, 26, 5, 28] := by simpa using Array.mem_of_getElem? ht
        have hall : ([25, 26, 5, 28].all fun u => !Tryd.prog.wantsStandIn u) = true := by kernel_rfl
        exact (show Tryd.prog.wantsStandIn t = false by simpa using List.all_eq_true.1 hall t hm)⟩)
    (by kernel_rfl)
#print axioms holds
end OpKeeps
end Go.Proofs.YtonjnedlnfdanaaDoor
