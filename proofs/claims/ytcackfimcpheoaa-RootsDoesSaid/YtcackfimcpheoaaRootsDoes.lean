/- RootsDoes: of whatever stack, room, value and slot: all calls. No condition. -/
import Derived.Test.YtcackfimcpheoaaRows
import Derived.Test.YtcackfimcpheoaaAwake14
namespace Go.Proofs.Ytcackfimcpheoaa
set_option linter.unusedSimpArgs false
set_option linter.unusedVariables false
open Go.ChangeShapes Go.WideShapes Go.ChangeAt Go.RowKit Go.Joins

set_option maxHeartbeats 16000000 in
set_option maxRecDepth 20000 in
theorem does14_walk (p : Option Addr) (n c : Nat) (z : Nat → Vl) (r : Int) (v : Vl) (i : Int) (w : World) (hA : VAt w p c n z) (hv : v.wf) :
    Calls Try.prog 3 #[.slice p n c, .int .i64 r, v.agg, .int .i64 i] w fun e w' => e = .returned (.bool true) ∧ Below w.heap.size w w' := by
  have hnm := hA.nle
  simp only [maxLen] at hnm
  obtain ⟨V0, V1⟩ := v
  unfold Vl.agg
  by_cases hbig : 100 < n
  · have d0 : decide (100 < (n : Int)) = true := by simp; omega
    go_enter Try.func3, Try.ntmps3
    go_wp2_with (first
    | (go_at_call 7; refine Calls.mono (awake14_any _) ?_; rintro e w' ⟨rfl, hb⟩; obtain ⟨hc, hf, hb, hz⟩ := bstep hb (w := w) (by go_grown); try simp only [World.size_alloc, World.size_setCell, World.size_drew] at hc hf hz)
    )
    go_returns
    first | exact ⟨rfl, hb⟩ | exact ⟨ret_bool (by simp), hb⟩ | exact ⟨rfl, by go_grown⟩
  · have d0 : decide (100 < (n : Int)) = false := by simp; omega
    obtain ⟨w0, hw0⟩ : ∃ w0, w0 = w.alloc (.cells #[.int .i64 V0, .int .i64 V1] 24) := ⟨_, rfl⟩
    have hb0 : Below w.heap.size w w0 := by rw [hw0]; exact (Below.refl _ _).alloc (Nat.le_refl _) _
    have gV : TBox 24 w.heap.size #[.int .i64 V0, .int .i64 V1] w0 := by rw [hw0]; exact TBox.new _ _ _
    have hn1 : n ≤ 1000000 := by omega
    go_enter Try.func3, Try.ntmps3
    go_upto_region 1 with fail
    rw [← hw0]
    clear hw0
    go_upto_region 3 with (first
    | (go_at_call 7; refine Calls.mono (awake14_any _) ?_; rintro e w' ⟨rfl, hb⟩; obtain ⟨hc, hf, hb, hz⟩ := bstep hb (w := w0) (by go_grown); try simp only [World.size_alloc, World.size_setCell, World.size_drew] at hc hf hz)
    )
    replace gV := gV.below hb
    replace hb0 := bjoin hb hb0
    replace hA := hA.below hb0
    clear hb hc hf hz
    generalize w' = w1 at *
    generalize w.heap.size = BV at gV
    have lV := gV.lt
    have v0 : w1.cell? ⟨BV, 0, none⟩ = some (.int .i64 V0) := gV.cell 0
    have v1 : w1.cell? ⟨BV, 1, none⟩ = some (.int .i64 V1) := gV.cell 1
    have hP := fun W (h : VAt W p c n z) => vpush_any r ⟨V0, V1⟩ p n c z W h hn1 hv
    have hPr := fun W (h : VAt W p c n z) => rvpush_any r ⟨V0, V1⟩ p n c z W h hn1 hv
    have hQ := fun W (h : VAt W p c n z) => vpop_any p n c z W h hn1
    have hQr := fun W (h : VAt W p c n z) => rvpop_any p n c z W h hn1
    have hS := fun W (h : VAt W p c n z) => vslot_any p n c z i W h
    have hSr := fun W (h : VAt W p c n z) => rvslot_any p n c z i W h
    have hO := fun W (h : VAt W p c n z) => vobj_any p n c z i W h
    have hOr := fun W (h : VAt W p c n z) => rvobj_any p n c z i W h
    have hR := fun W (h : VAt W p c n z) => vrefs_any p n c z W h hn1
    have hRr := fun W (h : VAt W p c n z) => rvrefs_any p n c z W h hn1
    have hL : (vrL z n).length ≤ maxLen := by have := vrL_len z n; simp only [maxLen]; omega
    have hSm : ∀ W p c q d n z, VAt W p c n z → VAt W q d n z → Calls Try.prog 16 #[.slice p n c, .slice q n d] W fun e w' => e = .returned (.bool true) ∧ Below W.heap.size W w' := fun W p c q d n z h1 h2 => by
      have := rvsame_any p q n c n d z z W h1 h2
      rwa [sameV_self] at this
    have hIs : ∀ W p c q d n z, n ≤ maxLen → Ints .i64 W p n z → Ints .i64 W q n z → Calls Try.prog 17 #[.slice p n c, .slice q n d] W fun e w' => e = .returned (.bool true) ∧ Below W.heap.size W w' := fun W p c q d n z hn h1 h2 => by
      have := rintsG_any p q n c n d z z W h1 h2 hn hn
      rwa [sameI_self] at this
    unfold Vl.agg at hP hPr hQ hQr hS hSr
    generalize vpN n r = N2 at *
    generalize vpE n r = E2 at *
    generalize vpZ n r z ⟨V0, V1⟩ = Z2 at *
    generalize vqX n z = X at *
    generalize vqE n = E3 at *
    generalize vsX n z i = Y at *
    generalize vsE n i = E4 at *
    generalize voX n z i = X5 at *
    generalize voE n z i = E5 at *
    generalize (vrL z n).length = NL at *
    generalize liI (vrL z n) = ZL at *
    obtain ⟨X0, X1⟩ := X
    obtain ⟨Y0, Y1⟩ := Y
    dsimp only at *
    go_upto_region 4 with (first
      | (go_at_call 8; refine Calls.mono (hP _ hA) ?_; rintro e w2 ⟨p1, c1, rfl, hB, -, hb1⟩)
    )
    replace hA := hA.below hb1
    replace hb0 := bjoin hb1 hb0
    replace gV := gV.below hb1
    have lV := gV.lt
    have v0 : w2.cell? ⟨BV, 0, none⟩ = some (.int .i64 V0) := gV.cell 0
    have v1 : w2.cell? ⟨BV, 1, none⟩ = some (.int .i64 V1) := gV.cell 1
    clear hb1 hP
    go_upto_region 5 with (first
      | (go_at_call 9; refine Calls.mono (hPr _ hA) ?_; rintro e w3 ⟨p2, c2, rfl, hC, hb1⟩)
    )
    replace hA := hA.below hb1
    replace hB := hB.below hb1
    replace hb0 := bjoin hb1 hb0
    clear hb1 hPr v0 v1 lV gV
    go_upto_region 6 with (first
      | (go_at_call 10; refine Calls.mono (hQ _ hA) ?_; rintro e w4 ⟨p3, c3, rfl, hD, -, hb1⟩)
    )
    obtain ⟨w5, hw5⟩ : ∃ W, W = w4.alloc (.cells #[.int .i64 X0, .int .i64 X1] 24) := ⟨_, rfl⟩
    have gX : TBox 24 w4.heap.size #[.int .i64 X0, .int .i64 X1] w5 := by rw [hw5]; exact TBox.new _ _ _
    have hb2 : Below w4.heap.size w4 w5 := by rw [hw5]; exact (Below.refl _ _).alloc (Nat.le_refl _) _
    rw [← hw5]
    clear hw5
    replace hD := hD.below hb2
    replace hb1 := bjoin hb2 hb1
    replace hA := hA.below hb1
    replace hB := hB.below hb1
    replace hC := hC.below hb1
    replace hb0 := bjoin hb1 hb0
    clear hb1 hb2 hQ
    generalize w4.heap.size = BX at *
    go_upto_region 7 with (first
      | (go_at_call 11; refine Calls.mono (hQr _ hA) ?_; rintro e w6 ⟨p4, c4, rfl, hE, hb1⟩)
    )
    obtain ⟨w7, hw7⟩ : ∃ W, W = w6.alloc (.cells #[.int .i64 X0, .int .i64 X1] 24) := ⟨_, rfl⟩
    have gX2 : TBox 24 w6.heap.size #[.int .i64 X0, .int .i64 X1] w7 := by rw [hw7]; exact TBox.new _ _ _
    have hb2 : Below w6.heap.size w6 w7 := by rw [hw7]; exact (Below.refl _ _).alloc (Nat.le_refl _) _
    rw [← hw7]
    clear hw7
    replace hE := hE.below hb2
    replace hb1 := bjoin hb2 hb1
    replace hA := hA.below hb1
    replace hB := hB.below hb1
    replace hC := hC.below hb1
    replace hD := hD.below hb1
    replace gX := gX.below hb1
    replace hb0 := bjoin hb1 hb0
    clear hb1 hb2 hQr
    generalize w6.heap.size = BX2 at *
    go_upto_region 8 with (first
      | (go_at_call 12; refine Calls.mono (hS _ hA) ?_; rintro e w8 ⟨rfl, hb1⟩)
    )
    obtain ⟨w9, hw9⟩ : ∃ W, W = w8.alloc (.cells #[.int .i64 Y0, .int .i64 Y1] 24) := ⟨_, rfl⟩
    have gY : TBox 24 w8.heap.size #[.int .i64 Y0, .int .i64 Y1] w9 := by rw [hw9]; exact TBox.new _ _ _
    have hb2 : Below w8.heap.size w8 w9 := by rw [hw9]; exact (Below.refl _ _).alloc (Nat.le_refl _) _
    rw [← hw9]
    clear hw9
    replace hb1 := bjoin hb2 hb1
    replace hA := hA.below hb1
    replace hB := hB.below hb1
    replace hC := hC.below hb1
    replace hD := hD.below hb1
    replace hE := hE.below hb1
    replace gX := gX.below hb1
    replace gX2 := gX2.below hb1
    replace hb0 := bjoin hb1 hb0
    clear hb1 hb2 hS
    generalize w8.heap.size = BY at *
    go_upto_region 9 with (first
      | (go_at_call 13; refine Calls.mono (hSr _ hA) ?_; rintro e w10 ⟨rfl, hb1⟩)
    )
    obtain ⟨w11, hw11⟩ : ∃ W, W = w10.alloc (.cells #[.int .i64 Y0, .int .i64 Y1] 24) := ⟨_, rfl⟩
    have gY2 : TBox 24 w10.heap.size #[.int .i64 Y0, .int .i64 Y1] w11 := by rw [hw11]; exact TBox.new _ _ _
    have hb2 : Below w10.heap.size w10 w11 := by rw [hw11]; exact (Below.refl _ _).alloc (Nat.le_refl _) _
    rw [← hw11]
    clear hw11
    replace hb1 := bjoin hb2 hb1
    replace hA := hA.below hb1
    replace hB := hB.below hb1
    replace hC := hC.below hb1
    replace hD := hD.below hb1
    replace hE := hE.below hb1
    replace gX := gX.below hb1
    replace gX2 := gX2.below hb1
    replace gY := gY.below hb1
    replace hb0 := bjoin hb1 hb0
    clear hb1 hb2 hSr
    generalize w10.heap.size = BY2 at *
    go_upto_region 11 with (first
      | (go_at_call 14; refine Calls.mono (hO _ hA) ?_; rintro e w12 ⟨rfl, hb1⟩)
      | (go_at_call 15; refine Calls.mono (hOr _ (hA.below hb1)) ?_; rintro e w13 ⟨rfl, hb2⟩)
    )
    replace hb1 := bjoin hb2 hb1
    replace hA := hA.below hb1
    replace hB := hB.below hb1
    replace hC := hC.below hb1
    replace hD := hD.below hb1
    replace hE := hE.below hb1
    replace gX := gX.below hb1
    replace gX2 := gX2.below hb1
    replace gY := gY.below hb1
    replace gY2 := gY2.below hb1
    replace hb0 := bjoin hb1 hb0
    clear hb1 hb2 hO hOr
    have lX := gX.lt
    have lX2 := gX2.lt
    have lY := gY.lt
    have lY2 := gY2.lt
    have k0 : w13.cell? ⟨BX, 0, none⟩ = some (.int .i64 X0) := gX.cell 0
    have k1 : w13.cell? ⟨BX, 1, none⟩ = some (.int .i64 X1) := gX.cell 1
    have k2 : w13.cell? ⟨BX2, 0, none⟩ = some (.int .i64 X0) := gX2.cell 0
    have k3 : w13.cell? ⟨BX2, 1, none⟩ = some (.int .i64 X1) := gX2.cell 1
    have k4 : w13.cell? ⟨BY, 0, none⟩ = some (.int .i64 Y0) := gY.cell 0
    have k5 : w13.cell? ⟨BY, 1, none⟩ = some (.int .i64 Y1) := gY.cell 1
    have k6 : w13.cell? ⟨BY2, 0, none⟩ = some (.int .i64 Y0) := gY2.cell 0
    have k7 : w13.cell? ⟨BY2, 1, none⟩ = some (.int .i64 Y1) := gY2.cell 1
    clear gX gX2 gY gY2
    go_wp2_with (first
    | (go_at_call 16; refine Calls.mono (hSm _ _ _ _ _ _ _ (by assumption) (by assumption)) ?_; rintro e w' ⟨rfl, hb⟩; (first | replace hA := hA.below hb | replace hA := (hA.below (by go_grown)).below hb | skip); (first | replace hB := hB.below hb | replace hB := (hB.below (by go_grown)).below hb | skip); (first | replace hC := hC.below hb | replace hC := (hC.below (by go_grown)).below hb | skip); (first | replace hD := hD.below hb | replace hD := (hD.below (by go_grown)).below hb | skip); (first | replace hE := hE.below hb | replace hE := (hE.below (by go_grown)).below hb | skip); obtain ⟨hc, hf, hb, hz⟩ := bstep hb (w := w13) (by go_grown); try simp only [World.size_alloc, World.size_setCell, World.size_drew] at hc hf hz)
    | (go_at_call 18; refine Calls.mono (hR _ hA) ?_; rintro e w' ⟨p5, c5, rfl, hI, hb⟩; (first | replace hA := hA.below hb | replace hA := (hA.below (by go_grown)).below hb | skip); (first | replace hB := hB.below hb | replace hB := (hB.below (by go_grown)).below hb | skip); (first | replace hC := hC.below hb | replace hC := (hC.below (by go_grown)).below hb | skip); (first | replace hD := hD.below hb | replace hD := (hD.below (by go_grown)).below hb | skip); (first | replace hE := hE.below hb | replace hE := (hE.below (by go_grown)).below hb | skip); obtain ⟨hc, hf, hb, hz⟩ := bstep hb (w := w13) (by go_grown); try simp only [World.size_alloc, World.size_setCell, World.size_drew] at hc hf hz)
    | (go_at_call 19; refine Calls.mono (hRr _ hA) ?_; rintro e w' ⟨p6, c6, rfl, hJ, hb⟩; (try (replace hI := hI.below hb)); (first | replace hA := hA.below hb | replace hA := (hA.below (by go_grown)).below hb | skip); (first | replace hB := hB.below hb | replace hB := (hB.below (by go_grown)).below hb | skip); (first | replace hC := hC.below hb | replace hC := (hC.below (by go_grown)).below hb | skip); (first | replace hD := hD.below hb | replace hD := (hD.below (by go_grown)).below hb | skip); (first | replace hE := hE.below hb | replace hE := (hE.below (by go_grown)).below hb | skip); obtain ⟨hc, hf, hb, hz⟩ := bstep hb (w := w13) (by go_grown); try simp only [World.size_alloc, World.size_setCell, World.size_drew] at hc hf hz)
    | (go_at_call 17; refine Calls.mono (hIs _ _ _ _ _ _ _ hL hI hJ) ?_; rintro e w' ⟨rfl, hb⟩; (first | replace hA := hA.below hb | replace hA := (hA.below (by go_grown)).below hb | skip); (first | replace hB := hB.below hb | replace hB := (hB.below (by go_grown)).below hb | skip); (first | replace hC := hC.below hb | replace hC := (hC.below (by go_grown)).below hb | skip); (first | replace hD := hD.below hb | replace hD := (hD.below (by go_grown)).below hb | skip); (first | replace hE := hE.below hb | replace hE := (hE.below (by go_grown)).below hb | skip); obtain ⟨hc, hf, hb, hz⟩ := bstep hb (w := w13) (by go_grown); try simp only [World.size_alloc, World.size_setCell, World.size_drew] at hc hf hz)
    )
    go_returns
    exact ⟨rfl, bjoin hb hb0⟩
namespace RootsDoes
theorem own : ownKnob Try.prog.godebug = none := by kernel_rfl
set_option maxRecDepth 100000 in
theorem lifted (os : Os) (started : os.Started) (H : Type) (enc : TypeId × Value → H) :
    ReturnsInHanded {} Try.checked os 3 .any (Rows.rootsDoesSpec.pre6 enc Try.prog Try.f3 Rows.rootsDoesRow.domain false) (Rows.rootsDoesSpec.post enc Try.prog Try.f3 false true false false) := by
  refine law_lifted (C := Try.checked) own started (by kernel_rfl) Try.func3 (by kernel_rfl) (of_decide_eq_true (by kernel_rfl)) rfl
    (fun ds hd => by have hd' : ds.length = 4 := hd; match ds, hd' with | [d0, d1, d2, d3], _ => rfl) rfl Try.underlying4
    (ChangeSpec.witness6 (enc := enc) (C := Try.checked) false ⟨#[], #[.slice none 0 0, .int .i64 0, .agg #[.int .i64 0, .int .i64 0], .int .i64 0], []⟩ 8 (by kernel_rfl) (by kernel_rfl) (by kernel_rfl) (by kernel_rfl)) ?_
  intro W base args ds p hval hA hlt
  rw [Try.params3] at hA hval
  obtain ⟨v0, v1, v2, v3, d0, d1, d2, d3, p0, p1, p2, p3, rfl, rfl, rfl, h0, h1, h2, h3⟩ := trodAll_four hA
  obtain ⟨q0, n0, cap0, z0, rfl, hv0⟩ := open_vals Try.underlying22 Try.underlying24 (by kernel_rfl) (by kernel_rfl) (by kernel_rfl) (by kernel_rfl) (hval 0 22 v0 rfl rfl) h0
  obtain ⟨a1, rfl, ha1⟩ := open_i64 Try.underlying3 (hval 1 3 v1 rfl rfl) h1
  obtain ⟨a2, b2, rfl, ha2, hb2⟩ := open_int2 Try.underlying24 (by kernel_rfl) (by kernel_rfl) (by kernel_rfl) (by kernel_rfl) (hval 2 24 v2 rfl rfl) h2
  obtain ⟨a3, rfl, ha3⟩ := open_i64 Try.underlying3 (hval 3 3 v3 rfl rfl) h3
  exact does14_walk q0 n0 cap0 z0 a1 ⟨a2, b2⟩ a3 W hv0 (vl_wf ha2 hb2)

/-- The statement. -/
theorem holds : Rows.RootsDoesSaid :=
  OpenClaim.holds_of_wide 3 Try.f3 rfl rfl rfl rfl rfl rfl rfl ⟨rfl, rfl, rfl, rfl, rfl⟩ rfl rfl rfl rfl rfl (by kernel_rfl) Try.func3 (by kernel_rfl)
    (of_decide_eq_true (by kernel_rfl)) (by unfold Func.isWrapper; first | (rw [if_pos (by decide +kernel)]; kernel_rfl) | (rw [if_neg (by decide +kernel)]; exact ⟨rfl, rfl⟩))
    (fun os started H enc _ => lifted os started H enc)
#print axioms holds
end RootsDoes
end Go.Proofs.Ytcackfimcpheoaa
