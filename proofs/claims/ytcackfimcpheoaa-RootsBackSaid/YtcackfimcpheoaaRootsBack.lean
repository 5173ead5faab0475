/- RootsBack: what is pushed, and popped, leaves the stack as it was; each address that a stack holds is an object's of some slot, in order. No condition. -/
import Derived.Test.YtcackfimcpheoaaRows
import Derived.Test.YtcackfimcpheoaaAwake14
namespace Go.Proofs.Ytcackfimcpheoaa
set_option linter.unusedSimpArgs false
set_option linter.unusedVariables false
open Go.ChangeShapes Go.WideShapes Go.ChangeAt Go.RowKit Go.Joins

set_option maxHeartbeats 16000000 in
set_option maxRecDepth 20000 in
theorem back14_walk (p : Option Addr) (n c : Nat) (z : Nat → Vl) (v : Vl) (w : World) (hA : VAt w p c n z) (hv : v.wf) :
    Calls Try.prog 6 #[.slice p n c, v.agg] w fun e w' => e = .returned (.bool true) ∧ Below w.heap.size w w' := by
  have hnm := hA.nle
  simp only [maxLen] at hnm
  obtain ⟨V0, V1⟩ := v
  unfold Vl.agg
  by_cases hbig : 100 < n
  · have d0 : decide (100 < (n : Int)) = true := by simp; omega
    go_enter Try.func6, Try.ntmps6
    go_wp2_with (first
    | (go_at_call 7; refine Calls.mono (awake14_any _) ?_; rintro e w' ⟨rfl, hb⟩; obtain ⟨hc, hf, hb, hz⟩ := bstep hb (w := w) (by go_grown); try simp only [World.size_alloc, World.size_setCell, World.size_drew] at hc hf hz)
    )
    go_returns
    first | exact ⟨rfl, hb⟩ | exact ⟨ret_bool (by simp), hb⟩ | exact ⟨rfl, by go_grown⟩
  · have d0 : decide (100 < (n : Int)) = false := by simp; omega
    obtain ⟨w0, hw0⟩ : ∃ w0, w0 = w.alloc (.cells #[.int .i64 V0, .int .i64 V1] 24) := ⟨_, rfl⟩
    have hb0 : Below w.heap.size w w0 := by rw [hw0]; exact (Below.refl _ _).alloc (Nat.le_refl _) _
    have gV : TBox 24 w.heap.size #[.int .i64 V0, .int .i64 V1] w0 := by rw [hw0]; exact TBox.new _ _ _
    have hn1 : n ≤ 1000000 := by omega
    have hn2 : n + 1 ≤ 1000000 := by omega
    go_enter Try.func6, Try.ntmps6
    go_upto_region 1 with fail
    rw [← hw0]
    clear hw0
    go_upto_region 3 with (first
    | (go_at_call 7; refine Calls.mono (awake14_any _) ?_; rintro e w' ⟨rfl, hb⟩; obtain ⟨hc, hf, hb, hz⟩ := bstep hb (w := w0) (by go_grown); try simp only [World.size_alloc, World.size_setCell, World.size_drew] at hc hf hz)
    )
    replace gV := gV.below hb
    replace hb0 := bjoin hb hb0
    replace hA := hA.below hb0
    clear hb hc hf hz
    generalize w' = w1 at *
    generalize w.heap.size = BV at gV
    have lV := gV.lt
    have v0 : w1.cell? ⟨BV, 0, none⟩ = some (.int .i64 V0) := gV.cell 0
    have v1 : w1.cell? ⟨BV, 1, none⟩ = some (.int .i64 V1) := gV.cell 1
    have ePB : vpB n ((n : Int) + 1) = true := by simp [vpB]; omega
    have hP := fun W (h : VAt W p c n z) => vpush_any ((n : Int) + 1) ⟨V0, V1⟩ p n c z W h hn1 hv
    simp only [show vpN n ((n : Int) + 1) = n + 1 from by unfold vpN; rw [if_pos ePB], show vpE n ((n : Int) + 1) = 0 from by unfold vpE; rw [if_pos ePB], show vpZ n ((n : Int) + 1) z ⟨V0, V1⟩ = pvZ z n ⟨V0, V1⟩ from by unfold vpZ; rw [if_pos ePB], Vl.agg] at hP
    have hQ := fun W p c (h : VAt W p c (n + 1) (pvZ z n ⟨V0, V1⟩)) => vpop_any p (n + 1) c (pvZ z n ⟨V0, V1⟩) W h hn2
    have eX : vqX (n + 1) (pvZ z n ⟨V0, V1⟩) = ⟨V0, V1⟩ := by
      unfold vqX
      rw [if_neg (by omega)]
      show pvZ z n ⟨V0, V1⟩ (n + 1 - 1) = _
      unfold pvZ
      rw [if_pos (by omega)]
    simp only [eX, show vqE (n + 1) = 0 from by unfold vqE; rw [if_neg (by omega)], show n + 1 - 1 = n from rfl, Vl.agg] at hQ
    have hSm : ∀ W p c q d, VAt W p c n (pvZ z n ⟨V0, V1⟩) → VAt W q d n z → Calls Try.prog 16 #[.slice p n c, .slice q n d] W fun e w' => e = .returned (.bool true) ∧ Below W.heap.size W w' := fun W p c q d h1 h2 => by
      have := rvsame_any p q n c n d _ z W h1 h2
      rwa [sameV_of (fun i hi => by unfold pvZ; rw [if_neg (by omega)])] at this
    have hR := fun W (h : VAt W p c n z) => vrefs_any p n c z W h hn1
    clear eX ePB
    go_upto_region 4 with (first
      | (go_at_call 8; refine Calls.mono (hP _ hA) ?_; rintro e w2 ⟨p1, c1, rfl, hB, -, hb1⟩)
    )
    replace hA := hA.below hb1
    replace hb0 := bjoin hb1 hb0
    replace gV := gV.below hb1
    clear hb1 hP v0 v1 lV
    go_upto_region 5 with (first
      | (go_at_call 10; refine Calls.mono (hQ _ _ _ hB) ?_; rintro e w4 ⟨p3, c3, rfl, hD, -, hb1⟩)
    )
    obtain ⟨w5, hw5⟩ : ∃ W, W = w4.alloc (.cells #[.int .i64 V0, .int .i64 V1] 24) := ⟨_, rfl⟩
    have gX : TBox 24 w4.heap.size #[.int .i64 V0, .int .i64 V1] w5 := by rw [hw5]; exact TBox.new _ _ _
    have hb2 : Below w4.heap.size w4 w5 := by rw [hw5]; exact (Below.refl _ _).alloc (Nat.le_refl _) _
    rw [← hw5]
    clear hw5
    replace hD := hD.below hb2
    replace hb1 := bjoin hb2 hb1
    replace hA := hA.below hb1
    replace gV := gV.below hb1
    replace hb0 := bjoin hb1 hb0
    clear hb1 hb2 hQ hB
    generalize w4.heap.size = BX at *
    have lV := gV.lt
    have v0 : w5.cell? ⟨BV, 0, none⟩ = some (.int .i64 V0) := gV.cell 0
    have v1 : w5.cell? ⟨BV, 1, none⟩ = some (.int .i64 V1) := gV.cell 1
    have lX := gX.lt
    have x0 : w5.cell? ⟨BX, 0, none⟩ = some (.int .i64 V0) := gX.cell 0
    have x1 : w5.cell? ⟨BX, 1, none⟩ = some (.int .i64 V1) := gX.cell 1
    go_upto_region 7 with (first
    | (go_at_call 16; refine Calls.mono (hSm _ _ _ _ _ hD hA) ?_; rintro e w' ⟨rfl, hb⟩; obtain ⟨hc, hf, hb, hz⟩ := bstep hb (w := w5) (by go_grown); try simp only [World.size_alloc, World.size_setCell, World.size_drew] at hc hf hz)
    )
    replace hA := hA.below hb
    replace hb0 := bjoin hb hb0
    clear hb hc hf hz hSm hD gV gX lV v0 v1 lX x0 x1
    generalize w' = w6 at *
    obtain ⟨i0, hi, hz0, hz1, hz2⟩ := info_parts int_infoL
    have hwf := vrL_wf hA.row.wf
    have hO := fun j W (h : VAt W p c n z) => vobj_any p n c z j W h
    go_wp2
    go_loopg [10, 11] n (fun g ov iv wr => ∃ j : Nat, j ≤ n ∧ g = n - j ∧ iv = .int .i64 j ∧ wr.ownsRow w6.heap.size 3 1 ov (vrL z j).length ((vrL z j).map (Value.int .i64)) ∧ Below w6.heap.size w6 wr)
    case atStart => exact ⟨0, by omega, by omega, rfl, World.ownsRow_nil _ _ _ _, Below.refl _ _⟩
    case round =>
      obtain ⟨j, jh, rfl, rfl, hown, hbw⟩ := hrel
      have hsz : w6.heap.size ≤ wr.heap.size := hbw.size
      by_cases hj : j < n
      · have hOj := hO (j : Int) wr (hA.below hbw)
        clear hO
        have hql := vrL_len z j
        by_cases hk : (z j).k = 2
        · have hL : vrL z (j + 1) = vrL z j ++ [(z j).n] := by show (if (z j).k = 2 then _ else _) = _; rw [if_pos hk]
          have eE : voE n z (j : Int) = 0 := by
            unfold voE
            rw [if_pos (by omega), Int.toNat_natCast, if_neg (by omega), if_pos hk]
          have eX : voX n z (j : Int) = (z j).n := by unfold voX; rw [eE, if_pos rfl, Int.toNat_natCast]
          rw [eE, eX] at hOj
          clear eE eX
          generalize hE : vrL z (j + 1) = L2 at *
          generalize vrL z j = L at *
          generalize (z j).n = x at *
          clear hk
          go_upto_region 13 with (first
            | (go_at_call 14; refine Calls.mono hOj ?_; rintro e w7 ⟨rfl, hb7⟩)
          )
          have hbw7 := bjoin hb7 hbw
          have hsz7 := hbw7.size
          replace hown := owned_below hown hb7
          clear hOj hbw hsz hb7
          go_wp2_with (first
            | (at_builtin; refine wpList_append_own _ rfl (.tmp 68) (.tmp 70) 45 rfl w6.heap.size 3 i0 (.int .i64 0) 1 8 Try.underlying45 hi hz0 hz1 hz2 rfl (by decide) _ _ _ rfl (hown.alloc _) ⟨w7.heap.size, 0, none⟩ 1 1 [.int .i64 x] rfl rfl (one_newG _ _ _) (by simp [Value.oneCell']) (by simp only [maxLen]; omega) (by omega) (by simp; omega) ?_; intro ov w8 hown' hgrow _)
          )
          have hown2 : w8.ownsRow w6.heap.size 3 1 ov (L ++ [x]).length ((L ++ [x]).map (Value.int .i64)) := by simpa using hown'
          have hb2 := (hbw7.alloc hsz7 (.cells #[.int .i64 x] 3)).grown hgrow (by simp; omega) (fun k hk => (hown.lt k hk).1)
          rw [← hL] at hown2
          go_roundg (n - (j + 1))
          case measure => omega
          case rel => exact ⟨j + 1, by omega, rfl, by go_num, by rw [hE]; assumption, hb2⟩
        · have hL : vrL z (j + 1) = vrL z j := by show (if (z j).k = 2 then _ else _) = _; rw [if_neg hk]
          obtain ⟨E, eE, hE0⟩ : ∃ E, voE n z (j : Int) = E ∧ ¬ E = 0 := by
            refine ⟨_, rfl, ?_⟩
            unfold voE
            rw [if_pos (by omega), Int.toNat_natCast]
            split
            · decide
            · first | decide | (rw [if_neg hk]; decide)
          have hE1 : (E == 0) = false := by simp [hE0]
          rw [eE] at hOj
          clear eE
          rw [← hL] at hown
          generalize voX n z (j : Int) = x at *
          generalize hE : vrL z (j + 1) = L at *
          clear hk
          go_upto_region 12 with (first
            | (go_at_call 14; refine Calls.mono hOj ?_; rintro e w7 ⟨rfl, hb7⟩)
          )
          have hbw7 := bjoin hb7 hbw
          replace hown := owned_below hown hb7
          clear hOj hbw hsz hb7
          go_wp2
          go_roundg (n - (j + 1))
          case measure => omega
          case rel => exact ⟨j + 1, by omega, rfl, by go_num, by rw [hE]; assumption, hbw7⟩
      · obtain rfl : j = n := by omega
        obtain ⟨pp, cc, ff, -⟩ := owned_new hown
        rw [ff] at hown ⊢
        have hI := li_ints hown hwf
        have hL : (vrL z j).length ≤ maxLen := by have := vrL_len z j; simp only [maxLen]; omega
        have hRw := hR wr (hA.below hbw)
        clear hown ff hO hR
        generalize (vrL z j).length = NL at *
        generalize liI (vrL z j) = ZL at *
        go_wp2_with (first
          | (go_at_call 18; refine Calls.mono hRw ?_; rintro e w8 ⟨p5, c5, rfl, hJ, hb8⟩)
          | (go_at_call 17; refine Calls.mono (rintsG_any _ _ _ _ _ _ _ _ _ hJ (hI.below hb8) hL hL) ?_; rintro e w9 ⟨rfl, hb9⟩)
        )
        go_returns
        exact ⟨ret_bool (by simp [sameI_self]), bjoin (bjoin hb9 (bjoin hb8 hbw)) hb0⟩
namespace RootsBack
theorem own : ownKnob Try.prog.godebug = none := by kernel_rfl
set_option maxRecDepth 100000 in
theorem lifted (os : Os) (started : os.Started) (H : Type) (enc : TypeId × Value → H) :
    ReturnsInHanded {} Try.checked os 6 .any (Rows.rootsBackSpec.pre6 enc Try.prog Try.f6 Rows.rootsBackRow.domain false) (Rows.rootsBackSpec.post enc Try.prog Try.f6 false true false false) := by
  refine law_lifted (C := Try.checked) own started (by kernel_rfl) Try.func6 (by kernel_rfl) (of_decide_eq_true (by kernel_rfl)) rfl
    (fun ds hd => by have hd' : ds.length = 2 := hd; match ds, hd' with | [d0, d1], _ => rfl) rfl Try.underlying4
    (ChangeSpec.witness6 (enc := enc) (C := Try.checked) false ⟨#[], #[.slice none 0 0, .agg #[.int .i64 0, .int .i64 0]], []⟩ 8 (by kernel_rfl) (by kernel_rfl) (by kernel_rfl) (by kernel_rfl)) ?_
  intro W base args ds p hval hA hlt
  rw [Try.params6] at hA hval
  obtain ⟨v0, v1, d0, d1, p0, p1, rfl, rfl, rfl, h0, h1⟩ := trodAll_two hA
  obtain ⟨q0, n0, cap0, z0, rfl, hv0⟩ := open_vals Try.underlying22 Try.underlying24 (by kernel_rfl) (by kernel_rfl) (by kernel_rfl) (by kernel_rfl) (hval 0 22 v0 rfl rfl) h0
  obtain ⟨a1, b1, rfl, ha1, hb1⟩ := open_int2 Try.underlying24 (by kernel_rfl) (by kernel_rfl) (by kernel_rfl) (by kernel_rfl) (hval 1 24 v1 rfl rfl) h1
  exact back14_walk q0 n0 cap0 z0 ⟨a1, b1⟩ W hv0 (vl_wf ha1 hb1)

/-- The statement. -/
theorem holds : Rows.RootsBackSaid :=
  OpenClaim.holds_of_wide 6 Try.f6 rfl rfl rfl rfl rfl rfl rfl ⟨rfl, rfl, rfl, rfl, rfl⟩ rfl rfl rfl rfl rfl (by kernel_rfl) Try.func6 (by kernel_rfl)
    (of_decide_eq_true (by kernel_rfl)) (by unfold Func.isWrapper; first | (rw [if_pos (by decide +kernel)]; kernel_rfl) | (rw [if_neg (by decide +kernel)]; exact ⟨rfl, rfl⟩))
    (fun os started H enc _ => lifted os started H enc)
#print axioms holds
end RootsBack
end Go.Proofs.Ytcackfimcpheoaa
