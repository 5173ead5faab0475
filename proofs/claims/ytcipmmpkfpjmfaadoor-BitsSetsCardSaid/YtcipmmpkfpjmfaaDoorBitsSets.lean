/- BitsSets: whatever numbers are put into an empty mask, and taken out again, those are in that were put in and not taken out; the least one is the least, the count is how many. No condition; the library's table is tied to the program's text. -/
import Derived.Test.YtcipmmpkfpjmfaaDoorRows
import Derived.Test.YtcipmmpkfpjmfaaDoorCards
import Derived.Test.YtcipmmpkfpjmfaaDoorTie
import Derived.Test.YtcipmmpkfpjmfaaDoorTied
import Derived.Test.YtcipmmpkfpjmfaaDoorAwake03
import Derived.Test.YtcipmmpkfpjmfaaDoorInts
import Derived.SevenTiedAt
import Derived.Deep.Cut
namespace Go.Proofs.YtcipmmpkfpjmfaaDoor
set_option linter.unusedSimpArgs false
set_option linter.unusedVariables false
open Go.ChangeShapes Go.WideShapes Go.ChangeAt Go.RowKit Go.Joins

theorem sets_in {m z x : Int} (h0 : 0 ≤ z) (x0 : 0 ≤ x) (x1 : x < 32) : hasB (withW m (z % 32)) x = (hasB m x || z % 32 == x) := by
  rw [has_with, inB_yes (by omega) (by omega)]
  simp only [Bool.true_and]
  congr 1
  by_cases e : z % 32 = x
  · simp [e]
  · have : ¬ x = z % 32 := fun h => e h.symm
    simp [e, this]
theorem sets_out {m z x : Int} (h : Mask m) (h0 : 0 ≤ z) (x0 : 0 ≤ x) (x1 : x < 32) : hasB (woutW m (z % 32)) x = (hasB m x && !(z % 32 == x)) := by
  rw [has_wout _ _ h, inB_yes (by omega) (by omega)]
  simp only [Bool.true_and]
  congr 2
  by_cases e : z % 32 = x
  · simp [e]
  · have : ¬ x = z % 32 := fun h => e h.symm
    simp [e, this]
theorem sets_least {m i : Int} (h : Mask m) (hi : hasB m i = true) : leastW m ≤ i := by
  have h0 : m ≠ 0 := by
    intro e
    subst e
    rw [has_zero] at hi; cases hi
  obtain ⟨-, -, -, hno⟩ := least_spec h h0
  rcases Int.lt_or_le i (leastW m) with hlt | hle
  · rw [hno i hlt] at hi; cases hi
  · exact hle
theorem sets_end {m : Int} (h : Mask m) : (leastB m = false ∧ countW m = 0) ∨ (leastB m = true ∧ 0 < countW m ∧ hasB m (leastW m) = true) := by
  by_cases h0 : m = 0
  · subst h0
    exact .inl ⟨rfl, by decide +kernel⟩
  · obtain ⟨a, b, c, -⟩ := least_spec h h0
    refine .inr ⟨by simp [leastB, h0], ?_, c⟩
    exact cntTo_pos (k := 32) (i := (leastW m).toNat) (by omega) (by rw [Int.toNat_of_nonneg a]; exact c)

set_option maxHeartbeats 4000000 in
theorem sets_walk (p q : Option Addr) (n cap n' cap' : Nat) (z z' : Nat → Int) (y : Int) (w : World) (hin : Ints .u8 w p n z) (hout : Ints .u8 w q n' z') (hn : n ≤ maxLen) (hn' : n' ≤ maxLen) (y0 : 0 ≤ y) (y1 : y < 256) (hT : Tab w) :
    Calls Tryd.prog 5 #[.slice p n cap, .slice q n' cap', .int .u8 y] w fun e w' => e = .returned (.bool true) ∧ Below w.heap.size w w' := by
  simp only [maxLen] at hn hn'
  by_cases hs : n ≤ 100 ∧ n' ≤ 100
  · obtain ⟨s0, s1⟩ := hs
    have x0 : 0 ≤ y % 32 := by omega
    have x1 : y % 32 < 32 := by omega
    have d0 : decide (100 < (n : Int)) = false := by simp; omega
    have d1 : decide (100 < (n' : Int)) = false := by simp; omega
    have t0 : (n : Int) ≤ 100 := by omega
    have t1 : (n' : Int) ≤ 100 := by omega
    go_enter Tryd.func5, Tryd.ntmps5
    go_wp2_with (first
    | (go_at_call 7; refine (awake_any _ hT).mono ?_; rintro e w' ⟨rfl, hb⟩; obtain ⟨hc, hf, hb, hz⟩ := bstep hb (w := w) (by go_grown); try simp only [World.size_alloc, World.size_setCell, World.size_drew] at hc hf hz)
    )
    obtain ⟨w0, hw0⟩ : ∃ w0, w0 = w' := ⟨_, rfl⟩
    rw [← hw0] at hb ⊢
    have hbA := hb
    have hT0 : Tab w0 := hT.below hb
    have hin0 : Ints .u8 w0 p n z := hin.below hb
    have hout0 : Ints .u8 w0 q n' z' := hout.below hb
    clear hc hf hz hw0 hb hT hin hout
    go_loopg [7, 8, 9] 100 (fun g mv bv iv wr => ∃ (m i : Int), Mask m ∧ 0 ≤ i ∧ i ≤ n ∧ g = (100 - i).toNat ∧ mv = .int .u32 m ∧ bv = .bool (hasB m (y % 32)) ∧ iv = .int .i64 i ∧ Below w0.heap.size w0 wr)
    case atStart => exact ⟨0, 0, ⟨by decide, by decide⟩, by omega, by omega, rfl, rfl, by rw [has_zero], rfl, Below.refl _ _⟩
    case round =>
      obtain ⟨m, i, hm, il, ih, rfl, rfl, rfl, rfl, hbw⟩ := hrel
      by_cases hi : i < n
      · obtain ⟨⟨b, off, rfl, hlt, hcell⟩, hwf⟩ := (hin0.below hbw) i.toNat (by omega)
        obtain ⟨v0, v1⟩ := wf_u8 hwf
        have hset := sets_in (m := m) v0 x0 x1
        generalize z i.toNat = v at hcell v0 v1 hset
        cases hw : hasB m (y % 32)
        all_goals
          rw [hw] at hset
          go_wp2_with (first
    | (go_at_call 10; refine (with_any _ _ _ hm).mono ?_; rintro e w' ⟨rfl, hb⟩; obtain ⟨hc, hf, hb, hz⟩ := bstep hb (w := wr) (by go_grown); try simp only [World.size_alloc, World.size_setCell, World.size_drew] at hc hf hz)
          )
          go_roundg (100 - (i + 1)).toNat
          case measure => omega
          case rel => exact ⟨_, i + 1, mask_with hm, by omega, by omega, rfl, rfl, by simp [hset], rfl, by go_grown; all_goals exact bjoin (by assumption) hbw⟩
      · go_upto_region 10 with fail
        clear hi il ih
        have hb1 := hbw
        obtain ⟨w1, hw1⟩ : ∃ w1, w1 = wr := ⟨_, rfl⟩
        rw [← hw1] at hb1 ⊢
        have hT1 : Tab w1 := hT0.below hb1
        have hout1 : Ints .u8 w1 q n' z' := hout0.below hb1
        have hbB := bjoin hb1 hbA
        clear hw1 hbw hT0 hin0 hout0 hb1 hbA
        go_wp2
        go_loopg [7, 8, 10] 100 (fun g mv bv iv wr => ∃ (m i : Int), Mask m ∧ 0 ≤ i ∧ i ≤ n' ∧ g = (100 - i).toNat ∧ mv = .int .u32 m ∧ bv = .bool (hasB m (y % 32)) ∧ iv = .int .i64 i ∧ Below w1.heap.size w1 wr)
        case atStart => exact ⟨m, 0, hm, by omega, by omega, rfl, rfl, rfl, rfl, Below.refl _ _⟩
        case round =>
          clear hm
          obtain ⟨m, i, hm, il, ih, rfl, rfl, rfl, rfl, hbw⟩ := hrel
          by_cases hi : i < n'
          · obtain ⟨⟨b, off, rfl, hlt, hcell⟩, hwf⟩ := (hout1.below hbw) i.toNat (by omega)
            obtain ⟨v0, v1⟩ := wf_u8 hwf
            have hset := sets_out (m := m) hm v0 x0 x1
            generalize z' i.toNat = v at hcell v0 v1 hset
            cases hw : hasB m (y % 32)
            all_goals
              rw [hw] at hset
              go_wp2_with (first
    | (go_at_call 12; refine (without_any _ _ _ hm).mono ?_; rintro e w' ⟨rfl, hb⟩; obtain ⟨hc, hf, hb, hz⟩ := bstep hb (w := wr) (by go_grown); try simp only [World.size_alloc, World.size_setCell, World.size_drew] at hc hf hz)
              )
              go_roundg (100 - (i + 1)).toNat
              case measure => omega
              case rel => exact ⟨_, i + 1, mask_wout _ _, by omega, by omega, rfl, rfl, by simp [hset, bne], rfl, by go_grown; all_goals exact bjoin (by assumption) hbw⟩
          · go_upto_region 15 with fail
            clear hi il ih
            have hb2 := hbw
            obtain ⟨w2, hw2⟩ : ∃ w2, w2 = wr := ⟨_, rfl⟩
            rw [← hw2] at hb2 ⊢
            have hT2 : Tab w2 := hT1.below hb2
            have hbC := bjoin hb2 hbB
            clear hw2 hbw hT1 hout1 hb2 hbB
            have hend := sets_end hm
            go_wp2_with (first
    | (go_at_call 14; refine (least_any _ _ hm hT2).mono ?_; rintro e w' ⟨rfl, hb⟩; obtain ⟨hc, hf, hb, hz⟩ := bstep hb (w := w2) (by go_grown); try simp only [World.size_alloc, World.size_setCell, World.size_drew] at hc hf hz)
            )
            obtain ⟨w3, hw3⟩ : ∃ w3, w3 = w' := ⟨_, rfl⟩
            rw [← hw3] at hb ⊢
            have hbD := bjoin hb hbC
            clear hw3 hc hf hz hb hT2 hbC
            go_loopg [13, 14] 32 (fun g nv iv wr => ∃ i : Int, 0 ≤ i ∧ i ≤ 32 ∧ g = (32 - i).toNat ∧ nv = .int .i64 (cntF m i) ∧ iv = .int .i64 i ∧ Below w3.heap.size w3 wr)
            case atStart => exact ⟨0, by omega, by omega, rfl, rfl, rfl, Below.refl _ _⟩
            case round =>
              obtain ⟨i, il, ih, rfl, rfl, rfl, hbw⟩ := hrel
              have hnx : cntF m (i + 1) = cntF m i + (if hasB m i = true then 1 else 0) := cntTo_next _ il
              have hbd : 0 ≤ cntF m i ∧ cntF m i ≤ 32 := by have := cntTo_bound (hasB m) i.toNat; unfold cntF; omega
              by_cases hi : i < 32
              · cases hbit : hasB m i with
                | true =>
                  have hle := sets_least hm hbit
                  rw [hbit] at hnx
                  go_wp2_with (first
    | (go_at_call 8; refine (has_any _ _ _ hm).mono ?_; rintro e w' ⟨rfl, hb⟩; obtain ⟨hc, hf, hb, hz⟩ := bstep hb (w := wr) (by go_grown); try simp only [World.size_alloc, World.size_setCell, World.size_drew] at hc hf hz)
                  )
                  go_roundg (32 - (i + 1)).toNat
                  case measure => omega
                  case rel => exact ⟨i + 1, by omega, by omega, rfl, by simp at hnx ⊢; omega, rfl, by go_grown; all_goals exact bjoin (by assumption) hbw⟩
                | false =>
                  rw [hbit] at hnx
                  go_wp2_with (first
    | (go_at_call 8; refine (has_any _ _ _ hm).mono ?_; rintro e w' ⟨rfl, hb⟩; obtain ⟨hc, hf, hb, hz⟩ := bstep hb (w := wr) (by go_grown); try simp only [World.size_alloc, World.size_setCell, World.size_drew] at hc hf hz)
                  )
                  go_roundg (32 - (i + 1)).toNat
                  case measure => omega
                  case rel => exact ⟨i + 1, by omega, by omega, rfl, by simp at hnx ⊢; omega, rfl, by go_grown; all_goals exact bjoin (by assumption) hbw⟩
              · obtain rfl : i = 32 := by omega
                have hcnt : cntF m 32 = countW m := rfl
                rw [hcnt]
                clear hnx hbd hcnt
                rcases hend with ⟨e0, e1⟩ | ⟨e0, e1, e2⟩
                · cases hw : hasB m (y % 32)
                  all_goals
                    go_wp2_with (first
    | (go_at_call 8; refine (has_any _ _ _ hm).mono ?_; rintro e w' ⟨rfl, hb⟩; obtain ⟨hc, hf, hb, hz⟩ := bstep hb (w := wr) (by go_grown); try simp only [World.size_alloc, World.size_setCell, World.size_drew] at hc hf hz)
    | (go_at_call 16; refine (count_any _ _ hm).mono ?_; rintro e w' ⟨rfl, hb⟩; obtain ⟨hc, hf, hb, hz⟩ := bstep hb (w := wr) (by go_grown); try simp only [World.size_alloc, World.size_setCell, World.size_drew] at hc hf hz)
                    )
                    go_returns
                    exact ⟨ret_bool (by simp), by go_grown; all_goals exact bjoin (by assumption) (bjoin hbw hbD)⟩
                · cases hw : hasB m (y % 32)
                  all_goals
                    go_wp2_with (first
    | (go_at_call 8; refine (has_any _ _ _ hm).mono ?_; rintro e w' ⟨rfl, hb⟩; obtain ⟨hc, hf, hb, hz⟩ := bstep hb (w := wr) (by go_grown); try simp only [World.size_alloc, World.size_setCell, World.size_drew] at hc hf hz)
    | (go_at_call 16; refine (count_any _ _ hm).mono ?_; rintro e w' ⟨rfl, hb⟩; obtain ⟨hc, hf, hb, hz⟩ := bstep hb (w := wr) (by go_grown); try simp only [World.size_alloc, World.size_setCell, World.size_drew] at hc hf hz)
                    )
                    go_returns
                    exact ⟨ret_bool (by simp), by go_grown; all_goals exact bjoin (by assumption) (bjoin hbw hbD)⟩
  · go_enter Tryd.func5, Tryd.ntmps5
    go_wp2_with (first
    | (go_at_call 7; refine (awake_any _ (hT.below (by go_grown))).mono ?_; rintro e w' ⟨rfl, hb⟩; obtain ⟨hc, hf, hb, hz⟩ := bstep hb (w := w) (by go_grown); try simp only [World.size_alloc, World.size_setCell, World.size_drew] at hc hf hz)
    )
    all_goals
      go_returns
      exact ⟨rfl, by go_grown⟩

namespace BitsSets
set_option maxRecDepth 100000 in
theorem lifted (os : Os) (started : os.Started) (H : Type) (enc : TypeId × Value → H) :
    ReturnsInHanded {} Tryd.checked os 5 .any (fun w args => (Rows.bitsSetsSpec.pre enc Tryd.prog Tryd.f5 Rows.bitsSetsRow.domain false w args ∧ laidMetH Tryd.prog lists w) ∧ sizedMet enc Tryd.prog Tryd.f5 (OpenSpec.ofChange Rows.bitsSetsSpec) false w args) (Rows.bitsSetsSpec.post enc Tryd.prog Tryd.f5 false true false false) := by
  refine law_lifted_laid (C := Tryd.checked) seat_own started (by kernel_rfl) Tryd.func5 (by kernel_rfl) (of_decide_eq_true (by kernel_rfl)) rfl
    (fun ds hd => by have hd' : ds.length = 3 := hd; match ds, hd' with | [d0, d1, d2], _ => rfl) rfl Tryd.underlying4
    (ChangeSpec.witness_shaped (enc := enc) (C := Tryd.checked) (os := os) (X := fun w _ => laidMetH Tryd.prog lists w) false (World.laidAll Tryd.prog os lists) #[.slice none 0 0, .slice none 0 0, .int .u8 0] 8 (World.laidAll_os _ _ _)
      (World.shaped_of_ZipB (by kernel_rfl) (by kernel_rfl)) (by kernel_rfl) (by kernel_rfl) (by kernel_rfl)
      (by rw [MakeChecks.laidMetH_plain _ _ _ (by kernel_rfl)]; exact laidMet_laidAll _ (by kernel_rfl) (by kernel_rfl))) ?_
  intro W base args ds p hval hA hlt hL
  have hT : Tab W := tab_of hL
  rw [Tryd.params5] at hA hval
  obtain ⟨v0, v1, v2, d0, d1, d2, p0, p1, p2, rfl, rfl, rfl, h0, h1, h2⟩ := trodAll_three hA
  obtain ⟨q0, n0, cap0, z0, rfl, hn0, hz0⟩ := open_slice_ints Tryd.underlying30 Tryd.underlying5 (by kernel_rfl) (hval 0 30 v0 rfl rfl) h0
  obtain ⟨q1, n1, cap1, z1, rfl, hn1, hz1⟩ := open_slice_ints Tryd.underlying30 Tryd.underlying5 (by kernel_rfl) (hval 1 30 v1 rfl rfl) h1
  obtain ⟨a2, rfl, ha2⟩ := open_u8 Tryd.underlying5 (hval 2 5 v2 rfl rfl) h2
  exact sets_walk _ _ _ _ _ _ _ _ a2 W hz0 hz1 hn0 hn1 ha2.1 ha2.2 hT

theorem row_holds : Rows.BitsSetsSaid :=
  OpenClaim.holds_of_wide 5 Tryd.f5 rfl rfl rfl rfl rfl rfl rfl ⟨rfl, rfl, rfl, rfl, rfl⟩ rfl rfl rfl rfl rfl (by kernel_rfl) Tryd.func5 (by kernel_rfl)
    (of_decide_eq_true (by kernel_rfl)) (by unfold Func.isWrapper; first | (rw [if_pos (by decide +kernel)]; kernel_rfl) | (rw [if_neg (by decide +kernel)]; exact ⟨rfl, rfl⟩))
    (fun os started H enc _ => lifted os started H enc)
/-- The tied card. -/
theorem holds : Rows.BitsSetsCardSaid :=
  Claim7.holds_tied_plain_at .later [] [.data] true (true, "d9148e9f82c587394272f2ea1a3d02d964fa50b9d87af87730fc55b11599172e") false row_holds (fun _ h => by cases h) (by kernel_rfl) (fun _ h => by cases h) bitsSets_row_tie rfl ⟨rfl, rfl⟩ (by kernel_rfl) rfl
    (fun f fn hf hfn => by
      obtain rfl : f = 5 := Option.some.inj ((show Tryd.prog.funcNamed "flotsam/flotsamlaw03.BitsSets" = some 5 by kernel_rfl).symm.trans hf) |>.symm
      obtain rfl : fn = Tryd.f5 := (Option.some.inj (Tryd.func5.symm.trans hfn)).symm
      exact ⟨by kernel_rfl, fun j t ht => by
        rw [Tryd.params5] at ht
        have hm : t ∈ [30, 30, 5] := by simpa using Array.mem_of_getElem? ht
        have hall : ([30, 30, 5].all fun u => !Tryd.prog.wantsStandIn u) = true := by kernel_rfl
        exact (show Tryd.prog.wantsStandIn t = false by simpa using List.all_eq_true.1 hall t hm)⟩)
    (by kernel_rfl)
#print axioms holds
end BitsSets
end Go.Proofs.YtcipmmpkfpjmfaaDoor
