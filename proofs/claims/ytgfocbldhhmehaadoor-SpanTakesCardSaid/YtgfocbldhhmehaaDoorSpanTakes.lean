/- SpanTakes: of a new span of every class blocks are taken from 0 on, each once, as many as there are; whatever blocks are given back, those that were are taken again, rising; the span stays right. No condition; the tables that the code reads are tied to the program's text. -/
import Derived.Test.YtgfocbldhhmehaaDoorRows
import Derived.Test.YtgfocbldhhmehaaDoorCards
import Derived.Test.YtgfocbldhhmehaaDoorTie
import Derived.Test.YtgfocbldhhmehaaDoorTiedBits
import Derived.Test.YtgfocbldhhmehaaDoorAwake06
import Derived.SevenTiedAt
import Derived.Deep.Cut
namespace Go.Proofs.YtgfocbldhhmehaaDoor
set_option linter.unusedSimpArgs false
set_option linter.unusedVariables false
open Go.ChangeShapes Go.WideShapes Go.ChangeAt Go.RowKit Go.Joins

theorem mid_right {m lo : Int} (h0 : 0 ≤ m) (h1 : m < 4) (l0 : 0 ≤ lo) : rightB 1 m (midM lo (blW m)) = true := by
  refine right_iff.2 (.inr ⟨.inl rfl, h0, h1, (small_iff (mask_mid _ _)).2 fun i i0 i1 => ?_⟩)
  have := bl_bound m
  rw [has_mid _ _ (by omega) i1]
  simp; omega
theorem mid_used {m lo : Int} (l0 : 0 ≤ lo) (l1 : lo ≤ blW m) : usedN 1 m (midM lo (blW m)) = lo := by
  have := bl_bound m
  unfold usedN
  rw [show useB 1 = true from rfl, if_pos rfl, mid_count l0 l1 (by omega)]
  omega
theorem takes_index {m : Int} (h0 : 0 ≤ m) (h1 : m < 4) (h : m.toNat < ([.int .i64 16, .int .i64 8, .int .i64 4, .int .i64 2] : List Value).length) : ([.int .i64 16, .int .i64 8, .int .i64 4, .int .i64 2] : List Value)[m.toNat] = .int .i64 (blW m) := by
  obtain rfl | rfl | rfl | rfl : m = 0 ∨ m = 1 ∨ m = 2 ∨ m = 3 := by omega
  all_goals rfl
set_option maxHeartbeats 8000000 in
set_option maxRecDepth 20000 in
theorem takes_walk (c : Int) (p : Option Addr) (n cap : Nat) (z : Nat → Int) (w : World) (hin : Ints .u8 w p n z) (hn : n ≤ maxLen) (c0 : 0 ≤ c) (c1 : c < 256) (hS : Sz w) (hT : Tab w) :
    Calls Tryd.prog 5 #[.int .u8 c, .slice p n cap] w fun e w' => e = .returned (.bool true) ∧ Below w.heap.size w w' := by
  simp only [maxLen] at hn
  by_cases hs : n ≤ 60
  · have d0 : decide (60 < (n : Int)) = false := by simp; omega
    have t0 : (n : Int) ≤ 60 := by omega
    have m0 : 0 ≤ c % 4 := by omega
    have m1 : c % 4 < 4 := by omega
    have hcl : clB (c % 4) = true := by simp [clB, m0, m1]
    obtain ⟨e0, e1, e2⟩ := nw_yes (c := c % 4) hcl
    have hb0 : 2 ≤ blW (c % 4) ∧ blW (c % 4) ≤ 16 := by have := cl_cases (c % 4); omega
    obtain ⟨b0, b1⟩ := hb0
    have hnew : wholeW (blW (c % 4)) = midM 0 (blW (c % 4)) := (mid_new _ (by omega) (by omega)).symm
    have hS0 := hS
    have hT0 := hT
    have hI0 := hin
    go_enter Tryd.func5, Tryd.ntmps5
    go_upto_region 5 with (first
    | (go_at_call 7; refine Calls.mono (awake_any _ hS hT) ?_; rintro e w' ⟨rfl, hb⟩; (first | replace hS := hS.below hb | replace hS := (hS.below (by go_grown)).below hb | skip); (first | replace hT := hT.below hb | replace hT := (hT.below (by go_grown)).below hb | skip); (first | replace hin := hin.below hb | replace hin := (hin.below (by go_grown)).below hb | skip); obtain ⟨hc, hf, hb, hz⟩ := bstep hb (w := w) (by go_grown); try simp only [World.size_alloc, World.size_setCell, World.size_drew] at hc hf hz)
    | (go_at_call 10; refine Calls.mono (snew_any _ _ hS) ?_; rintro e w' ⟨rfl, hb⟩; (first | replace hS := hS.below hb | replace hS := (hS.below (by go_grown)).below hb | skip); (first | replace hT := hT.below hb | replace hT := (hT.below (by go_grown)).below hb | skip); (first | replace hin := hin.below hb | replace hin := (hin.below (by go_grown)).below hb | skip); obtain ⟨hc, hf, hb, hz⟩ := bstep hb (w := w) (by go_grown); try simp only [World.size_alloc, World.size_setCell, World.size_drew] at hc hf hz)
    )
    simp only [takes_index m0 m1]
    clear hc hf e0 e1 e2 hnew hcl
    generalize c % 4 = m at m0 m1 b0 b1 ⊢
    obtain ⟨w0, hw0⟩ : ∃ w0, w0 = (w'.alloc (.cells #[.int .i64 1, .int .i64 m, .int .u32 (midM 0 (blW m))] 24)).alloc (.cells #[.int .i64 16, .int .i64 8, .int .i64 4, .int .i64 2] 3) := ⟨_, rfl⟩
    have hbox : SpBox w'.heap.size 1 m (midM 0 (blW m)) w0 := by rw [hw0]; exact (SpBox.new w' 1 m _ _).below ((Below.refl _ _).alloc (Nat.le_refl _) _)
    have hbA : Below w.heap.size w w0 := by rw [hw0]; go_grown
    have hst : Below w'.heap.size w' w0 := by rw [hw0]; exact ((Below.refl _ _).alloc (Nat.le_refl _) _).alloc (by simp) _
    have hBl : w.heap.size ≤ w'.heap.size := hb.size
    rw [← hw0]
    clear hw0 hst hb hz hc hf hS hT hin
    generalize w'.heap.size = B at hbox hBl ⊢
    go_wp2
    go_loopg [8] (blW m).toNat (fun g iv wr => ∃ i : Int, 0 ≤ i ∧ i ≤ blW m ∧ g = (blW m - i).toNat ∧ iv = .int .i64 i ∧ SpBox B 1 m (midM i (blW m)) wr ∧ Below w.heap.size w wr)
    case atStart => exact ⟨0, by omega, by omega, by omega, rfl, hbox, hbA⟩
    case round =>
      clear hbox hbA
      obtain ⟨i, il, ih, rfl, rfl, hbox, hbw⟩ := hrel
      have hS := hS0.below hbw
      have hT := hT0.below hbw
      have hbx := hbox
      obtain ⟨hl, k0, k1, k2, f0, f1, f2⟩ := hbx
      have hm : Mask (midM i (blW m)) := mask_mid _ _
      by_cases hi : i < blW m
      · obtain ⟨q0, q1, q2⟩ := mid_take il hi (by omega)
        have hm' : Mask (midM (i + 1) (blW m)) := mask_mid _ _
        have e0 : takeB 1 (midM i (blW m)) = true := by simp [takeB, q0]
        have e1 : takeI 1 (midM i (blW m)) = i := by unfold takeI; rw [if_pos e0, q1]
        have e2 : takeF 1 (midM i (blW m)) = midM (i + 1) (blW m) := by unfold takeF; rw [if_pos e0, q1, q2]
        have e3 := mid_right m0 m1 (show 0 ≤ i + 1 by omega)
        have e4 := mid_used (m := m) (show 0 ≤ i + 1 by omega) (by omega)
        clear q0 q1 q2
        go_wp2_with (first
    | (go_at_call 13; refine Calls.mono (stake_any _ _ _ _ hm hT) ?_; rintro e w' ⟨rfl, hb⟩; (first | replace hS := hS.below hb | replace hS := (hS.below (by go_grown)).below hb | skip); (first | replace hT := hT.below hb | replace hT := (hT.below (by go_grown)).below hb | skip); (first | replace hbox := hbox.below hb | replace hbox := (hbox.below (by go_grown)).below hb | skip); obtain ⟨hc, hf, hb, hz⟩ := bstep hb (w := wr) (by go_grown); try simp only [World.size_alloc, World.size_setCell, World.size_drew] at hc hf hz)
    | (go_at_call 8; refine Calls.mono (sright_any _ _ _ _ hm' (hS.below (by go_grown))) ?_; rintro e w' ⟨rfl, hb⟩; (first | replace hS := hS.below hb | replace hS := (hS.below (by go_grown)).below hb | skip); (first | replace hT := hT.below hb | replace hT := (hT.below (by go_grown)).below hb | skip); (first | replace hbox := hbox.below hb | replace hbox := (hbox.below (by go_grown)).below hb | skip); obtain ⟨hc, hf, hb, hz⟩ := bstep hb (w := wr) (by go_grown); try simp only [World.size_alloc, World.size_setCell, World.size_drew] at hc hf hz)
    | (go_at_call 21; refine Calls.mono (sused_any _ _ _ _ ⟨by decide⟩ hm' (hS.below (by go_grown))) ?_; rintro e w' ⟨rfl, hb⟩; (first | replace hS := hS.below hb | replace hS := (hS.below (by go_grown)).below hb | skip); (first | replace hT := hT.below hb | replace hT := (hT.below (by go_grown)).below hb | skip); (first | replace hbox := hbox.below hb | replace hbox := (hbox.below (by go_grown)).below hb | skip); obtain ⟨hc, hf, hb, hz⟩ := bstep hb (w := wr) (by go_grown); try simp only [World.size_alloc, World.size_setCell, World.size_drew] at hc hf hz)
        )
        go_roundg (blW m - (i + 1)).toNat
        case measure => omega
        case rel => exact ⟨i + 1, by omega, by omega, rfl, rfl, hbox.store 1 m _, (((bjoin hb hbw).setCell hBl _).setCell hBl _).setCell hBl _⟩
      · obtain rfl : i = blW m := by omega
        have hz0 := mid_none (blW m)
        rw [hz0] at hbox k2
        have e0 : takeB 1 0 = false := rfl
        have e1 : takeI 1 0 = 0 := rfl
        have e2 : takeF 1 0 = 0 := rfl
        have e3 : fullB 1 0 = true := rfl
        have hmz : Mask 0 := ⟨by decide, by decide⟩
        clear hz0 hm
        go_upto_region 16 with (first
    | (go_at_call 13; refine Calls.mono (stake_any _ _ _ _ hmz hT) ?_; rintro e w' ⟨rfl, hb⟩; (first | replace hS := hS.below hb | replace hS := (hS.below (by go_grown)).below hb | skip); (first | replace hT := hT.below hb | replace hT := (hT.below (by go_grown)).below hb | skip); (first | replace hbox := hbox.below hb | replace hbox := (hbox.below (by go_grown)).below hb | skip); obtain ⟨hc, hf, hb, hz⟩ := bstep hb (w := wr) (by go_grown); try simp only [World.size_alloc, World.size_setCell, World.size_drew] at hc hf hz)
    | (go_at_call 19; refine Calls.mono (sfull_any _ _ _ _ ⟨by decide⟩) ?_; rintro e w' ⟨rfl, hb⟩; (first | replace hS := hS.below hb | replace hS := (hS.below (by go_grown)).below hb | skip); (first | replace hT := hT.below hb | replace hT := (hT.below (by go_grown)).below hb | skip); (first | replace hbox := hbox.below hb | replace hbox := (hbox.below (by go_grown)).below hb | skip); obtain ⟨hc, hf, hb, hz⟩ := bstep hb (w := wr) (by go_grown); try simp only [World.size_alloc, World.size_setCell, World.size_drew] at hc hf hz)
        )
        obtain ⟨w4, hw4⟩ : ∃ w4, w4 = w'.alloc (.cells (Array.replicate 16 (.bool false)) 38) := ⟨_, rfl⟩
        have hst : Below w'.heap.size w' w4 := by rw [hw4]; exact (Below.refl _ _).alloc (Nat.le_refl _) _
        have hfree : Bools 16 w'.heap.size (fun j => hasB 0 j) w4 := by
          rw [hw4, show (fun j : Nat => hasB 0 j) = fun _ => false from funext fun j => has_zero _]
          exact Bools.new w' 16 _
        have hbx4 : SpBox B 1 m 0 w4 := hbox.below hst
        have hFB : ¬ w'.heap.size = B := by have := hbox.1; omega
        have hFl : w.heap.size ≤ w'.heap.size := (bjoin hb hbw).size
        have hbB : Below w.heap.size w w4 := bjoin hst (bjoin hb hbw)
        have hr0 : rightB 1 m 0 = true := right_iff.2 (.inr ⟨.inl rfl, m0, m1, (small_iff hmz).2 fun j _ _ => has_zero j⟩)
        rw [show w'.alloc (.cells #[.bool false, .bool false, .bool false, .bool false, .bool false, .bool false, .bool false, .bool false, .bool false, .bool false, .bool false, .bool false, .bool false, .bool false, .bool false, .bool false] 38) = w4 from hw4.symm]
        clear hw4 hst hc hf hb hz hS hT hbox hbw e0 e1 e2 e3 k0 k1 k2 f0 f1 f2 hl
        generalize w'.heap.size = F at hfree hFB hFl ⊢
        go_wp2
        go_loopg [16] n (fun g iv wr => ∃ i fr : Int, 0 ≤ i ∧ i ≤ n ∧ g = (n - i).toNat ∧ iv = .int .i64 i ∧ Mask fr ∧ rightB 1 m fr = true ∧ SpBox B 1 m fr wr ∧ Bools 16 F (fun j => hasB fr j) wr ∧ Below w.heap.size w wr)
        case atStart => exact ⟨0, 0, by omega, by omega, by omega, rfl, hmz, hr0, hbx4, hfree, hbB⟩
        case round =>
          clear hmz hr0 hbx4 hfree hbB
          obtain ⟨i, fr, jl, jh, rfl, rfl, hm, hr, hbox, hfree, hbw⟩ := hrel
          have hS := hS0.below hbw
          have hT := hT0.below hbw
          have hbx := hbox
          obtain ⟨hl, k0, k1, k2, f0, f1, f2⟩ := hbx
          by_cases hi : i < n
          · obtain ⟨⟨bb, off, rfl, hlt, hcell⟩, hwf⟩ := (hI0.below hbw) i.toNat (by omega)
            obtain ⟨v0, v1⟩ := wf_u8 hwf
            generalize z i.toNat = v at hcell v0 v1
            have x0 : 0 ≤ v % blW m := Int.emod_nonneg _ (by omega)
            have x1 : v % blW m < blW m := Int.emod_lt_of_pos _ (by omega)
            go_upto_region 20 with fail
            generalize v % blW m = k at x0 x1 ⊢
            obtain ⟨g0, g1⟩ := hfree.2 k.toNat (by omega)
            have hFw := hfree.1
            have hkk : hasB fr (k.toNat : Int) = hasB fr k := by rw [show ((k.toNat : Nat) : Int) = k by omega]
            simp only [hkk] at g0
            have hgv : giveB 1 m fr k = !hasB fr k := by simp [giveB, useB, x0, x1]
            have hmg : Mask (giveF 1 m fr k) := mask_give hm
            have hrg : rightB 1 m (giveF 1 m fr k) = true := right_give hr hm
            have hbits : ∀ j : Nat, j < 16 → hasB (giveF 1 m fr k) j = if j = k.toNat then true else hasB fr j := by
              intro j hj
              rw [has_give (bl_bound m), hgv]
              by_cases e : j = k.toNat
              · rw [if_pos e]
                have : (j : Int) = k := by omega
                rw [this]
                cases hasB fr k <;> simp
              · rw [if_neg e]
                have : ¬ (j : Int) = k := by omega
                simp [this]
            cases hw : hasB fr k
            all_goals
              rw [hw] at hgv
              go_wp2_with (first
    | (go_at_call 15; refine Calls.mono (sgive_any _ _ _ _ _ ⟨by decide⟩ hm hS) ?_; rintro e w' ⟨rfl, hb⟩; (first | replace hS := hS.below hb | replace hS := (hS.below (by go_grown)).below hb | skip); (first | replace hT := hT.below hb | replace hT := (hT.below (by go_grown)).below hb | skip); (first | replace hbox := hbox.below hb | replace hbox := (hbox.below (by go_grown)).below hb | skip); (first | replace hfree := hfree.below hb | replace hfree := (hfree.below (by go_grown)).below hb | skip); obtain ⟨hc, hf, hb, hz⟩ := bstep hb (w := wr) (by go_grown); try simp only [World.size_alloc, World.size_setCell, World.size_drew] at hc hf hz)
    | (go_at_call 8; refine Calls.mono (sright_any _ _ _ _ hmg (hS.below (by go_grown))) ?_; rintro e w' ⟨rfl, hb⟩; (first | replace hS := hS.below hb | replace hS := (hS.below (by go_grown)).below hb | skip); (first | replace hT := hT.below hb | replace hT := (hT.below (by go_grown)).below hb | skip); (first | replace hbox := hbox.below hb | replace hbox := (hbox.below (by go_grown)).below hb | skip); (first | replace hfree := hfree.below hb | replace hfree := (hfree.below (by go_grown)).below hb | skip); obtain ⟨hc, hf, hb, hz⟩ := bstep hb (w := wr) (by go_grown); try simp only [World.size_alloc, World.size_setCell, World.size_drew] at hc hf hz)
              )
              go_roundg ((n : Int) - (i + 1)).toNat
              case measure => omega
              case rel => exact ⟨i + 1, giveF 1 m fr k, by omega, by omega, rfl, rfl, hmg, hrg, (hbox.other hFB _ _).store 1 m _, (((hfree.set (g := fun j => hasB (giveF 1 m fr k) j) (by omega) hbits).other (fun h => hFB h.symm) _ _).other (fun h => hFB h.symm) _ _).other (fun h => hFB h.symm) _ _, ((((bjoin hb hbw).setCell hFl _).setCell hBl _).setCell hBl _).setCell hBl _⟩
          · go_upto_region 25 with fail
            clear hi jl jh
            have hmr := hm
            have hrr := hr
            obtain ⟨fr0, hfr0⟩ : ∃ fr0, fr0 = fr := ⟨_, rfl⟩
            have hfree0 : Bools 16 F (fun j => hasB fr0 j) wr := by rw [hfr0]; exact hfree
            have hr0 : rightB 1 m fr0 = true := by rw [hfr0]; exact hr
            have hm0 : Mask fr0 := by rw [hfr0]; exact hm
            have hsub : ∀ j : Int, hasB fr j = (hasB fr0 j && decide (0 ≤ j)) := by
              intro j
              rw [hfr0]
              by_cases h : 0 ≤ j
              · simp [h]
              · rw [has_out (by omega)]; simp
            clear hfr0 hfree hmr hrr k0 k1 k2 f0 f1 f2
            go_wp2
            go_loopg [20] (blW m).toNat (fun g iv wr => ∃ i fr : Int, 0 ≤ i ∧ i ≤ blW m ∧ g = (blW m - i).toNat ∧ iv = .int .i64 i ∧ Mask fr ∧ rightB 1 m fr = true ∧ SpBox B 1 m fr wr ∧ Bools 16 F (fun j => hasB fr0 j) wr ∧ (∀ j : Int, hasB fr j = (hasB fr0 j && decide (i ≤ j))) ∧ Below w.heap.size w wr)
            case atStart => exact ⟨0, fr, by omega, by omega, by omega, rfl, hm, hr, hbox, hfree0, hsub, hbw⟩
            case round =>
              clear hm hr hbox hfree0 hsub hbw hS hT hl
              obtain ⟨i, fr, jl, jh, rfl, rfl, hm, hr, hbox, hfree, hsub, hbw⟩ := hrel
              have hS := hS0.below hbw
              have hT := hT0.below hbw
              have hbx := hbox
              obtain ⟨hl, k0, k1, k2, f0, f1, f2⟩ := hbx
              by_cases hi : i < blW m
              · have g0 := (hfree.2 i.toNat (by omega)).1
                simp only [show ((i.toNat : Nat) : Int) = i by omega] at g0
                cases hw : hasB fr0 i with
                | false =>
                  rw [hw] at g0
                  go_wp2
                  go_roundg (blW m - (i + 1)).toNat
                  case measure => omega
                  case rel => exact ⟨i + 1, fr, by omega, by omega, rfl, rfl, hm, hr, hbox, hfree, fun j => by
                    rw [hsub j]
                    by_cases e : j = i
                    · subst e; rw [hw]; rfl
                    · rw [show decide (i ≤ j) = decide (i + 1 ≤ j) from decide_eq_decide.2 (by omega)], hbw⟩
                | true =>
                  rw [hw] at g0
                  have hbit : hasB fr i = true := by rw [hsub i, hw]; simp
                  have hlow : ∀ j, j < i → hasB fr j = false := fun j hj => by
                    rw [hsub j, decide_eq_false (by omega)]; simp
                  obtain ⟨q0, q1⟩ := least_of hm hbit hlow
                  have e0 : takeB 1 fr = true := by simp [takeB, leastB, q0]
                  have e1 : takeI 1 fr = i := by unfold takeI; rw [if_pos e0, q1]
                  have e2 : takeF 1 fr = woutW fr i := by unfold takeF; rw [if_pos e0, q1]
                  have hr' : rightB 1 m (woutW fr i) = true := by rw [← e2]; exact right_take hr hm
                  have hm' : Mask (woutW fr i) := mask_wout _ _
                  have hsub' : ∀ j : Int, hasB (woutW fr i) j = (hasB fr0 j && decide (i + 1 ≤ j)) := by
                    intro j
                    rw [has_wout _ _ hm, hsub j, inB_yes jl (by omega)]
                    by_cases e : j = i
                    · subst e; simp; omega
                    · rw [show decide (i ≤ j) = decide (i + 1 ≤ j) from decide_eq_decide.2 (by omega)]; simp [e]
                  clear q0 q1 hlow hbit
                  go_wp2_with (first
    | (go_at_call 13; refine Calls.mono (stake_any _ _ _ _ hm hT) ?_; rintro e w' ⟨rfl, hb⟩; (first | replace hS := hS.below hb | replace hS := (hS.below (by go_grown)).below hb | skip); (first | replace hT := hT.below hb | replace hT := (hT.below (by go_grown)).below hb | skip); (first | replace hbox := hbox.below hb | replace hbox := (hbox.below (by go_grown)).below hb | skip); (first | replace hfree := hfree.below hb | replace hfree := (hfree.below (by go_grown)).below hb | skip); obtain ⟨hc, hf, hb, hz⟩ := bstep hb (w := wr) (by go_grown); try simp only [World.size_alloc, World.size_setCell, World.size_drew] at hc hf hz)
                  )
                  go_roundg (blW m - (i + 1)).toNat
                  case measure => omega
                  case rel => exact ⟨i + 1, woutW fr i, by omega, by omega, rfl, rfl, hm', hr', (hbox.below (by go_grown)).store 1 m _, ((((hfree.below (by go_grown)).other (fun h => hFB h.symm) _ _).other (fun h => hFB h.symm) _ _).other (fun h => hFB h.symm) _ _), hsub', ((((bjoin hb hbw).alloc (by have := (bjoin hb hbw).size; exact this) _).setCell hBl _).setCell hBl _).setCell hBl _⟩
              · obtain rfl : i = blW m := by omega
                have hz0 : fr = 0 := none_of hm fun j h0 h1 => by
                  rw [hsub j]
                  by_cases e : blW m ≤ j
                  · rw [right_out hr0 hm0 (by omega)]; rfl
                  · rw [decide_eq_false e]; simp
                subst hz0
                have e3 : fullB 1 0 = true := rfl
                go_wp2_with (first
    | (go_at_call 19; refine Calls.mono (sfull_any _ _ _ _ ⟨by decide⟩) ?_; rintro e w' ⟨rfl, hb⟩; obtain ⟨hc, hf, hb, hz⟩ := bstep hb (w := wr) (by go_grown); try simp only [World.size_alloc, World.size_setCell, World.size_drew] at hc hf hz)
                )
                go_returns
                exact ⟨ret_bool (by simp), bjoin hb hbw⟩
  · go_enter Tryd.func5, Tryd.ntmps5
    go_wp2_with (first
    | (go_at_call 7; refine Calls.mono (awake_any _ hS hT) ?_; rintro e w' ⟨rfl, hb⟩; (first | replace hS := hS.below hb | replace hS := (hS.below (by go_grown)).below hb | skip); (first | replace hT := hT.below hb | replace hT := (hT.below (by go_grown)).below hb | skip); obtain ⟨hc, hf, hb, hz⟩ := bstep hb (w := w) (by go_grown); try simp only [World.size_alloc, World.size_setCell, World.size_drew] at hc hf hz)
    )
    all_goals
      first
      | omega
      | (go_returns
         exact ⟨rfl, by go_grown⟩)

namespace SpanTakes
/-- What the row lists. -/
def lists : List (String × DataW Unit) := [("flotsam/class.sizes", Rows.laid_flotsam_class_sizes), ("math/bits.deBruijn32tab", Rows.laid_math_bits_deBruijn32tab)]
set_option maxRecDepth 100000 in
theorem lifted (os : Os) (started : os.Started) (H : Type) (enc : TypeId × Value → H) :
    ReturnsInHanded {} Tryd.checked os 5 .any (fun w args => (Rows.spanTakesSpec.pre enc Tryd.prog Tryd.f5 Rows.spanTakesRow.domain false w args ∧ laidMetH Tryd.prog lists w) ∧ sizedMet enc Tryd.prog Tryd.f5 (OpenSpec.ofChange Rows.spanTakesSpec) false w args) (Rows.spanTakesSpec.post enc Tryd.prog Tryd.f5 false true false false) := by
  refine law_lifted_laid (C := Tryd.checked) seat_own started (by kernel_rfl) Tryd.func5 (by kernel_rfl) (of_decide_eq_true (by kernel_rfl)) rfl
    (fun ds hd => by have hd' : ds.length = 2 := hd; match ds, hd' with | [d0, d1], _ => rfl) rfl Tryd.underlying4
    (ChangeSpec.witness_shaped (enc := enc) (C := Tryd.checked) (os := os) (X := fun w _ => laidMetH Tryd.prog lists w) false (World.laidAll Tryd.prog os lists) #[.int .u8 0, .slice none 0 0] 8 (World.laidAll_os _ _ _)
      (World.shaped_of_ZipB (by kernel_rfl) (by kernel_rfl)) (by kernel_rfl) (by kernel_rfl) (by kernel_rfl)
      (by rw [MakeChecks.laidMetH_plain _ _ _ (by kernel_rfl)]; exact laidMet_laidAll _ (by kernel_rfl) (by kernel_rfl))) ?_
  intro W base args ds p hval hA hlt hL
  have hS : Sz W := sizes_of hL (by kernel_rfl) rfl
  have hT : Tab W := tab_of hL (by kernel_rfl) rfl
  rw [Tryd.params5] at hA hval
  obtain ⟨v0, v1, d0, d1, p0, p1, rfl, rfl, rfl, h0, h1⟩ := trodAll_two hA
  obtain ⟨a0, rfl, ha0⟩ := open_u8 Tryd.underlying5 (hval 0 5 v0 rfl rfl) h0
  obtain ⟨q1, n1, cap1, z1, rfl, hn1, hz1, hq1⟩ := open_slice_ints Tryd.underlying36 Tryd.underlying5 (by kernel_rfl) (hval 1 36 v1 rfl rfl) h1
  exact takes_walk a0 _ _ _ _ W hz1 hn1 ha0.1 ha0.2 hS hT

theorem row_holds : Rows.SpanTakesSaid :=
  OpenClaim.holds_of_wide 5 Tryd.f5 rfl rfl rfl rfl rfl rfl rfl ⟨rfl, rfl, rfl, rfl, rfl⟩ rfl rfl rfl rfl rfl (by kernel_rfl) Tryd.func5 (by kernel_rfl)
    (of_decide_eq_true (by kernel_rfl)) (by unfold Func.isWrapper; first | (rw [if_pos (by decide +kernel)]; kernel_rfl) | (rw [if_neg (by decide +kernel)]; exact ⟨rfl, rfl⟩))
    (fun os started H enc _ => lifted os started H enc)
/-- The tied card. -/
theorem holds : Rows.SpanTakesCardSaid :=
  Claim7.holds_tied_plain_at .later [] [.data, .data] true (true, "f801c81b679f1303e47c25da064898653829fc9df9a9951c81c10b4a3a0db282") false row_holds (fun _ h => by cases h) (by kernel_rfl) (fun _ h => by cases h) spanTakes_row_tie rfl ⟨rfl, rfl⟩ (by kernel_rfl) rfl
    (fun f fn hf hfn => by
      obtain rfl : f = 5 := Option.some.inj ((show Tryd.prog.funcNamed "flotsam/flotsamlaw06.SpanTakes" = some 5 by kernel_rfl).symm.trans hf) |>.symm
      obtain rfl : fn = Tryd.f5 := (Option.some.inj (Tryd.func5.symm.trans hfn)).symm
      exact ⟨by kernel_rfl, fun j t ht => by
        rw [Tryd.params5] at ht
        have hm : t ∈ [5, 36] := by simpa using Array.mem_of_getElem? ht
        have hall : ([5, 36].all fun u => !Tryd.prog.wantsStandIn u) = true := by kernel_rfl
        exact (show Tryd.prog.wantsStandIn t = false by simpa using List.all_eq_true.1 hall t hm)⟩)
    (by kernel_rfl)
#print axioms holds
end SpanTakes
end Go.Proofs.YtgfocbldhhmehaaDoor
