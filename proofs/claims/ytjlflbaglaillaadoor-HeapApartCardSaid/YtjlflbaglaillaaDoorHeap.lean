/- Contracts of the code's heap.* (chapter 7). -/
import Derived.Test.YtjlflbaglaillaaDoorAside
import Derived.Test.YtjlflbaglaillaaDoorClone
import Derived.Test.YtjlflbaglaillaaDoorSpan
import Derived.Test.YtjlflbaglaillaaDoorHeader
import Derived.Shelf.Abstract
import Derived.Lib.SliceRun
namespace Go.Proofs.YtjlflbaglaillaaDoor
set_option linter.unusedSimpArgs false
set_option linter.unusedVariables false
open Go.ChangeShapes Go.WideShapes Go.ChangeAt Go.RowKit Go.Joins

set_option maxHeartbeats 1000000 in
theorem hform_any (p : Option Addr) (c : Nat) (q : Option Addr) (d : Nat) (h : Hp) (w : World) (hS : Sz w) (hh : HpAt w p c q d h) :
    Calls Tryd.prog 13 #[.agg #[.slice p h.n c, .slice q h.m d, .bool h.b]] w fun e w' => e = .returned (.bool (formB h)) ∧ Below w.heap.size w w' := by
  have hn := hh.nle
  have hmm := hh.mle
  simp only [maxLen] at hn hmm
  have eF := @form_iff h
  by_cases hs : 1 ≤ h.m ∧ h.m ≤ 16 ∧ h.n = 32 * h.m
  · obtain ⟨s0, s1, hl⟩ := hs
    have d0 : decide ((h.m : Int) < 1) = false := by simp; omega
    have d1 : decide (16 < (h.m : Int)) = false := by simp; omega
    have d2 : ((h.n : Int) != (h.m : Int) * 32) = false := by simp; omega
    have hE : Hid (formB h = true ↔ 1 ≤ h.m ∧ h.m ≤ 16 ∧ h.n = 32 * h.m ∧ ∀ i, i < h.m → (h.s i).right = true) := eF
    have hH : Hid (h.n = 32 * h.m) := hl
    clear hl eF
    go_enter Tryd.func13, Tryd.ntmps13
    go_upto_region 1 with fail
    obtain ⟨w0, hw0⟩ : ∃ w0, w0 = w.alloc (.cells #[.slice p h.n c, .slice q h.m d, .bool h.b] 25) := ⟨_, rfl⟩
    have hbx : Box3 w.heap.size (.slice p h.n c) (.slice q h.m d) (.bool h.b) w0 := by rw [hw0]; exact Box3.new _ _ _ _ _
    have hbA : Below w.heap.size w w0 := by rw [hw0]; go_grown
    have hsp := hh.spans.below hbA
    replace hS := hS.below hbA
    rw [← hw0]
    clear hw0 hh
    obtain ⟨hl, k0, k1, k2, -, -, -⟩ := hbx
    go_wp2
    go_loopg [26] h.m (fun g iv wr => ∃ i : Int, 0 ≤ i ∧ i ≤ h.m ∧ g = (h.m - i).toNat ∧ iv = .int .i64 i ∧ (∀ j : Nat, (j : Int) < i → (h.s j).right = true) ∧ Below w0.heap.size w0 wr)
    case atStart => exact ⟨0, by omega, by omega, by omega, rfl, fun j hj => by omega, Below.refl _ _⟩
    case round =>
      obtain ⟨i, il, ih, rfl, rfl, hall, hbw⟩ := hrel
      obtain ⟨hc, hf, hb, hz⟩ := bstep hbw (w := w0) (Below.refl _ _)
      by_cases hi : i < h.m
      · obtain ⟨⟨b, off, rfl, hlt, s0, s1, s2⟩, hw⟩ := (hsp.below hbw) i.toNat (by omega)
        have hm : Mask (h.s i.toNat).fr := hw.2.2
        cases hr : rightB (h.s i.toNat).st (h.s i.toNat).cl (h.s i.toNat).fr with
        | true =>
          go_wp2_with (first
    | (go_at_call 31; refine Calls.mono (sright_any _ _ _ _ hm (hS.below (by go_grown))) ?_; rintro e w' ⟨rfl, hb⟩; obtain ⟨hc, hf, hb, hz⟩ := bstep hb (w := w0) (by go_grown); try simp only [World.size_alloc, World.size_setCell, World.size_drew] at hc hf hz)
          )
          go_roundg ((h.m : Int) - (i + 1)).toNat
          case measure => omega
          case rel => exact ⟨i + 1, by omega, by omega, rfl, rfl, fun j hj => by
            by_cases e : (j : Int) = i
            · rw [show j = i.toNat by omega]; exact hr
            · exact hall j (by omega), hb⟩
        | false =>
          have e : formB h = false := by
            cases e : formB h with
            | false => rfl
            | true => have := (hE.out.1 e).2.2.2 i.toNat (by omega); unfold Sp.right at this; rw [hr] at this; cases this
          go_wp2_with (first
    | (go_at_call 31; refine Calls.mono (sright_any _ _ _ _ hm (hS.below (by go_grown))) ?_; rintro e w' ⟨rfl, hb⟩; obtain ⟨hc, hf, hb, hz⟩ := bstep hb (w := w0) (by go_grown); try simp only [World.size_alloc, World.size_setCell, World.size_drew] at hc hf hz)
          )
          go_returns
          exact ⟨ret_bool (by simp [e]), bjoin hb hbA⟩
      · have e : formB h = true := hE.out.2 ⟨by omega, by omega, hH.out, fun j hj => hall j (by omega)⟩
        go_wp2
        go_returns
        exact ⟨ret_bool (by simp [e]), bjoin hb hbA⟩
  · have e : formB h = false := by
      cases e : formB h with
      | false => rfl
      | true => have := eF.1 e; exact absurd ⟨this.1, this.2.1, this.2.2.1⟩ hs
    rw [e]
    clear e eF
    by_cases h1 : 1 ≤ h.m ∧ h.m ≤ 16
    · have d2 : ((h.n : Int) != (h.m : Int) * 32) = true := by simp; omega
      obtain ⟨s0, s1⟩ := h1
      have d0 : decide ((h.m : Int) < 1) = false := by simp; omega
      have d1 : decide (16 < (h.m : Int)) = false := by simp; omega
      go_enter Tryd.func13, Tryd.ntmps13
      go_wp2
      go_returns
      exact ⟨rfl, by go_grown⟩
    · go_enter Tryd.func13, Tryd.ntmps13
      go_wp2
      all_goals
        first
        | omega
        | (go_returns
           exact ⟨rfl, by go_grown⟩)

theorem used_bound {s : Sp} (hr : s.right = true) (hw : s.wf) : 0 ≤ usedN s.st s.cl s.fr ∧ usedN s.st s.cl s.fr ≤ 16 := by
  unfold usedN
  split
  · rename_i hu
    rcases right_iff.1 hr with ⟨h0, -⟩ | ⟨-, c0, c1, hs⟩
    · rw [h0] at hu; cases hu
    · obtain ⟨a, b⟩ := count_le hw.2.2 hs
      have := bl_bound s.cl
      omega
  · simp
set_option maxHeartbeats 1000000 in
theorem hused_any (p : Option Addr) (c : Nat) (q : Option Addr) (d : Nat) (h : Hp) (w : World) (hS : Sz w) (hh : HpAt w p c q d h) (hF : formB h = true) :
    Calls Tryd.prog 17 #[.agg #[.slice p h.n c, .slice q h.m d, .bool h.b]] w fun e w' => e = .returned (.int .i64 (usH h)) ∧ Below w.heap.size w w' := by
  have hm16 := (form_iff.1 hF).2.1
  have hwf := hh.wf
  have hF' : Hid (formB h = true) := hF
  clear hF
  go_enter Tryd.func17, Tryd.ntmps17
  go_upto_region 1 with fail
  obtain ⟨w0, hw0⟩ : ∃ w0, w0 = w.alloc (.cells #[.slice p h.n c, .slice q h.m d, .bool h.b] 25) := ⟨_, rfl⟩
  have hbx : Box3 w.heap.size (.slice p h.n c) (.slice q h.m d) (.bool h.b) w0 := by rw [hw0]; exact Box3.new _ _ _ _ _
  have hbA : Below w.heap.size w w0 := by rw [hw0]; go_grown
  have hsp := hh.spans.below hbA
  replace hS := hS.below hbA
  rw [← hw0]
  clear hw0 hh
  obtain ⟨hl, k0, k1, k2, -, -, -⟩ := hbx
  go_wp2
  go_loopg [3, 9] h.m (fun g nv iv wr => ∃ i : Int, 0 ≤ i ∧ i ≤ h.m ∧ g = (h.m - i).toNat ∧ nv = .int .i64 (usI h.s i) ∧ iv = .int .i64 i ∧ Below w0.heap.size w0 wr)
  case atStart => exact ⟨0, by omega, by omega, by omega, rfl, rfl, Below.refl _ _⟩
  case round =>
    obtain ⟨i, il, ih, rfl, rfl, rfl, hbw⟩ := hrel
    have hSr := hS.below hbw
    obtain ⟨hc, hf, hb, hz⟩ := bstep hbw (w := w0) (Below.refl _ _)
    by_cases hi : i < h.m
    · obtain ⟨⟨b, off, rfl, hlt, s0, s1, s2⟩, hw⟩ := (hsp.below hbw) i.toNat (by omega)
      have hm : Mask (h.s i.toNat).fr := hw.2.2
      have hbd : 0 ≤ usI h.s i ∧ usI h.s i ≤ 32 * i := by
        have := usT_bound (s := h.s) (k := i.toNat) fun j hj => ⟨(form_iff.1 hF'.out).2.2.2 j (by omega), hwf.2 j (by omega)⟩
        unfold usI; omega
      have hnx : usI h.s (i + 1) = usI h.s i + usS (h.s i.toNat) := usT_next h.s il
      have hrr : (h.s i.toNat).right = true := (form_iff.1 hF'.out).2.2.2 i.toNat (by omega)
      have hus := usS_bound hrr hw
      have hok := right_ok hrr
      have hus' : usedN (h.s i.toNat).st (h.s i.toNat).cl (h.s i.toNat).fr * szW (h.s i.toNat).cl = usS (h.s i.toNat) := rfl
      have hun := used_bound hrr hw
      obtain ⟨n0, n1⟩ := hbd
      obtain ⟨n2, n3⟩ := hus
      clear hrr
      generalize usS (h.s i.toNat) = U at *
      generalize h.s i.toNat = S at *
      obtain ⟨st, cl, fr⟩ := S
      simp only [] at *
      obtain ⟨n4, n5⟩ := hun
      have hcz := sz_bound cl
      obtain ⟨n6, n7⟩ := hcz
      go_upto_region 5 with fail
      obtain ⟨w1, hw1⟩ : ∃ w1, w1 = wr.alloc (.cells #[.int .i64 st, .int .i64 cl, .int .u32 fr] 49) := ⟨_, rfl⟩
      have hX : Box3 wr.heap.size (.int .i64 st) (.int .i64 cl) (.int .u32 fr) w1 := by rw [hw1]; exact Box3.new wr _ _ _ _
      have hst : Below wr.heap.size wr w1 := by rw [hw1]; exact (Below.refl _ _).alloc (Nat.le_refl _) _
      have hS1 := hSr.below hst
      rw [← hw1]
      clear hw1 s0 s1 s2 hlt hc hf hz k0 k1 k2
      obtain ⟨lX, x0, x1, x2, -, -, -⟩ := hX
      have hb1 := bjoin hst hbw
      refine wp_region_plus (by kernel_rfl) (by kernel_rfl) fun hpc => ?_
      repeat (first | go_big_quiet_step ((first | (go_at_call 36; exact quiet_plus (sused_any _ _ _ _ hok hm (hS1.below (plus_below _ _)))) | (go_at_call 37; exact quiet_plus (cwords_any _ _ (hS1.below (plus_below _ _)))))) | quiet_step ((first | (go_at_call 36; exact quiet_plus (sused_any _ _ _ _ hok hm (hS1.below (plus_below _ _)))) | (go_at_call 37; exact quiet_plus (cwords_any _ _ (hS1.below (plus_below _ _)))))))
      refine wpQuiet_nil ?_
      intro w' hbq
      clear hpc
      obtain ⟨hc, hf, hb, hz⟩ := bstep hbq (w := w1) (by go_grown)
      try simp only [World.size_alloc, World.size_setCell, World.size_drew] at hc hf hz
      go_wp2
      go_roundg ((h.m : Int) - (i + 1)).toNat
      case measure => omega
      case rel => exact ⟨i + 1, by omega, by omega, rfl, by simp [hnx, hus'], rfl, bjoin hb hb1⟩
    · obtain rfl : i = h.m := by omega
      go_wp2
      go_returns
      exact ⟨rfl, bjoin hb hbA⟩

set_option maxHeartbeats 1000000 in
theorem hfind_any (p : Option Addr) (c : Nat) (q : Option Addr) (d : Nat) (h : Hp) (a : Int) (w : World) (hS : Sz w) (hh : HpAt w p c q d h) (hF : formB h = true) :
    Calls Tryd.prog 15 #[.agg #[.slice p h.n c, .slice q h.m d, .bool h.b], .int .i64 a] w fun e w' => e = .returned (.tuple #[.int .i64 (fiP h a), .int .i64 (fiI h a), .bool (fiB h a)]) ∧ Below w.heap.size w w' := by
  have hm16 := (form_iff.1 hF).2.1
  by_cases hr : 0 ≤ a ∧ a < 32 * h.m
  · obtain ⟨a0, a1⟩ := hr
    have eB : fiB h a = (!((spH h (a / 32)).st == 0) && plB (spH h (a / 32)).cl a) := by unfold fiB; rw [inI_yes a0 (by omega), Bool.true_and]
    have eP : fiB h a = true → fiP h a = a / 32 := fun e => by unfold fiP; rw [if_pos e]
    have eI : fiB h a = true → fiI h a = plI (spH h (a / 32)).cl a := fun e => by unfold fiI; rw [if_pos e]
    have eN := fi_no (h := h) (a := a)
    have hp0 : 0 ≤ a / 32 := by omega
    have hp1 : a / 32 < h.m := by omega
    rw [show spH h (a / 32) = h.s (a / 32).toNat from rfl] at *
    obtain ⟨⟨b, off, rfl, hlt, s0, s1, s2⟩, hw⟩ := hh.spans (a / 32).toNat (by omega)
    generalize h.s (a / 32).toNat = S at *
    obtain ⟨st, cl, fr⟩ := S
    simp only [] at *
    clear hF hh hw
    by_cases hst : st = 0
    · have d0 : (st == 0) = true := by simp [hst]
      rw [d0] at eB
      obtain ⟨e1, e2, e3⟩ := eN (by simp [eB])
      rw [e1, e2, e3]
      clear eB eP eI eN e1 e2 e3 hst
      go_enter Tryd.func15, Tryd.ntmps15
      go_wp2
      go_returns
      exact ⟨rfl, by go_grown⟩
    · have d0 : (st == 0) = false := by simp [hst]
      rw [d0] at eB
      simp only [Bool.not_false, Bool.true_and] at eB
      have eP' : fiP h a = plP cl a := by unfold fiP plP; rw [eB]
      have eI' : fiI h a = plI cl a := by
        cases e : plB cl a with
        | true => exact eI (by rw [eB, e])
        | false => rw [(eN (by simp [eB, e])).2.2]; exact (pl_no (by simp [e])).2.2.symm
      rw [eB, eP', eI']
      clear eB eP eI eN eP' eI' hst
      go_enter Tryd.func15, Tryd.ntmps15
      go_wp2_with (first
    | (go_at_call 33; refine Calls.mono (aplace_any _ _ _ (hS.below (by go_grown))) ?_; rintro e w' ⟨rfl, hb⟩; obtain ⟨hc, hf, hb, hz⟩ := bstep hb (w := w) (by go_grown); try simp only [World.size_alloc, World.size_setCell, World.size_drew] at hc hf hz)
      )
      go_returns
      exact ⟨rfl, by go_grown⟩
  · have e : fiB h a = false := by unfold fiB; rw [inI_no (by omega)]; rfl
    obtain ⟨e1, e2, e3⟩ := fi_no (h := h) (a := a) (by simp [e])
    rw [e1, e2, e3]
    clear e e1 e2 e3 hF
    by_cases ha : 0 ≤ a
    · go_enter Tryd.func15, Tryd.ntmps15
      go_wp2
      go_returns
      exact ⟨rfl, by go_grown⟩
    · go_enter Tryd.func15, Tryd.ntmps15
      go_wp2
      go_returns
      exact ⟨rfl, by go_grown⟩
end Go.Proofs.YtjlflbaglaillaaDoor
