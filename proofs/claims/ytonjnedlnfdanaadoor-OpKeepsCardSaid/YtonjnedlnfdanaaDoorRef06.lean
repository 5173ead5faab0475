/- Contracts of the reference's InUse, Right, Free, Take, Give (chapter 6). -/
import Derived.Test.YtonjnedlnfdanaaDoorRef03
import Derived.Test.YtonjnedlnfdanaaDoorSpans
namespace Go.Proofs.YtonjnedlnfdanaaDoor
set_option linter.unusedSimpArgs false
set_option linter.unusedVariables false
open Go.ChangeShapes Go.WideShapes Go.ChangeAt Go.RowKit

theorem ruse_any (st cl fr : Int) (w : World) :
    Calls Tryd.prog 16 #[.agg #[.int .i64 st, .int .i64 cl, .int .u32 fr]] w fun e w' => e = .returned (.bool (useB st)) ∧ Below w.heap.size w w' := by
  have h : st = 1 ∨ st = 2 ∨ (¬ st = 1 ∧ ¬ st = 2) := by omega
  rcases h with rfl | rfl | ⟨h1, h2⟩
  · go_enter Tryd.func16, Tryd.ntmps16
    go_wp2
    go_returns
    exact ⟨rfl, by go_grown⟩
  · go_enter Tryd.func16, Tryd.ntmps16
    go_wp2
    go_returns
    exact ⟨rfl, by go_grown⟩
  · have e : useB st = false := by simp [useB, h1, h2]
    go_enter Tryd.func16, Tryd.ntmps16
    go_wp2
    go_returns
    exact ⟨ret_bool (by simp [e, h1, h2]), by go_grown⟩

theorem rfree_any (st cl fr : Int) (w : World) (hm : Mask fr) :
    Calls Tryd.prog 30 #[.agg #[.int .i64 st, .int .i64 cl, .int .u32 fr]] w fun e w' => e = .returned (.int .i64 (countW fr)) ∧ Below w.heap.size w w' := by
  go_enter Tryd.func30, Tryd.ntmps30
  go_wp2_with (first
    | (go_at_call 37; refine Calls.mono (rcount_any _ _ hm) ?_; rintro e w' ⟨rfl, hb⟩; obtain ⟨hc, hf, hb, hz⟩ := bstep hb (w := w) (by go_grown); try simp only [World.size_alloc, World.size_setCell, World.size_drew] at hc hf hz)
  )
  go_returns
  exact ⟨rfl, by go_grown⟩

set_option maxHeartbeats 1000000 in
theorem rright_any (st cl fr : Int) (w : World) (hm : Mask fr) :
    Calls Tryd.prog 10 #[.agg #[.int .i64 st, .int .i64 cl, .int .u32 fr]] w fun e w' => e = .returned (.bool (rightB st cl fr)) ∧ Below w.heap.size w w' := by
  by_cases h0 : st = 0
  · subst h0
    by_cases h1 : cl = 0
    · subst h1
      go_enter Tryd.func10, Tryd.ntmps10
      go_wp2
      go_returns
      exact ⟨ret_bool (by simp [rightB]; try rfl), by go_grown⟩
    · go_enter Tryd.func10, Tryd.ntmps10
      go_wp2
      go_returns
      exact ⟨ret_bool (by simp [rightB, h1]), by go_grown⟩
  · cases hu : useB st with
    | false =>
      have e : rightB st cl fr = false := by unfold rightB; rw [if_neg h0, hu]; rfl
      go_enter Tryd.func10, Tryd.ntmps10
      go_wp2_with (first
    | (go_at_call 16; refine Calls.mono (ruse_any _ _ _ _) ?_; rintro e w' ⟨rfl, hb⟩; obtain ⟨hc, hf, hb, hz⟩ := bstep hb (w := w) (by go_grown); try simp only [World.size_alloc, World.size_setCell, World.size_drew] at hc hf hz)
      )
      go_returns
      exact ⟨ret_bool (by simp [e]), by go_grown⟩
    | true =>
      by_cases hc : 0 ≤ cl ∧ cl ≤ 3
      · obtain ⟨c0, c1⟩ := hc
        have hr : rightB st cl fr = smallB cl fr := by
          unfold rightB clB
          rw [if_neg h0, hu, decide_eq_true c0, decide_eq_true (show cl < 4 by omega)]
          rfl
        have hb := bl_bound cl
        obtain ⟨b0, b1⟩ := hb
        go_enter Tryd.func10, Tryd.ntmps10
        go_upto_region 1 with fail
        obtain ⟨w1, hw1⟩ : ∃ w1, w1 = w.alloc (.cells #[.int .i64 st, .int .i64 cl, .int .u32 fr] 46) := ⟨_, rfl⟩
        have hbA : Below w.heap.size w w1 := by rw [hw1]; go_grown
        have c0 : w1.cell? ⟨w.heap.size, 0, none⟩ = some (.int .i64 st) := by rw [hw1]; go_simp
        have c1 : w1.cell? ⟨w.heap.size, 1, none⟩ = some (.int .i64 cl) := by rw [hw1]; go_simp
        have c2 : w1.cell? ⟨w.heap.size, 2, none⟩ = some (.int .u32 fr) := by rw [hw1]; go_simp
        have hl : w.heap.size + 1 ≤ w1.heap.size := by rw [hw1]; simp
        rw [← hw1]
        clear hw1
        go_wp2_with (first
    | (go_at_call 16; refine Calls.mono (ruse_any _ _ _ _) ?_; rintro e w' ⟨rfl, hb⟩; obtain ⟨hc, hf, hb, hz⟩ := bstep hb (w := w1) (by go_grown); try simp only [World.size_alloc, World.size_setCell, World.size_drew] at hc hf hz)
    | (go_at_call 17; refine Calls.mono (rcblocks_any _ _) ?_; rintro e w' ⟨rfl, hb⟩; obtain ⟨hc, hf, hb, hz⟩ := bstep hb (w := w1) (by go_grown); try simp only [World.size_alloc, World.size_setCell, World.size_drew] at hc hf hz)
        )
        go_loopg [3] (32 - blW cl).toNat (fun g iv wr => ∃ i : Int, blW cl ≤ i ∧ i ≤ 32 ∧ g = (32 - i).toNat ∧ iv = .int .i64 i ∧ (∀ j, blW cl ≤ j → j < i → hasB fr j = false) ∧ Below w'.heap.size w' wr)
        case atStart => exact ⟨blW cl, by omega, by omega, by omega, rfl, fun j h0 h1 => by omega, Below.refl _ _⟩
        case round =>
          obtain ⟨i, il, ih, rfl, rfl, hno, hbw⟩ := hrel
          have hbW := bjoin hbw (bjoin hb hbA)
          obtain ⟨hc, hf, hb, hz⟩ := bstep hbw (w := w') (Below.refl _ _)
          by_cases hi : i < 32
          · cases hbit : hasB fr i with
            | true =>
              have e : rightB st cl fr = false := by
                rw [hr]
                cases hs : smallB cl fr with
                | false => rfl
                | true => rw [(small_iff hm).1 hs i il hi] at hbit; cases hbit
              go_wp2_with (first
    | (go_at_call 18; refine Calls.mono (rhas_any _ _ _ hm) ?_; rintro e w' ⟨rfl, hb⟩; obtain ⟨hc, hf, hb, hz⟩ := bstep hb (w := wr) (by go_grown); try simp only [World.size_alloc, World.size_setCell, World.size_drew] at hc hf hz)
              )
              go_returns
              exact ⟨ret_bool (by first | rw [e] | rw [← hr, e]), bjoin (by assumption) hbW⟩
            | false =>
              go_wp2_with (first
    | (go_at_call 18; refine Calls.mono (rhas_any _ _ _ hm) ?_; rintro e w' ⟨rfl, hb⟩; obtain ⟨hc, hf, hb, hz⟩ := bstep hb (w := wr) (by go_grown); try simp only [World.size_alloc, World.size_setCell, World.size_drew] at hc hf hz)
              )
              go_roundg (32 - (i + 1)).toNat
              case measure => omega
              case rel => exact ⟨i + 1, by omega, by omega, rfl, rfl, fun j h0 h1 => by
                by_cases e : j = i
                · rw [e, hbit]
                · exact hno j h0 (by omega), bjoin hb hbw⟩
          · have e : rightB st cl fr = true := by
              rw [hr]
              exact (small_iff hm).2 fun j h0 h1 => hno j h0 (by omega)
            go_wp2
            go_returns
            exact ⟨ret_bool (by first | rw [e] | rw [← hr, e]), hbW⟩
      · have e : rightB st cl fr = false := by
          unfold rightB clB
          rw [if_neg h0, hu]
          simp
          omega
        by_cases h : 0 ≤ cl
        · have h3 : 3 < cl := by omega
          go_enter Tryd.func10, Tryd.ntmps10
          go_wp2_with (first
    | (go_at_call 16; refine Calls.mono (ruse_any _ _ _ _) ?_; rintro e w' ⟨rfl, hb⟩; obtain ⟨hc, hf, hb, hz⟩ := bstep hb (w := w) (by go_grown); try simp only [World.size_alloc, World.size_setCell, World.size_drew] at hc hf hz)
          )
          go_returns
          exact ⟨ret_bool (by simp [e]), by go_grown⟩
        · go_enter Tryd.func10, Tryd.ntmps10
          go_wp2_with (first
    | (go_at_call 16; refine Calls.mono (ruse_any _ _ _ _) ?_; rintro e w' ⟨rfl, hb⟩; obtain ⟨hc, hf, hb, hz⟩ := bstep hb (w := w) (by go_grown); try simp only [World.size_alloc, World.size_setCell, World.size_drew] at hc hf hz)
          )
          go_returns
          exact ⟨ret_bool (by simp [e]), by go_grown⟩

theorem rgive_any (st cl fr i : Int) (w : World) (hm : Mask fr) :
    Calls Tryd.prog 29 #[.agg #[.int .i64 st, .int .i64 cl, .int .u32 fr], .int .i64 i] w fun e w' => e = .returned (.tuple #[.agg #[.int .i64 st, .int .i64 cl, .int .u32 (giveF st cl fr i)], .bool (giveB st cl fr i)]) ∧ Below w.heap.size w w' := by
  cases hg : giveB st cl fr i with
  | true =>
    have e : giveF st cl fr i = withW fr i := by unfold giveF; rw [if_pos hg]
    rw [e]
    have hg' := hg
    simp only [giveB, Bool.and_eq_true, decide_eq_true_eq, Bool.not_eq_true'] at hg'
    obtain ⟨hu, i0, i1, hno⟩ := hg'
    clear hg e
    go_enter Tryd.func29, Tryd.ntmps29
    go_wp2_with (first
    | (go_at_call 16; refine Calls.mono (ruse_any _ _ _ _) ?_; rintro e w' ⟨rfl, hb⟩; obtain ⟨hc, hf, hb, hz⟩ := bstep hb (w := w) (by go_grown); try simp only [World.size_alloc, World.size_setCell, World.size_drew] at hc hf hz)
    | (go_at_call 17; refine Calls.mono (rcblocks_any _ _) ?_; rintro e w' ⟨rfl, hb⟩; obtain ⟨hc, hf, hb, hz⟩ := bstep hb (w := w) (by go_grown); try simp only [World.size_alloc, World.size_setCell, World.size_drew] at hc hf hz)
    | (go_at_call 18; refine Calls.mono (rhas_any _ _ _ hm) ?_; rintro e w' ⟨rfl, hb⟩; obtain ⟨hc, hf, hb, hz⟩ := bstep hb (w := w) (by go_grown); try simp only [World.size_alloc, World.size_setCell, World.size_drew] at hc hf hz)
    | (go_at_call 36; refine Calls.mono (rwith_any _ _ _ hm) ?_; rintro e w' ⟨rfl, hb⟩; obtain ⟨hc, hf, hb, hz⟩ := bstep hb (w := w) (by go_grown); try simp only [World.size_alloc, World.size_setCell, World.size_drew] at hc hf hz)
    )
    refine bodyPost_ret (by simp [results, Tryd.results29, go_sem, *]; try rfl) rfl ?_
    exact ⟨rfl, by go_grown⟩
  | false =>
    have e : giveF st cl fr i = fr := by unfold giveF; rw [if_neg (by simp [hg])]
    rw [e]
    clear e
    cases hu : useB st with
    | false =>
      go_enter Tryd.func29, Tryd.ntmps29
      go_wp2_with (first
    | (go_at_call 16; refine Calls.mono (ruse_any _ _ _ _) ?_; rintro e w' ⟨rfl, hb⟩; obtain ⟨hc, hf, hb, hz⟩ := bstep hb (w := w) (by go_grown); try simp only [World.size_alloc, World.size_setCell, World.size_drew] at hc hf hz)
      )
      refine bodyPost_ret (by simp [results, Tryd.results29, go_sem, *]; try rfl) rfl ?_
      exact ⟨rfl, by go_grown⟩
    | true =>
      by_cases i0 : 0 ≤ i
      · by_cases i1 : i < blW cl
        · have hh : hasB fr i = true := by
            simp only [giveB, hu, decide_eq_true i0, decide_eq_true i1, Bool.true_and] at hg
            simpa using hg
          clear hg
          go_enter Tryd.func29, Tryd.ntmps29
          go_wp2_with (first
    | (go_at_call 16; refine Calls.mono (ruse_any _ _ _ _) ?_; rintro e w' ⟨rfl, hb⟩; obtain ⟨hc, hf, hb, hz⟩ := bstep hb (w := w) (by go_grown); try simp only [World.size_alloc, World.size_setCell, World.size_drew] at hc hf hz)
    | (go_at_call 17; refine Calls.mono (rcblocks_any _ _) ?_; rintro e w' ⟨rfl, hb⟩; obtain ⟨hc, hf, hb, hz⟩ := bstep hb (w := w) (by go_grown); try simp only [World.size_alloc, World.size_setCell, World.size_drew] at hc hf hz)
    | (go_at_call 18; refine Calls.mono (rhas_any _ _ _ hm) ?_; rintro e w' ⟨rfl, hb⟩; obtain ⟨hc, hf, hb, hz⟩ := bstep hb (w := w) (by go_grown); try simp only [World.size_alloc, World.size_setCell, World.size_drew] at hc hf hz)
          )
          refine bodyPost_ret (by simp [results, Tryd.results29, go_sem, *]; try rfl) rfl ?_
          exact ⟨rfl, by go_grown⟩
        · clear hg
          go_enter Tryd.func29, Tryd.ntmps29
          go_wp2_with (first
    | (go_at_call 16; refine Calls.mono (ruse_any _ _ _ _) ?_; rintro e w' ⟨rfl, hb⟩; obtain ⟨hc, hf, hb, hz⟩ := bstep hb (w := w) (by go_grown); try simp only [World.size_alloc, World.size_setCell, World.size_drew] at hc hf hz)
    | (go_at_call 17; refine Calls.mono (rcblocks_any _ _) ?_; rintro e w' ⟨rfl, hb⟩; obtain ⟨hc, hf, hb, hz⟩ := bstep hb (w := w) (by go_grown); try simp only [World.size_alloc, World.size_setCell, World.size_drew] at hc hf hz)
          )
          refine bodyPost_ret (by simp [results, Tryd.results29, go_sem, *]; try rfl) rfl ?_
          exact ⟨rfl, by go_grown⟩
      · clear hg
        go_enter Tryd.func29, Tryd.ntmps29
        go_wp2_with (first
    | (go_at_call 16; refine Calls.mono (ruse_any _ _ _ _) ?_; rintro e w' ⟨rfl, hb⟩; obtain ⟨hc, hf, hb, hz⟩ := bstep hb (w := w) (by go_grown); try simp only [World.size_alloc, World.size_setCell, World.size_drew] at hc hf hz)
        )
        refine bodyPost_ret (by simp [results, Tryd.results29, go_sem, *]; try rfl) rfl ?_
        exact ⟨rfl, by go_grown⟩

set_option maxHeartbeats 1000000 in
theorem rtake_any (st cl fr : Int) (w : World) (hm : Mask fr) (hr : rightB st cl fr = true) :
    Calls Tryd.prog 25 #[.agg #[.int .i64 st, .int .i64 cl, .int .u32 fr]] w fun e w' => e = .returned (.tuple #[.agg #[.int .i64 st, .int .i64 cl, .int .u32 (takeF st fr)], .int .i64 (takeI st fr), .bool (takeB st fr)]) ∧ Below w.heap.size w w' := by
  by_cases h1 : st = 1
  · subst h1
    go_enter Tryd.func25, Tryd.ntmps25
    go_upto_region 2 with fail
    obtain ⟨w0, hw0⟩ : ∃ w0, w0 = (w.alloc (.cells #[.int .i64 1, .int .i64 cl, .int .u32 fr] 46)).alloc (.cells #[.int .i64 0, .int .i64 0, .int .u32 0] 46) := ⟨_, rfl⟩
    have hb0 : Below w.heap.size w w0 := by rw [hw0]; go_grown
    have c0 : w0.cell? ⟨w.heap.size, 0, none⟩ = some (.int .i64 1) := by rw [hw0]; go_simp
    have c1 : w0.cell? ⟨w.heap.size, 1, none⟩ = some (.int .i64 cl) := by rw [hw0]; go_simp
    have c2 : w0.cell? ⟨w.heap.size, 2, none⟩ = some (.int .u32 fr) := by rw [hw0]; go_simp
    have d0 : w0.cell? ⟨w.heap.size + 1, 0, none⟩ = some (.int .i64 0) := by rw [hw0]; go_simp
    have d1 : w0.cell? ⟨w.heap.size + 1, 1, none⟩ = some (.int .i64 0) := by rw [hw0]; go_simp
    have d2 : w0.cell? ⟨w.heap.size + 1, 2, none⟩ = some (.int .u32 0) := by rw [hw0]; go_simp
    have f0 : w0.frozen? ⟨w.heap.size, 0, none⟩ = false := by rw [hw0]; go_simp
    have f1 : w0.frozen? ⟨w.heap.size, 1, none⟩ = false := by rw [hw0]; go_simp
    have f2 : w0.frozen? ⟨w.heap.size, 2, none⟩ = false := by rw [hw0]; go_simp
    have g0 : w0.frozen? ⟨w.heap.size + 1, 0, none⟩ = false := by rw [hw0]; go_simp
    have g1 : w0.frozen? ⟨w.heap.size + 1, 1, none⟩ = false := by rw [hw0]; go_simp
    have g2 : w0.frozen? ⟨w.heap.size + 1, 2, none⟩ = false := by rw [hw0]; go_simp
    have hl : w.heap.size + 2 ≤ w0.heap.size := by rw [hw0]; simp
    rw [← hw0]
    clear hw0
    go_wp2
    go_loopg [5] 16 (fun g iv wr => ∃ i : Int, 0 ≤ i ∧ i ≤ 16 ∧ g = (16 - i).toNat ∧ iv = .int .i64 i ∧ (∀ j, j < i → hasB fr j = false) ∧ Below w0.heap.size w0 wr)
    case atStart => exact ⟨0, by omega, by omega, rfl, rfl, fun j hj => has_out (by omega), Below.refl _ _⟩
    case round =>
      obtain ⟨i, il, ih, rfl, rfl, hno, hbw⟩ := hrel
      have hbW := bjoin hbw hb0
      obtain ⟨hc, hf, hb, hz⟩ := bstep hbw (w := w0) (Below.refl _ _)
      by_cases hi : i < 16
      · cases hbit : hasB fr i with
        | true =>
          obtain ⟨e0, e1⟩ := least_of hm hbit hno
          have e2 : takeB 1 fr = true := by simp [takeB, leastB, e0]
          have e3 : takeI 1 fr = i := by unfold takeI; rw [if_pos e2, e1]
          have e4 : takeF 1 fr = woutW fr i := by unfold takeF; rw [if_pos e2, e1]
          have E : Hid (takeB 1 fr = true ∧ takeI 1 fr = i ∧ takeF 1 fr = woutW fr i) := ⟨e2, e3, e4⟩
          clear e0 e1 e2 e3 e4
          go_wp2_with (first
    | (go_at_call 18; refine Calls.mono (rhas_any _ _ _ hm) ?_; rintro e w' ⟨rfl, hb⟩; obtain ⟨hc, hf, hb, hz⟩ := bstep hb (w := wr) (by go_grown); try simp only [World.size_alloc, World.size_setCell, World.size_drew] at hc hf hz)
    | (go_at_call 35; refine Calls.mono (rwithout_any _ _ _ hm) ?_; rintro e w' ⟨rfl, hb⟩; obtain ⟨hc, hf, hb, hz⟩ := bstep hb (w := wr) (by go_grown); try simp only [World.size_alloc, World.size_setCell, World.size_drew] at hc hf hz)
          )
          refine bodyPost_ret (by simp [results, Tryd.results25, go_sem, *]; try rfl) rfl ?_
          exact ⟨by rw [E.out.1, E.out.2.1, E.out.2.2], by go_grown; all_goals exact bjoin (by assumption) hbW⟩
        | false =>
          go_wp2_with (first
    | (go_at_call 18; refine Calls.mono (rhas_any _ _ _ hm) ?_; rintro e w' ⟨rfl, hb⟩; obtain ⟨hc, hf, hb, hz⟩ := bstep hb (w := wr) (by go_grown); try simp only [World.size_alloc, World.size_setCell, World.size_drew] at hc hf hz)
          )
          go_roundg (16 - (i + 1)).toNat
          case measure => omega
          case rel => exact ⟨i + 1, by omega, by omega, rfl, rfl, fun j hj => by
            by_cases e : j = i
            · rw [e, hbit]
            · exact hno j (by omega), bjoin hb hbw⟩
      · obtain rfl : i = 16 := by omega
        have hz0 : fr = 0 := none_of hm fun j h0 h1 => by
          by_cases e : j < 16
          · exact hno j e
          · exact right_out hr hm (by have := bl_bound cl; omega)
        subst hz0
        go_wp2
        refine bodyPost_ret (by simp [results, Tryd.results25, go_sem, *]; try rfl) rfl ?_
        exact ⟨rfl, by go_grown; all_goals exact hbW⟩
  · have e0 : takeB st fr = false := by simp [takeB, h1]
    have e1 : takeI st fr = 0 := by unfold takeI; rw [if_neg (by simp [e0])]
    have e2 : takeF st fr = fr := by unfold takeF; rw [if_neg (by simp [e0])]
    rw [e0, e1, e2]
    clear e0 e1 e2 hr
    go_enter Tryd.func25, Tryd.ntmps25
    go_wp2
    go_loopg [5] 1 (fun g iv wr => iv = .int .i64 0 ∧ g = 1 ∧ wr = (w.alloc (.cells #[.int .i64 st, .int .i64 cl, .int .u32 fr] 46)).alloc (.cells #[.int .i64 0, .int .i64 0, .int .u32 0] 46))
    case atStart => exact ⟨rfl, rfl, rfl⟩
    case round =>
      obtain ⟨rfl, rfl, rfl⟩ := hrel
      go_wp2
      refine bodyPost_ret (by simp [results, Tryd.results25, go_sem, *]; try rfl) rfl ?_
      exact ⟨rfl, by go_grown⟩
end Go.Proofs.YtonjnedlnfdanaaDoor
