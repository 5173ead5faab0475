/- Contracts of span.*, of right spans (span.Right and span.New of any). -/
import Derived.Test.YtneanbagdkeoiaaDoorBits
import Derived.Test.YtneanbagdkeoiaaDoorSpans
namespace Go.Proofs.YtneanbagdkeoiaaDoor
set_option linter.unusedSimpArgs false
set_option linter.unusedVariables false
open Go.ChangeShapes Go.WideShapes Go.ChangeAt Go.RowKit

def nwS (c : Int) : Int := if clB c = true then 1 else 0
def nwC (c : Int) : Int := if clB c = true then c else 0
def nwF (c : Int) : Int := if clB c = true then wholeW (blW c) else 0
theorem nw_yes {c : Int} (h : clB c = true) : nwS c = 1 ∧ nwC c = c ∧ nwF c = wholeW (blW c) := by simp [nwS, nwC, nwF, h]
theorem nw_no {c : Int} (h : clB c = false) : nwS c = 0 ∧ nwC c = 0 ∧ nwF c = 0 := by simp [nwS, nwC, nwF, h]
theorem cl_bl (c : Int) : clB c = true ∧ 0 < blW c ∨ clB c = false ∧ blW c = 0 := by
  have e : clB c = true ↔ 0 ≤ c ∧ c < 4 := by simp [clB]
  have := cl_cases c
  cases h : clB c with
  | true => exact .inl ⟨rfl, by have := e.1 h; omega⟩
  | false => exact .inr ⟨rfl, by have : ¬ (0 ≤ c ∧ c < 4) := fun x => by rw [e.2 x] at h; cases h
                                 omega⟩

/-- The states that a right span has. -/
structure OkS (st : Int) : Prop where
  out : st = 0 ∨ st = 1 ∨ st = 2
theorem right_ok {st cl fr : Int} (h : rightB st cl fr = true) : OkS st := by
  rcases right_iff.1 h with ⟨h, -⟩ | ⟨h | h, -⟩
  · exact ⟨.inl h⟩
  · exact ⟨.inr (.inl h)⟩
  · exact ⟨.inr (.inr h)⟩

theorem sin_any (st cl fr : Int) (w : World) (hk : OkS st) :
    Calls Tryd.prog 51 #[.agg #[.int .i64 st, .int .i64 cl, .int .u32 fr]] w fun e w' => e = .returned (.bool (useB st)) ∧ Below w.heap.size w w' := by
  rcases hk.out with rfl | rfl | rfl
  all_goals
    go_enter Tryd.func51, Tryd.ntmps51
    go_wp2
    go_returns
    exact ⟨rfl, by go_grown⟩
theorem sall_any (c : Int) (w : World) (hS : Sz w) :
    Calls Tryd.prog 77 #[.int .i64 c] w fun e w' => e = .returned (.int .u32 (wholeW (blW c))) ∧ Below w.heap.size w w' := by
  go_enter Tryd.func77, Tryd.ntmps77
  go_wp2_with (first
    | (go_at_call 80; refine Calls.mono (cblocks_any _ _ (hS.below (by go_grown))) ?_; rintro e w' ⟨rfl, hb⟩; (first | replace hS := hS.below hb | replace hS := (hS.below (by go_grown)).below hb | skip); obtain ⟨hc, hf, hb, hz⟩ := bstep hb (w := w) (by go_grown); try simp only [World.size_alloc, World.size_setCell, World.size_drew] at hc hf hz)
    | (go_at_call 88; refine Calls.mono (whole_any _ _) ?_; rintro e w' ⟨rfl, hb⟩; (first | replace hS := hS.below hb | replace hS := (hS.below (by go_grown)).below hb | skip); obtain ⟨hc, hf, hb, hz⟩ := bstep hb (w := w) (by go_grown); try simp only [World.size_alloc, World.size_setCell, World.size_drew] at hc hf hz)
  )
  go_returns
  exact ⟨rfl, by go_grown⟩
theorem whole_bl (c : Int) : (wholeW (blW c) == 0) = !clB c := by
  rcases cl_cases c with ⟨h, -, e, -⟩ | ⟨h, -, e, -⟩ | ⟨h, -, e, -⟩ | ⟨h, -, e, -⟩ | ⟨h, -, e, -⟩
  all_goals
    rw [e]
    have : clB c = _ := show (decide (0 ≤ c) && decide (c < 4)) = _ from rfl
    simp [clB, wholeW]
    omega
theorem whole_bl_ne (c : Int) : (wholeW (blW c) != 0) = clB c := by
  rw [bne, whole_bl, Bool.not_not]
theorem has_all (c i : Int) : hasB (wholeW (blW c)) i = (decide (0 ≤ i) && decide (i < blW c)) := by
  have hb := bl_bound c
  by_cases h : 0 ≤ i ∧ i < 32
  · rw [has_whole _ h.1 h.2, decide_eq_true h.1, Bool.true_and]
  · rw [has_out h]
    by_cases h0 : 0 ≤ i
    · rw [decide_eq_false (show ¬ i < blW c by omega), Bool.and_false]
    · rw [decide_eq_false h0]; rfl
theorem with_same {m i : Int} (hm : Mask m) (h0 : 0 ≤ i) (h1 : i < 32) : withW m i = m ↔ hasB m i = true := by
  constructor
  · intro h
    have := has_with m i i
    rw [h, inB_yes h0 h1] at this
    simpa using this
  · intro h
    refine mask_ext (mask_with hm) hm fun j j0 j1 => ?_
    rw [has_with, inB_yes h0 h1]
    by_cases e : j = i
    · subst e; simp [h]
    · simp [e]

theorem snew_any (c : Int) (w : World) (hS : Sz w) :
    Calls Tryd.prog 58 #[.int .i64 c] w fun e w' => e = .returned (.tuple #[.agg #[.int .i64 (nwS c), .int .i64 (nwC c), .int .u32 (nwF c)], .bool (clB c)]) ∧ Below w.heap.size w w' := by
  have hw := whole_bl c
  cases h : clB c with
  | true =>
    obtain ⟨e0, e1, e2⟩ := nw_yes h
    rw [e0, e1, e2]
    rw [h] at hw
    clear e0 e1 e2 h
    go_enter Tryd.func58, Tryd.ntmps58
    go_wp2_with (first
    | (go_at_call 77; refine Calls.mono (sall_any _ _ (hS.below (by go_grown))) ?_; rintro e w' ⟨rfl, hb⟩; (first | replace hS := hS.below hb | replace hS := (hS.below (by go_grown)).below hb | skip); obtain ⟨hc, hf, hb, hz⟩ := bstep hb (w := w) (by go_grown); try simp only [World.size_alloc, World.size_setCell, World.size_drew] at hc hf hz)
    )
    refine bodyPost_ret (by simp [results, Tryd.results58, go_sem, *]; try rfl) rfl ?_
    exact ⟨rfl, by go_grown⟩
  | false =>
    obtain ⟨e0, e1, e2⟩ := nw_no h
    rw [e0, e1, e2]
    rw [h] at hw
    clear e0 e1 e2 h
    go_enter Tryd.func58, Tryd.ntmps58
    go_wp2_with (first
    | (go_at_call 77; refine Calls.mono (sall_any _ _ (hS.below (by go_grown))) ?_; rintro e w' ⟨rfl, hb⟩; (first | replace hS := hS.below hb | replace hS := (hS.below (by go_grown)).below hb | skip); obtain ⟨hc, hf, hb, hz⟩ := bstep hb (w := w) (by go_grown); try simp only [World.size_alloc, World.size_setCell, World.size_drew] at hc hf hz)
    )
    refine bodyPost_ret (by simp [results, Tryd.results58, go_sem, *]; try rfl) rfl ?_
    exact ⟨rfl, by go_grown⟩

theorem stake_any (st cl fr : Int) (w : World) (hm : Mask fr) (hT : Tab w) :
    Calls Tryd.prog 60 #[.agg #[.int .i64 st, .int .i64 cl, .int .u32 fr]] w fun e w' => e = .returned (.tuple #[.agg #[.int .i64 st, .int .i64 cl, .int .u32 (takeF st fr)], .int .i64 (takeI st fr), .bool (takeB st fr)]) ∧ Below w.heap.size w w' := by
  cases ht : takeB st fr with
  | true =>
    have e1 : takeI st fr = leastW fr := by unfold takeI; rw [if_pos ht]
    have e2 : takeF st fr = woutW fr (leastW fr) := by unfold takeF; rw [if_pos ht]
    simp only [takeB, Bool.and_eq_true, decide_eq_true_eq] at ht
    obtain ⟨rfl, hl⟩ := ht
    rw [e1, e2]
    clear e1 e2
    go_enter Tryd.func60, Tryd.ntmps60
    go_wp2_with (first
    | (go_at_call 78; refine Calls.mono (least_any _ _ hm (hT.below (by go_grown))) ?_; rintro e w' ⟨rfl, hb⟩; (first | replace hT := hT.below hb | replace hT := (hT.below (by go_grown)).below hb | skip); obtain ⟨hc, hf, hb, hz⟩ := bstep hb (w := w) (by go_grown); try simp only [World.size_alloc, World.size_setCell, World.size_drew] at hc hf hz)
    | (go_at_call 79; refine Calls.mono (without_any _ _ _ hm) ?_; rintro e w' ⟨rfl, hb⟩; (first | replace hT := hT.below hb | replace hT := (hT.below (by go_grown)).below hb | skip); obtain ⟨hc, hf, hb, hz⟩ := bstep hb (w := w) (by go_grown); try simp only [World.size_alloc, World.size_setCell, World.size_drew] at hc hf hz)
    )
    refine bodyPost_ret (by simp [results, Tryd.results60, go_sem, *]; try rfl) rfl ?_
    exact ⟨rfl, by go_grown⟩
  | false =>
    have e1 : takeI st fr = 0 := by unfold takeI; rw [if_neg (by simp [ht])]
    have e2 : takeF st fr = fr := by unfold takeF; rw [if_neg (by simp [ht])]
    rw [e1, e2]
    clear e1 e2
    by_cases h : st = 1
    · have hl : leastB fr = false := by simpa [takeB, h] using ht
      clear ht
      subst h
      go_enter Tryd.func60, Tryd.ntmps60
      go_wp2_with (first
    | (go_at_call 78; refine Calls.mono (least_any _ _ hm (hT.below (by go_grown))) ?_; rintro e w' ⟨rfl, hb⟩; (first | replace hT := hT.below hb | replace hT := (hT.below (by go_grown)).below hb | skip); obtain ⟨hc, hf, hb, hz⟩ := bstep hb (w := w) (by go_grown); try simp only [World.size_alloc, World.size_setCell, World.size_drew] at hc hf hz)
      )
      refine bodyPost_ret (by simp [results, Tryd.results60, go_sem, *]; try rfl) rfl ?_
      exact ⟨rfl, by go_grown⟩
    · clear ht
      cases hl : leastB fr
      all_goals
        go_enter Tryd.func60, Tryd.ntmps60
        go_wp2_with (first
    | (go_at_call 78; refine Calls.mono (least_any _ _ hm (hT.below (by go_grown))) ?_; rintro e w' ⟨rfl, hb⟩; (first | replace hT := hT.below hb | replace hT := (hT.below (by go_grown)).below hb | skip); obtain ⟨hc, hf, hb, hz⟩ := bstep hb (w := w) (by go_grown); try simp only [World.size_alloc, World.size_setCell, World.size_drew] at hc hf hz)
        )
        refine bodyPost_ret (by simp [results, Tryd.results60, go_sem, *]; try rfl) rfl ?_
        exact ⟨rfl, by go_grown⟩

theorem sfull_any (st cl fr : Int) (w : World) (hk : OkS st) :
    Calls Tryd.prog 29 #[.agg #[.int .i64 st, .int .i64 cl, .int .u32 fr]] w fun e w' => e = .returned (.bool (fullB st fr)) ∧ Below w.heap.size w w' := by
  cases hu : useB st
  all_goals
    go_enter Tryd.func29, Tryd.ntmps29
    go_wp2_with (first
    | (go_at_call 51; refine Calls.mono (sin_any _ _ _ _ hk) ?_; rintro e w' ⟨rfl, hb⟩; (first | replace hT := hT.below hb | replace hT := (hT.below (by go_grown)).below hb | skip); obtain ⟨hc, hf, hb, hz⟩ := bstep hb (w := w) (by go_grown); try simp only [World.size_alloc, World.size_setCell, World.size_drew] at hc hf hz)
    )
    go_returns
    exact ⟨ret_bool (by simp [fullB, hu]), by go_grown⟩
theorem right_zero (cl fr : Int) : rightB 0 cl fr = (decide (cl = 0) && decide (fr = 0)) := by simp [rightB]
theorem right_else {st : Int} (cl fr : Int) (h : ¬ st = 0) : rightB st cl fr = (useB st && (clB cl && smallB cl fr)) := by simp [rightB, h]
end Go.Proofs.YtneanbagdkeoiaaDoor
