/- Contracts of span.*, of right spans (span.Right and span.New of any). -/
import Derived.Test.YtjoepiopigmmnaaDoorBits
import Derived.Test.YtjoepiopigmmnaaDoorSpans
namespace Go.Proofs.YtjoepiopigmmnaaDoor
set_option linter.unusedSimpArgs false
set_option linter.unusedVariables false
open Go.ChangeShapes Go.WideShapes Go.ChangeAt Go.RowKit

def nwS (c : Int) : Int := if clB c = true then 1 else 0
def nwC (c : Int) : Int := if clB c = true then c else 0
def nwF (c : Int) : Int := if clB c = true then wholeW (blW c) else 0
theorem nw_yes {c : Int} (h : clB c = true) : nwS c = 1 ∧ nwC c = c ∧ nwF c = wholeW (blW c) := by simp [nwS, nwC, nwF, h]
theorem nw_no {c : Int} (h : clB c = false) : nwS c = 0 ∧ nwC c = 0 ∧ nwF c = 0 := by simp [nwS, nwC, nwF, h]
theorem cl_bl (c : Int) : clB c = true ∧ 0 < blW c ∨ clB c = false ∧ blW c = 0 := by
  have e : clB c = true ↔ 0 ≤ c ∧ c < 4 := by simp [clB]
  have := cl_cases c
  cases h : clB c with
  | true => exact .inl ⟨rfl, by have := e.1 h; omega⟩
  | false => exact .inr ⟨rfl, by have : ¬ (0 ≤ c ∧ c < 4) := fun x => by rw [e.2 x] at h; cases h
                                 omega⟩

/-- The states that a right span has. -/
structure OkS (st : Int) : Prop where
  out : st = 0 ∨ st = 1 ∨ st = 2
theorem right_ok {st cl fr : Int} (h : rightB st cl fr = true) : OkS st := by
  rcases right_iff.1 h with ⟨h, -⟩ | ⟨h | h, -⟩
  · exact ⟨.inl h⟩
  · exact ⟨.inr (.inl h)⟩
  · exact ⟨.inr (.inr h)⟩

theorem sin_any (st cl fr : Int) (w : World) (hk : OkS st) :
    Calls Tryd.prog 57 #[.agg #[.int .i64 st, .int .i64 cl, .int .u32 fr]] w fun e w' => e = .returned (.bool (useB st)) ∧ Below w.heap.size w w' := by
  rcases hk.out with rfl | rfl | rfl
  all_goals
    go_enter Tryd.func57, Tryd.ntmps57
    go_wp2
    go_returns
    exact ⟨rfl, by go_grown⟩
theorem sall_any (c : Int) (w : World) (hS : Sz w) :
    Calls Tryd.prog 58 #[.int .i64 c] w fun e w' => e = .returned (.int .u32 (wholeW (blW c))) ∧ Below w.heap.size w w' := by
  go_enter Tryd.func58, Tryd.ntmps58
  go_wp2_with (first
    | (go_at_call 52; refine Calls.mono (cblocks_any _ _ (hS.below (by go_grown))) ?_; rintro e w' ⟨rfl, hb⟩; (first | replace hS := hS.below hb | replace hS := (hS.below (by go_grown)).below hb | skip); obtain ⟨hc, hf, hb, hz⟩ := bstep hb (w := w) (by go_grown); try simp only [World.size_alloc, World.size_setCell, World.size_drew] at hc hf hz)
    | (go_at_call 71; refine Calls.mono (whole_any _ _) ?_; rintro e w' ⟨rfl, hb⟩; (first | replace hS := hS.below hb | replace hS := (hS.below (by go_grown)).below hb | skip); obtain ⟨hc, hf, hb, hz⟩ := bstep hb (w := w) (by go_grown); try simp only [World.size_alloc, World.size_setCell, World.size_drew] at hc hf hz)
  )
  go_returns
  exact ⟨rfl, by go_grown⟩
theorem whole_bl (c : Int) : (wholeW (blW c) == 0) = !clB c := by
  rcases cl_cases c with ⟨h, -, e, -⟩ | ⟨h, -, e, -⟩ | ⟨h, -, e, -⟩ | ⟨h, -, e, -⟩ | ⟨h, -, e, -⟩
  all_goals
    rw [e]
    have : clB c = _ := show (decide (0 ≤ c) && decide (c < 4)) = _ from rfl
    simp [clB, wholeW]
    omega
theorem whole_bl_ne (c : Int) : (wholeW (blW c) != 0) = clB c := by
  rw [bne, whole_bl, Bool.not_not]
theorem has_all (c i : Int) : hasB (wholeW (blW c)) i = (decide (0 ≤ i) && decide (i < blW c)) := by
  have hb := bl_bound c
  by_cases h : 0 ≤ i ∧ i < 32
  · rw [has_whole _ h.1 h.2, decide_eq_true h.1, Bool.true_and]
  · rw [has_out h]
    by_cases h0 : 0 ≤ i
    · rw [decide_eq_false (show ¬ i < blW c by omega), Bool.and_false]
    · rw [decide_eq_false h0]; rfl
theorem with_same {m i : Int} (hm : Mask m) (h0 : 0 ≤ i) (h1 : i < 32) : withW m i = m ↔ hasB m i = true := by
  constructor
  · intro h
    have := has_with m i i
    rw [h, inB_yes h0 h1] at this
    simpa using this
  · intro h
    refine mask_ext (mask_with hm) hm fun j j0 j1 => ?_
    rw [has_with, inB_yes h0 h1]
    by_cases e : j = i
    · subst e; simp [h]
    · simp [e]

theorem sgive_any (st cl fr i : Int) (w : World) (hk : OkS st) (hm : Mask fr) (hS : Sz w) :
    Calls Tryd.prog 69 #[.agg #[.int .i64 st, .int .i64 cl, .int .u32 fr], .int .i64 i] w fun e w' => e = .returned (.tuple #[.agg #[.int .i64 st, .int .i64 cl, .int .u32 (giveF st cl fr i)], .bool (giveB st cl fr i)]) ∧ Below w.heap.size w w' := by
  have hwm := mask_whole (blW cl)
  cases hu : useB st with
  | false =>
    have hg : giveB st cl fr i = false := by simp [giveB, hu]
    have e : giveF st cl fr i = fr := by unfold giveF; rw [if_neg (by simp [hg])]
    rw [e, hg]
    clear e hg
    go_enter Tryd.func69, Tryd.ntmps69
    go_wp2_with (first
    | (go_at_call 57; refine Calls.mono (sin_any _ _ _ _ hk) ?_; rintro e w' ⟨rfl, hb⟩; (first | replace hS := hS.below hb | replace hS := (hS.below (by go_grown)).below hb | skip); obtain ⟨hc, hf, hb, hz⟩ := bstep hb (w := w) (by go_grown); try simp only [World.size_alloc, World.size_setCell, World.size_drew] at hc hf hz)
    )
    refine bodyPost_ret (by simp [results, Tryd.results69, go_sem, *]; try rfl) rfl ?_
    exact ⟨rfl, by go_grown⟩
  | true =>
    have hal := has_all cl i
    cases ha : hasB (wholeW (blW cl)) i with
    | false =>
      have hg : giveB st cl fr i = false := by
        rw [hal] at ha
        unfold giveB
        rw [← Bool.and_assoc (decide (0 ≤ i)), ha, Bool.false_and, Bool.and_false]
      have e : giveF st cl fr i = fr := by unfold giveF; rw [if_neg (by simp [hg])]
      rw [e, hg]
      clear e hg hal
      go_enter Tryd.func69, Tryd.ntmps69
      go_wp2_with (first
    | (go_at_call 57; refine Calls.mono (sin_any _ _ _ _ hk) ?_; rintro e w' ⟨rfl, hb⟩; (first | replace hS := hS.below hb | replace hS := (hS.below (by go_grown)).below hb | skip); obtain ⟨hc, hf, hb, hz⟩ := bstep hb (w := w) (by go_grown); try simp only [World.size_alloc, World.size_setCell, World.size_drew] at hc hf hz)
    | (go_at_call 58; refine Calls.mono (sall_any _ _ (hS.below (by go_grown))) ?_; rintro e w' ⟨rfl, hb⟩; (first | replace hS := hS.below hb | replace hS := (hS.below (by go_grown)).below hb | skip); obtain ⟨hc, hf, hb, hz⟩ := bstep hb (w := w) (by go_grown); try simp only [World.size_alloc, World.size_setCell, World.size_drew] at hc hf hz)
    | (go_at_call 81; refine Calls.mono (has_any _ _ _ hwm) ?_; rintro e w' ⟨rfl, hb⟩; (first | replace hS := hS.below hb | replace hS := (hS.below (by go_grown)).below hb | skip); obtain ⟨hc, hf, hb, hz⟩ := bstep hb (w := w) (by go_grown); try simp only [World.size_alloc, World.size_setCell, World.size_drew] at hc hf hz)
      )
      refine bodyPost_ret (by simp [results, Tryd.results69, go_sem, *]; try rfl) rfl ?_
      exact ⟨rfl, by go_grown⟩
    | true =>
      rw [ha] at hal
      have hal' := hal.symm
      simp only [Bool.and_eq_true, decide_eq_true_eq] at hal'
      obtain ⟨i0, i1⟩ := hal'
      have hb := bl_bound cl
      have hsame := with_same hm i0 (show i < 32 by omega)
      have hE : Hid (giveF st cl fr i = withW fr i ∧ giveB st cl fr i = !hasB fr i) := by
        have hg : giveB st cl fr i = !hasB fr i := by simp [giveB, hu, i0, i1]
        refine ⟨?_, hg⟩
        unfold giveF
        rw [hg]
        cases hh : hasB fr i with
        | true => simp [hsame.2 hh]
        | false => simp
      clear i0 i1 hb hal
      cases hh : hasB fr i with
      | true =>
        have heq : withW fr i = fr := hsame.2 hh
        clear hsame
        go_enter Tryd.func69, Tryd.ntmps69
        go_wp2_with (first
    | (go_at_call 57; refine Calls.mono (sin_any _ _ _ _ hk) ?_; rintro e w' ⟨rfl, hb⟩; (first | replace hS := hS.below hb | replace hS := (hS.below (by go_grown)).below hb | skip); obtain ⟨hc, hf, hb, hz⟩ := bstep hb (w := w) (by go_grown); try simp only [World.size_alloc, World.size_setCell, World.size_drew] at hc hf hz)
    | (go_at_call 58; refine Calls.mono (sall_any _ _ (hS.below (by go_grown))) ?_; rintro e w' ⟨rfl, hb⟩; (first | replace hS := hS.below hb | replace hS := (hS.below (by go_grown)).below hb | skip); obtain ⟨hc, hf, hb, hz⟩ := bstep hb (w := w) (by go_grown); try simp only [World.size_alloc, World.size_setCell, World.size_drew] at hc hf hz)
    | (go_at_call 81; refine Calls.mono (has_any _ _ _ hwm) ?_; rintro e w' ⟨rfl, hb⟩; (first | replace hS := hS.below hb | replace hS := (hS.below (by go_grown)).below hb | skip); obtain ⟨hc, hf, hb, hz⟩ := bstep hb (w := w) (by go_grown); try simp only [World.size_alloc, World.size_setCell, World.size_drew] at hc hf hz)
    | (go_at_call 82; refine Calls.mono (with_any _ _ _ hm) ?_; rintro e w' ⟨rfl, hb⟩; (first | replace hS := hS.below hb | replace hS := (hS.below (by go_grown)).below hb | skip); obtain ⟨hc, hf, hb, hz⟩ := bstep hb (w := w) (by go_grown); try simp only [World.size_alloc, World.size_setCell, World.size_drew] at hc hf hz)
        )
        go_region
        go_wp2
        refine bodyPost_ret (by simp [results, Tryd.results69, go_sem, *]; try rfl) rfl ?_
        exact ⟨by rw [hE.out.1, hE.out.2, hh, heq]; rfl, by go_grown⟩
      | false =>
        have hne : (withW fr i == fr) = false := by
          have : ¬ withW fr i = fr := fun e => by rw [hsame.1 e] at hh; cases hh
          simpa using this
        clear hsame
        go_enter Tryd.func69, Tryd.ntmps69
        go_wp2_with (first
    | (go_at_call 57; refine Calls.mono (sin_any _ _ _ _ hk) ?_; rintro e w' ⟨rfl, hb⟩; (first | replace hS := hS.below hb | replace hS := (hS.below (by go_grown)).below hb | skip); obtain ⟨hc, hf, hb, hz⟩ := bstep hb (w := w) (by go_grown); try simp only [World.size_alloc, World.size_setCell, World.size_drew] at hc hf hz)
    | (go_at_call 58; refine Calls.mono (sall_any _ _ (hS.below (by go_grown))) ?_; rintro e w' ⟨rfl, hb⟩; (first | replace hS := hS.below hb | replace hS := (hS.below (by go_grown)).below hb | skip); obtain ⟨hc, hf, hb, hz⟩ := bstep hb (w := w) (by go_grown); try simp only [World.size_alloc, World.size_setCell, World.size_drew] at hc hf hz)
    | (go_at_call 81; refine Calls.mono (has_any _ _ _ hwm) ?_; rintro e w' ⟨rfl, hb⟩; (first | replace hS := hS.below hb | replace hS := (hS.below (by go_grown)).below hb | skip); obtain ⟨hc, hf, hb, hz⟩ := bstep hb (w := w) (by go_grown); try simp only [World.size_alloc, World.size_setCell, World.size_drew] at hc hf hz)
    | (go_at_call 82; refine Calls.mono (with_any _ _ _ hm) ?_; rintro e w' ⟨rfl, hb⟩; (first | replace hS := hS.below hb | replace hS := (hS.below (by go_grown)).below hb | skip); obtain ⟨hc, hf, hb, hz⟩ := bstep hb (w := w) (by go_grown); try simp only [World.size_alloc, World.size_setCell, World.size_drew] at hc hf hz)
        )
        go_region
        go_wp2
        refine bodyPost_ret (by simp [results, Tryd.results69, go_sem, *]; try rfl) rfl ?_
        exact ⟨by rw [hE.out.1, hE.out.2, hh]; rfl, by go_grown⟩

theorem sempty_any (st cl fr : Int) (w : World) (hk : OkS st) (hS : Sz w) :
    Calls Tryd.prog 39 #[.agg #[.int .i64 st, .int .i64 cl, .int .u32 fr]] w fun e w' => e = .returned (.bool (emptyB st cl fr)) ∧ Below w.heap.size w w' := by
  cases hu : useB st
  all_goals
    go_enter Tryd.func39, Tryd.ntmps39
    go_wp2_with fail
    refine wp_region_plus (by kernel_rfl) (by kernel_rfl) fun hpc => ?_
    repeat (first | go_big_quiet_step ((first | (go_at_call 57; exact quiet_plus (sin_any _ _ _ _ hk)) | (go_at_call 58; exact quiet_plus (sall_any _ _ ((hS.below (by go_grown)).below (plus_below _ _)))))) | quiet_step ((first | (go_at_call 57; exact quiet_plus (sin_any _ _ _ _ hk)) | (go_at_call 58; exact quiet_plus (sall_any _ _ ((hS.below (by go_grown)).below (plus_below _ _)))))))
    refine wpQuiet_nil ?_
    intro w' hbq
    clear hpc
    obtain ⟨hc, hf, hb, hz⟩ := bstep hbq (w := w) (by go_grown)
    try simp only [World.size_alloc, World.size_setCell, World.size_drew] at hc hf hz
    go_wp2
    go_returns
    exact ⟨ret_bool (by simp [emptyB, hu]), by go_grown⟩
theorem right_zero (cl fr : Int) : rightB 0 cl fr = (decide (cl = 0) && decide (fr = 0)) := by simp [rightB]
theorem right_else {st : Int} (cl fr : Int) (h : ¬ st = 0) : rightB st cl fr = (useB st && (clB cl && smallB cl fr)) := by simp [rightB, h]
end Go.Proofs.YtjoepiopigmmnaaDoor
