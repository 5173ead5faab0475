/- SpanAsks: for every right span and every index, span.Take, span.Give, span.Full, span.Empty and span.Used answer as the document says. No condition; the tables that the code reads are tied to the program's text. -/
import Derived.Test.YtgfocbldhhmehaaDoorRows
import Derived.Test.YtgfocbldhhmehaaDoorCards
import Derived.Test.YtgfocbldhhmehaaDoorTie
import Derived.Test.YtgfocbldhhmehaaDoorTiedBits
import Derived.Test.YtgfocbldhhmehaaDoorAwake06
import Derived.SevenTiedAt
namespace Go.Proofs.YtgfocbldhhmehaaDoor
set_option linter.unusedSimpArgs false
set_option linter.unusedVariables false
open Go.ChangeShapes Go.WideShapes Go.ChangeAt Go.RowKit Go.Joins

theorem asks_full {fr : Int} (hm : Mask fr) : (countW fr == 0) = (fr == 0) := by
  rw [Bool.eq_iff_iff, beq_iff_eq, beq_iff_eq]
  exact count_zero hm
theorem asks_empty {cl fr : Int} (hm : Mask fr) (hs : smallB cl fr = true) : (countW fr == blW cl) = (fr == wholeW (blW cl)) := by
  rw [Bool.eq_iff_iff, beq_iff_eq, beq_iff_eq]
  exact count_whole hm hs
set_option maxHeartbeats 4000000 in
set_option maxRecDepth 20000 in
theorem asks_walk (st cl fr i : Int) (w : World) (hm : Mask fr) (hS : Sz w) (hT : Tab w) :
    Calls Tryd.prog 4 #[.agg #[.int .i64 st, .int .i64 cl, .int .u32 fr], .int .i64 i] w fun e w' => e = .returned (.bool true) ∧ Below w.heap.size w w' := by
  cases hr : rightB st cl fr with
  | false =>
    go_enter Tryd.func4, Tryd.ntmps4
    go_wp2_with (first
    | (go_at_call 7; refine Calls.mono (awake_any _ (hS.below (by go_grown)) (hT.below (by go_grown))) ?_; rintro e w' ⟨rfl, hb⟩; obtain ⟨hc, hf, hb, hz⟩ := bstep hb (w := w) (by go_grown); try simp only [World.size_alloc, World.size_setCell, World.size_drew] at hc hf hz)
    | (go_at_call 9; refine Calls.mono (rright_any _ _ _ _ hm) ?_; rintro e w' ⟨rfl, hb⟩; obtain ⟨hc, hf, hb, hz⟩ := bstep hb (w := w) (by go_grown); try simp only [World.size_alloc, World.size_setCell, World.size_drew] at hc hf hz)
    )
    go_returns
    exact ⟨rfl, by go_grown⟩
  | true =>
    have hb := bl_bound cl
    have hc : 0 ≤ countW fr ∧ countW fr ≤ 32 := cntTo_bound (hasB fr) 32
    obtain ⟨b0, b1⟩ := hb
    obtain ⟨c0, c1⟩ := hc
    have hF := asks_full hm
    have hR : Hid (rightB st cl fr = true) := hr
    have hk : OkS st := right_ok hr
    cases hu : useB st with
    | true =>
      have hs : smallB cl fr = true := by
        rcases right_iff.1 hr with ⟨rfl, -⟩ | ⟨-, -, -, h⟩
        · cases hu
        · exact h
      have hE := asks_empty hm hs
      clear hs
      have u1 : fullB st fr = (fr == 0) := by simp [fullB, hu]
      have u2 : emptyB st cl fr = (fr == wholeW (blW cl)) := by simp [emptyB, hu]
      have u3 : usedN st cl fr = blW cl - countW fr := by simp [usedN, hu]
      go_enter Tryd.func4, Tryd.ntmps4
      go_wp2_with (first
    | (go_at_call 7; refine Calls.mono (awake_any _ (hS.below (by go_grown)) (hT.below (by go_grown))) ?_; rintro e w' ⟨rfl, hb⟩; obtain ⟨hc, hf, hb, hz⟩ := bstep hb (w := w) (by go_grown); try simp only [World.size_alloc, World.size_setCell, World.size_drew] at hc hf hz)
    | (go_at_call 9; refine Calls.mono (rright_any _ _ _ _ hm) ?_; rintro e w' ⟨rfl, hb⟩; obtain ⟨hc, hf, hb, hz⟩ := bstep hb (w := w) (by go_grown); try simp only [World.size_alloc, World.size_setCell, World.size_drew] at hc hf hz)
    | (go_at_call 13; refine Calls.mono (stake_any _ _ _ _ hm (hT.below (by go_grown))) ?_; rintro e w' ⟨rfl, hb⟩; obtain ⟨hc, hf, hb, hz⟩ := bstep hb (w := w) (by go_grown); try simp only [World.size_alloc, World.size_setCell, World.size_drew] at hc hf hz)
    | (go_at_call 14; refine Calls.mono (rtake_any _ _ _ _ hm hR.out) ?_; rintro e w' ⟨rfl, hb⟩; obtain ⟨hc, hf, hb, hz⟩ := bstep hb (w := w) (by go_grown); try simp only [World.size_alloc, World.size_setCell, World.size_drew] at hc hf hz)
    | (go_at_call 15; refine Calls.mono (sgive_any _ _ _ _ _ (by assumption) hm (hS.below (by go_grown))) ?_; rintro e w' ⟨rfl, hb⟩; obtain ⟨hc, hf, hb, hz⟩ := bstep hb (w := w) (by go_grown); try simp only [World.size_alloc, World.size_setCell, World.size_drew] at hc hf hz)
    | (go_at_call 16; refine Calls.mono (rgive_any _ _ _ _ _ hm) ?_; rintro e w' ⟨rfl, hb⟩; obtain ⟨hc, hf, hb, hz⟩ := bstep hb (w := w) (by go_grown); try simp only [World.size_alloc, World.size_setCell, World.size_drew] at hc hf hz)
    | (go_at_call 12; refine Calls.mono (rcblocks_any _ _) ?_; rintro e w' ⟨rfl, hb⟩; obtain ⟨hc, hf, hb, hz⟩ := bstep hb (w := w) (by go_grown); try simp only [World.size_alloc, World.size_setCell, World.size_drew] at hc hf hz)
    | (go_at_call 17; refine Calls.mono (ruse_any _ _ _ _) ?_; rintro e w' ⟨rfl, hb⟩; obtain ⟨hc, hf, hb, hz⟩ := bstep hb (w := w) (by go_grown); try simp only [World.size_alloc, World.size_setCell, World.size_drew] at hc hf hz)
    | (go_at_call 18; refine Calls.mono (rfree_any _ _ _ _ hm) ?_; rintro e w' ⟨rfl, hb⟩; obtain ⟨hc, hf, hb, hz⟩ := bstep hb (w := w) (by go_grown); try simp only [World.size_alloc, World.size_setCell, World.size_drew] at hc hf hz)
      )
      refine wp_region_plus (by kernel_rfl) (by kernel_rfl) fun hpc => ?_
      repeat (first | go_big_quiet_step ((first | (go_at_call 19; exact quiet_plus (sfull_any _ _ _ _ (by assumption))) | (go_at_call 17; exact quiet_plus (ruse_any _ _ _ _)) | (go_at_call 18; exact quiet_plus (rfree_any _ _ _ _ hm)) | (go_at_call 20; exact quiet_plus (sempty_any _ _ _ _ (by assumption) ((hS.below (by go_grown)).below (plus_below _ _)))) | (go_at_call 21; exact quiet_plus (sused_any _ _ _ _ (by assumption) hm ((hS.below (by go_grown)).below (plus_below _ _)))))) | quiet_step ((first | (go_at_call 19; exact quiet_plus (sfull_any _ _ _ _ (by assumption))) | (go_at_call 17; exact quiet_plus (ruse_any _ _ _ _)) | (go_at_call 18; exact quiet_plus (rfree_any _ _ _ _ hm)) | (go_at_call 20; exact quiet_plus (sempty_any _ _ _ _ (by assumption) ((hS.below (by go_grown)).below (plus_below _ _)))) | (go_at_call 21; exact quiet_plus (sused_any _ _ _ _ (by assumption) hm ((hS.below (by go_grown)).below (plus_below _ _)))))))
      refine wpQuiet_nil ?_
      intro w' hbq
      clear hpc
      obtain ⟨hc, hf, hb, hz⟩ := bstep hbq (w := w) (by go_grown)
      try simp only [World.size_alloc, World.size_setCell, World.size_drew] at hc hf hz
      go_wp2
      go_returns
      exact ⟨ret_bool (by simp), by go_grown⟩
    | false =>
      obtain ⟨rfl, rfl, rfl⟩ : st = 0 ∧ cl = 0 ∧ fr = 0 := by
        rcases right_iff.1 hr with h | ⟨h, -⟩
        · exact h
        · rw [(use_iff st).2 h] at hu; cases hu
      have u1 : fullB 0 0 = false := rfl
      have u2 : emptyB 0 0 0 = false := rfl
      have u3 : usedN 0 0 0 = 0 := rfl
      go_enter Tryd.func4, Tryd.ntmps4
      go_wp2_with (first
    | (go_at_call 7; refine Calls.mono (awake_any _ (hS.below (by go_grown)) (hT.below (by go_grown))) ?_; rintro e w' ⟨rfl, hb⟩; obtain ⟨hc, hf, hb, hz⟩ := bstep hb (w := w) (by go_grown); try simp only [World.size_alloc, World.size_setCell, World.size_drew] at hc hf hz)
    | (go_at_call 9; refine Calls.mono (rright_any _ _ _ _ hm) ?_; rintro e w' ⟨rfl, hb⟩; obtain ⟨hc, hf, hb, hz⟩ := bstep hb (w := w) (by go_grown); try simp only [World.size_alloc, World.size_setCell, World.size_drew] at hc hf hz)
    | (go_at_call 13; refine Calls.mono (stake_any _ _ _ _ hm (hT.below (by go_grown))) ?_; rintro e w' ⟨rfl, hb⟩; obtain ⟨hc, hf, hb, hz⟩ := bstep hb (w := w) (by go_grown); try simp only [World.size_alloc, World.size_setCell, World.size_drew] at hc hf hz)
    | (go_at_call 14; refine Calls.mono (rtake_any _ _ _ _ hm hR.out) ?_; rintro e w' ⟨rfl, hb⟩; obtain ⟨hc, hf, hb, hz⟩ := bstep hb (w := w) (by go_grown); try simp only [World.size_alloc, World.size_setCell, World.size_drew] at hc hf hz)
    | (go_at_call 15; refine Calls.mono (sgive_any _ _ _ _ _ (by assumption) hm (hS.below (by go_grown))) ?_; rintro e w' ⟨rfl, hb⟩; obtain ⟨hc, hf, hb, hz⟩ := bstep hb (w := w) (by go_grown); try simp only [World.size_alloc, World.size_setCell, World.size_drew] at hc hf hz)
    | (go_at_call 16; refine Calls.mono (rgive_any _ _ _ _ _ hm) ?_; rintro e w' ⟨rfl, hb⟩; obtain ⟨hc, hf, hb, hz⟩ := bstep hb (w := w) (by go_grown); try simp only [World.size_alloc, World.size_setCell, World.size_drew] at hc hf hz)
    | (go_at_call 12; refine Calls.mono (rcblocks_any _ _) ?_; rintro e w' ⟨rfl, hb⟩; obtain ⟨hc, hf, hb, hz⟩ := bstep hb (w := w) (by go_grown); try simp only [World.size_alloc, World.size_setCell, World.size_drew] at hc hf hz)
    | (go_at_call 17; refine Calls.mono (ruse_any _ _ _ _) ?_; rintro e w' ⟨rfl, hb⟩; obtain ⟨hc, hf, hb, hz⟩ := bstep hb (w := w) (by go_grown); try simp only [World.size_alloc, World.size_setCell, World.size_drew] at hc hf hz)
    | (go_at_call 18; refine Calls.mono (rfree_any _ _ _ _ hm) ?_; rintro e w' ⟨rfl, hb⟩; obtain ⟨hc, hf, hb, hz⟩ := bstep hb (w := w) (by go_grown); try simp only [World.size_alloc, World.size_setCell, World.size_drew] at hc hf hz)
      )
      refine wp_region_plus (by kernel_rfl) (by kernel_rfl) fun hpc => ?_
      repeat (first | go_big_quiet_step ((first | (go_at_call 19; exact quiet_plus (sfull_any _ _ _ _ (by assumption))) | (go_at_call 17; exact quiet_plus (ruse_any _ _ _ _)) | (go_at_call 18; exact quiet_plus (rfree_any _ _ _ _ hm)) | (go_at_call 20; exact quiet_plus (sempty_any _ _ _ _ (by assumption) ((hS.below (by go_grown)).below (plus_below _ _)))) | (go_at_call 21; exact quiet_plus (sused_any _ _ _ _ (by assumption) hm ((hS.below (by go_grown)).below (plus_below _ _)))))) | quiet_step ((first | (go_at_call 19; exact quiet_plus (sfull_any _ _ _ _ (by assumption))) | (go_at_call 17; exact quiet_plus (ruse_any _ _ _ _)) | (go_at_call 18; exact quiet_plus (rfree_any _ _ _ _ hm)) | (go_at_call 20; exact quiet_plus (sempty_any _ _ _ _ (by assumption) ((hS.below (by go_grown)).below (plus_below _ _)))) | (go_at_call 21; exact quiet_plus (sused_any _ _ _ _ (by assumption) hm ((hS.below (by go_grown)).below (plus_below _ _)))))))
      refine wpQuiet_nil ?_
      intro w' hbq
      clear hpc
      obtain ⟨hc, hf, hb, hz⟩ := bstep hbq (w := w) (by go_grown)
      try simp only [World.size_alloc, World.size_setCell, World.size_drew] at hc hf hz
      go_wp2
      go_returns
      exact ⟨ret_bool (by simp), by go_grown⟩

namespace SpanAsks
/-- What the row lists. -/
def lists : List (String × DataW Unit) := [("flotsam/class.sizes", Rows.laid_flotsam_class_sizes), ("math/bits.deBruijn32tab", Rows.laid_math_bits_deBruijn32tab)]
set_option maxRecDepth 100000 in
theorem lifted (os : Os) (started : os.Started) (H : Type) (enc : TypeId × Value → H) :
    ReturnsInHanded {} Tryd.checked os 4 .any (fun w args => (Rows.spanAsksSpec.pre enc Tryd.prog Tryd.f4 Rows.spanAsksRow.domain false w args ∧ laidMetH Tryd.prog lists w) ∧ sizedMet enc Tryd.prog Tryd.f4 (OpenSpec.ofChange Rows.spanAsksSpec) false w args) (Rows.spanAsksSpec.post enc Tryd.prog Tryd.f4 false true false false) := by
  refine law_lifted_laid (C := Tryd.checked) seat_own started (by kernel_rfl) Tryd.func4 (by kernel_rfl) (of_decide_eq_true (by kernel_rfl)) rfl
    (fun ds hd => by have hd' : ds.length = 2 := hd; match ds, hd' with | [d0, d1], _ => rfl) rfl Tryd.underlying4
    (ChangeSpec.witness_shaped (enc := enc) (C := Tryd.checked) (os := os) (X := fun w _ => laidMetH Tryd.prog lists w) false (World.laidAll Tryd.prog os lists) #[.agg #[.int .i64 0, .int .i64 0, .int .u32 0], .int .i64 0] 8 (World.laidAll_os _ _ _)
      (World.shaped_of_ZipB (by kernel_rfl) (by kernel_rfl)) (by kernel_rfl) (by kernel_rfl) (by kernel_rfl)
      (by rw [MakeChecks.laidMetH_plain _ _ _ (by kernel_rfl)]; exact laidMet_laidAll _ (by kernel_rfl) (by kernel_rfl))) ?_
  intro W base args ds p hval hA hlt hL
  have hS : Sz W := sizes_of hL (by kernel_rfl) rfl
  have hT : Tab W := tab_of hL (by kernel_rfl) rfl
  rw [Tryd.params4] at hA hval
  obtain ⟨v0, v1, d0, d1, p0, p1, rfl, rfl, rfl, h0, h1⟩ := trodAll_two hA
  obtain ⟨⟨st0, cl0, fr0⟩, rfl, hs0⟩ := open_span Tryd.underlying24 (by kernel_rfl) (by kernel_rfl) (by kernel_rfl) (by kernel_rfl) (by kernel_rfl) (hval 0 24 v0 rfl rfl) h0
  obtain ⟨a1, rfl, ha1⟩ := open_i64 Tryd.underlying3 (hval 1 3 v1 rfl rfl) h1
  exact asks_walk st0 cl0 fr0 a1 W hs0.2.2 hS hT

theorem row_holds : Rows.SpanAsksSaid :=
  OpenClaim.holds_of_wide 4 Tryd.f4 rfl rfl rfl rfl rfl rfl rfl ⟨rfl, rfl, rfl, rfl, rfl⟩ rfl rfl rfl rfl rfl (by kernel_rfl) Tryd.func4 (by kernel_rfl)
    (of_decide_eq_true (by kernel_rfl)) (by unfold Func.isWrapper; first | (rw [if_pos (by decide +kernel)]; kernel_rfl) | (rw [if_neg (by decide +kernel)]; exact ⟨rfl, rfl⟩))
    (fun os started H enc _ => lifted os started H enc)
/-- The tied card. -/
theorem holds : Rows.SpanAsksCardSaid :=
  Claim7.holds_tied_plain_at .later [] [.data, .data] true (true, "f801c81b679f1303e47c25da064898653829fc9df9a9951c81c10b4a3a0db282") false row_holds (fun _ h => by cases h) (by kernel_rfl) (fun _ h => by cases h) spanAsks_row_tie rfl ⟨rfl, rfl⟩ (by kernel_rfl) rfl
    (fun f fn hf hfn => by
      obtain rfl : f = 4 := Option.some.inj ((show Tryd.prog.funcNamed "flotsam/flotsamlaw06.SpanAsks" = some 4 by kernel_rfl).symm.trans hf) |>.symm
      obtain rfl : fn = Tryd.f4 := (Option.some.inj (Tryd.func4.symm.trans hfn)).symm
      exact ⟨by kernel_rfl, fun j t ht => by
        rw [Tryd.params4] at ht
        have hm : t ∈ [24, 3] := by simpa using Array.mem_of_getElem? ht
        have hall : ([24, 3].all fun u => !Tryd.prog.wantsStandIn u) = true := by kernel_rfl
        exact (show Tryd.prog.wantsStandIn t = false by simpa using List.all_eq_true.1 hall t hm)⟩)
    (by kernel_rfl)
#print axioms holds
end SpanAsks
end Go.Proofs.YtgfocbldhhmehaaDoor
