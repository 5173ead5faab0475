/- SpanRights: for every span span.Right, and for every class span.New, answer as the document says. No condition; the tables that the code reads are tied to the program's text. -/
import Derived.Test.YtgfocbldhhmehaaDoorRows
import Derived.Test.YtgfocbldhhmehaaDoorCards
import Derived.Test.YtgfocbldhhmehaaDoorTie
import Derived.Test.YtgfocbldhhmehaaDoorTiedBits
import Derived.Test.YtgfocbldhhmehaaDoorAwake06
import Derived.SevenTiedAt
namespace Go.Proofs.YtgfocbldhhmehaaDoor
set_option linter.unusedSimpArgs false
set_option linter.unusedVariables false
open Go.ChangeShapes Go.WideShapes Go.ChangeAt Go.RowKit Go.Joins

set_option maxHeartbeats 2000000 in
theorem rights_walk (st cl fr c : Int) (w : World) (hm : Mask fr) (hS : Sz w) (hT : Tab w) :
    Calls Tryd.prog 3 #[.agg #[.int .i64 st, .int .i64 cl, .int .u32 fr], .int .i64 c] w fun e w' => e = .returned (.bool true) ∧ Below w.heap.size w w' := by
  have hcl : clB c = true ↔ 0 ≤ c ∧ c < 4 := by simp [clB]
  by_cases hc : 0 ≤ c ∧ c ≤ 3
  · have h := hcl.2 (by omega)
    obtain ⟨e0, e1, e2⟩ := nw_yes h
    obtain ⟨c0, c1⟩ := hc
    clear hcl
    go_enter Tryd.func3, Tryd.ntmps3
    go_wp2_with fail
    refine wp_region_plus (by kernel_rfl) (by kernel_rfl) fun hpc => ?_
    repeat (first | go_big_quiet_step ((first | (go_at_call 7; exact quiet_plus (awake_any _ ((hS.below (by go_grown)).below (plus_below _ _)) ((hT.below (by go_grown)).below (plus_below _ _)))) | (go_at_call 8; exact quiet_plus (sright_any _ _ _ _ hm ((hS.below (by go_grown)).below (plus_below _ _)))) | (go_at_call 9; exact quiet_plus (rright_any _ _ _ _ hm)))) | quiet_step ((first | (go_at_call 7; exact quiet_plus (awake_any _ ((hS.below (by go_grown)).below (plus_below _ _)) ((hT.below (by go_grown)).below (plus_below _ _)))) | (go_at_call 8; exact quiet_plus (sright_any _ _ _ _ hm ((hS.below (by go_grown)).below (plus_below _ _)))) | (go_at_call 9; exact quiet_plus (rright_any _ _ _ _ hm)))))
    refine wpQuiet_nil ?_
    intro w' hbq
    clear hpc
    obtain ⟨hc, hf, hb, hz⟩ := bstep hbq (w := w) (by go_grown)
    try simp only [World.size_alloc, World.size_setCell, World.size_drew] at hc hf hz
    go_wp2_with (first
    | (go_at_call 10; refine Calls.mono (snew_any _ _ (hS.below (by go_grown))) ?_; rintro e w' ⟨rfl, hb⟩; obtain ⟨hc, hf, hb, hz⟩ := bstep hb (w := w) (by go_grown); try simp only [World.size_alloc, World.size_setCell, World.size_drew] at hc hf hz)
    )
    refine wp_region_plus (by kernel_rfl) (by kernel_rfl) fun hpc => ?_
    repeat (first | go_big_quiet_step ((first | (go_at_call 12; exact quiet_plus (rcblocks_any _ _)) | (go_at_call 11; exact quiet_plus (rwhole_any _ _)))) | quiet_step ((first | (go_at_call 12; exact quiet_plus (rcblocks_any _ _)) | (go_at_call 11; exact quiet_plus (rwhole_any _ _)))))
    refine wpQuiet_nil ?_
    intro w' hbq
    clear hpc
    obtain ⟨hc, hf, hb, hz⟩ := bstep hbq (w := w) (by go_grown)
    try simp only [World.size_alloc, World.size_setCell, World.size_drew] at hc hf hz
    go_wp2
    go_returns
    exact ⟨ret_bool (by simp), by go_grown⟩
  · have h : clB c = false := by
      cases h : clB c with
      | false => rfl
      | true => have := hcl.1 h; omega
    obtain ⟨e0, e1, e2⟩ := nw_no h
    clear hcl
    go_enter Tryd.func3, Tryd.ntmps3
    go_wp2_with fail
    refine wp_region_plus (by kernel_rfl) (by kernel_rfl) fun hpc => ?_
    repeat (first | go_big_quiet_step ((first | (go_at_call 7; exact quiet_plus (awake_any _ ((hS.below (by go_grown)).below (plus_below _ _)) ((hT.below (by go_grown)).below (plus_below _ _)))) | (go_at_call 8; exact quiet_plus (sright_any _ _ _ _ hm ((hS.below (by go_grown)).below (plus_below _ _)))) | (go_at_call 9; exact quiet_plus (rright_any _ _ _ _ hm)))) | quiet_step ((first | (go_at_call 7; exact quiet_plus (awake_any _ ((hS.below (by go_grown)).below (plus_below _ _)) ((hT.below (by go_grown)).below (plus_below _ _)))) | (go_at_call 8; exact quiet_plus (sright_any _ _ _ _ hm ((hS.below (by go_grown)).below (plus_below _ _)))) | (go_at_call 9; exact quiet_plus (rright_any _ _ _ _ hm)))))
    refine wpQuiet_nil ?_
    intro w' hbq
    clear hpc
    obtain ⟨hc, hf, hb, hz⟩ := bstep hbq (w := w) (by go_grown)
    try simp only [World.size_alloc, World.size_setCell, World.size_drew] at hc hf hz
    go_wp2_with (first
    | (go_at_call 10; refine Calls.mono (snew_any _ _ (hS.below (by go_grown))) ?_; rintro e w' ⟨rfl, hb⟩; obtain ⟨hc, hf, hb, hz⟩ := bstep hb (w := w) (by go_grown); try simp only [World.size_alloc, World.size_setCell, World.size_drew] at hc hf hz)
    )
    all_goals
      first
      | omega
      | (go_returns
         exact ⟨ret_bool (by simp), by go_grown⟩)

namespace SpanRights
/-- What the row lists. -/
def lists : List (String × DataW Unit) := [("flotsam/class.sizes", Rows.laid_flotsam_class_sizes), ("math/bits.deBruijn32tab", Rows.laid_math_bits_deBruijn32tab)]
set_option maxRecDepth 100000 in
theorem lifted (os : Os) (started : os.Started) (H : Type) (enc : TypeId × Value → H) :
    ReturnsInHanded {} Tryd.checked os 3 .any (fun w args => (Rows.spanRightsSpec.pre enc Tryd.prog Tryd.f3 Rows.spanRightsRow.domain false w args ∧ laidMetH Tryd.prog lists w) ∧ sizedMet enc Tryd.prog Tryd.f3 (OpenSpec.ofChange Rows.spanRightsSpec) false w args) (Rows.spanRightsSpec.post enc Tryd.prog Tryd.f3 false true false false) := by
  refine law_lifted_laid (C := Tryd.checked) seat_own started (by kernel_rfl) Tryd.func3 (by kernel_rfl) (of_decide_eq_true (by kernel_rfl)) rfl
    (fun ds hd => by have hd' : ds.length = 2 := hd; match ds, hd' with | [d0, d1], _ => rfl) rfl Tryd.underlying4
    (ChangeSpec.witness_shaped (enc := enc) (C := Tryd.checked) (os := os) (X := fun w _ => laidMetH Tryd.prog lists w) false (World.laidAll Tryd.prog os lists) #[.agg #[.int .i64 0, .int .i64 0, .int .u32 0], .int .i64 0] 8 (World.laidAll_os _ _ _)
      (World.shaped_of_ZipB (by kernel_rfl) (by kernel_rfl)) (by kernel_rfl) (by kernel_rfl) (by kernel_rfl)
      (by rw [MakeChecks.laidMetH_plain _ _ _ (by kernel_rfl)]; exact laidMet_laidAll _ (by kernel_rfl) (by kernel_rfl))) ?_
  intro W base args ds p hval hA hlt hL
  have hS : Sz W := sizes_of hL (by kernel_rfl) rfl
  have hT : Tab W := tab_of hL (by kernel_rfl) rfl
  rw [Tryd.params3] at hA hval
  obtain ⟨v0, v1, d0, d1, p0, p1, rfl, rfl, rfl, h0, h1⟩ := trodAll_two hA
  obtain ⟨⟨st0, cl0, fr0⟩, rfl, hs0⟩ := open_span Tryd.underlying24 (by kernel_rfl) (by kernel_rfl) (by kernel_rfl) (by kernel_rfl) (by kernel_rfl) (hval 0 24 v0 rfl rfl) h0
  obtain ⟨a1, rfl, ha1⟩ := open_i64 Tryd.underlying3 (hval 1 3 v1 rfl rfl) h1
  exact rights_walk st0 cl0 fr0 a1 W hs0.2.2 hS hT

theorem row_holds : Rows.SpanRightsSaid :=
  OpenClaim.holds_of_wide 3 Tryd.f3 rfl rfl rfl rfl rfl rfl rfl ⟨rfl, rfl, rfl, rfl, rfl⟩ rfl rfl rfl rfl rfl (by kernel_rfl) Tryd.func3 (by kernel_rfl)
    (of_decide_eq_true (by kernel_rfl)) (by unfold Func.isWrapper; first | (rw [if_pos (by decide +kernel)]; kernel_rfl) | (rw [if_neg (by decide +kernel)]; exact ⟨rfl, rfl⟩))
    (fun os started H enc _ => lifted os started H enc)
/-- The tied card. -/
theorem holds : Rows.SpanRightsCardSaid :=
  Claim7.holds_tied_plain_at .later [] [.data, .data] true (true, "f801c81b679f1303e47c25da064898653829fc9df9a9951c81c10b4a3a0db282") false row_holds (fun _ h => by cases h) (by kernel_rfl) (fun _ h => by cases h) spanRights_row_tie rfl ⟨rfl, rfl⟩ (by kernel_rfl) rfl
    (fun f fn hf hfn => by
      obtain rfl : f = 3 := Option.some.inj ((show Tryd.prog.funcNamed "flotsam/flotsamlaw06.SpanRights" = some 3 by kernel_rfl).symm.trans hf) |>.symm
      obtain rfl : fn = Tryd.f3 := (Option.some.inj (Tryd.func3.symm.trans hfn)).symm
      exact ⟨by kernel_rfl, fun j t ht => by
        rw [Tryd.params3] at ht
        have hm : t ∈ [24, 3] := by simpa using Array.mem_of_getElem? ht
        have hall : ([24, 3].all fun u => !Tryd.prog.wantsStandIn u) = true := by kernel_rfl
        exact (show Tryd.prog.wantsStandIn t = false by simpa using List.all_eq_true.1 hall t hm)⟩)
    (by kernel_rfl)
#print axioms holds
end SpanRights
end Go.Proofs.YtgfocbldhhmehaaDoor
