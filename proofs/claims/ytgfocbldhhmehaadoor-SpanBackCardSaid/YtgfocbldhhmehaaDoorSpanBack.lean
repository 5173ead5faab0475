/- SpanBack: of every right span, a block that is taken and given back leaves the span as it was, and two unlike blocks given back in either order make the same span. No condition; the tables that the code reads are tied to the program's text. -/
import Derived.Test.YtgfocbldhhmehaaDoorRows
import Derived.Test.YtgfocbldhhmehaaDoorCards
import Derived.Test.YtgfocbldhhmehaaDoorTie
import Derived.Test.YtgfocbldhhmehaaDoorTiedBits
import Derived.Test.YtgfocbldhhmehaaDoorAwake06
import Derived.SevenTiedAt
import Derived.Deep.Cut
namespace Go.Proofs.YtgfocbldhhmehaaDoor
set_option linter.unusedSimpArgs false
set_option linter.unusedVariables false
open Go.ChangeShapes Go.WideShapes Go.ChangeAt Go.RowKit Go.Joins

set_option maxHeartbeats 4000000 in
set_option maxRecDepth 20000 in
theorem back_walk (st cl fr a b : Int) (w : World) (hm : Mask fr) (hS : Sz w) (hT : Tab w) :
    Calls Tryd.prog 6 #[.agg #[.int .i64 st, .int .i64 cl, .int .u32 fr], .int .i64 a, .int .i64 b] w fun e w' => e = .returned (.bool true) ∧ Below w.heap.size w w' := by
  cases hr : rightB st cl fr with
  | false =>
    go_enter Tryd.func6, Tryd.ntmps6
    go_wp2_with (first
    | (go_at_call 7; refine Calls.mono (awake_any _ (hS.below (by go_grown)) (hT.below (by go_grown))) ?_; rintro e w' ⟨rfl, hb⟩; obtain ⟨hc, hf, hb, hz⟩ := bstep hb (w := w) (by go_grown); try simp only [World.size_alloc, World.size_setCell, World.size_drew] at hc hf hz)
    | (go_at_call 9; refine Calls.mono (rright_any _ _ _ _ hm) ?_; rintro e w' ⟨rfl, hb⟩; obtain ⟨hc, hf, hb, hz⟩ := bstep hb (w := w) (by go_grown); try simp only [World.size_alloc, World.size_setCell, World.size_drew] at hc hf hz)
    )
    go_returns
    exact ⟨rfl, by go_grown⟩
  | true =>
    have hk : OkS st := right_ok hr
    have hga : Mask (giveF st cl fr a) := mask_give hm
    have hgb : Mask (giveF st cl fr b) := mask_give hm
    have hab : Hid (¬ a = b → giveB st cl (giveF st cl fr b) a = giveB st cl fr a ∧ giveB st cl (giveF st cl fr a) b = giveB st cl fr b ∧ giveF st cl (giveF st cl fr a) b = giveF st cl (giveF st cl fr b) a) := give_give hm
    cases ht : takeB st fr with
    | false =>
      by_cases e : a = b
      · subst e
        go_enter Tryd.func6, Tryd.ntmps6
        go_wp2_with (first
    | (go_at_call 7; refine Calls.mono (awake_any _ (hS.below (by go_grown)) (hT.below (by go_grown))) ?_; rintro e w' ⟨rfl, hb⟩; obtain ⟨hc, hf, hb, hz⟩ := bstep hb (w := w) (by go_grown); try simp only [World.size_alloc, World.size_setCell, World.size_drew] at hc hf hz)
    | (go_at_call 9; refine Calls.mono (rright_any _ _ _ _ hm) ?_; rintro e w' ⟨rfl, hb⟩; obtain ⟨hc, hf, hb, hz⟩ := bstep hb (w := w) (by go_grown); try simp only [World.size_alloc, World.size_setCell, World.size_drew] at hc hf hz)
    | (go_at_call 13; refine Calls.mono (stake_any _ _ _ _ hm (hT.below (by go_grown))) ?_; rintro e w' ⟨rfl, hb⟩; obtain ⟨hc, hf, hb, hz⟩ := bstep hb (w := w) (by go_grown); try simp only [World.size_alloc, World.size_setCell, World.size_drew] at hc hf hz)
    | (go_at_call 15; refine Calls.mono (sgive_any _ _ _ _ _ (by assumption) (by assumption) (hS.below (by go_grown))) ?_; rintro e w' ⟨rfl, hb⟩; obtain ⟨hc, hf, hb, hz⟩ := bstep hb (w := w) (by go_grown); try simp only [World.size_alloc, World.size_setCell, World.size_drew] at hc hf hz)
        )
        go_returns
        exact ⟨ret_bool (by simp), by go_grown⟩
      · obtain ⟨e1, e2, e3⟩ := hab.out e
        go_enter Tryd.func6, Tryd.ntmps6
        go_wp2_with (first
    | (go_at_call 7; refine Calls.mono (awake_any _ (hS.below (by go_grown)) (hT.below (by go_grown))) ?_; rintro e w' ⟨rfl, hb⟩; obtain ⟨hc, hf, hb, hz⟩ := bstep hb (w := w) (by go_grown); try simp only [World.size_alloc, World.size_setCell, World.size_drew] at hc hf hz)
    | (go_at_call 9; refine Calls.mono (rright_any _ _ _ _ hm) ?_; rintro e w' ⟨rfl, hb⟩; obtain ⟨hc, hf, hb, hz⟩ := bstep hb (w := w) (by go_grown); try simp only [World.size_alloc, World.size_setCell, World.size_drew] at hc hf hz)
    | (go_at_call 13; refine Calls.mono (stake_any _ _ _ _ hm (hT.below (by go_grown))) ?_; rintro e w' ⟨rfl, hb⟩; obtain ⟨hc, hf, hb, hz⟩ := bstep hb (w := w) (by go_grown); try simp only [World.size_alloc, World.size_setCell, World.size_drew] at hc hf hz)
    | (go_at_call 15; refine Calls.mono (sgive_any _ _ _ _ _ (by assumption) (by assumption) (hS.below (by go_grown))) ?_; rintro e w' ⟨rfl, hb⟩; obtain ⟨hc, hf, hb, hz⟩ := bstep hb (w := w) (by go_grown); try simp only [World.size_alloc, World.size_setCell, World.size_drew] at hc hf hz)
        )
        go_returns
        exact ⟨ret_bool (by simp), by go_grown⟩
    | true =>
      obtain ⟨g0, g1, g2⟩ := give_back hr hm ht
      have e1 : takeI st fr = leastW fr := by unfold takeI; rw [if_pos ht]
      have e2 : takeF st fr = woutW fr (leastW fr) := by unfold takeF; rw [if_pos ht]
      have g3 : giveF st cl (woutW fr (leastW fr)) (leastW fr) = fr := by unfold giveF; rw [if_pos g0, g1]
      have hmt : Mask (woutW fr (leastW fr)) := mask_wout _ _
      obtain ⟨-, c0, c1, -⟩ := take_spec hr hm ht
      have hc : 0 ≤ countW (woutW fr (leastW fr)) ∧ countW (woutW fr (leastW fr)) ≤ 32 := cntTo_bound _ 32
      have hb := bl_bound cl
      obtain ⟨b0, b1⟩ := hb
      obtain ⟨n0, n1⟩ := hc
      have hu : useB st = true := by
        simp only [takeB, Bool.and_eq_true, decide_eq_true_eq] at ht
        simp [useB, ht.1]
      have u1 : usedN st cl fr = blW cl - (countW (woutW fr (leastW fr)) + 1) := by simp [usedN, hu, g2]
      have u2 : usedN st cl (woutW fr (leastW fr)) = blW cl - countW (woutW fr (leastW fr)) := by simp [usedN, hu]
      clear g1 g2
      by_cases e : a = b
      · subst e
        go_enter Tryd.func6, Tryd.ntmps6
        go_upto_region 6 with (first
    | (go_at_call 7; refine Calls.mono (awake_any _ (hS.below (by go_grown)) (hT.below (by go_grown))) ?_; rintro e w' ⟨rfl, hb⟩; obtain ⟨hc, hf, hb, hz⟩ := bstep hb (w := w) (by go_grown); try simp only [World.size_alloc, World.size_setCell, World.size_drew] at hc hf hz)
    | (go_at_call 9; refine Calls.mono (rright_any _ _ _ _ hm) ?_; rintro e w' ⟨rfl, hb⟩; obtain ⟨hc, hf, hb, hz⟩ := bstep hb (w := w) (by go_grown); try simp only [World.size_alloc, World.size_setCell, World.size_drew] at hc hf hz)
    | (go_at_call 13; refine Calls.mono (stake_any _ _ _ _ hm (hT.below (by go_grown))) ?_; rintro e w' ⟨rfl, hb⟩; obtain ⟨hc, hf, hb, hz⟩ := bstep hb (w := w) (by go_grown); try simp only [World.size_alloc, World.size_setCell, World.size_drew] at hc hf hz)
    | (go_at_call 15; refine Calls.mono (sgive_any _ _ _ _ _ (by assumption) (by assumption) (hS.below (by go_grown))) ?_; rintro e w' ⟨rfl, hb⟩; obtain ⟨hc, hf, hb, hz⟩ := bstep hb (w := w) (by go_grown); try simp only [World.size_alloc, World.size_setCell, World.size_drew] at hc hf hz)
        )
        obtain ⟨w5, hw5⟩ : ∃ w5, w5 = w'.alloc (.cells #[.int .i64 st, .int .i64 cl, .int .u32 fr] 24) := ⟨_, rfl⟩
        have n5 : w5.cell? ⟨w'.heap.size, 0, none⟩ = some (.int .i64 st) := by rw [hw5]; go_simp
        have n6 : w5.cell? ⟨w'.heap.size, 1, none⟩ = some (.int .i64 cl) := by rw [hw5]; go_simp
        have n7 : w5.cell? ⟨w'.heap.size, 2, none⟩ = some (.int .u32 fr) := by rw [hw5]; go_simp
        have hl5 : w'.heap.size + 1 ≤ w5.heap.size := by rw [hw5]; simp
        obtain ⟨hc, hf, hb, hz⟩ := bstep (W := w') (w1 := w5) (by rw [hw5]; exact (Below.refl _ _).alloc (Nat.le_refl _) _) hb
        rw [← hw5]
        clear hw5
        refine wp_region_plus (by kernel_rfl) (by kernel_rfl) fun hpc => ?_
        repeat (first | go_big_quiet_step ((first | (go_at_call 21; exact quiet_plus (sused_any _ _ _ _ (by assumption) (by assumption) ((hS.below (by go_grown)).below (plus_below _ _)))))) | quiet_step ((first | (go_at_call 21; exact quiet_plus (sused_any _ _ _ _ (by assumption) (by assumption) ((hS.below (by go_grown)).below (plus_below _ _)))))))
        refine wpQuiet_nil ?_
        intro w' hbq
        clear hpc
        obtain ⟨hc, hf, hb, hz⟩ := bstep hbq (w := w) (by go_grown)
        try simp only [World.size_alloc, World.size_setCell, World.size_drew] at hc hf hz
        go_wp2_with (first
    | (go_at_call 7; refine Calls.mono (awake_any _ (hS.below (by go_grown)) (hT.below (by go_grown))) ?_; rintro e w' ⟨rfl, hb⟩; obtain ⟨hc, hf, hb, hz⟩ := bstep hb (w := w) (by go_grown); try simp only [World.size_alloc, World.size_setCell, World.size_drew] at hc hf hz)
    | (go_at_call 9; refine Calls.mono (rright_any _ _ _ _ hm) ?_; rintro e w' ⟨rfl, hb⟩; obtain ⟨hc, hf, hb, hz⟩ := bstep hb (w := w) (by go_grown); try simp only [World.size_alloc, World.size_setCell, World.size_drew] at hc hf hz)
    | (go_at_call 13; refine Calls.mono (stake_any _ _ _ _ hm (hT.below (by go_grown))) ?_; rintro e w' ⟨rfl, hb⟩; obtain ⟨hc, hf, hb, hz⟩ := bstep hb (w := w) (by go_grown); try simp only [World.size_alloc, World.size_setCell, World.size_drew] at hc hf hz)
    | (go_at_call 15; refine Calls.mono (sgive_any _ _ _ _ _ (by assumption) (by assumption) (hS.below (by go_grown))) ?_; rintro e w' ⟨rfl, hb⟩; obtain ⟨hc, hf, hb, hz⟩ := bstep hb (w := w) (by go_grown); try simp only [World.size_alloc, World.size_setCell, World.size_drew] at hc hf hz)
        )
        go_returns
        exact ⟨ret_bool (by simp), by go_grown⟩
      · obtain ⟨f1, f2, f3⟩ := hab.out e
        go_enter Tryd.func6, Tryd.ntmps6
        go_upto_region 6 with (first
    | (go_at_call 7; refine Calls.mono (awake_any _ (hS.below (by go_grown)) (hT.below (by go_grown))) ?_; rintro e w' ⟨rfl, hb⟩; obtain ⟨hc, hf, hb, hz⟩ := bstep hb (w := w) (by go_grown); try simp only [World.size_alloc, World.size_setCell, World.size_drew] at hc hf hz)
    | (go_at_call 9; refine Calls.mono (rright_any _ _ _ _ hm) ?_; rintro e w' ⟨rfl, hb⟩; obtain ⟨hc, hf, hb, hz⟩ := bstep hb (w := w) (by go_grown); try simp only [World.size_alloc, World.size_setCell, World.size_drew] at hc hf hz)
    | (go_at_call 13; refine Calls.mono (stake_any _ _ _ _ hm (hT.below (by go_grown))) ?_; rintro e w' ⟨rfl, hb⟩; obtain ⟨hc, hf, hb, hz⟩ := bstep hb (w := w) (by go_grown); try simp only [World.size_alloc, World.size_setCell, World.size_drew] at hc hf hz)
    | (go_at_call 15; refine Calls.mono (sgive_any _ _ _ _ _ (by assumption) (by assumption) (hS.below (by go_grown))) ?_; rintro e w' ⟨rfl, hb⟩; obtain ⟨hc, hf, hb, hz⟩ := bstep hb (w := w) (by go_grown); try simp only [World.size_alloc, World.size_setCell, World.size_drew] at hc hf hz)
        )
        obtain ⟨w5, hw5⟩ : ∃ w5, w5 = w'.alloc (.cells #[.int .i64 st, .int .i64 cl, .int .u32 fr] 24) := ⟨_, rfl⟩
        have n5 : w5.cell? ⟨w'.heap.size, 0, none⟩ = some (.int .i64 st) := by rw [hw5]; go_simp
        have n6 : w5.cell? ⟨w'.heap.size, 1, none⟩ = some (.int .i64 cl) := by rw [hw5]; go_simp
        have n7 : w5.cell? ⟨w'.heap.size, 2, none⟩ = some (.int .u32 fr) := by rw [hw5]; go_simp
        have hl5 : w'.heap.size + 1 ≤ w5.heap.size := by rw [hw5]; simp
        obtain ⟨hc, hf, hb, hz⟩ := bstep (W := w') (w1 := w5) (by rw [hw5]; exact (Below.refl _ _).alloc (Nat.le_refl _) _) hb
        rw [← hw5]
        clear hw5
        refine wp_region_plus (by kernel_rfl) (by kernel_rfl) fun hpc => ?_
        repeat (first | go_big_quiet_step ((first | (go_at_call 21; exact quiet_plus (sused_any _ _ _ _ (by assumption) (by assumption) ((hS.below (by go_grown)).below (plus_below _ _)))))) | quiet_step ((first | (go_at_call 21; exact quiet_plus (sused_any _ _ _ _ (by assumption) (by assumption) ((hS.below (by go_grown)).below (plus_below _ _)))))))
        refine wpQuiet_nil ?_
        intro w' hbq
        clear hpc
        obtain ⟨hc, hf, hb, hz⟩ := bstep hbq (w := w) (by go_grown)
        try simp only [World.size_alloc, World.size_setCell, World.size_drew] at hc hf hz
        go_wp2_with (first
    | (go_at_call 7; refine Calls.mono (awake_any _ (hS.below (by go_grown)) (hT.below (by go_grown))) ?_; rintro e w' ⟨rfl, hb⟩; obtain ⟨hc, hf, hb, hz⟩ := bstep hb (w := w) (by go_grown); try simp only [World.size_alloc, World.size_setCell, World.size_drew] at hc hf hz)
    | (go_at_call 9; refine Calls.mono (rright_any _ _ _ _ hm) ?_; rintro e w' ⟨rfl, hb⟩; obtain ⟨hc, hf, hb, hz⟩ := bstep hb (w := w) (by go_grown); try simp only [World.size_alloc, World.size_setCell, World.size_drew] at hc hf hz)
    | (go_at_call 13; refine Calls.mono (stake_any _ _ _ _ hm (hT.below (by go_grown))) ?_; rintro e w' ⟨rfl, hb⟩; obtain ⟨hc, hf, hb, hz⟩ := bstep hb (w := w) (by go_grown); try simp only [World.size_alloc, World.size_setCell, World.size_drew] at hc hf hz)
    | (go_at_call 15; refine Calls.mono (sgive_any _ _ _ _ _ (by assumption) (by assumption) (hS.below (by go_grown))) ?_; rintro e w' ⟨rfl, hb⟩; obtain ⟨hc, hf, hb, hz⟩ := bstep hb (w := w) (by go_grown); try simp only [World.size_alloc, World.size_setCell, World.size_drew] at hc hf hz)
        )
        go_returns
        exact ⟨ret_bool (by simp), by go_grown⟩

namespace SpanBack
/-- What the row lists. -/
def lists : List (String × DataW Unit) := [("flotsam/class.sizes", Rows.laid_flotsam_class_sizes), ("math/bits.deBruijn32tab", Rows.laid_math_bits_deBruijn32tab)]
set_option maxRecDepth 100000 in
theorem lifted (os : Os) (started : os.Started) (H : Type) (enc : TypeId × Value → H) :
    ReturnsInHanded {} Tryd.checked os 6 .any (fun w args => (Rows.spanBackSpec.pre enc Tryd.prog Tryd.f6 Rows.spanBackRow.domain false w args ∧ laidMetH Tryd.prog lists w) ∧ sizedMet enc Tryd.prog Tryd.f6 (OpenSpec.ofChange Rows.spanBackSpec) false w args) (Rows.spanBackSpec.post enc Tryd.prog Tryd.f6 false true false false) := by
  refine law_lifted_laid (C := Tryd.checked) seat_own started (by kernel_rfl) Tryd.func6 (by kernel_rfl) (of_decide_eq_true (by kernel_rfl)) rfl
    (fun ds hd => by have hd' : ds.length = 3 := hd; match ds, hd' with | [d0, d1, d2], _ => rfl) rfl Tryd.underlying4
    (ChangeSpec.witness_shaped (enc := enc) (C := Tryd.checked) (os := os) (X := fun w _ => laidMetH Tryd.prog lists w) false (World.laidAll Tryd.prog os lists) #[.agg #[.int .i64 0, .int .i64 0, .int .u32 0], .int .i64 0, .int .i64 0] 8 (World.laidAll_os _ _ _)
      (World.shaped_of_ZipB (by kernel_rfl) (by kernel_rfl)) (by kernel_rfl) (by kernel_rfl) (by kernel_rfl)
      (by rw [MakeChecks.laidMetH_plain _ _ _ (by kernel_rfl)]; exact laidMet_laidAll _ (by kernel_rfl) (by kernel_rfl))) ?_
  intro W base args ds p hval hA hlt hL
  have hS : Sz W := sizes_of hL (by kernel_rfl) rfl
  have hT : Tab W := tab_of hL (by kernel_rfl) rfl
  rw [Tryd.params6] at hA hval
  obtain ⟨v0, v1, v2, d0, d1, d2, p0, p1, p2, rfl, rfl, rfl, h0, h1, h2⟩ := trodAll_three hA
  obtain ⟨⟨st0, cl0, fr0⟩, rfl, hs0⟩ := open_span Tryd.underlying24 (by kernel_rfl) (by kernel_rfl) (by kernel_rfl) (by kernel_rfl) (by kernel_rfl) (hval 0 24 v0 rfl rfl) h0
  obtain ⟨a1, rfl, ha1⟩ := open_i64 Tryd.underlying3 (hval 1 3 v1 rfl rfl) h1
  obtain ⟨a2, rfl, ha2⟩ := open_i64 Tryd.underlying3 (hval 2 3 v2 rfl rfl) h2
  exact back_walk st0 cl0 fr0 a1 a2 W hs0.2.2 hS hT

theorem row_holds : Rows.SpanBackSaid :=
  OpenClaim.holds_of_wide 6 Tryd.f6 rfl rfl rfl rfl rfl rfl rfl ⟨rfl, rfl, rfl, rfl, rfl⟩ rfl rfl rfl rfl rfl (by kernel_rfl) Tryd.func6 (by kernel_rfl)
    (of_decide_eq_true (by kernel_rfl)) (by unfold Func.isWrapper; first | (rw [if_pos (by decide +kernel)]; kernel_rfl) | (rw [if_neg (by decide +kernel)]; exact ⟨rfl, rfl⟩))
    (fun os started H enc _ => lifted os started H enc)
/-- The tied card. -/
theorem holds : Rows.SpanBackCardSaid :=
  Claim7.holds_tied_plain_at .later [] [.data, .data] true (true, "f801c81b679f1303e47c25da064898653829fc9df9a9951c81c10b4a3a0db282") false row_holds (fun _ h => by cases h) (by kernel_rfl) (fun _ h => by cases h) spanBack_row_tie rfl ⟨rfl, rfl⟩ (by kernel_rfl) rfl
    (fun f fn hf hfn => by
      obtain rfl : f = 6 := Option.some.inj ((show Tryd.prog.funcNamed "flotsam/flotsamlaw06.SpanBack" = some 6 by kernel_rfl).symm.trans hf) |>.symm
      obtain rfl : fn = Tryd.f6 := (Option.some.inj (Tryd.func6.symm.trans hfn)).symm
      exact ⟨by kernel_rfl, fun j t ht => by
        rw [Tryd.params6] at ht
        have hm : t ∈ [24, 3, 3] := by simpa using Array.mem_of_getElem? ht
        have hall : ([24, 3, 3].all fun u => !Tryd.prog.wantsStandIn u) = true := by kernel_rfl
        exact (show Tryd.prog.wantsStandIn t = false by simpa using List.all_eq_true.1 hall t hm)⟩)
    (by kernel_rfl)
#print axioms holds
end SpanBack
end Go.Proofs.YtgfocbldhhmehaaDoor
