/- TakeRights: of whatever caches (of at most ten mutators) beside a heap that has its form, and whatever page, take.Right and take.Kept answer as the document says. No condition; the tables that the code reads are tied to the program's text. -/
import Derived.Test.YtneanbagdkeoiaaDoorRows
import Derived.Test.YtneanbagdkeoiaaDoorCards
import Derived.Test.YtneanbagdkeoiaaDoorTie
import Derived.Test.YtneanbagdkeoiaaDoorTiedBits
import Derived.Test.YtneanbagdkeoiaaDoorAwake11
import Derived.SevenTiedAt
namespace Go.Proofs.YtneanbagdkeoiaaDoor
set_option linter.unusedSimpArgs false
set_option linter.unusedVariables false
open Go.ChangeShapes Go.WideShapes Go.ChangeAt Go.RowKit Go.Joins

set_option maxHeartbeats 8000000 in
theorem rights_walk {p : Option Addr} {n c : Nat} {q : Option Addr} {m d : Nat} {s : Bool} {h : Hp} {pc : Option Addr} {k cc : Nat} {y : Nat → Int} (g : Int) (w : World) (hh : HpIn w p n c q m d s h) (hin : Ints .i64 w pc (k * 4) y) (hk : k ≤ maxLen) (hS : Sz w) (hT : Tab w) :
    Calls Tryd.prog 3 #[.agg #[.slice p n c, .slice q m d, .bool s], .slice pc k cc, .int .i64 g] w fun e w' => e = .returned (.bool true) ∧ Below w.heap.size w w' := by
  obtain ⟨w0, hw0⟩ : ∃ w0, w0 = w.alloc (.cells #[.slice p n c, .slice q m d, .bool s] 25) := ⟨_, rfl⟩
  have g3 : Box3 w.heap.size (.slice p n c) (.slice q m d) (.bool s) w0 := by rw [hw0]; exact Box3.new _ _ _ _ _
  have hB0 : Below w.heap.size w w0 := by rw [hw0]; exact (Below.refl _ _).alloc (Nat.le_refl _) _
  have hh0 := hh.below hB0
  have hin0 := hin.below hB0
  replace hS := hS.below hB0
  replace hT := hT.below hB0
  obtain ⟨l3, x0, x1, x2, -, -, -⟩ := id g3
  simp only [maxLen] at hk
  cases hF : formB h with
  | false =>
    go_enter Tryd.func3, Tryd.ntmps3
    go_upto_region 1 with fail
    rw [← hw0]
    clear hw0
    go_wp2_with (first
    | (go_at_call 9; refine Calls.mono (awake11_any _ (hS.below (by go_grown)) (hT.below (by go_grown))) ?_; rintro e w' ⟨rfl, hb⟩; obtain ⟨hc, hf, hb, hz⟩ := bstep hb (w := w0) (by go_grown); try simp only [World.size_alloc, World.size_setCell, World.size_drew] at hc hf hz)
    | (go_at_call 10; refine Calls.mono (rform_in (hh0.below (by go_grown))) ?_; rintro e w' ⟨rfl, hb⟩; obtain ⟨hc, hf, hb, hz⟩ := bstep hb (w := w0) (by go_grown); try simp only [World.size_alloc, World.size_setCell, World.size_drew] at hc hf hz)
    )
    go_returns
    exact ⟨rfl, bjoin hb hB0⟩
  | true =>
    by_cases hk10 : k ≤ 10
    · have dk : decide ((10 : Int) < k) = false := by simp; omega
      generalize hR : rightY h k y = R at *
      generalize hK : keptY k y g = B at *
      have hF' : Hid (formB h = true) := hF
      go_enter Tryd.func3, Tryd.ntmps3
      go_upto_region 1 with fail
      rw [← hw0]
      clear hw0 hF
      go_upto_region 3 with (first
    | (go_at_call 9; refine Calls.mono (awake11_any _ (hS.below (by go_grown)) (hT.below (by go_grown))) ?_; rintro e w' ⟨rfl, hb⟩; obtain ⟨hc, hf, hb, hz⟩ := bstep hb (w := w0) (by go_grown); try simp only [World.size_alloc, World.size_setCell, World.size_drew] at hc hf hz)
    | (go_at_call 10; refine Calls.mono (rform_in (hh0.below (by go_grown))) ?_; rintro e w' ⟨rfl, hb⟩; obtain ⟨hc, hf, hb, hz⟩ := bstep hb (w := w0) (by go_grown); try simp only [World.size_alloc, World.size_setCell, World.size_drew] at hc hf hz)
      )
      have hbW := bjoin hb hB0
      have hh3 := hh0.below hb
      have hin3 := hin0.below hb
      replace g3 := g3.below hb
      clear hb hc hf hz x0 x1 x2 l3 hB0 hS hT hh0 hin0
      generalize w' = w3 at *
      obtain ⟨l3, x0, x1, x2, -, -, -⟩ := id g3
      have r1 := fun W (hW : Below w3.heap.size w3 W) => tright_in (cc := cc) (hh3.below hW) hF'.out (hin3.below hW) (by omega)
      have r2 := fun W (hW : Below w3.heap.size w3 W) => rright_in (cc := cc) (hh3.below hW) (hin3.below hW) (by omega)
      have r3 := fun W (hW : Below w3.heap.size w3 W) => tkept_in (cc := cc) (x := g) (hin3.below hW) (by omega)
      have r4 := fun W (hW : Below w3.heap.size w3 W) => rkept_any pc k cc y g W (hin3.below hW) (by simp only [maxLen]; omega)
      rw [hR] at r1 r2
      rw [hK] at r3 r4
      clear hR hK hin
      by_cases h0 : g < 0
      case' pos => have d0 : decide (g < 0) = true := by simp [h0]
      case' neg => have d0 : decide (g < 0) = false := by simp; omega
      all_goals
        cases R
        all_goals
          refine wp_region_plus (by kernel_rfl) (by kernel_rfl) fun hpc => ?_
          repeat (first | go_big_quiet_step ((first | (go_at_call 11; exact quiet_plus (r1 _ (plus_below _ _))) | (go_at_call 12; exact quiet_plus (r2 _ (plus_below _ _))) | (go_at_call 13; exact quiet_plus (r3 _ (plus_below _ _))) | (go_at_call 14; exact quiet_plus (r4 _ (plus_below _ _))))) | quiet_step ((first | (go_at_call 11; exact quiet_plus (r1 _ (plus_below _ _))) | (go_at_call 12; exact quiet_plus (r2 _ (plus_below _ _))) | (go_at_call 13; exact quiet_plus (r3 _ (plus_below _ _))) | (go_at_call 14; exact quiet_plus (r4 _ (plus_below _ _))))))
          refine wpQuiet_nil ?_
          intro w' hbq
          clear hpc
          obtain ⟨hc, hf, hb, hz⟩ := bstep hbq (w := w3) (by go_grown)
          try simp only [World.size_alloc, World.size_setCell, World.size_drew] at hc hf hz
          go_wp2
          go_returns
          exact ⟨ret_bool (by simp), bjoin hb hbW⟩
    · have dk : decide ((10 : Int) < k) = true := by simp; omega
      go_enter Tryd.func3, Tryd.ntmps3
      go_upto_region 1 with fail
      rw [← hw0]
      clear hw0
      go_wp2_with (first
    | (go_at_call 9; refine Calls.mono (awake11_any _ (hS.below (by go_grown)) (hT.below (by go_grown))) ?_; rintro e w' ⟨rfl, hb⟩; obtain ⟨hc, hf, hb, hz⟩ := bstep hb (w := w0) (by go_grown); try simp only [World.size_alloc, World.size_setCell, World.size_drew] at hc hf hz)
    | (go_at_call 10; refine Calls.mono (rform_in (hh0.below (by go_grown))) ?_; rintro e w' ⟨rfl, hb⟩; obtain ⟨hc, hf, hb, hz⟩ := bstep hb (w := w0) (by go_grown); try simp only [World.size_alloc, World.size_setCell, World.size_drew] at hc hf hz)
      )
      go_returns
      exact ⟨rfl, bjoin hb hB0⟩

namespace TakeRights
/-- What the row lists. -/
def lists : List (String × DataW Unit) := [("flotsam/class.sizes", Rows.laid_flotsam_class_sizes), ("math/bits.deBruijn32tab", Rows.laid_math_bits_deBruijn32tab)]
set_option maxRecDepth 100000 in
theorem lifted (os : Os) (started : os.Started) (H : Type) (enc : TypeId × Value → H) :
    ReturnsInHanded {} Tryd.checked os 3 .any (fun w args => (Rows.takeRightsSpec.pre enc Tryd.prog Tryd.f3 Rows.takeRightsRow.domain false w args ∧ laidMetH Tryd.prog lists w) ∧ sizedMet enc Tryd.prog Tryd.f3 (OpenSpec.ofChange Rows.takeRightsSpec) false w args) (Rows.takeRightsSpec.post enc Tryd.prog Tryd.f3 false true false false) := by
  refine law_lifted_laid (C := Tryd.checked) seat_own started (by kernel_rfl) Tryd.func3 (by kernel_rfl) (of_decide_eq_true (by kernel_rfl)) rfl
    (fun ds hd => by have hd' : ds.length = 3 := hd; match ds, hd' with | [d0, d1, d2], _ => rfl) rfl Tryd.underlying4
    (ChangeSpec.witness_shaped (enc := enc) (C := Tryd.checked) (os := os) (X := fun w _ => laidMetH Tryd.prog lists w) false (World.laidAll Tryd.prog os lists) #[.agg #[.slice none 0 0, .slice none 0 0, .bool false], .slice none 0 0, .int .i64 0] 8 (World.laidAll_os _ _ _)
      (World.shaped_of_ZipB (by kernel_rfl) (by kernel_rfl)) (by kernel_rfl) (by kernel_rfl) (by kernel_rfl)
      (by rw [MakeChecks.laidMetH_plain _ _ _ (by kernel_rfl)]; exact laidMet_laidAll _ (by kernel_rfl) (by kernel_rfl))) ?_
  intro W base args ds p hval hA hlt hL
  have hS : Sz W := sizes_of hL (by kernel_rfl) rfl
  have hT : Tab W := tab_of hL (by kernel_rfl) rfl
  rw [Tryd.params3] at hA hval
  obtain ⟨v0, v1, v2, d0, d1, d2, p0, p1, p2, rfl, rfl, rfl, h0, h1, h2⟩ := trodAll_three hA
  obtain ⟨x0, q0, c0, s0, e0, rfl, hh0⟩ := open_heap Tryd.underlying25 (by kernel_rfl) (by kernel_rfl) Tryd.underlying22 (by kernel_rfl) (by kernel_rfl) Tryd.underlying23 Tryd.underlying58 (by kernel_rfl) (by kernel_rfl) (by kernel_rfl) (by kernel_rfl) (by kernel_rfl) (by kernel_rfl) (hval 0 25 v0 rfl rfl) h0
  obtain ⟨q1, n1, cap1, z1, rfl, hn1, hz1, hq1⟩ := open_caches Tryd.underlying26 Tryd.underlying51 (by kernel_rfl) (by kernel_rfl) Tryd.underlying3 (hval 1 26 v1 rfl rfl) h1
  obtain ⟨a2, rfl, ha2⟩ := open_i64 Tryd.underlying3 (hval 2 3 v2 rfl rfl) h2
  exact rights_walk a2 W hh0.in hz1 hn1 hS hT

theorem row_holds : Rows.TakeRightsSaid :=
  OpenClaim.holds_of_wide 3 Tryd.f3 rfl rfl rfl rfl rfl rfl rfl ⟨rfl, rfl, rfl, rfl, rfl⟩ rfl rfl rfl rfl rfl (by kernel_rfl) Tryd.func3 (by kernel_rfl)
    (of_decide_eq_true (by kernel_rfl)) (by unfold Func.isWrapper; first | (rw [if_pos (by decide +kernel)]; kernel_rfl) | (rw [if_neg (by decide +kernel)]; exact ⟨rfl, rfl⟩))
    (fun os started H enc _ => lifted os started H enc)
/-- The tied card. -/
theorem holds : Rows.TakeRightsCardSaid :=
  Claim7.holds_tied_plain_at .later [] [.data, .data] true (true, "90ecb932aa180f2768b6f7eeb0d14302187bc6bdcc666950daeb3c04fa096778") true row_holds (fun _ h => by cases h) (by kernel_rfl) (fun _ h => by cases h) takeRights_row_tie rfl ⟨rfl, rfl⟩ (by kernel_rfl) rfl
    (fun f fn hf hfn => by
      obtain rfl : f = 3 := Option.some.inj ((show Tryd.prog.funcNamed "flotsam/flotsamlaw11.TakeRights" = some 3 by kernel_rfl).symm.trans hf) |>.symm
      obtain rfl : fn = Tryd.f3 := (Option.some.inj (Tryd.func3.symm.trans hfn)).symm
      exact ⟨by kernel_rfl, fun j t ht => by
        rw [Tryd.params3] at ht
        have hm : t ∈ [25, 26, 3] := by simpa using Array.mem_of_getElem? ht
        have hall : ([25, 26, 3].all fun u => !Tryd.prog.wantsStandIn u) = true := by kernel_rfl
        exact (show Tryd.prog.wantsStandIn t = false by simpa using List.all_eq_true.1 hall t hm)⟩)
    (by kernel_rfl)
#print axioms holds
end TakeRights
end Go.Proofs.YtneanbagdkeoiaaDoor
