/- SoundChecks: of every heap, sound.Check answers the least number of a rule that is broken, 0 if none is, and sound.Ok whether none is, as the document's own answer has it. No condition; the tables that the code reads are tied to the program's text. -/
import Derived.Test.YthhehhlibkdmgaaDoorRows
import Derived.Test.YthhehhlibkdmgaaDoorCards
import Derived.Test.YthhehhlibkdmgaaDoorTie
import Derived.Test.YthhehhlibkdmgaaDoorAwake09
import Derived.SevenTiedAt
namespace Go.Proofs.YthhehhlibkdmgaaDoor
set_option linter.unusedSimpArgs false
set_option linter.unusedVariables false
open Go.ChangeShapes Go.WideShapes Go.ChangeAt Go.RowKit Go.Joins

set_option maxHeartbeats 8000000 in
theorem checks_walk {p : Option Addr} {c : Nat} {q : Option Addr} {d : Nat} {h : Hp} (w : World) (hat : HpAt w p c q d h) (hS : Sz w) :
    Calls Tryd.prog 3 #[.agg #[.slice p h.n c, .slice q h.m d, .bool h.b]] w fun e w' => e = .returned (.bool true) ∧ Below w.heap.size w w' := by
  obtain ⟨w0, hw0⟩ : ∃ w0, w0 = w.alloc (.cells #[.slice p h.n c, .slice q h.m d, .bool h.b] 25) := ⟨_, rfl⟩
  have g3 : Box3 w.heap.size (.slice p h.n c) (.slice q h.m d) (.bool h.b) w0 := by rw [hw0]; exact Box3.new _ _ _ _ _
  have hB0 : Below w.heap.size w w0 := by rw [hw0]; exact (Below.refl _ _).alloc (Nat.le_refl _) _
  have hh := hat.in.below hB0
  replace hS := hS.below hB0
  obtain ⟨l3, x0, x1, x2, -, -, -⟩ := id g3
  by_cases hl : h.n ≤ 600 ∧ h.m ≤ 20
  · obtain ⟨hn, hm⟩ := hl
    go_enter Tryd.func3, Tryd.ntmps3
    go_upto_region 1 with fail
    rw [← hw0]
    clear hw0
    go_upto_region 3 with (first
    | (go_at_call 7; refine Calls.mono (awake9_any _ (hS.below (by go_grown))) ?_; rintro e w' ⟨rfl, hb⟩; obtain ⟨hc, hf, hb, hz⟩ := bstep hb (w := w0) (by go_grown); try simp only [World.size_alloc, World.size_setCell, World.size_drew] at hc hf hz)
    )
    have hbW := bjoin hb hB0
    replace hh := hh.below hb
    replace hS := hS.below hb
    replace g3 := g3.below hb
    clear hb hc hf hz x0 x1 x2 l3 hat hB0
    generalize w' = w3 at hbW hh hS g3 ⊢
    obtain ⟨l3, x0, x1, x2, -, -, -⟩ := id g3
    generalize hk : ckH h = k
    have hC : ∀ W, Below w3.heap.size w3 W → Calls Tryd.prog 8 #[.agg #[.slice p h.n c, .slice q h.m d, .bool h.b]] W fun e w' => e = .returned (.int .i64 k) ∧ Below W.heap.size W w' := fun W hb => by rw [← hk]; exact scheck_in (hS.below hb) (hh.below hb)
    have hR : ∀ W, Below w3.heap.size w3 W → Calls Tryd.prog 9 #[.agg #[.slice p h.n c, .slice q h.m d, .bool h.b]] W fun e w' => e = .returned (.int .i64 k) ∧ Below W.heap.size W w' := fun W hb => by rw [← hk]; exact rcheck9_in (hh.below hb)
    have hO : ∀ W, Below w3.heap.size w3 W → Calls Tryd.prog 10 #[.agg #[.slice p h.n c, .slice q h.m d, .bool h.b]] W fun e w' => e = .returned (.bool (k == 0)) ∧ Below W.heap.size W w' := fun W hb => by rw [← hk]; exact sok_in (hS.below hb) (hh.below hb)
    clear hk
    refine wp_region_plus (by kernel_rfl) (by kernel_rfl) fun hpc => ?_
    repeat (first | go_big_quiet_step ((first | (go_at_call 8; exact quiet_plus (hC _ (plus_below _ _))) | (go_at_call 9; exact quiet_plus (hR _ (plus_below _ _))) | (go_at_call 10; exact quiet_plus (hO _ (plus_below _ _))))) | quiet_step ((first | (go_at_call 8; exact quiet_plus (hC _ (plus_below _ _))) | (go_at_call 9; exact quiet_plus (hR _ (plus_below _ _))) | (go_at_call 10; exact quiet_plus (hO _ (plus_below _ _))))))
    refine wpQuiet_nil ?_
    intro w' hbq
    clear hpc
    obtain ⟨hc, hf, hb, hz⟩ := bstep hbq (w := w3) (by go_grown)
    try simp only [World.size_alloc, World.size_setCell, World.size_drew] at hc hf hz
    go_wp2
    go_returns
    exact ⟨ret_bool (by simp), bjoin hb hbW⟩
  · have hd : (decide (600 < (h.n : Int)) || decide (20 < (h.m : Int))) = true := by
      simp only [Bool.or_eq_true, decide_eq_true_eq]
      omega
    by_cases hn : h.n ≤ 600
    · have hm : 20 < h.m := by omega
      clear hd hl
      go_enter Tryd.func3, Tryd.ntmps3
      go_upto_region 1 with fail
      rw [← hw0]
      clear hw0
      go_wp2_with (first
    | (go_at_call 7; refine Calls.mono (awake9_any _ (hS.below (by go_grown))) ?_; rintro e w' ⟨rfl, hb⟩; obtain ⟨hc, hf, hb, hz⟩ := bstep hb (w := w0) (by go_grown); try simp only [World.size_alloc, World.size_setCell, World.size_drew] at hc hf hz)
      )
      go_returns
      exact ⟨rfl, bjoin hb hB0⟩
    · have hn' : 600 < h.n := by omega
      clear hd hl hn
      go_enter Tryd.func3, Tryd.ntmps3
      go_upto_region 1 with fail
      rw [← hw0]
      clear hw0
      go_wp2_with (first
    | (go_at_call 7; refine Calls.mono (awake9_any _ (hS.below (by go_grown))) ?_; rintro e w' ⟨rfl, hb⟩; obtain ⟨hc, hf, hb, hz⟩ := bstep hb (w := w0) (by go_grown); try simp only [World.size_alloc, World.size_setCell, World.size_drew] at hc hf hz)
      )
      go_returns
      exact ⟨rfl, bjoin hb hB0⟩

namespace SoundChecks
/-- What the row lists. -/
def lists : List (String × DataW Unit) := [("flotsam/class.sizes", Rows.laid_flotsam_class_sizes)]
set_option maxRecDepth 100000 in
theorem lifted (os : Os) (started : os.Started) (H : Type) (enc : TypeId × Value → H) :
    ReturnsInHanded {} Tryd.checked os 3 .any (fun w args => (Rows.soundChecksSpec.pre enc Tryd.prog Tryd.f3 Rows.soundChecksRow.domain false w args ∧ laidMetH Tryd.prog lists w) ∧ sizedMet enc Tryd.prog Tryd.f3 (OpenSpec.ofChange Rows.soundChecksSpec) false w args) (Rows.soundChecksSpec.post enc Tryd.prog Tryd.f3 false true false false) := by
  refine law_lifted_laid (C := Tryd.checked) seat_own started (by kernel_rfl) Tryd.func3 (by kernel_rfl) (of_decide_eq_true (by kernel_rfl)) rfl
    (fun ds hd => by have hd' : ds.length = 1 := hd; match ds, hd' with | [d0], _ => rfl) rfl Tryd.underlying4
    (ChangeSpec.witness_shaped (enc := enc) (C := Tryd.checked) (os := os) (X := fun w _ => laidMetH Tryd.prog lists w) false (World.laidAll Tryd.prog os lists) #[.agg #[.slice none 0 0, .slice none 0 0, .bool false]] 8 (World.laidAll_os _ _ _)
      (World.shaped_of_ZipB (by kernel_rfl) (by kernel_rfl)) (by kernel_rfl) (by kernel_rfl) (by kernel_rfl)
      (by rw [MakeChecks.laidMetH_plain _ _ _ (by kernel_rfl)]; exact laidMet_laidAll _ (by kernel_rfl) (by kernel_rfl))) ?_
  intro W base args ds p hval hA hlt hL
  have hS : Sz W := sizes_of hL (by kernel_rfl) rfl
  rw [Tryd.params3] at hA hval
  obtain ⟨v0, d0, rfl, rfl, h0⟩ := trodAll_one hA
  obtain ⟨x0, q0, c0, s0, e0, rfl, hh0⟩ := open_heap Tryd.underlying25 (by kernel_rfl) (by kernel_rfl) Tryd.underlying22 (by kernel_rfl) (by kernel_rfl) Tryd.underlying23 Tryd.underlying39 (by kernel_rfl) (by kernel_rfl) (by kernel_rfl) (by kernel_rfl) (by kernel_rfl) (by kernel_rfl) (hval 0 25 v0 rfl rfl) h0
  exact checks_walk W hh0 hS

theorem row_holds : Rows.SoundChecksSaid :=
  OpenClaim.holds_of_wide 3 Tryd.f3 rfl rfl rfl rfl rfl rfl rfl ⟨rfl, rfl, rfl, rfl, rfl⟩ rfl rfl rfl rfl rfl (by kernel_rfl) Tryd.func3 (by kernel_rfl)
    (of_decide_eq_true (by kernel_rfl)) (by unfold Func.isWrapper; first | (rw [if_pos (by decide +kernel)]; kernel_rfl) | (rw [if_neg (by decide +kernel)]; exact ⟨rfl, rfl⟩))
    (fun os started H enc _ => lifted os started H enc)
/-- The tied card. -/
theorem holds : Rows.SoundChecksCardSaid :=
  Claim7.holds_tied_plain_at .later [] [.data] true (true, "0319e39815f5d4fc24417ff8cd6ea6b0fe21decf05268195319bf92839ff0bc8") false row_holds (fun _ h => by cases h) (by kernel_rfl) (fun _ h => by cases h) soundChecks_row_tie rfl ⟨rfl, rfl⟩ (by kernel_rfl) rfl
    (fun f fn hf hfn => by
      obtain rfl : f = 3 := Option.some.inj ((show Tryd.prog.funcNamed "flotsam/flotsamlaw09.SoundChecks" = some 3 by kernel_rfl).symm.trans hf) |>.symm
      obtain rfl : fn = Tryd.f3 := (Option.some.inj (Tryd.func3.symm.trans hfn)).symm
      exact ⟨by kernel_rfl, fun j t ht => by
        rw [Tryd.params3] at ht
        have hm : t ∈ [25] := by simpa using Array.mem_of_getElem? ht
        have hall : ([25].all fun u => !Tryd.prog.wantsStandIn u) = true := by kernel_rfl
        exact (show Tryd.prog.wantsStandIn t = false by simpa using List.all_eq_true.1 hall t hm)⟩)
    (by kernel_rfl)
#print axioms holds
end SoundChecks
end Go.Proofs.YthhehhlibkdmgaaDoor
