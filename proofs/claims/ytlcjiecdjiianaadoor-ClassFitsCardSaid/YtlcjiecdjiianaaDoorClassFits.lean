/- ClassFits: for every number of fields, the class that class.Of answers has room for them and no class less has, and a page's blocks are its words. No condition; the code's own table is tied to the program's text. -/
import Derived.Test.YtlcjiecdjiianaaDoorRows
import Derived.Test.YtlcjiecdjiianaaDoorCards
import Derived.Test.YtlcjiecdjiianaaDoorTie
import Derived.Test.YtlcjiecdjiianaaDoorInts
import Derived.Test.YtlcjiecdjiianaaDoorAwake04
import Derived.SevenTiedAt
namespace Go.Proofs.YtlcjiecdjiianaaDoor
set_option linter.unusedSimpArgs false
set_option linter.unusedVariables false
open Go.ChangeShapes Go.WideShapes Go.ChangeAt Go.RowKit Go.Joins

theorem fits_cases (n : Int) : n < 0 ∧ n ≤ 15 ∧ ofC n = 0 ∧ ofB n = false ∨ 0 ≤ n ∧ n ≤ 1 ∧ ofC n = 0 ∧ ofB n = true ∨ 1 < n ∧ n ≤ 3 ∧ ofC n = 1 ∧ ofB n = true ∨ 3 < n ∧ n ≤ 7 ∧ ofC n = 2 ∧ ofB n = true ∨ 7 < n ∧ n ≤ 15 ∧ ofC n = 3 ∧ ofB n = true ∨ 15 < n ∧ 0 ≤ n ∧ ofC n = 0 ∧ ofB n = false := by
  have e1 : ofB n = true ↔ 0 ≤ n ∧ n ≤ 15 := by simp [ofB]
  have e2 : ofB n = false ↔ ¬ (0 ≤ n ∧ n ≤ 15) := by cases h : ofB n <;> simp [h] at e1 ⊢ <;> omega
  rw [e1, e2]
  unfold ofC; (repeat' split) <;> omega
set_option maxHeartbeats 2000000 in
theorem fits_walk (n : Int) (w : World) (hS : Sz w) :
    Calls Tryd.prog 5 #[.int .i64 n] w fun e w' => e = .returned (.bool true) ∧ Below w.heap.size w w' := by
  have s0 : szW 0 = 2 ∧ szW 1 = 4 ∧ szW 2 = 8 ∧ szW 3 = 16 := ⟨rfl, rfl, rfl, rfl⟩
  have b0 : blW 0 = 16 ∧ blW 1 = 8 ∧ blW 2 = 4 ∧ blW 3 = 2 := ⟨rfl, rfl, rfl, rfl⟩
  have f0 : flW 0 = 1 ∧ flW 1 = 3 ∧ flW 2 = 7 ∧ flW 3 = 15 := ⟨rfl, rfl, rfl, rfl⟩
  obtain ⟨s0, s1, s2, s3⟩ := s0
  obtain ⟨b0, b1, b2, b3⟩ := b0
  obtain ⟨f0, f1, f2, f3⟩ := f0
  rcases fits_cases n with h | h | h | h | h | h
  all_goals
    obtain ⟨hn, hn', hC, hB⟩ := h
    go_enter Tryd.func5, Tryd.ntmps5
    go_wp2_with (first
    | (go_at_call 7; refine (awake_any _ hS).mono ?_; rintro e w' ⟨rfl, hb⟩; obtain ⟨hc, hf, hb, hz⟩ := bstep hb (w := w) (by go_grown); try simp only [World.size_alloc, World.size_setCell, World.size_drew] at hc hf hz)
    | (go_at_call 13; refine (cof_any _ _ (hS.below (by go_grown))).mono ?_; rintro e w' ⟨rfl, hb⟩; obtain ⟨hc, hf, hb, hz⟩ := bstep hb (w := w) (by go_grown); try simp only [World.size_alloc, World.size_setCell, World.size_drew] at hc hf hz)
    | (go_at_call 8; refine (cwords_any _ _ (hS.below (by go_grown))).mono ?_; rintro e w' ⟨rfl, hb⟩; obtain ⟨hc, hf, hb, hz⟩ := bstep hb (w := w) (by go_grown); try simp only [World.size_alloc, World.size_setCell, World.size_drew] at hc hf hz)
    | (go_at_call 10; refine (cblocks_any _ _ (hS.below (by go_grown))).mono ?_; rintro e w' ⟨rfl, hb⟩; obtain ⟨hc, hf, hb, hz⟩ := bstep hb (w := w) (by go_grown); try simp only [World.size_alloc, World.size_setCell, World.size_drew] at hc hf hz)
    | (go_at_call 12; refine (cfields_any _ _ (hS.below (by go_grown))).mono ?_; rintro e w' ⟨rfl, hb⟩; obtain ⟨hc, hf, hb, hz⟩ := bstep hb (w := w) (by go_grown); try simp only [World.size_alloc, World.size_setCell, World.size_drew] at hc hf hz)
    )
    all_goals
      go_returns
      exact ⟨ret_bool (by simp), by go_grown⟩

namespace ClassFits
/-- What the row lists. -/
def lists : List (String × DataW Unit) := [("flotsam/class.sizes", Rows.laid_flotsam_class_sizes)]
set_option maxRecDepth 100000 in
theorem lifted (os : Os) (started : os.Started) (H : Type) (enc : TypeId × Value → H) :
    ReturnsInHanded {} Tryd.checked os 5 .any (fun w args => (Rows.classFitsSpec.pre enc Tryd.prog Tryd.f5 Rows.classFitsRow.domain false w args ∧ laidMetH Tryd.prog lists w) ∧ sizedMet enc Tryd.prog Tryd.f5 (OpenSpec.ofChange Rows.classFitsSpec) false w args) (Rows.classFitsSpec.post enc Tryd.prog Tryd.f5 false true false false) := by
  refine law_lifted_laid (C := Tryd.checked) seat_own started (by kernel_rfl) Tryd.func5 (by kernel_rfl) (of_decide_eq_true (by kernel_rfl)) rfl
    (fun ds hd => by have hd' : ds.length = 1 := hd; match ds, hd' with | [d0], _ => rfl) rfl Tryd.underlying4
    (ChangeSpec.witness_shaped (enc := enc) (C := Tryd.checked) (os := os) (X := fun w _ => laidMetH Tryd.prog lists w) false (World.laidAll Tryd.prog os lists) #[.int .i64 0] 8 (World.laidAll_os _ _ _)
      (World.shaped_of_ZipB (by kernel_rfl) (by kernel_rfl)) (by kernel_rfl) (by kernel_rfl) (by kernel_rfl)
      (by rw [MakeChecks.laidMetH_plain _ _ _ (by kernel_rfl)]; exact laidMet_laidAll _ (by kernel_rfl) (by kernel_rfl))) ?_
  intro W base args ds p hval hA hlt hL
  have hS : Sz W := sizes_of hL (by kernel_rfl) rfl
  rw [Tryd.params5] at hA hval
  obtain ⟨v0, d0, rfl, rfl, h0⟩ := trodAll_one hA
  obtain ⟨a0, rfl, ha0⟩ := open_i64 Tryd.underlying3 (hval 0 3 v0 rfl rfl) h0
  exact fits_walk a0 W hS

theorem row_holds : Rows.ClassFitsSaid :=
  OpenClaim.holds_of_wide 5 Tryd.f5 rfl rfl rfl rfl rfl rfl rfl ⟨rfl, rfl, rfl, rfl, rfl⟩ rfl rfl rfl rfl rfl (by kernel_rfl) Tryd.func5 (by kernel_rfl)
    (of_decide_eq_true (by kernel_rfl)) (by unfold Func.isWrapper; first | (rw [if_pos (by decide +kernel)]; kernel_rfl) | (rw [if_neg (by decide +kernel)]; exact ⟨rfl, rfl⟩))
    (fun os started H enc _ => lifted os started H enc)
/-- The tied card. -/
theorem holds : Rows.ClassFitsCardSaid :=
  Claim7.holds_tied_plain_at .later [] [.data] true (true, "6b0a9602597d846a36866f92ab37e807177a83a054ce2e838d76b0fd46d250aa") false row_holds (fun _ h => by cases h) (by kernel_rfl) (fun _ h => by cases h) classFits_row_tie rfl ⟨rfl, rfl⟩ (by kernel_rfl) rfl
    (fun f fn hf hfn => by
      obtain rfl : f = 5 := Option.some.inj ((show Tryd.prog.funcNamed "flotsam/flotsamlaw04.ClassFits" = some 5 by kernel_rfl).symm.trans hf) |>.symm
      obtain rfl : fn = Tryd.f5 := (Option.some.inj (Tryd.func5.symm.trans hfn)).symm
      exact ⟨by kernel_rfl, fun j t ht => by
        rw [Tryd.params5] at ht
        have hm : t ∈ [3] := by simpa using Array.mem_of_getElem? ht
        have hall : ([3].all fun u => !Tryd.prog.wantsStandIn u) = true := by kernel_rfl
        exact (show Tryd.prog.wantsStandIn t = false by simpa using List.all_eq_true.1 hall t hm)⟩)
    (by kernel_rfl)
#print axioms holds
end ClassFits
end Go.Proofs.YtlcjiecdjiianaaDoor
