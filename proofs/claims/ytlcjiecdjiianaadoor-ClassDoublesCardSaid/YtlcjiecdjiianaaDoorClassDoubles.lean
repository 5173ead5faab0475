/- ClassDoubles: of every class but the last, the next one has twice the words and half the blocks; one field more has the same class or the next. No condition; the code's own table is tied to the program's text. -/
import Derived.Test.YtlcjiecdjiianaaDoorRows
import Derived.Test.YtlcjiecdjiianaaDoorCards
import Derived.Test.YtlcjiecdjiianaaDoorTie
import Derived.Test.YtlcjiecdjiianaaDoorInts
import Derived.Test.YtlcjiecdjiianaaDoorAwake04
import Derived.SevenTiedAt
namespace Go.Proofs.YtlcjiecdjiianaaDoor
set_option linter.unusedSimpArgs false
set_option linter.unusedVariables false
open Go.ChangeShapes Go.WideShapes Go.ChangeAt Go.RowKit Go.Joins

theorem ofs_next (n : Int) (h0 : 0 ≤ n) (h1 : n < 15) : ofB n = true ∧ ofB (n + 1) = true ∧ ofC n ≤ ofC (n + 1) ∧ ofC (n + 1) ≤ ofC n + 1 := by
  refine ⟨by simp [ofB]; omega, by simp [ofB]; omega, ?_, ?_⟩
  all_goals unfold ofC; (repeat' split) <;> omega
theorem ofC_bound (n : Int) : 0 ≤ ofC n ∧ ofC n ≤ 3 := by unfold ofC; (repeat' split) <;> omega
set_option maxHeartbeats 2000000 in
theorem doubles_walk (c n : Int) (w : World) (hc0 : 0 ≤ c ∧ c < 256) (hn0 : 0 ≤ n ∧ n < 256) (hS : Sz w) :
    Calls Tryd.prog 6 #[.int .u8 c, .int .u8 n] w fun e w' => e = .returned (.bool true) ∧ Below w.heap.size w w' := by
  obtain ⟨hB, hB', hle, hle'⟩ := ofs_next (n % 15) (by omega) (by omega)
  have hb0 := ofC_bound (n % 15)
  have hb1 := ofC_bound (n % 15 + 1)
  have hk : c % 3 = 0 ∧ szW (c % 3) = 2 ∧ szW (c % 3 + 1) = 4 ∧ blW (c % 3) = 16 ∧ blW (c % 3 + 1) = 8 ∨ c % 3 = 1 ∧ szW (c % 3) = 4 ∧ szW (c % 3 + 1) = 8 ∧ blW (c % 3) = 8 ∧ blW (c % 3 + 1) = 4 ∨ c % 3 = 2 ∧ szW (c % 3) = 8 ∧ szW (c % 3 + 1) = 16 ∧ blW (c % 3) = 4 ∧ blW (c % 3 + 1) = 2 := by
    have : c % 3 = 0 ∨ c % 3 = 1 ∨ c % 3 = 2 := by omega
    rcases this with h | h | h <;> simp [h, szW, blW]
  rcases hk with ⟨-, s0, s1, b0, b1⟩ | ⟨-, s0, s1, b0, b1⟩ | ⟨-, s0, s1, b0, b1⟩
  all_goals
    go_enter Tryd.func6, Tryd.ntmps6
    go_wp2_with (first
    | (go_at_call 7; refine (awake_any _ hS).mono ?_; rintro e w' ⟨rfl, hb⟩; obtain ⟨hc, hf, hb, hz⟩ := bstep hb (w := w) (by go_grown); try simp only [World.size_alloc, World.size_setCell, World.size_drew] at hc hf hz)
    | (go_at_call 13; refine (cof_any _ _ (hS.below (by go_grown))).mono ?_; rintro e w' ⟨rfl, hb⟩; obtain ⟨hc, hf, hb, hz⟩ := bstep hb (w := w) (by go_grown); try simp only [World.size_alloc, World.size_setCell, World.size_drew] at hc hf hz)
    | (go_at_call 8; refine (cwords_any _ _ (hS.below (by go_grown))).mono ?_; rintro e w' ⟨rfl, hb⟩; obtain ⟨hc, hf, hb, hz⟩ := bstep hb (w := w) (by go_grown); try simp only [World.size_alloc, World.size_setCell, World.size_drew] at hc hf hz)
    | (go_at_call 10; refine (cblocks_any _ _ (hS.below (by go_grown))).mono ?_; rintro e w' ⟨rfl, hb⟩; obtain ⟨hc, hf, hb, hz⟩ := bstep hb (w := w) (by go_grown); try simp only [World.size_alloc, World.size_setCell, World.size_drew] at hc hf hz)
    )
    go_returns
    exact ⟨ret_bool (by simp [hle, hle']), by go_grown⟩

namespace ClassDoubles
/-- What the row lists. -/
def lists : List (String × DataW Unit) := [("flotsam/class.sizes", Rows.laid_flotsam_class_sizes)]
set_option maxRecDepth 100000 in
theorem lifted (os : Os) (started : os.Started) (H : Type) (enc : TypeId × Value → H) :
    ReturnsInHanded {} Tryd.checked os 6 .any (fun w args => (Rows.classDoublesSpec.pre enc Tryd.prog Tryd.f6 Rows.classDoublesRow.domain false w args ∧ laidMetH Tryd.prog lists w) ∧ sizedMet enc Tryd.prog Tryd.f6 (OpenSpec.ofChange Rows.classDoublesSpec) false w args) (Rows.classDoublesSpec.post enc Tryd.prog Tryd.f6 false true false false) := by
  refine law_lifted_laid (C := Tryd.checked) seat_own started (by kernel_rfl) Tryd.func6 (by kernel_rfl) (of_decide_eq_true (by kernel_rfl)) rfl
    (fun ds hd => by have hd' : ds.length = 2 := hd; match ds, hd' with | [d0, d1], _ => rfl) rfl Tryd.underlying4
    (ChangeSpec.witness_shaped (enc := enc) (C := Tryd.checked) (os := os) (X := fun w _ => laidMetH Tryd.prog lists w) false (World.laidAll Tryd.prog os lists) #[.int .u8 0, .int .u8 0] 8 (World.laidAll_os _ _ _)
      (World.shaped_of_ZipB (by kernel_rfl) (by kernel_rfl)) (by kernel_rfl) (by kernel_rfl) (by kernel_rfl)
      (by rw [MakeChecks.laidMetH_plain _ _ _ (by kernel_rfl)]; exact laidMet_laidAll _ (by kernel_rfl) (by kernel_rfl))) ?_
  intro W base args ds p hval hA hlt hL
  have hS : Sz W := sizes_of hL (by kernel_rfl) rfl
  rw [Tryd.params6] at hA hval
  obtain ⟨v0, v1, d0, d1, p0, p1, rfl, rfl, rfl, h0, h1⟩ := trodAll_two hA
  obtain ⟨a0, rfl, ha0⟩ := open_u8 Tryd.underlying5 (hval 0 5 v0 rfl rfl) h0
  obtain ⟨a1, rfl, ha1⟩ := open_u8 Tryd.underlying5 (hval 1 5 v1 rfl rfl) h1
  exact doubles_walk a0 a1 W ha0 ha1 hS

theorem row_holds : Rows.ClassDoublesSaid :=
  OpenClaim.holds_of_wide 6 Tryd.f6 rfl rfl rfl rfl rfl rfl rfl ⟨rfl, rfl, rfl, rfl, rfl⟩ rfl rfl rfl rfl rfl (by kernel_rfl) Tryd.func6 (by kernel_rfl)
    (of_decide_eq_true (by kernel_rfl)) (by unfold Func.isWrapper; first | (rw [if_pos (by decide +kernel)]; kernel_rfl) | (rw [if_neg (by decide +kernel)]; exact ⟨rfl, rfl⟩))
    (fun os started H enc _ => lifted os started H enc)
/-- The tied card. -/
theorem holds : Rows.ClassDoublesCardSaid :=
  Claim7.holds_tied_plain_at .later [] [.data] true (true, "6b0a9602597d846a36866f92ab37e807177a83a054ce2e838d76b0fd46d250aa") false row_holds (fun _ h => by cases h) (by kernel_rfl) (fun _ h => by cases h) classDoubles_row_tie rfl ⟨rfl, rfl⟩ (by kernel_rfl) rfl
    (fun f fn hf hfn => by
      obtain rfl : f = 6 := Option.some.inj ((show Tryd.prog.funcNamed "flotsam/flotsamlaw04.ClassDoubles" = some 6 by kernel_rfl).symm.trans hf) |>.symm
      obtain rfl : fn = Tryd.f6 := (Option.some.inj (Tryd.func6.symm.trans hfn)).symm
      exact ⟨by kernel_rfl, fun j t ht => by
        rw [Tryd.params6] at ht
        have hm : t ∈ [5, 5] := by simpa using Array.mem_of_getElem? ht
        have hall : ([5, 5].all fun u => !Tryd.prog.wantsStandIn u) = true := by kernel_rfl
        exact (show Tryd.prog.wantsStandIn t = false by simpa using List.all_eq_true.1 hall t hm)⟩)
    (by kernel_rfl)
#print axioms holds
end ClassDoubles
end Go.Proofs.YtlcjiecdjiianaaDoor
