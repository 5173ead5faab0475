/- ArenaNews: for every number of pages, arena.New answers as the document says. No condition; the code's own table is tied to the program's text. -/
import Derived.Test.YtjhclnalgdnplaaDoorRows
import Derived.Test.YtjhclnalgdnplaaDoorCards
import Derived.Test.YtjhclnalgdnplaaDoorTie
import Derived.Test.YtjhclnalgdnplaaDoorAwake05
import Derived.SevenTiedAt
namespace Go.Proofs.YtjhclnalgdnplaaDoor
set_option linter.unusedSimpArgs false
set_option linter.unusedVariables false
open Go.ChangeShapes Go.WideShapes Go.ChangeAt Go.RowKit Go.Joins

set_option maxHeartbeats 1000000 in
theorem news_walk (g : Int) (w : World) (g0 : -9223372036854775808 ≤ g) (g1 : g ≤ 9223372036854775807) (hS : Sz w) :
    Calls Tryd.prog 3 #[.int .i64 g] w fun e w' => e = .returned (.bool true) ∧ Below w.heap.size w w' := by
  by_cases h : 1 ≤ g ∧ g ≤ 16
  · have e0 : newB g = true := by simp [newB, h]
    have e1 : newE g = 0 := by unfold newE; rw [if_pos e0]
    have e2 : ((newN g : Nat) : Int) = 32 * g := by unfold newN; rw [if_pos e0]; omega
    obtain ⟨h0, h1⟩ := h
    clear e0
    generalize hN : newN g = N at e2
    go_enter Tryd.func3, Tryd.ntmps3
    go_upto_region 7 with (first
    | (go_at_call 9; refine (awake_any _ hS).mono ?_; rintro e w' ⟨rfl, hb⟩; (try replace hS := hS.below hb); (try replace hx := hx.below hb); obtain ⟨hc, hf, hb, hz⟩ := bstep hb (w := w) (by go_grown); try simp only [World.size_alloc, World.size_setCell, World.size_drew] at hc hf hz)
    | (go_at_call 10; refine (anew_any _ _).mono ?_; rintro e w' ⟨q0, k0, rfl, hx, hb⟩; (try (rw [hN] at hx)); (try replace hS := hS.below hb); (try replace hx := hx.below hb); obtain ⟨hc, hf, hb, hz⟩ := bstep hb (w := w) (by go_grown); try simp only [World.size_alloc, World.size_setCell, World.size_drew] at hc hf hz)
    )
    have hNm : (N : Int) ≤ 512 := by omega
    go_wp2
    go_loopg [5] N (fun m jv wr => ∃ j : Int, 0 ≤ j ∧ j ≤ N ∧ m = (N - j).toNat ∧ jv = .int .i64 j ∧ Below w'.heap.size w' wr)
    case atStart => exact ⟨0, by omega, by omega, by omega, rfl, Below.refl _ _⟩
    case round =>
      obtain ⟨j, jl, jh, rfl, rfl, hbw⟩ := hrel
      by_cases hj : j < N
      · obtain ⟨⟨b, off, rfl, hlt, hcell⟩, hwf⟩ := (hx.below hbw) j.toNat (by omega)
        go_wp2
        go_roundg ((N : Int) - (j + 1)).toNat
        case measure => omega
        case rel => exact ⟨j + 1, by omega, by omega, rfl, rfl, hbw⟩
      · go_wp2
        go_returns
        exact ⟨ret_bool (by simp), bjoin hbw hb⟩
  · have e0 : newB g = false := by simp [newB]; omega
    have e1 : newN g = 0 := by unfold newN; rw [if_neg (by simp [e0])]
    have e2 : newE g = 1 := by unfold newE; rw [if_neg (by simp [e0])]
    go_enter Tryd.func3, Tryd.ntmps3
    go_wp2_with (first
    | (go_at_call 9; refine (awake_any _ hS).mono ?_; rintro e w' ⟨rfl, hb⟩; (try replace hS := hS.below hb); obtain ⟨hc, hf, hb, hz⟩ := bstep hb (w := w) (by go_grown); try simp only [World.size_alloc, World.size_setCell, World.size_drew] at hc hf hz)
    | (go_at_call 10; refine (anew_any _ _).mono ?_; rintro e w' ⟨q0, k0, rfl, hx, hb⟩; (try replace hS := hS.below hb); obtain ⟨hc, hf, hb, hz⟩ := bstep hb (w := w) (by go_grown); try simp only [World.size_alloc, World.size_setCell, World.size_drew] at hc hf hz)
    )
    all_goals
      first
      | omega
      | (go_returns
         exact ⟨ret_bool (by simp), by go_grown⟩)

namespace ArenaNews
/-- What the row lists. -/
def lists : List (String × DataW Unit) := [("flotsam/class.sizes", Rows.laid_flotsam_class_sizes)]
set_option maxRecDepth 100000 in
theorem lifted (os : Os) (started : os.Started) (H : Type) (enc : TypeId × Value → H) :
    ReturnsInHanded {} Tryd.checked os 3 .any (fun w args => (Rows.arenaNewsSpec.pre enc Tryd.prog Tryd.f3 Rows.arenaNewsRow.domain false w args ∧ laidMetH Tryd.prog lists w) ∧ sizedMet enc Tryd.prog Tryd.f3 (OpenSpec.ofChange Rows.arenaNewsSpec) false w args) (Rows.arenaNewsSpec.post enc Tryd.prog Tryd.f3 false true false false) := by
  refine law_lifted_laid (C := Tryd.checked) seat_own started (by kernel_rfl) Tryd.func3 (by kernel_rfl) (of_decide_eq_true (by kernel_rfl)) rfl
    (fun ds hd => by have hd' : ds.length = 1 := hd; match ds, hd' with | [d0], _ => rfl) rfl Tryd.underlying4
    (ChangeSpec.witness_shaped (enc := enc) (C := Tryd.checked) (os := os) (X := fun w _ => laidMetH Tryd.prog lists w) false (World.laidAll Tryd.prog os lists) #[.int .i64 0] 8 (World.laidAll_os _ _ _)
      (World.shaped_of_ZipB (by kernel_rfl) (by kernel_rfl)) (by kernel_rfl) (by kernel_rfl) (by kernel_rfl)
      (by rw [MakeChecks.laidMetH_plain _ _ _ (by kernel_rfl)]; exact laidMet_laidAll _ (by kernel_rfl) (by kernel_rfl))) ?_
  intro W base args ds p hval hA hlt hL
  have hS : Sz W := sizes_of hL (by kernel_rfl) rfl
  rw [Tryd.params3] at hA hval
  obtain ⟨v0, d0, rfl, rfl, h0⟩ := trodAll_one hA
  obtain ⟨a0, rfl, ha0⟩ := open_i64 Tryd.underlying3 (hval 0 3 v0 rfl rfl) h0
  exact news_walk a0 W ha0.1 ha0.2 hS

theorem row_holds : Rows.ArenaNewsSaid :=
  OpenClaim.holds_of_wide 3 Tryd.f3 rfl rfl rfl rfl rfl rfl rfl ⟨rfl, rfl, rfl, rfl, rfl⟩ rfl rfl rfl rfl rfl (by kernel_rfl) Tryd.func3 (by kernel_rfl)
    (of_decide_eq_true (by kernel_rfl)) (by unfold Func.isWrapper; first | (rw [if_pos (by decide +kernel)]; kernel_rfl) | (rw [if_neg (by decide +kernel)]; exact ⟨rfl, rfl⟩))
    (fun os started H enc _ => lifted os started H enc)
/-- The tied card. -/
theorem holds : Rows.ArenaNewsCardSaid :=
  Claim7.holds_tied_plain_at .later [] [.data] true (true, "b116c2bd7adc539d1c7f5f977b3b1b7f2f58d7a588b2d7501eed8c8848a22661") false row_holds (fun _ h => by cases h) (by kernel_rfl) (fun _ h => by cases h) arenaNews_row_tie rfl ⟨rfl, rfl⟩ (by kernel_rfl) rfl
    (fun f fn hf hfn => by
      obtain rfl : f = 3 := Option.some.inj ((show Tryd.prog.funcNamed "flotsam/flotsamlaw05.ArenaNews" = some 3 by kernel_rfl).symm.trans hf) |>.symm
      obtain rfl : fn = Tryd.f3 := (Option.some.inj (Tryd.func3.symm.trans hfn)).symm
      exact ⟨by kernel_rfl, fun j t ht => by
        rw [Tryd.params3] at ht
        have hm : t ∈ [3] := by simpa using Array.mem_of_getElem? ht
        have hall : ([3].all fun u => !Tryd.prog.wantsStandIn u) = true := by kernel_rfl
        exact (show Tryd.prog.wantsStandIn t = false by simpa using List.all_eq_true.1 hall t hm)⟩)
    (by kernel_rfl)
#print axioms holds
end ArenaNews
end Go.Proofs.YtjhclnalgdnplaaDoor
