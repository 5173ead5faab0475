/- The awake test of layer 3's laws. -/
import Derived.Test.YtcipmmpkfpjmfaaDoorRef03
namespace Go.Proofs.YtcipmmpkfpjmfaaDoor
set_option linter.unusedSimpArgs false
set_option linter.unusedVariables false
open Go.ChangeShapes Go.WideShapes Go.ChangeAt Go.RowKit

set_option maxHeartbeats 2000000 in
theorem awake_any (w : World) (hT : Tab w) :
    Calls Tryd.prog 7 #[] w fun e w' => e = .returned (.bool true) ∧ Below w.heap.size w w' := by
  have p1 : leastW 12 = 2 := rfl
  have p2 : leastB 12 = true := rfl
  have p3 : leastB 0 = false := rfl
  have p4 : wholeW 3 = 7 := rfl
  have p5 : wholeW 32 = 4294967295 := rfl
  have p6 : wholeW (-1) = 0 := rfl
  have p7 : countW 7 = 3 := by decide +kernel
  have p8 : hasB 4 2 = true := rfl
  have p9 : hasB 4 34 = false := rfl
  have p10 : withW 0 3 = 8 := rfl
  have p11 : woutW 8 3 = 0 := by decide +kernel
  go_enter Tryd.func7, Tryd.ntmps7
  go_wp2_with (first
    | (go_at_call 14; refine (least_any _ _ ⟨by decide, by decide⟩ (hT.below (by go_grown))).mono ?_; rintro e w' ⟨rfl, hb⟩; obtain ⟨hc, hf, hb, hz⟩ := bstep hb (w := w) (by go_grown); try simp only [World.size_alloc, World.size_setCell, World.size_drew] at hc hf hz)
    | (go_at_call 18; refine (whole_any _ _).mono ?_; rintro e w' ⟨rfl, hb⟩; obtain ⟨hc, hf, hb, hz⟩ := bstep hb (w := w) (by go_grown); try simp only [World.size_alloc, World.size_setCell, World.size_drew] at hc hf hz)
    | (go_at_call 16; refine (count_any _ _ ⟨by decide, by decide⟩).mono ?_; rintro e w' ⟨rfl, hb⟩; obtain ⟨hc, hf, hb, hz⟩ := bstep hb (w := w) (by go_grown); try simp only [World.size_alloc, World.size_setCell, World.size_drew] at hc hf hz)
    | (go_at_call 8; refine (has_any _ _ _ ⟨by decide, by decide⟩).mono ?_; rintro e w' ⟨rfl, hb⟩; obtain ⟨hc, hf, hb, hz⟩ := bstep hb (w := w) (by go_grown); try simp only [World.size_alloc, World.size_setCell, World.size_drew] at hc hf hz)
    | (go_at_call 10; refine (with_any _ _ _ ⟨by decide, by decide⟩).mono ?_; rintro e w' ⟨rfl, hb⟩; obtain ⟨hc, hf, hb, hz⟩ := bstep hb (w := w) (by go_grown); try simp only [World.size_alloc, World.size_setCell, World.size_drew] at hc hf hz)
    | (go_at_call 12; refine (without_any _ _ _ ⟨by decide, by decide⟩).mono ?_; rintro e w' ⟨rfl, hb⟩; obtain ⟨hc, hf, hb, hz⟩ := bstep hb (w := w) (by go_grown); try simp only [World.size_alloc, World.size_setCell, World.size_drew] at hc hf hz)
    )
  go_returns
  exact ⟨rfl, by go_grown⟩

end Go.Proofs.YtcipmmpkfpjmfaaDoor
