/- The awake test of layer 1's laws. -/
import Derived.Test.YtloedddkldckbaaWord
namespace Go.Proofs.Ytloedddkldckbaa
set_option linter.unusedSimpArgs false
set_option linter.unusedVariables false
open Go.ChangeShapes Go.WideShapes Go.ChangeAt Go.RowKit

set_option maxHeartbeats 1000000 in
theorem awake_any (w : World) :
    Calls Try.prog 7 #[] w fun e w' => e = .returned (.bool true) ∧ Below w.heap.size w w' := by
  have p1 : putW 1 5 = 11 := rfl
  have p2 : putW 2 0 = 2 := rfl
  have m1 : mayB 1 5 = true := rfl
  have m2 : mayB 2 0 = true := rfl
  have m3 : mayB 1 (-1) = false := rfl
  have m4 : mayB 0 0 = true := rfl
  have m5 : mayB 0 1 = false := rfl
  have g1 : getK 4 = 2 := rfl
  have g2 : getN 4 = 1 := rfl
  go_enter Try.func7, Try.ntmps7
  go_wp2_with (first
    | (go_at_call 8; refine (put_any _ _ _ (by omega)).mono ?_; rintro e w' ⟨rfl, hb⟩; obtain ⟨hc, hf, hb, hz⟩ := bstep hb (w := w) (by go_grown); try simp only [World.size_alloc, World.size_setCell, World.size_drew] at hc hf hz)
    | (go_at_call 12; refine (get_any _ _ (by omega) (by omega)).mono ?_; rintro e w' ⟨rfl, hb⟩; obtain ⟨hc, hf, hb, hz⟩ := bstep hb (w := w) (by go_grown); try simp only [World.size_alloc, World.size_setCell, World.size_drew] at hc hf hz)
    | (go_at_call 10; refine (may_any _ _ _).mono ?_; rintro e w' ⟨rfl, hb⟩; obtain ⟨hc, hf, hb, hz⟩ := bstep hb (w := w) (by go_grown); try simp only [World.size_alloc, World.size_setCell, World.size_drew] at hc hf hz)
    )
  go_returns
  exact ⟨rfl, by go_grown⟩

end Go.Proofs.Ytloedddkldckbaa
