/- The awake test of layer 4's laws. -/
import Derived.Test.YtlcjiecdjiianaaDoorClass
namespace Go.Proofs.YtlcjiecdjiianaaDoor
set_option linter.unusedSimpArgs false
set_option linter.unusedVariables false
open Go.ChangeShapes Go.WideShapes Go.ChangeAt Go.RowKit

set_option maxHeartbeats 2000000 in
theorem awake_any (w : World) (hS : Sz w) :
    Calls Tryd.prog 7 #[] w fun e w' => e = .returned (.bool true) ∧ Below w.heap.size w w' := by
  have p1 : ofC 4 = 2 := rfl
  have p2 : ofB 4 = true := rfl
  have p3 : ofB 16 = false := rfl
  have p4 : szW 1 = 4 := rfl
  have p5 : blW 1 = 8 := rfl
  have p6 : flW 1 = 3 := rfl
  have p7 : szW 4 = 0 := rfl
  go_enter Tryd.func7, Tryd.ntmps7
  go_wp2_with (first
    | (go_at_call 13; refine (cof_any _ _ (hS.below (by go_grown))).mono ?_; rintro e w' ⟨rfl, hb⟩; obtain ⟨hc, hf, hb, hz⟩ := bstep hb (w := w) (by go_grown); try simp only [World.size_alloc, World.size_setCell, World.size_drew] at hc hf hz)
    | (go_at_call 8; refine (cwords_any _ _ (hS.below (by go_grown))).mono ?_; rintro e w' ⟨rfl, hb⟩; obtain ⟨hc, hf, hb, hz⟩ := bstep hb (w := w) (by go_grown); try simp only [World.size_alloc, World.size_setCell, World.size_drew] at hc hf hz)
    | (go_at_call 10; refine (cblocks_any _ _ (hS.below (by go_grown))).mono ?_; rintro e w' ⟨rfl, hb⟩; obtain ⟨hc, hf, hb, hz⟩ := bstep hb (w := w) (by go_grown); try simp only [World.size_alloc, World.size_setCell, World.size_drew] at hc hf hz)
    | (go_at_call 12; refine (cfields_any _ _ (hS.below (by go_grown))).mono ?_; rintro e w' ⟨rfl, hb⟩; obtain ⟨hc, hf, hb, hz⟩ := bstep hb (w := w) (by go_grown); try simp only [World.size_alloc, World.size_setCell, World.size_drew] at hc hf hz)
    )
  go_returns
  exact ⟨rfl, by go_grown⟩

end Go.Proofs.YtlcjiecdjiianaaDoor
