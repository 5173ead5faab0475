/- The awake test of layer 2's laws. -/
import Derived.Test.YtmfiachaaiemeaaRef02
namespace Go.Proofs.Ytmfiachaaiemeaa
set_option linter.unusedSimpArgs false
set_option linter.unusedVariables false
open Go.ChangeShapes Go.WideShapes Go.ChangeAt Go.RowKit

set_option maxHeartbeats 2000000 in
theorem awake_any (w : World) :
    Calls Try.prog 7 #[] w fun e w' => e = .returned (.bool true) ∧ Below w.heap.size w w' := by
  have p1 : hputW true false 1 2 = 146 := rfl
  have m1 : hmayB true false 1 2 = true := rfl
  have m2 : hmayB true false 0 2 = false := rfl
  have m3 : hmayB false false 0 0 = true := rfl
  have m4 : hmayB false true 0 0 = false := rfl
  have g1 : gU 210 = true := rfl
  have g2 : gC 210 = true := rfl
  have g3 : gK 210 = 1 := rfl
  have g4 : gN 210 = 2 := rfl
  have g5 : gU 132 = false := rfl
  go_enter Try.func7, Try.ntmps7
  go_wp2_with (first
    | (go_at_call 8; refine (hput_any _ _ _ _ _).mono ?_; rintro e w' ⟨rfl, hb⟩; obtain ⟨hc, hf, hb, hz⟩ := bstep hb (w := w) (by go_grown); try simp only [World.size_alloc, World.size_setCell, World.size_drew] at hc hf hz)
    | (go_at_call 12; refine (hget_any _ _ (by omega) (by omega)).mono ?_; rintro e w' ⟨rfl, hb⟩; obtain ⟨hc, hf, hb, hz⟩ := bstep hb (w := w) (by go_grown); try simp only [World.size_alloc, World.size_setCell, World.size_drew] at hc hf hz)
    | (go_at_call 10; refine (hmay_any _ _ _ _ _).mono ?_; rintro e w' ⟨rfl, hb⟩; obtain ⟨hc, hf, hb, hz⟩ := bstep hb (w := w) (by go_grown); try simp only [World.size_alloc, World.size_setCell, World.size_drew] at hc hf hz)
    )
  go_returns
  exact ⟨rfl, by go_grown⟩

end Go.Proofs.Ytmfiachaaiemeaa
