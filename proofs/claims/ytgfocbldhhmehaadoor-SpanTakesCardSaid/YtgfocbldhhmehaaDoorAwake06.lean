/- The awake test of layer 6's laws. -/
import Derived.Test.YtgfocbldhhmehaaDoorSpan
import Derived.Test.YtgfocbldhhmehaaDoorRef06
namespace Go.Proofs.YtgfocbldhhmehaaDoor
set_option linter.unusedSimpArgs false
set_option linter.unusedVariables false
open Go.ChangeShapes Go.WideShapes Go.ChangeAt Go.RowKit

set_option maxHeartbeats 2000000 in
set_option maxRecDepth 20000 in
theorem awake_any (w : World) (hS : Sz w) (hT : Tab w) :
    Calls Tryd.prog 7 #[] w fun e w' => e = .returned (.bool true) ∧ Below w.heap.size w w' := by
  have p1 : nwS 3 = 1 ∧ nwC 3 = 3 ∧ nwF 3 = 3 ∧ clB 3 = true := by decide +kernel
  have p2 : takeI 1 3 = 0 ∧ takeF 1 3 = 2 ∧ takeB 1 3 = true := by decide +kernel
  have p3 : takeI 1 2 = 1 ∧ takeF 1 2 = 0 ∧ takeB 1 2 = true := by decide +kernel
  have p4 : takeI 1 0 = 0 ∧ takeF 1 0 = 0 ∧ takeB 1 0 = false := by decide +kernel
  have p5 : giveF 1 3 0 0 = 1 ∧ giveB 1 3 0 0 = true ∧ giveF 1 3 1 0 = 1 ∧ giveB 1 3 1 0 = false := by decide +kernel
  have p6 : fullB 1 0 = true ∧ emptyB 1 3 3 = true ∧ emptyB 1 3 1 = false ∧ usedN 1 3 1 = 1 ∧ rightB 1 3 1 = true ∧ rightB 0 1 0 = false := by decide +kernel
  obtain ⟨a0, a1, a2, a3⟩ := p1
  obtain ⟨b0, b1, b2⟩ := p2
  obtain ⟨c0, c1, c2⟩ := p3
  obtain ⟨d0, d1, d2⟩ := p4
  obtain ⟨e0, e1, e2, e3⟩ := p5
  obtain ⟨f0, f1, f2, f3, f4, f5⟩ := p6
  go_enter Tryd.func7, Tryd.ntmps7
  go_wp2_with (first
    | (go_at_call 10; refine Calls.mono (snew_any _ _ (hS.below (by go_grown))) ?_; rintro e w' ⟨rfl, hb⟩; obtain ⟨hc, hf, hb, hz⟩ := bstep hb (w := w) (by go_grown); try simp only [World.size_alloc, World.size_setCell, World.size_drew] at hc hf hz)
    | (go_at_call 13; refine Calls.mono (stake_any _ _ _ _ ⟨by decide, by decide⟩ (hT.below (by go_grown))) ?_; rintro e w' ⟨rfl, hb⟩; obtain ⟨hc, hf, hb, hz⟩ := bstep hb (w := w) (by go_grown); try simp only [World.size_alloc, World.size_setCell, World.size_drew] at hc hf hz)
    | (go_at_call 15; refine Calls.mono (sgive_any _ _ _ _ _ ⟨by decide⟩ ⟨by decide, by decide⟩ (hS.below (by go_grown))) ?_; rintro e w' ⟨rfl, hb⟩; obtain ⟨hc, hf, hb, hz⟩ := bstep hb (w := w) (by go_grown); try simp only [World.size_alloc, World.size_setCell, World.size_drew] at hc hf hz)
    | (go_at_call 19; refine Calls.mono (sfull_any _ _ _ _ ⟨by decide⟩) ?_; rintro e w' ⟨rfl, hb⟩; obtain ⟨hc, hf, hb, hz⟩ := bstep hb (w := w) (by go_grown); try simp only [World.size_alloc, World.size_setCell, World.size_drew] at hc hf hz)
    | (go_at_call 20; refine Calls.mono (sempty_any _ _ _ _ ⟨by decide⟩ (hS.below (by go_grown))) ?_; rintro e w' ⟨rfl, hb⟩; obtain ⟨hc, hf, hb, hz⟩ := bstep hb (w := w) (by go_grown); try simp only [World.size_alloc, World.size_setCell, World.size_drew] at hc hf hz)
    | (go_at_call 21; refine Calls.mono (sused_any _ _ _ _ ⟨by decide⟩ ⟨by decide, by decide⟩ (hS.below (by go_grown))) ?_; rintro e w' ⟨rfl, hb⟩; obtain ⟨hc, hf, hb, hz⟩ := bstep hb (w := w) (by go_grown); try simp only [World.size_alloc, World.size_setCell, World.size_drew] at hc hf hz)
    | (go_at_call 8; refine Calls.mono (sright_any _ _ _ _ ⟨by decide, by decide⟩ (hS.below (by go_grown))) ?_; rintro e w' ⟨rfl, hb⟩; obtain ⟨hc, hf, hb, hz⟩ := bstep hb (w := w) (by go_grown); try simp only [World.size_alloc, World.size_setCell, World.size_drew] at hc hf hz)
  )
  go_returns
  exact ⟨rfl, by go_grown⟩

end Go.Proofs.YtgfocbldhhmehaaDoor
