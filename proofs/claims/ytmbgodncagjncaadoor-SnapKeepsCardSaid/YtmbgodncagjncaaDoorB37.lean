/- Contracts of the reference's grey (chapter 13), and of its comparison of numbers. -/
import Derived.Test.YtmbgodncagjncaaDoorB19
namespace Go.Proofs.YtmbgodncagjncaaDoor
set_option linter.unusedSimpArgs false
set_option linter.unusedVariables false
open Go.ChangeShapes Go.WideShapes Go.ChangeAt Go.RowKit Go.Joins

theorem rgsame_any (r r' : Int) (p q : Option Addr) (n c m d : Nat) (z y : Nat → Int) (w : World) (hz : GrAt w p c n z) (hy : GrAt w q d m y) :
    Calls Tryd.prog 35 #[.agg #[.int .i64 r, .slice p n c], .agg #[.int .i64 r', .slice q m d]] w fun e w' => e = .returned (.bool (sameG r n z r' m y)) ∧ Below w.heap.size w w' := by
  by_cases e : r = r'
  · subst e
    have hI := fun W (hW : Below w.heap.size w W) => rintsG_any p q n c m d z y W (hz.ints.below hW) (hy.ints.below hW) hz.nle hy.nle
    have e' : sameG r n z r m y = sameI n z m y := by simp [sameG]
    rw [e']
    generalize sameI n z m y = S at *
    go_enter Tryd.func35, Tryd.ntmps35
    go_wp2_with (first
    | (go_at_call 15; refine Calls.mono (hI _ (by go_grown)) ?_; rintro e w' ⟨rfl, hb⟩; obtain ⟨hc, hf, hb, hz⟩ := bstep hb (w := w) (by go_grown); try simp only [World.size_alloc, World.size_setCell, World.size_drew] at hc hf hz)
    )
    go_returns
    exact ⟨ret_bool (by simp), hb⟩
  · have e' : sameG r n z r' m y = false := by simp [sameG, e]
    rw [e']
    have d0 : (r == r') = false := by simp [e]
    go_enter Tryd.func35, Tryd.ntmps35
    go_wp2
    go_returns
    exact ⟨rfl, by go_grown⟩
end Go.Proofs.YtmbgodncagjncaaDoor
