/- Contracts of the code's grey (chapter 13). -/
import Derived.Test.YtmbgodncagjncaaDoorB37
namespace Go.Proofs.YtmbgodncagjncaaDoor
set_option linter.unusedSimpArgs false
set_option linter.unusedVariables false
open Go.ChangeShapes Go.WideShapes Go.ChangeAt Go.RowKit Go.Joins

/-- New: is there such a row? Its room. -/
def gnB (k : Int) : Bool := decide (0 ≤ k ∧ k ≤ 16)
def gnR (k : Int) : Int := if gnB k = true then k else 0
theorem groom_any (k : Int) (w : World) :
    Calls Tryd.prog 71 #[.int .i64 k] w fun e w' => e = .returned (.bool (gnB k)) ∧ Below w.heap.size w w' := by
  by_cases h0 : k < 0
  · have e : gnB k = false := by simp [gnB]; omega
    rw [e]
    go_enter Tryd.func71, Tryd.ntmps71
    go_wp2
    go_returns
    exact ⟨rfl, by go_grown⟩
  by_cases h1 : 16 < k
  · have e : gnB k = false := by simp [gnB]; omega
    rw [e]
    go_enter Tryd.func71, Tryd.ntmps71
    have d0 : decide (k ≤ 16) = false := by simp; omega
    go_wp2
    go_returns
    exact ⟨ret_bool (by simp [d0]), by go_grown⟩
  · have e : gnB k = true := by simp [gnB]; omega
    rw [e]
    have d0 : decide (k ≤ 16) = true := by simp; omega
    go_enter Tryd.func71, Tryd.ntmps71
    go_wp2
    go_returns
    exact ⟨ret_bool (by simp [d0]), by go_grown⟩
theorem gnew_any (k : Int) (w : World) :
    Calls Tryd.prog 51 #[.int .i64 k] w fun e w' => e = .returned (.tuple #[.agg #[.int .i64 (gnR k), .slice none 0 0], .bool (gnB k)]) ∧ Below w.heap.size w w' := by
  cases e : gnB k with
  | false =>
    have e' : gnR k = 0 := by unfold gnR; rw [if_neg (by simp [e])]
    have hR := fun W => groom_any k W
    simp only [e] at hR
    rw [e']
    clear e e'
    go_enter Tryd.func51, Tryd.ntmps51
    go_wp2_with (first
    | (go_at_call 71; refine Calls.mono (hR _) ?_; rintro e w' ⟨rfl, hb⟩; obtain ⟨hc, hf, hb, hz⟩ := bstep hb (w := w) (by go_grown); try simp only [World.size_alloc, World.size_setCell, World.size_drew] at hc hf hz)
    )
    refine bodyPost_ret (by simp [results, Tryd.results51, go_sem, *]; try rfl) rfl ?_
    exact ⟨rfl, by go_grown⟩
  | true =>
    have e' : gnR k = k := by unfold gnR; rw [if_pos e]
    have hR := fun W => groom_any k W
    simp only [e] at hR
    rw [e']
    clear e e'
    go_enter Tryd.func51, Tryd.ntmps51
    go_wp2_with (first
    | (go_at_call 71; refine Calls.mono (hR _) ?_; rintro e w' ⟨rfl, hb⟩; obtain ⟨hc, hf, hb, hz⟩ := bstep hb (w := w) (by go_grown); try simp only [World.size_alloc, World.size_setCell, World.size_drew] at hc hf hz)
    )
    refine bodyPost_ret (by simp [results, Tryd.results51, go_sem, *]; try rfl) rfl ?_
    exact ⟨rfl, by go_grown⟩
end Go.Proofs.YtmbgodncagjncaaDoor
