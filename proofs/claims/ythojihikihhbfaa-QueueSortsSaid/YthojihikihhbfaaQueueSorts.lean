/- QueueSorts: of whatever numbers, queue.Sorted answers them rising, as the document's own answer has it. No condition. -/
import Derived.Test.YthojihikihhbfaaRows
import Derived.Test.YthojihikihhbfaaAwake10
namespace Go.Proofs.Ythojihikihhbfaa
set_option linter.unusedSimpArgs false
set_option linter.unusedVariables false
open Go.ChangeShapes Go.WideShapes Go.ChangeAt Go.RowKit Go.Joins

set_option maxHeartbeats 4000000 in
theorem sorts_walk (p : Option Addr) (n c : Nat) (z : Nat → Int) (w : World) (hin : Ints .i64 w p n z) (hn : n ≤ maxLen) (hq : p = none → n = 0 ∧ c = 0) :
    Calls Try.prog 4 #[.slice p n c] w fun e w' => e = .returned (.bool true) ∧ Below w.heap.size w w' := by
  simp only [maxLen] at hn
  by_cases hl : n ≤ 300
  · have hdl : decide (300 < (n : Int)) = false := by simp; omega
    have hs : ∀ W, Below w.heap.size w W → Calls Try.prog 16 #[.slice p n c] W fun e w' => ∃ p' c', e = .returned (.slice p' n c') ∧ Ints .i64 w' p' n (atL (sortL (listZ n z))) ∧ Below W.heap.size W w' := fun W hW => by
      refine Calls.mono (qsorted_any p n c z W (hin.below hW) hq (by omega)) ?_
      rintro e w' ⟨v, rfl, hown, hb⟩
      obtain ⟨p', c', rfl, hI, -, -⟩ := row_ints hown (sort_wf (listZ_wf hin n (Nat.le_refl _)))
      rw [sort_len, listZ_len] at hI ⊢
      exact ⟨p', c', rfl, hI, hb⟩
    have hr : ∀ W, Below w.heap.size w W → Calls Try.prog 9 #[.slice p n c] W fun e w' => ∃ p' c', e = .returned (.slice p' n c') ∧ Ints .i64 w' p' n (atL (sortL (listZ n z))) ∧ Below W.heap.size W w' := fun W hW => by
      refine Calls.mono (rsorted_any p n c z W (hin.below hW) (by omega)) ?_
      rintro e w' ⟨v, rfl, hown, hb⟩
      obtain ⟨p', c', rfl, hI, -, -⟩ := row_ints hown (sort_wf (listZ_wf hin n (Nat.le_refl _)))
      rw [sort_len, listZ_len] at hI ⊢
      exact ⟨p', c', rfl, hI, hb⟩
    generalize atL (sortL (listZ n z)) = y at *
    have hsm : sameQ n y n y = true := by simp [sameQ]
    go_enter Try.func4, Try.ntmps4
    go_wp2_with (first
      | (go_at_call 7; refine Calls.mono (awake10_any _) ?_; rintro e w1 ⟨rfl, hb1⟩)
      | (go_at_call 16; refine Calls.mono (hs _ hb1) ?_; rintro e w2 ⟨p2, c2, rfl, hI2, hb2⟩)
      | (go_at_call 9; refine Calls.mono (hr _ (bjoin hb2 hb1)) ?_; rintro e w3 ⟨p3, c3, rfl, hI3, hb3⟩)
      | (go_at_call 15; refine Calls.mono (rintsQ_any p2 p3 n c2 n c3 y y _ (hI2.below hb3) hI3 (by simp only [maxLen]; omega) (by simp only [maxLen]; omega)) ?_; rintro e w4 ⟨rfl, hb4⟩)
    )
    go_returns
    exact ⟨ret_bool (by simp [hsm]), bjoin hb4 (bjoin hb3 (bjoin hb2 hb1))⟩
  · have hdl : decide (300 < (n : Int)) = true := by simp; omega
    go_enter Try.func4, Try.ntmps4
    go_wp2_with (first
    | (go_at_call 7; refine Calls.mono (awake10_any _) ?_; rintro e w' ⟨rfl, hb⟩; obtain ⟨hc, hf, hb, hz⟩ := bstep hb (w := w) (by go_grown); try simp only [World.size_alloc, World.size_setCell, World.size_drew] at hc hf hz)
    )
    go_returns
    exact ⟨rfl, hb⟩

namespace QueueSorts
theorem own : ownKnob Try.prog.godebug = none := by kernel_rfl
set_option maxRecDepth 100000 in
theorem lifted (os : Os) (started : os.Started) (H : Type) (enc : TypeId × Value → H) :
    ReturnsInHanded {} Try.checked os 4 .any (Rows.queueSortsSpec.pre6 enc Try.prog Try.f4 Rows.queueSortsRow.domain false) (Rows.queueSortsSpec.post enc Try.prog Try.f4 false true false false) := by
  refine law_lifted (C := Try.checked) own started (by kernel_rfl) Try.func4 (by kernel_rfl) (of_decide_eq_true (by kernel_rfl)) rfl
    (fun ds hd => by have hd' : ds.length = 1 := hd; match ds, hd' with | [d0], _ => rfl) rfl Try.underlying4
    (ChangeSpec.witness6 (enc := enc) (C := Try.checked) false ⟨#[], #[.slice none 0 0], []⟩ 8 (by kernel_rfl) (by kernel_rfl) (by kernel_rfl) (by kernel_rfl)) ?_
  intro W base args ds p hval hA hlt
  rw [Try.params4] at hA hval
  obtain ⟨v0, d0, rfl, rfl, h0⟩ := trodAll_one hA
  obtain ⟨q0, n0, cap0, z0, rfl, hn0, hz0, hq0⟩ := open_slice_ints Try.underlying22 Try.underlying3 (by kernel_rfl) (hval 0 22 v0 rfl rfl) h0
  exact sorts_walk _ _ _ _ W hz0 hn0 hq0

/-- The statement. -/
theorem holds : Rows.QueueSortsSaid :=
  OpenClaim.holds_of_wide 4 Try.f4 rfl rfl rfl rfl rfl rfl rfl ⟨rfl, rfl, rfl, rfl, rfl⟩ rfl rfl rfl rfl rfl (by kernel_rfl) Try.func4 (by kernel_rfl)
    (of_decide_eq_true (by kernel_rfl)) (by unfold Func.isWrapper; first | (rw [if_pos (by decide +kernel)]; kernel_rfl) | (rw [if_neg (by decide +kernel)]; exact ⟨rfl, rfl⟩))
    (fun os started H enc _ => lifted os started H enc)
#print axioms holds
end QueueSorts
end Go.Proofs.Ythojihikihhbfaa
