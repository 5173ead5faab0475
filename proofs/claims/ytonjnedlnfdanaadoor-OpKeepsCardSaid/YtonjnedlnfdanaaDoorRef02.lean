/- Contracts of the reference's May, Put, Get of layer 2, for every header and word. -/
import Derived.Test.YtonjnedlnfdanaaDoorHeader
namespace Go.Proofs.YtonjnedlnfdanaaDoor
set_option linter.unusedSimpArgs false
set_option linter.unusedVariables false
open Go.ChangeShapes Go.WideShapes Go.ChangeAt Go.RowKit

theorem fld_at (k : Int) (h0 : 0 ≤ k) (h1 : k < 4) : k = 0 ∧ fldV k = 1 ∨ k = 1 ∧ fldV k = 3 ∨ k = 2 ∧ fldV k = 7 ∨ k = 3 ∧ fldV k = 15 := by
  obtain rfl | rfl | rfl | rfl : k = 0 ∨ k = 1 ∨ k = 2 ∨ k = 3 := by omega
  all_goals simp [fldV]

set_option maxHeartbeats 400000 in
theorem rhput_any (u c : Bool) (k n : Int) (w : World) (h : hmayB u c k n = true) :
    Calls Tryd.prog 27 #[.agg #[.bool u, .bool c, .int .i64 k, .int .i64 n]] w fun e w' => e = .returned (.int .u64 (hputW u c k n)) ∧ Below w.heap.size w w' := by
  cases u with
  | false =>
    obtain ⟨rfl, rfl, rfl⟩ := hmay_un h
    go_enter Tryd.func27, Tryd.ntmps27
    go_wp2
    go_returns
    exact ⟨rfl, by go_grown⟩
  | true =>
    have hk : 0 ≤ k ∧ k < 4 ∧ 0 ≤ n ∧ n < 16 := by have := hmay_cases h; omega
    obtain ⟨k0, k1, n0, n1⟩ := hk
    have hw := hputW_yes h
    cases c
    all_goals
      go_enter Tryd.func27, Tryd.ntmps27
      go_wp2
      go_returns
      exact ⟨ret_int (by (try simp [hw]); try omega), by go_grown⟩

/-! The search of the reference's Get: three loops in one another. -/
def at1 (x c : Int) : Prop := gU x = true → c ≤ x / 16 % 4
def at2 (x c n : Int) : Prop := gU x = true → c < x / 16 % 4 ∨ c = x / 16 % 4 ∧ n ≤ x % 16
def at3 (x c n k : Int) : Prop := gU x = true → c < x / 16 % 4 ∨ c = x / 16 % 4 ∧ (n < x % 16 ∨ n = x % 16 ∧ k ≤ x / 64 % 2)

theorem at_test (x c n k : Int) (kb : Bool) (hkb : kb = decide (k = 1)) (k0 : 0 ≤ k) (k1 : k < 2) (h : at3 x c n k) :
    (hmayB true kb c n = true ∧ hputW true kb c n = x ∧ gU x = true ∧ gC x = kb ∧ gK x = c ∧ gN x = n) ∨ ((hmayB true kb c n = false ∨ hmayB true kb c n = true ∧ ¬ hputW true kb c n = x) ∧ at3 x c n (k + 1)) := by
  by_cases ht : hmayB true kb c n = true ∧ hputW true kb c n = x
  · obtain ⟨hm, hp⟩ := ht
    obtain ⟨a, b, d, e⟩ := raw_of x kb c n hm hp
    refine .inl ⟨hm, hp, a, ?_, ?_, ?_⟩
    · simp [gC, a, b]
    · simp [gK, a, d]
    · simp [gN, a, e]
  · refine .inr ⟨?_, fun hg => ?_⟩
    · cases hm : hmayB true kb c n with
      | false => exact .inl rfl
      | true => exact .inr ⟨rfl, fun hp => ht ⟨hm, hp⟩⟩
    · obtain h | ⟨h, h' | ⟨h', h''⟩⟩ := h hg
      · exact .inl h
      · exact .inr ⟨h, .inl h'⟩
      · refine .inr ⟨h, .inr ⟨h', ?_⟩⟩
        by_cases e : k = x / 64 % 2
        · exfalso
          obtain ⟨-, -, -, hm, hp⟩ := raw_yes x hg
          rw [← h, ← h', ← e, ← hkb] at hm hp
          exact ht ⟨hm, hp⟩
        · omega

end Go.Proofs.YtonjnedlnfdanaaDoor
