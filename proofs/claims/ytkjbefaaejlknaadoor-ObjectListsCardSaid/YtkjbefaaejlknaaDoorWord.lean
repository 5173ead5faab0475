/- Contracts of word.May, word.Put, word.Get and of the reference's May, Put, Get, for every value and word. -/
import Derived.Test.YtkjbefaaejlknaaDoorProg
import Derived.Test.YtkjbefaaejlknaaDoorBase
namespace Go.Proofs.YtkjbefaaejlknaaDoor
set_option linter.unusedSimpArgs false
set_option linter.unusedVariables false
open Go.ChangeShapes Go.WideShapes Go.ChangeAt Go.RowKit

def mayB (k n : Int) : Bool := (k == 0 && n == 0) || (k == 1 && decide (0 ≤ n)) || (k == 2 && decide (0 ≤ n) && decide (n < 9223372036854775807))
def putV (k n : Int) : Int := if k = 1 then 2 * n + 1 else if k = 2 then 2 * (n + 1) else 0
def getK (x : Int) : Int := if x = 0 then 0 else if x % 2 = 1 then 1 else 2
def getN (x : Int) : Int := if x = 0 then 0 else if x % 2 = 1 then x / 2 else x / 2 - 1

theorem may_cases {k n : Int} (h : mayB k n = true) : (k = 0 ∧ n = 0) ∨ (k = 1 ∧ 0 ≤ n) ∨ (k = 2 ∧ 0 ≤ n ∧ n < 9223372036854775807) := by
  simp [mayB] at h; omega

set_option maxHeartbeats 400000 in
theorem may_any (k n : Int) (w : World) :
    Calls Tryd.prog 43 #[.agg #[.int .i64 k, .int .i64 n]] w fun e w' => e = .returned (.bool (mayB k n)) ∧ Below w.heap.size w w' := by
  go_enter Tryd.func43, Tryd.ntmps43
  go_wp2
  all_goals
    go_returns
    exact ⟨ret_bool (by simp_all [mayB]; try omega), by go_grown⟩

set_option maxHeartbeats 400000 in
theorem rmay_any (k n : Int) (w : World) :
    Calls Tryd.prog 27 #[.agg #[.int .i64 k, .int .i64 n]] w fun e w' => e = .returned (.bool (mayB k n)) ∧ Below w.heap.size w w' := by
  go_enter Tryd.func27, Tryd.ntmps27
  go_wp2
  all_goals
    go_returns
    exact ⟨ret_bool (by simp_all [mayB]; try omega), by go_grown⟩

set_option maxHeartbeats 400000 in
theorem put_no (k n : Int) (w : World) (h : mayB k n = false) :
    Calls Tryd.prog 22 #[.agg #[.int .i64 k, .int .i64 n]] w fun e w' => e = .returned (.tuple #[.int .u64 0, .bool false]) ∧ Below w.heap.size w w' := by
  go_enter Tryd.func22, Tryd.ntmps22
  go_wp2_with (go_at_call 43; refine (may_any _ _ _).mono ?_; rintro e w' ⟨rfl, hb⟩; replace hb := bjoin hb (w := w) (by go_grown))
  all_goals
    go_returns
    exact ⟨rfl, by go_grown⟩

set_option maxHeartbeats 400000 in
theorem put_yes (k n : Int) (w : World) (h : mayB k n = true) (hn : n ≤ 9223372036854775807) :
    Calls Tryd.prog 22 #[.agg #[.int .i64 k, .int .i64 n]] w fun e w' => e = .returned (.tuple #[.int .u64 (putV k n), .bool true]) ∧ Below w.heap.size w w' := by
  rcases may_cases h with ⟨rfl, rfl⟩ | ⟨rfl, h0⟩ | ⟨rfl, h0, h1⟩
  all_goals
    go_enter Tryd.func22, Tryd.ntmps22
    go_wp2_with (go_at_call 43; refine (may_any _ _ _).mono ?_; rintro e w1 ⟨rfl, hb⟩; obtain ⟨hc, -, hb, hz⟩ := bstep hb (w := w) (by go_grown))
    go_returns
    exact ⟨ret_int_bool (by simp [putV]) rfl, by go_grown⟩

set_option maxHeartbeats 400000 in
theorem rput_yes (k n : Int) (w : World) (h : mayB k n = true) (hn : n ≤ 9223372036854775807) :
    Calls Tryd.prog 29 #[.agg #[.int .i64 k, .int .i64 n]] w fun e w' => e = .returned (.int .u64 (putV k n)) ∧ Below w.heap.size w w' := by
  rcases may_cases h with ⟨rfl, rfl⟩ | ⟨rfl, h0⟩ | ⟨rfl, h0, h1⟩
  all_goals
    go_enter Tryd.func29, Tryd.ntmps29
    go_wp2
    go_returns
    exact ⟨ret_int (by simp [putV]), by go_grown⟩

set_option maxHeartbeats 400000 in
theorem get_any (x : Int) (w : World) (h0 : 0 ≤ x) (h1 : x < 18446744073709551616) :
    Calls Tryd.prog 35 #[.int .u64 x] w fun e w' => e = .returned (.agg #[.int .i64 (getK x), .int .i64 (getN x)]) ∧ Below w.heap.size w w' := by
  go_enter Tryd.func35, Tryd.ntmps35
  go_wp2
  all_goals
    go_returns
    exact ⟨ret_val (by simp_all [getK]) (by simp_all [getN]; try go_arith), by go_grown⟩

set_option maxHeartbeats 400000 in
theorem rget_any (x : Int) (w : World) (h0 : 0 ≤ x) (h1 : x < 18446744073709551616) :
    Calls Tryd.prog 47 #[.int .u64 x] w fun e w' => e = .returned (.agg #[.int .i64 (getK x), .int .i64 (getN x)]) ∧ Below w.heap.size w w' := by
  go_enter Tryd.func47, Tryd.ntmps47
  go_wp2
  all_goals
    go_returns
    exact ⟨ret_val (by simp_all [getK]) (by simp_all [getN]; try go_arith), by go_grown⟩

def putW (k n : Int) : Int := if mayB k n = true then putV k n else 0

theorem putW_lt (k n : Int) (hn : n ≤ 9223372036854775807) : 0 ≤ putW k n ∧ putW k n < 18446744073709551616 := by
  unfold putW putV
  cases h : mayB k n with
  | false => simp
  | true => rcases may_cases h with ⟨rfl, rfl⟩ | ⟨rfl, h0⟩ | ⟨rfl, h0, h1⟩ <;> simp <;> omega

theorem put_any (k n : Int) (w : World) (hn : n ≤ 9223372036854775807) :
    Calls Tryd.prog 22 #[.agg #[.int .i64 k, .int .i64 n]] w fun e w' => e = .returned (.tuple #[.int .u64 (putW k n), .bool (mayB k n)]) ∧ Below w.heap.size w w' := by
  cases h : mayB k n with
  | false => exact (put_no k n w h).mono fun e w' ⟨he, hb⟩ => ⟨by rw [he]; simp [putW, h], hb⟩
  | true => exact (put_yes k n w h hn).mono fun e w' ⟨he, hb⟩ => ⟨by rw [he]; simp [putW, h], hb⟩

end Go.Proofs.YtkjbefaaejlknaaDoor
