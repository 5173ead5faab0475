/- Contracts of word.May, word.Put, word.Get and of the reference's May, Put, Get, for every value and word. -/
import Derived.Test.YtonjnedlnfdanaaDoorProg
import Derived.Test.YtonjnedlnfdanaaDoorBase
namespace Go.Proofs.YtonjnedlnfdanaaDoor
set_option linter.unusedSimpArgs false
set_option linter.unusedVariables false
open Go.ChangeShapes Go.WideShapes Go.ChangeAt Go.RowKit

def mayB (k n : Int) : Bool := (k == 0 && n == 0) || (k == 1 && decide (0 ≤ n)) || (k == 2 && decide (0 ≤ n) && decide (n < 9223372036854775807))
def putV (k n : Int) : Int := if k = 1 then 2 * n + 1 else if k = 2 then 2 * (n + 1) else 0
def getK (x : Int) : Int := if x = 0 then 0 else if x % 2 = 1 then 1 else 2
def getN (x : Int) : Int := if x = 0 then 0 else if x % 2 = 1 then x / 2 else x / 2 - 1

theorem may_cases {k n : Int} (h : mayB k n = true) : (k = 0 ∧ n = 0) ∨ (k = 1 ∧ 0 ≤ n) ∨ (k = 2 ∧ 0 ≤ n ∧ n < 9223372036854775807) := by
  simp [mayB] at h; omega

set_option maxHeartbeats 400000 in
theorem get_any (x : Int) (w : World) (h0 : 0 ≤ x) (h1 : x < 18446744073709551616) :
    Calls Tryd.prog 40 #[.int .u64 x] w fun e w' => e = .returned (.agg #[.int .i64 (getK x), .int .i64 (getN x)]) ∧ Below w.heap.size w w' := by
  go_enter Tryd.func40, Tryd.ntmps40
  go_wp2
  all_goals
    go_returns
    exact ⟨ret_val (by simp_all [getK]) (by simp_all [getN]; try go_arith), by go_grown⟩

def putW (k n : Int) : Int := if mayB k n = true then putV k n else 0

theorem putW_lt (k n : Int) (hn : n ≤ 9223372036854775807) : 0 ≤ putW k n ∧ putW k n < 18446744073709551616 := by
  unfold putW putV
  cases h : mayB k n with
  | false => simp
  | true => rcases may_cases h with ⟨rfl, rfl⟩ | ⟨rfl, h0⟩ | ⟨rfl, h0, h1⟩ <;> simp <;> omega

end Go.Proofs.YtonjnedlnfdanaaDoor
