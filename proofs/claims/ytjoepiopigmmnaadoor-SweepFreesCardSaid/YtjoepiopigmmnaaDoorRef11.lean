/- Contracts of the reference's Kept, Same, Right and Page (chapter 11). -/
import Derived.Test.YtjoepiopigmmnaaDoorCacheFn
import Derived.Test.YtjoepiopigmmnaaDoorRef06
import Derived.Test.YtjoepiopigmmnaaDoorHeapFn
import Derived.ChangeKeysEq
namespace Go.Proofs.YtjoepiopigmmnaaDoor
set_option linter.unusedSimpArgs false
set_option linter.unusedVariables false
open Go.ChangeShapes Go.WideShapes Go.ChangeAt Go.RowKit Go.Joins

theorem int_info11 : (Tryd.prog.info? 3).map (fun i => (i.zero, i.size, i.bytes)) = some (some (.int .i64 0), 1, 8) := by kernel_rfl
theorem items_step (W : World) (xs ys : Array Value) (i : Nat) (is : List Nat) (a b : Int) (hx : xs[i]? = some (.int .i64 a)) (hy : ys[i]? = some (.int .i64 b)) :
    (Op.eqItems (9998 + 1) 3 1 xs ys (i :: is)).run Tryd.prog W = if a = b then (Op.eqItems (9998 + 1) 3 1 xs ys is).run Tryd.prog W else .ok false W := by
  have hP : Tryd.prog.plainKey 3 = true := by kernel_rfl
  have hI := run_equalIn_int (P := Tryd.prog) W 9998 3 .i64 .i64 a b Tryd.underlying3
  simp only [Op.eqItems, Sem.run_bind, Nat.mul_one]
  rw [run_part_plain W hP hx]
  simp only [Result.andThen_ok]
  rw [run_part_plain W hP hy]
  simp only [Result.andThen_ok, hI]
  by_cases h0 : a = b
  · simp [h0]
  · simp [h0]
/-- Two arrays of four numbers compared. -/
theorem eq_four (W : World) (a0 a1 a2 a3 b0 b1 b2 b3 : Int) : (Op.equalIn 10000 50 (.agg #[.int .i64 a0, .int .i64 a1, .int .i64 a2, .int .i64 a3]) (.agg #[.int .i64 b0, .int .i64 b1, .int .i64 b2, .int .i64 b3])).run Tryd.prog W = .ok (decide (a0 = b0 ∧ a1 = b1 ∧ a2 = b2 ∧ a3 = b3)) W := by
  obtain ⟨i0, hi, -⟩ := info_parts int_info11
  have hC : Tryd.prog.cellsOf 3 = 1 := by kernel_rfl
  rw [show (10000 : Nat) = 9998 + 1 + 1 from rfl, run_equalIn_array W (9998 + 1) _ _ Tryd.underlying50 hi, hC, show List.range 4 = [0, 1, 2, 3] from rfl, items_step W _ _ 0 _ a0 b0 rfl rfl, items_step W _ _ 1 _ a1 b1 rfl rfl, items_step W _ _ 2 _ a2 b2 rfl rfl, items_step W _ _ 3 _ a3 b3 rfl rfl]
  by_cases h0 : a0 = b0
  · by_cases h1 : a1 = b1
    · by_cases h2 : a2 = b2
      · by_cases h3 : a3 = b3
        · simp [h0, h1, h2, h3, Op.eqItems]
        · simp [h0, h1, h2, h3]
      · simp [h0, h1, h2]
    · simp [h0, h1]
  · simp [h0]
/-- The same, four by four. -/
theorem sameY_of {n : Nat} {y z : Nat → Int} (h : ∀ j, j < n * 4 → y j = z j) : sameY n y n z = true := by
  simp only [sameY, decide_true, Bool.true_and, List.all_eq_true, List.mem_range, decide_eq_true_eq]
  exact h
theorem sameY_not {n m : Nat} {y z : Nat → Int} {j : Nat} (hj : j < n * 4) (h : ¬ y j = z j) : sameY n y m z = false := by
  cases e : sameY n y m z
  · rfl
  · simp only [sameY, Bool.and_eq_true, List.all_eq_true, List.mem_range, decide_eq_true_eq] at e
    exact absurd (e.2 j hj) h
/-- Is the page at a place of the caches right? -/
def okY (h : Hp) (n : Nat) (y : Nat → Int) (j : Nat) : Prop := y j = -1 ∨ (0 ≤ y j ∧ y j < h.m ∧ ¬ (spH h (y j)).st = 0 ∧ (spH h (y j)).cl = (j % 4 : Nat) ∧ cntY y (y j) (n * 4) = 1)
instance (h : Hp) (n : Nat) (y : Nat → Int) (j : Nat) : Decidable (okY h n y j) := by unfold okY; infer_instance
/-- Are the caches right? -/
def rightY (h : Hp) (n : Nat) (y : Nat → Int) : Bool := (List.range (n * 4)).all fun j => decide (okY h n y j)
theorem rightY_iff {h : Hp} {n : Nat} {y : Nat → Int} : rightY h n y = true ↔ ∀ j, j < n * 4 → okY h n y j := by
  simp [rightY]
theorem rightY_not {h : Hp} {n : Nat} {y : Nat → Int} {j : Nat} (hj : j < n * 4) (ho : ¬ okY h n y j) : rightY h n y = false := by
  cases e : rightY h n y with
  | false => rfl
  | true => exact absurd (rightY_iff.1 e j hj) ho
/-- Has a page a block to take? -/
def openY (s : Sp) : Bool := decide (s.st = 1) && decide (0 < countW s.fr)
/-- The page that is found. -/
def roomY (h : Hp) (n : Nat) (y : Nat → Int) (c : Int) (p : Nat) : Bool := decide ((h.s p).cl = c) && openY (h.s p) && !keptY n y p
def pageY (h : Hp) (n : Nat) (y : Nat → Int) (m c : Nat) : Option Nat :=
  if 0 ≤ y (m * 4 + c) ∧ openY (spH h (y (m * 4 + c))) = true then some (y (m * 4 + c)).toNat
  else ((List.range h.m).find? (roomY h n y c)).or ((List.range h.m).find? fun p => decide ((h.s p).st = 0))
def pageV : Option Nat → Value
  | some p => .tuple #[.int .i64 p, .bool true]
  | none => .tuple #[.int .i64 0, .bool false]
theorem find_hit {f : Nat → Bool} {n i : Nat} (hi : i < n) (hb : ∀ j, j < i → f j = false) (h : f i = true) : (List.range n).find? f = some i := by
  rw [List.find?_range_eq_some]
  exact ⟨h, List.mem_range.2 hi, fun j hj => by simp [hb j hj]⟩
theorem find_miss {f : Nat → Bool} {n : Nat} (hb : ∀ j, j < n → f j = false) : (List.range n).find? f = none := by
  rw [List.find?_range_eq_none]
  exact fun j hj => by simp [hb j hj]
end Go.Proofs.YtjoepiopigmmnaaDoor
