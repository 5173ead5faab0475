/- Caches (chapter 11): an array of four numbers for each mutator, a slice of them that comes in: numbers in a row, four by four. -/
import Derived.Test.YtjoepiopigmmnaaDoorSpans
import Derived.Laws.IdiomArrays
namespace Go.Proofs.YtjoepiopigmmnaaDoor
set_option linter.unusedSimpArgs false
set_option linter.unusedVariables false
open Go.ChangeShapes Go.WideShapes Go.ChangeAt Go.RowKit Go.Joins

/-- Is a number among the first j? -/
def hasY (y : Nat → Int) (x : Int) : Nat → Bool
  | 0 => false
  | j + 1 => hasY y x j || decide (y j = x)
/-- How often is it among the first j? -/
def cntY (y : Nat → Int) (x : Int) : Nat → Int
  | 0 => 0
  | j + 1 => cntY y x j + if y j = x then 1 else 0
theorem hasY_hit {y : Nat → Int} {x : Int} {j : Nat} (h : y j = x) : ∀ {n : Nat}, j < n → hasY y x n = true
  | 0, hn => by omega
  | n + 1, hn => by
    unfold hasY
    by_cases e : j = n
    · subst e; simp [h]
    · rw [hasY_hit h (by omega : j < n)]; rfl
theorem hasY_miss {y : Nat → Int} {x : Int} {j : Nat} (h0 : hasY y x j = false) (h : ¬ y j = x) : hasY y x (j + 1) = false := by
  unfold hasY; simp [h0, h]
theorem cntY_hit {y : Nat → Int} {x : Int} {j : Nat} (h : y j = x) : cntY y x (j + 1) = cntY y x j + 1 := by simp [cntY, h]
theorem cntY_miss {y : Nat → Int} {x : Int} {j : Nat} (h : ¬ y j = x) : cntY y x (j + 1) = cntY y x j := by simp [cntY, h]
theorem cntY_bound (y : Nat → Int) (x : Int) : ∀ j : Nat, 0 ≤ cntY y x j ∧ cntY y x j ≤ j
  | 0 => by simp [cntY]
  | j + 1 => by
    have := cntY_bound y x j
    unfold cntY
    split <;> omega
/-- Kept: does the page stand in one? -/
def keptY (n : Nat) (y : Nat → Int) (x : Int) : Bool := decide (0 ≤ x) && hasY y x (n * 4)
/-- The same caches? -/
def sameY (n : Nat) (y : Nat → Int) (m : Nat) (z : Nat → Int) : Bool := decide (n = m) && (List.range (n * 4)).all fun j => decide (y j = z j)
section
variable {H : Type} {enc : TypeId × Value → H} {P : Program} {W : World} {base : Nat}
theorem trod_slice_caches {t e i : TypeId} {fuel : Nat} {v : Value} {x : DataW H × List MemPlace} (ht : P.underlying t = some (.slice e)) (he : P.underlying e = some (.array 4 i)) (hc : P.cellsOf e = 4) (hi : P.cellsOf i = 1) (hu : P.underlying i = some (.int .i64))
    (hf : DataW.trod enc P W 0 (fun _ => true) true fuel t [v] = some x) :
    ∃ (p : Option Addr) (n cap : Nat) (y : Nat → Int), v = .slice p n cap ∧ n ≤ maxLen ∧ Ints .i64 W p (n * 4) y ∧ (p = none → n = 0 ∧ cap = 0) := by
  rcases Go.Deep.open_slice ht hf with ⟨hcs, -⟩ | ⟨a, len, cap, m, nf, D, Pl, hcs, -, hl, hm, hmm, -, hx⟩
  · simp at hcs
    subst hcs
    exact ⟨none, 0, 0, fun _ => 0, rfl, by decide, fun i hi => by omega, fun _ => ⟨rfl, rfl⟩⟩
  · simp at hcs
    subst hcs
    simp only [if_true] at hmm
    rw [hc] at hx
    have each : ∀ j, j < len * 4 → ∃ q : Int, (Lit.int .i64 q).wf = true ∧ W.cell? (a.add j) = some (.int .i64 q) := by
      intro j hj
      obtain ⟨cs', h1, h2⟩ := hx (j / 4) (by omega)
      obtain ⟨-, hlen, hcell⟩ := World.cells?_some h1
      match cs', hlen with
      | [v0, v1, v2, v3], _ =>
        obtain ⟨y0, y1, y2, y3, k, -, g0, g1, g2, g3⟩ := trod_array4 he hi h2
        obtain ⟨b0, e0, -, w0⟩ := DataW.trod_int hu g0
        obtain ⟨b1, e1, -, w1⟩ := DataW.trod_int hu g1
        obtain ⟨b2, e2, -, w2⟩ := DataW.trod_int hu g2
        obtain ⟨b3, e3, -, w3⟩ := DataW.trod_int hu g3
        simp at e0 e1 e2 e3
        subst e0 e1 e2 e3
        have c0 := hcell 0 (by omega)
        have c1 := hcell 1 (by omega)
        have c2 := hcell 2 (by omega)
        have c3 := hcell 3 (by omega)
        rw [Go.Deep.add_add] at c0 c1 c2 c3
        have hj4 : j % 4 = 0 ∨ j % 4 = 1 ∨ j % 4 = 2 ∨ j % 4 = 3 := by omega
        rcases hj4 with h | h | h | h
        · exact ⟨b0, w0, by rw [show j = j / 4 * 4 + 0 by omega]; simpa using c0⟩
        · exact ⟨b1, w1, by rw [show j = j / 4 * 4 + 1 by omega]; simpa using c1⟩
        · exact ⟨b2, w2, by rw [show j = j / 4 * 4 + 2 by omega]; simpa using c2⟩
        · exact ⟨b3, w3, by rw [show j = j / 4 * 4 + 3 by omega]; simpa using c3⟩
    obtain ⟨q, hq⟩ := Go.Deep.choose_lt (α := Int) (h := each)
    refine ⟨some a, len, cap, q, rfl, by omega, fun j hj => ?_, fun h => by cases h⟩
    obtain ⟨hw, h0⟩ := hq j hj
    obtain ⟨b, off, sp⟩ := a
    have hz := (hq 0 (by omega)).2
    rw [add_zero_self] at hz
    obtain rfl := no_spot hz
    rw [add_off] at h0
    exact ⟨⟨b, off, rfl, World.block_lt_of_cell? W _ h0, h0⟩, hw⟩
theorem open_caches {t e i : TypeId} {v : Value} {d : DataW H} {p : List MemPlace} (ht : P.underlying t = some (.slice e)) (he : P.underlying e = some (.array 4 i)) (hc : P.cellsOf e = 4) (hi : P.cellsOf i = 1) (hu : P.underlying i = some (.int .i64))
    (hok : Value.okWide P W .any base t v) (h : DataW.Trod enc P W 0 (fun _ => true) true t v d p) : ∃ (p : Option Addr) (n cap : Nat) (y : Nat → Int), v = .slice p n cap ∧ n ≤ maxLen ∧ Ints .i64 W p (n * 4) y ∧ (p = none → n = 0 ∧ cap = 0) := by
  obtain ⟨p, n, cap, rfl⟩ := okWide_slice ht hok
  obtain ⟨fuel, hf⟩ := h
  exact trod_slice_caches ht he hc hi hu (by simpa [Value.cells] using hf)
end
end Go.Proofs.YtjoepiopigmmnaaDoor
