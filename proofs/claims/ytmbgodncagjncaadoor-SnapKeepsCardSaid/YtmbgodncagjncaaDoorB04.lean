/- Masks of 32 bits as sets of the numbers 0 to 31: plain functions and lemmas, of no program. -/
import Derived.Test.YtmbgodncagjncaaDoorB01
import Derived.Lib.TrailingZeros
import Derived.Lib.Tables
import Derived.Test.YtmbgodncagjncaaDoorProg
import Derived.Lib.EndianBits
import Derived.Shelf.Spec.TrailingZeros
namespace Go.Proofs.YtmbgodncagjncaaDoor
set_option linter.unusedSimpArgs false
set_option linter.unusedVariables false
open Go.RowKit

def inB (n : Int) : Bool := decide (0 ≤ n) && decide (n < 32)
def oneN (n : Int) : Nat := if inB n = true then 2 ^ n.toNat else 0
def hasB (m n : Int) : Bool := inB n && m.toNat.testBit n.toNat
def withW (m n : Int) : Int := ((m.toNat ||| oneN n : Nat) : Int)
def cntTo (f : Int → Bool) : Nat → Int
  | 0 => 0
  | k + 1 => cntTo f k + (if f (k : Int) = true then 1 else 0)
def countW (m : Int) : Int := cntTo (hasB m) 32
def wholeW (n : Int) : Int := if n ≤ 0 then 0 else if n < 32 then 2 ^ n.toNat - 1 else 4294967295
def Mask (m : Int) : Prop := 0 ≤ m ∧ m < 4294967296

theorem inB_iff (n : Int) : inB n = true ↔ 0 ≤ n ∧ n < 32 := by simp [inB]
theorem inB_yes {n : Int} (h0 : 0 ≤ n) (h1 : n < 32) : inB n = true := (inB_iff n).2 ⟨h0, h1⟩
theorem inB_no {n : Int} (h : ¬ (0 ≤ n ∧ n < 32)) : inB n = false := by
  cases e : inB n with
  | false => rfl
  | true => exact absurd ((inB_iff n).1 e) h
theorem oneN_lt (n : Int) : oneN n < 2 ^ 32 := by
  unfold oneN
  split
  · rename_i h
    have := (inB_iff n).1 h
    exact Nat.pow_lt_pow_right (by decide) (by omega)
  · decide
theorem testBit_oneN (n : Int) (i : Nat) : (oneN n).testBit i = (inB n && decide (n.toNat = i)) := by
  unfold oneN
  split <;> simp_all [Nat.testBit_two_pow]
theorem lt_testBit {m i : Nat} (h : m < 2 ^ 32) (hi : 32 ≤ i) : m.testBit i = false :=
  Nat.testBit_lt_two_pow (Nat.lt_of_lt_of_le h (Nat.pow_le_pow_right (by decide) hi))
theorem mask_with {m n : Int} (h : Mask m) : Mask (withW m n) := by
  have := Nat.or_lt_two_pow (x := m.toNat) (y := oneN n) (n := 32) (by have := h.2; have := h.1; omega) (oneN_lt n)
  unfold withW Mask
  omega
theorem has_with (m n i : Int) : hasB (withW m n) i = (hasB m i || inB n && decide (i = n)) := by
  unfold hasB withW
  cases hi : inB i with
  | false =>
    cases hn : inB n with
    | false => simp
    | true =>
      have h1 := (inB_iff n).1 hn
      have : ¬ i = n := fun e => by rw [e, hn] at hi; simp at hi
      simp [this]
  | true =>
    have h0 := (inB_iff i).1 hi
    simp only [Int.toNat_natCast, Nat.testBit_or, testBit_oneN, Bool.true_and]
    congr 1
    cases hn : inB n with
    | false => rfl
    | true =>
      have h1 := (inB_iff n).1 hn
      simp only [Bool.true_and, decide_eq_decide]
      omega
theorem has_out {m i : Int} (h : ¬ (0 ≤ i ∧ i < 32)) : hasB m i = false := by simp [hasB, inB_no h]
theorem mask_ext {m m' : Int} (h : Mask m) (h' : Mask m') (e : ∀ i : Int, 0 ≤ i → i < 32 → hasB m i = hasB m' i) : m = m' := by
  have hm : m.toNat < 2 ^ 32 := by have := h.1; have := h.2; omega
  have hm' : m'.toNat < 2 ^ 32 := by have := h'.1; have := h'.2; omega
  have key : m.toNat = m'.toNat := Nat.eq_of_testBit_eq fun i => by
    by_cases hi : i < 32
    · have := e i (by omega) (by omega)
      simpa [hasB, inB_yes (by omega : (0 : Int) ≤ i) (by omega : (i : Int) < 32)] using this
    · rw [lt_testBit hm (by omega), lt_testBit hm' (by omega)]
  have := h.1; have := h'.1
  omega

/-! ### The operations on bits that the code leaves. -/
theorem toNat_cast {m : Int} (h : Mask m) : (m.toNat : Int) = m := by have := h.1; omega
/-! ### The least number. -/
/-! ### How many. -/
theorem cntTo_congr {f g : Int → Bool} : ∀ {k : Nat}, (∀ i : Nat, i < k → f i = g i) → cntTo f k = cntTo g k
  | 0, _ => rfl
  | k + 1, h => by
    simp only [cntTo]
    rw [cntTo_congr (k := k) fun i hi => h i (by omega), h k (by omega)]
theorem cntTo_bound (f : Int → Bool) : ∀ k : Nat, 0 ≤ cntTo f k ∧ cntTo f k ≤ k
  | 0 => by simp [cntTo]
  | k + 1 => by
    have := cntTo_bound f k
    simp only [cntTo]
    split <;> omega
theorem cntTo_add (f : Int → Bool) (a : Nat) : ∀ k : Nat, cntTo f (a + k) = cntTo f a + cntTo (fun i => f (a + i)) k
  | 0 => by simp [cntTo]
  | k + 1 => by
    have := cntTo_add f a k
    rw [show a + (k + 1) = (a + k) + 1 by omega]
    simp only [cntTo]
    rw [this, show ((a + k : Nat) : Int) = (a : Int) + (k : Int) by omega]
    omega
theorem cntTo_zero {f : Int → Bool} : ∀ {k : Nat}, (∀ i : Nat, i < k → f i = false) → cntTo f k = 0
  | 0, _ => rfl
  | k + 1, h => by
    simp only [cntTo]
    rw [cntTo_zero (k := k) fun i hi => h i (by omega), h k (by omega)]
    simp
/-! ### The mask of those numbers that are told. -/
theorem mask_whole (n : Int) : Mask (wholeW n) := by
  unfold wholeW Mask
  split
  · omega
  · split
    · have h1 : (2 : Int) ^ n.toNat = ((2 ^ n.toNat : Nat) : Int) := by simp
      have h2 : 2 ^ n.toNat < 2 ^ 32 := Nat.pow_lt_pow_right (by decide) (by omega)
      have h3 := Nat.two_pow_pos n.toNat
      rw [h1]
      omega
    · omega
theorem has_whole (n : Int) {i : Int} (h0 : 0 ≤ i) (h1 : i < 32) : hasB (wholeW n) i = decide (i < n) := by
  unfold hasB wholeW
  rw [inB_yes h0 h1, Bool.true_and]
  split
  · simp; omega
  · split
    · have e : ((2 : Int) ^ n.toNat - 1).toNat = 2 ^ n.toNat - 1 := by
        have h1 : (2 : Int) ^ n.toNat = ((2 ^ n.toNat : Nat) : Int) := by simp
        rw [h1]
        have h3 := Nat.two_pow_pos n.toNat
        omega
      rw [e, Nat.testBit_two_pow_sub_one]
      simp only [decide_eq_decide]
      omega
    · have e : (4294967295 : Int).toNat = 2 ^ 32 - 1 := rfl
      rw [e, Nat.testBit_two_pow_sub_one]
      simp only [decide_eq_decide]
      omega
end Go.Proofs.YtmbgodncagjncaaDoor
/-! Contracts of bits.* for every mask and number. -/
namespace Go.Proofs.YtmbgodncagjncaaDoor
set_option linter.unusedSimpArgs false
set_option linter.unusedVariables false
open Go.ChangeShapes Go.WideShapes Go.ChangeAt Go.RowKit

/-- Where the table isn't read nothing is asked of it. -/
def Tab (_ : World) : Prop := True
theorem Tab.below {w w' : World} (_ : Tab w) (_ : Below w.heap.size w w') : Tab w' := trivial
end Go.Proofs.YtmbgodncagjncaaDoor
