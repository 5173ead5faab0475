/- Masks of 32 bits as sets of the numbers 0 to 31: plain functions and lemmas, of no program. -/
import Derived.Test.YtonjnedlnfdanaaDoorBase
import Derived.Lib.TrailingZeros
import Derived.Lib.Tables
import Derived.Test.YtonjnedlnfdanaaDoorProg
import Derived.Lib.EndianBits
import Derived.Shelf.Spec.TrailingZeros
namespace Go.Proofs.YtonjnedlnfdanaaDoor
set_option linter.unusedSimpArgs false
set_option linter.unusedVariables false
open Go.RowKit

def inB (n : Int) : Bool := decide (0 ≤ n) && decide (n < 32)
def oneN (n : Int) : Nat := if inB n = true then 2 ^ n.toNat else 0
def oneW (n : Int) : Int := (oneN n : Int)
def hasB (m n : Int) : Bool := inB n && m.toNat.testBit n.toNat
def withW (m n : Int) : Int := ((m.toNat ||| oneN n : Nat) : Int)
def woutN (m : Nat) (n : Int) : Nat := (BitVec.ofNat 32 m &&& ~~~ BitVec.ofNat 32 (oneN n)).toNat
def woutW (m n : Int) : Int := (woutN m.toNat n : Int)
def leastW (m : Int) : Int := if m = 0 then 0 else (Lib.ctz 32 m.toNat : Int)
def leastB (m : Int) : Bool := !(m == 0)
def cntTo (f : Int → Bool) : Nat → Int
  | 0 => 0
  | k + 1 => cntTo f k + (if f (k : Int) = true then 1 else 0)
def countW (m : Int) : Int := cntTo (hasB m) 32
def wholeW (n : Int) : Int := if n ≤ 0 then 0 else if n < 32 then 2 ^ n.toNat - 1 else 4294967295
def Mask (m : Int) : Prop := 0 ≤ m ∧ m < 4294967296

theorem inB_iff (n : Int) : inB n = true ↔ 0 ≤ n ∧ n < 32 := by simp [inB]
theorem inB_yes {n : Int} (h0 : 0 ≤ n) (h1 : n < 32) : inB n = true := (inB_iff n).2 ⟨h0, h1⟩
theorem inB_no {n : Int} (h : ¬ (0 ≤ n ∧ n < 32)) : inB n = false := by
  cases e : inB n with
  | false => rfl
  | true => exact absurd ((inB_iff n).1 e) h
theorem oneN_yes {n : Int} (h0 : 0 ≤ n) (h1 : n < 32) : oneN n = 2 ^ n.toNat := by simp [oneN, inB_yes h0 h1]
theorem oneN_no {n : Int} (h : ¬ (0 ≤ n ∧ n < 32)) : oneN n = 0 := by simp [oneN, inB_no h]
theorem oneN_lt (n : Int) : oneN n < 2 ^ 32 := by
  unfold oneN
  split
  · rename_i h
    have := (inB_iff n).1 h
    exact Nat.pow_lt_pow_right (by decide) (by omega)
  · decide
theorem oneW_lt (n : Int) : 0 ≤ oneW n ∧ oneW n < 4294967296 := by
  have := oneN_lt n
  unfold oneW
  omega
theorem testBit_oneN (n : Int) (i : Nat) : (oneN n).testBit i = (inB n && decide (n.toNat = i)) := by
  unfold oneN
  split <;> simp_all [Nat.testBit_two_pow]
theorem lt_testBit {m i : Nat} (h : m < 2 ^ 32) (hi : 32 ≤ i) : m.testBit i = false :=
  Nat.testBit_lt_two_pow (Nat.lt_of_lt_of_le h (Nat.pow_le_pow_right (by decide) hi))
theorem testBit_woutN (m : Nat) (n : Int) (i : Nat) (h : m < 2 ^ 32) : (woutN m n).testBit i = (m.testBit i && !(oneN n).testBit i) := by
  unfold woutN
  rw [← BitVec.getLsbD, BitVec.getLsbD_and, BitVec.getLsbD_not, BitVec.getLsbD_ofNat, BitVec.getLsbD_ofNat]
  by_cases hi : i < 32
  · simp [hi]
  · simp [hi, lt_testBit h (by omega : 32 ≤ i)]
theorem woutN_lt (m : Nat) (n : Int) : woutN m n < 2 ^ 32 := by unfold woutN; exact BitVec.isLt _

theorem mask_with {m n : Int} (h : Mask m) : Mask (withW m n) := by
  have := Nat.or_lt_two_pow (x := m.toNat) (y := oneN n) (n := 32) (by have := h.2; have := h.1; omega) (oneN_lt n)
  unfold withW Mask
  omega
theorem mask_wout (m n : Int) : Mask (woutW m n) := by
  have := woutN_lt m.toNat n
  unfold woutW Mask
  omega
theorem has_with (m n i : Int) : hasB (withW m n) i = (hasB m i || inB n && decide (i = n)) := by
  unfold hasB withW
  cases hi : inB i with
  | false =>
    cases hn : inB n with
    | false => simp
    | true =>
      have h1 := (inB_iff n).1 hn
      have : ¬ i = n := fun e => by rw [e, hn] at hi; simp at hi
      simp [this]
  | true =>
    have h0 := (inB_iff i).1 hi
    simp only [Int.toNat_natCast, Nat.testBit_or, testBit_oneN, Bool.true_and]
    congr 1
    cases hn : inB n with
    | false => rfl
    | true =>
      have h1 := (inB_iff n).1 hn
      simp only [Bool.true_and, decide_eq_decide]
      omega
theorem has_wout {m : Int} (n i : Int) (h : Mask m) : hasB (woutW m n) i = (hasB m i && !(inB n && decide (i = n))) := by
  have hm : m.toNat < 2 ^ 32 := by have := h.1; have := h.2; omega
  unfold hasB woutW
  cases hi : inB i with
  | false => simp
  | true =>
    have h0 := (inB_iff i).1 hi
    simp only [Int.toNat_natCast, testBit_woutN _ _ _ hm, testBit_oneN, Bool.true_and]
    congr 2
    cases hn : inB n with
    | false => rfl
    | true =>
      have h1 := (inB_iff n).1 hn
      simp only [Bool.true_and, decide_eq_decide]
      omega
theorem has_out {m i : Int} (h : ¬ (0 ≤ i ∧ i < 32)) : hasB m i = false := by simp [hasB, inB_no h]
theorem mask_ext {m m' : Int} (h : Mask m) (h' : Mask m') (e : ∀ i : Int, 0 ≤ i → i < 32 → hasB m i = hasB m' i) : m = m' := by
  have hm : m.toNat < 2 ^ 32 := by have := h.1; have := h.2; omega
  have hm' : m'.toNat < 2 ^ 32 := by have := h'.1; have := h'.2; omega
  have key : m.toNat = m'.toNat := Nat.eq_of_testBit_eq fun i => by
    by_cases hi : i < 32
    · have := e i (by omega) (by omega)
      simpa [hasB, inB_yes (by omega : (0 : Int) ≤ i) (by omega : (i : Int) < 32)] using this
    · rw [lt_testBit hm (by omega), lt_testBit hm' (by omega)]
  have := h.1; have := h'.1
  omega

/-! ### The operations on bits that the code leaves. -/
theorem ofInt32 (a : Nat) (ha : a < 4294967296) : (BitVec.ofInt 32 (a : Int)).toNat = a := by
  rw [BitVec.ofInt_natCast, BitVec.toNat_ofNat]; exact Nat.mod_eq_of_lt (by omega)
theorem toNat_cast {m : Int} (h : Mask m) : (m.toNat : Int) = m := by have := h.1; omega
theorem and_one {m : Int} (n : Int) (h : Mask m) : bits .and .u32 m (oneW n) = if hasB m n = true then oneW n else 0 := by
  have hm : m.toNat < 2 ^ 32 := by have := h.1; have := h.2; omega
  have e : bits .and .u32 (m.toNat : Int) (oneN n : Int) = ((m.toNat &&& oneN n : Nat) : Int) := by
    show IntKind.u32.wrap ((BitVec.ofInt 32 (m.toNat : Int) &&& BitVec.ofInt 32 (oneN n : Int)).toNat : Int) = _
    have h1 : (m.toNat &&& oneN n) < 2 ^ 32 := Nat.and_lt_two_pow _ (oneN_lt n)
    have h2 := oneN_lt n
    rw [BitVec.toNat_and, ofInt32 _ (by omega), ofInt32 _ (by omega), IntKind.wrap_u32]
    omega
  rw [toNat_cast h] at e
  unfold oneW
  rw [e]
  unfold hasB
  by_cases hn : 0 ≤ n ∧ n < 32
  · rw [oneN_yes hn.1 hn.2, inB_yes hn.1 hn.2]
    cases hb : m.toNat.testBit n.toNat with
    | true =>
      have : m.toNat &&& 2 ^ n.toNat = 2 ^ n.toNat := Nat.eq_of_testBit_eq fun i => by
        rw [Nat.testBit_and, Nat.testBit_two_pow]
        by_cases e : n.toNat = i
        · subst e; simp [hb]
        · simp [e]
      simp [this]
    | false =>
      have : m.toNat &&& 2 ^ n.toNat = 0 := Nat.eq_of_testBit_eq fun i => by
        rw [Nat.testBit_and, Nat.testBit_two_pow]
        by_cases e : n.toNat = i
        · subst e; simp [hb]
        · simp [e]
      simp [this]
  · rw [oneN_no hn, inB_no hn]; simp
theorem or_one {m : Int} (n : Int) (h : Mask m) : bits .or .u32 m (oneW n) = withW m n := by
  have e : bits .or .u32 (m.toNat : Int) (oneN n : Int) = ((m.toNat ||| oneN n : Nat) : Int) := by
    show IntKind.u32.wrap ((BitVec.ofInt 32 (m.toNat : Int) ||| BitVec.ofInt 32 (oneN n : Int)).toNat : Int) = _
    have h1 : (m.toNat ||| oneN n) < 2 ^ 32 := Nat.or_lt_two_pow (by have := h.1; have := h.2; omega) (oneN_lt n)
    have h2 := oneN_lt n
    have := h.1; have := h.2
    rw [BitVec.toNat_or, ofInt32 _ (by omega), ofInt32 _ (by omega), IntKind.wrap_u32]
    omega
  rw [toNat_cast h] at e
  exact e
theorem andNot_one {m : Int} (n : Int) (h : Mask m) : bits .andNot .u32 m (oneW n) = woutW m n := by
  have e : bits .andNot .u32 (m.toNat : Int) (oneN n : Int) = (woutN m.toNat n : Int) := by
    show IntKind.u32.wrap ((BitVec.ofInt 32 (m.toNat : Int) &&& ~~~ BitVec.ofInt 32 (oneN n : Int)).toNat : Int) = _
    have h1 := woutN_lt m.toNat n
    unfold woutN at h1 ⊢
    rw [BitVec.ofInt_natCast, BitVec.ofInt_natCast, IntKind.wrap_u32]
    omega
  rw [toNat_cast h] at e
  exact e

/-! ### The least number. -/
theorem least_bit {m : Nat} (h0 : m ≠ 0) (h : m < 2 ^ 32) : m.testBit (Lib.ctz 32 m) = true ∧ ∀ i, i < Lib.ctz 32 m → m.testBit i = false := by
  obtain ⟨k, hk, -⟩ := Lib.ctzFrom_spec 32 m (by omega) h
  have e : Lib.ctz 32 m = Lib.ctzFrom 32 m := by simp [Lib.ctz, h0]
  rw [e]
  generalize Lib.ctzFrom 32 m = c at hk
  subst hk
  constructor
  · rw [Nat.mul_comm, Nat.testBit_mul_two_pow]; simp
  · intro i hi
    rw [Nat.mul_comm, Nat.testBit_mul_two_pow]; simp; omega
theorem ctz_lt {m : Nat} (h0 : m ≠ 0) (h : m < 2 ^ 32) : Lib.ctz 32 m < 32 := (Lib.lowest_bit 32 m h0 h).2
theorem least_spec {m : Int} (h : Mask m) (h0 : m ≠ 0) : 0 ≤ leastW m ∧ leastW m < 32 ∧ hasB m (leastW m) = true ∧ ∀ i, i < leastW m → hasB m i = false := by
  have h1 := h.1
  have hm : m.toNat < 2 ^ 32 := by have := h.2; omega
  have hz : m.toNat ≠ 0 := by omega
  have hl := ctz_lt hz hm
  obtain ⟨a, b⟩ := least_bit hz hm
  have e : leastW m = (Lib.ctz 32 m.toNat : Int) := by simp [leastW, h0]
  rw [e]
  refine ⟨by omega, by omega, by simp [hasB, inB_yes (by omega : (0 : Int) ≤ Lib.ctz 32 m.toNat) (by omega), a], fun i hi => ?_⟩
  by_cases hb : 0 ≤ i ∧ i < 32
  · simp [hasB, b i.toNat (by omega)]
  · exact has_out hb
theorem least_of {m i : Int} (h : Mask m) (hi : hasB m i = true) (hl : ∀ j, j < i → hasB m j = false) : m ≠ 0 ∧ leastW m = i := by
  have h0 : m ≠ 0 := by
    intro e
    subst e
    simp [hasB] at hi
  refine ⟨h0, ?_⟩
  obtain ⟨a, b, c, d⟩ := least_spec h h0
  rcases Int.lt_trichotomy (leastW m) i with hlt | he | hgt
  · have := hl _ hlt; rw [c] at this; cases this
  · exact he
  · have := d _ hgt; rw [hi] at this; cases this
theorem none_of {m : Int} (h : Mask m) (hl : ∀ j, 0 ≤ j → j < 32 → hasB m j = false) : m = 0 := by
  refine mask_ext h ⟨by decide, by decide⟩ fun i a b => ?_
  rw [hl i a b]; simp [hasB]
theorem has_zero (i : Int) : hasB 0 i = false := by simp [hasB]

/-! ### How many. -/
theorem cntTo_congr {f g : Int → Bool} : ∀ {k : Nat}, (∀ i : Nat, i < k → f i = g i) → cntTo f k = cntTo g k
  | 0, _ => rfl
  | k + 1, h => by
    simp only [cntTo]
    rw [cntTo_congr (k := k) fun i hi => h i (by omega), h k (by omega)]
theorem cntTo_bound (f : Int → Bool) : ∀ k : Nat, 0 ≤ cntTo f k ∧ cntTo f k ≤ k
  | 0 => by simp [cntTo]
  | k + 1 => by
    have := cntTo_bound f k
    simp only [cntTo]
    split <;> omega
theorem cntTo_add (f : Int → Bool) (a : Nat) : ∀ k : Nat, cntTo f (a + k) = cntTo f a + cntTo (fun i => f (a + i)) k
  | 0 => by simp [cntTo]
  | k + 1 => by
    have := cntTo_add f a k
    rw [show a + (k + 1) = (a + k) + 1 by omega]
    simp only [cntTo]
    rw [this, show ((a + k : Nat) : Int) = (a : Int) + (k : Int) by omega]
    omega
theorem cntTo_zero {f : Int → Bool} : ∀ {k : Nat}, (∀ i : Nat, i < k → f i = false) → cntTo f k = 0
  | 0, _ => rfl
  | k + 1, h => by
    simp only [cntTo]
    rw [cntTo_zero (k := k) fun i hi => h i (by omega), h k (by omega)]
    simp
theorem cntTo_pos {f : Int → Bool} {k : Nat} {i : Nat} (hi : i < k) (h : f i = true) : 0 < cntTo f k := by
  induction k with
  | zero => omega
  | succ k ih =>
    have := (cntTo_bound f k).1
    simp only [cntTo]
    by_cases e : i = k
    · subst e; simp [h]; omega
    · have := ih (by omega)
      split <;> omega
def byteBits (b : Nat) : Int := cntTo (fun i => b.testBit i.toNat) 8
theorem pop8_bits : ∀ n : Fin 256, Lib.pop8 (n.val : Int) = byteBits n.val := by decide +kernel
theorem pop8_of (b : Int) (h0 : 0 ≤ b) (h1 : b ≤ 255) : Lib.pop8 b = byteBits b.toNat := by
  have := pop8_bits ⟨b.toNat, by omega⟩
  simpa only [Int.toNat_of_nonneg h0] using this
theorem byte_at (m : Nat) (a : Nat) (i : Nat) (hi : i < 8) : (m / 2 ^ a % 256).testBit i = m.testBit (a + i) := by
  rw [show (256 : Nat) = 2 ^ 8 from rfl, Nat.testBit_mod_two_pow, Nat.testBit_div_two_pow, Nat.add_comm]
  simp [hi]
theorem countW_bytes {m : Int} (h : Mask m) : countW m = byteBits (m.toNat % 256) + byteBits (m.toNat / 2 ^ 8 % 256) + byteBits (m.toNat / 2 ^ 16 % 256) + byteBits (m.toNat / 2 ^ 24 % 256) := by
  have key : ∀ a : Nat, a + 8 ≤ 32 → cntTo (fun i => hasB m ((a : Int) + i)) 8 = byteBits (m.toNat / 2 ^ a % 256) := fun a ha => by
    unfold byteBits
    refine cntTo_congr fun i hi => ?_
    simp only [Int.toNat_natCast, byte_at _ _ _ hi, hasB, inB_yes (by omega : (0 : Int) ≤ (a : Int) + i) (by omega), Bool.true_and]
    congr 1
  have k0 := key 0 (by omega)
  have k1 := key 8 (by omega)
  have k2 := key 16 (by omega)
  have k3 := key 24 (by omega)
  unfold countW
  have e1 := cntTo_add (hasB m) 24 8
  have e2 := cntTo_add (hasB m) 16 8
  have e3 := cntTo_add (hasB m) 8 8
  simp only [Nat.pow_zero, Nat.div_one, Int.natCast_zero, Int.zero_add] at k0
  rw [← k0, ← k1, ← k2, ← k3]
  rw [show (32 : Nat) = 24 + 8 from rfl, e1, show (24 : Nat) = 16 + 8 from rfl, e2, show (16 : Nat) = 8 + 8 from rfl, e3]
theorem byteBits_le : ∀ n : Fin 256, 0 ≤ byteBits n.val ∧ byteBits n.val ≤ 8 := by decide +kernel
theorem byteBits_le' (b : Nat) (h : b < 256) : 0 ≤ byteBits b ∧ byteBits b ≤ 8 := byteBits_le ⟨b, h⟩

/-! ### The mask of those numbers that are told. -/
/-- The 32 numbers, from the greatest on: k of them. -/
def fromTop (f : Int → Bool) : Nat → Nat
  | 0 => 0
  | k + 1 => 2 * fromTop f k + (if f (31 - (k : Int)) = true then 1 else 0)
theorem fromTop_lt (f : Int → Bool) : ∀ k : Nat, fromTop f k < 2 ^ k
  | 0 => by simp [fromTop]
  | k + 1 => by
    have := fromTop_lt f k
    simp only [fromTop]
    rw [Nat.pow_succ]
    split <;> omega
theorem testBit_fromTop (f : Int → Bool) : ∀ (k j : Nat), j < k → (fromTop f k).testBit j = f (32 - (k : Int) + j)
  | 0, j, h => by omega
  | k + 1, 0, _ => by
    simp only [fromTop, Nat.testBit_zero]
    rw [show (32 : Int) - ((k + 1 : Nat) : Int) + ((0 : Nat) : Int) = 31 - (k : Int) by omega]
    cases f (31 - (k : Int)) <;> simp <;> omega
  | k + 1, j + 1, h => by
    have := testBit_fromTop f k j (by omega)
    simp only [fromTop]
    rw [Nat.testBit_succ, show (2 * fromTop f k + (if f (31 - (k : Int)) = true then 1 else 0)) / 2 = fromTop f k by split <;> omega, this]
    congr 1
    omega
def ofF (f : Int → Bool) : Int := (fromTop f 32 : Int)
theorem mask_of (f : Int → Bool) : Mask (ofF f) := by
  have := fromTop_lt f 32
  unfold ofF Mask
  omega
theorem has_of (f : Int → Bool) {i : Int} (h0 : 0 ≤ i) (h1 : i < 32) : hasB (ofF f) i = f i := by
  unfold hasB ofF
  rw [inB_yes h0 h1, Int.toNat_natCast, testBit_fromTop f 32 i.toNat (by omega)]
  simp only [Bool.true_and]
  congr 1
  omega
theorem of_eq {f : Int → Bool} {m : Int} (h : Mask m) (e : ∀ i : Int, 0 ≤ i → i < 32 → f i = hasB m i) : ofF f = m :=
  mask_ext (mask_of f) h fun i a b => by rw [has_of f a b, e i a b]
theorem mask_whole (n : Int) : Mask (wholeW n) := by
  unfold wholeW Mask
  split
  · omega
  · split
    · have h1 : (2 : Int) ^ n.toNat = ((2 ^ n.toNat : Nat) : Int) := by simp
      have h2 : 2 ^ n.toNat < 2 ^ 32 := Nat.pow_lt_pow_right (by decide) (by omega)
      have h3 := Nat.two_pow_pos n.toNat
      rw [h1]
      omega
    · omega
theorem has_whole (n : Int) {i : Int} (h0 : 0 ≤ i) (h1 : i < 32) : hasB (wholeW n) i = decide (i < n) := by
  unfold hasB wholeW
  rw [inB_yes h0 h1, Bool.true_and]
  split
  · simp; omega
  · split
    · have e : ((2 : Int) ^ n.toNat - 1).toNat = 2 ^ n.toNat - 1 := by
        have h1 : (2 : Int) ^ n.toNat = ((2 ^ n.toNat : Nat) : Int) := by simp
        rw [h1]
        have h3 := Nat.two_pow_pos n.toNat
        omega
      rw [e, Nat.testBit_two_pow_sub_one]
      simp only [decide_eq_decide]
      omega
    · have e : (4294967295 : Int).toNat = 2 ^ 32 - 1 := rfl
      rw [e, Nat.testBit_two_pow_sub_one]
      simp only [decide_eq_decide]
      omega
end Go.Proofs.YtonjnedlnfdanaaDoor
/-! Contracts of bits.* for every mask and number. -/
namespace Go.Proofs.YtonjnedlnfdanaaDoor
set_option linter.unusedSimpArgs false
set_option linter.unusedVariables false
open Go.ChangeShapes Go.WideShapes Go.ChangeAt Go.RowKit

theorem oneW_shift {n : Int} (h0 : 0 ≤ n) (h1 : n < 32) : (2 : Int) ^ n.toNat % 4294967296 = oneW n := by
  have e : (2 : Int) ^ n.toNat = ((2 ^ n.toNat : Nat) : Int) := by simp
  have := oneW_lt n
  unfold oneW at this ⊢
  rw [oneN_yes h0 h1] at this ⊢
  rw [e]
  omega
theorem oneW_out {n : Int} (h : ¬ (0 ≤ n ∧ n < 32)) : oneW n = 0 := by simp [oneW, oneN_no h]

theorem one_ne (n : Int) (h0 : 0 ≤ n) (h1 : n < 32) : ¬ oneW n = 0 := by
  unfold oneW
  rw [oneN_yes h0 h1]
  have := Nat.two_pow_pos n.toNat
  omega
theorem has_bits {m : Int} (n : Int) (h : Mask m) : (bits .and .u32 m (oneW n) == 0) = !hasB m n := by
  rw [and_one n h]
  cases hb : hasB m n with
  | false => simp
  | true =>
    have hi : inB n = true := by
      cases hi : inB n with
      | true => rfl
      | false => simp [hasB, hi] at hb
    have := (inB_iff n).1 hi
    have := one_ne n this.1 this.2
    simp [this]

/-- Where the table isn't read nothing is asked of it. -/
def Tab (_ : World) : Prop := True
theorem Tab.below {w w' : World} (_ : Tab w) (_ : Below w.heap.size w w') : Tab w' := trivial
theorem tab_any (w : World) : Tab w := trivial

theorem pop_sum {m : Int} (h : Mask m) : ((((Lib.pop8 (m / 16777216) + Lib.pop8 (m / 65536 % 256)) % 256 + Lib.pop8 (m / 256 % 256)) % 256 + Lib.pop8 (m % 256)) % 256 : Int) = countW m ∧ 0 ≤ countW m ∧ countW m ≤ 32 := by
  have h1 := h.1
  have h2 := h.2
  rw [countW_bytes h, pop8_of _ (by omega) (by omega), pop8_of _ (by omega) (by omega), pop8_of _ (by omega) (by omega), pop8_of _ (by omega) (by omega)]
  have e3 : (m / 16777216).toNat = m.toNat / 2 ^ 24 % 256 := by omega
  have e2 : (m / 65536 % 256).toNat = m.toNat / 2 ^ 16 % 256 := by omega
  have e1 : (m / 256 % 256).toNat = m.toNat / 2 ^ 8 % 256 := by omega
  have e0 : (m % 256).toNat = m.toNat % 256 := by omega
  rw [e0, e1, e2, e3]
  have b0 := byteBits_le' (m.toNat % 256) (by omega)
  have b1 := byteBits_le' (m.toNat / 2 ^ 8 % 256) (by omega)
  have b2 := byteBits_le' (m.toNat / 2 ^ 16 % 256) (by omega)
  have b3 := byteBits_le' (m.toNat / 2 ^ 24 % 256) (by omega)
  omega

theorem whole_shift {n : Int} (h0 : 0 ≤ n) (h1 : n ≤ 32) : IntKind.u64.wrap (IntKind.u64.wrap (2 ^ n.toNat) - 1) % 4294967296 = wholeW n := by
  have e : (2 : Int) ^ n.toNat = ((2 ^ n.toNat : Nat) : Int) := by simp
  by_cases h : n < 32
  · have h2 : 2 ^ n.toNat < 2 ^ 32 := Nat.pow_lt_pow_right (by decide) (by omega)
    have h3 := Nat.two_pow_pos n.toNat
    unfold wholeW
    rw [IntKind.wrap_u64, IntKind.wrap_u64, e]
    by_cases hz : n = 0
    · subst hz; rfl
    · rw [if_neg (by omega), if_pos h]
      omega
  · obtain rfl : n = 32 := by omega
    rfl
end Go.Proofs.YtonjnedlnfdanaaDoor
