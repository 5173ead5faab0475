/- Contracts of class.Words, class.Blocks, class.Fields, class.Of and of the reference's Words, Blocks, Of, for every number. -/
import Derived.Test.YtmbgodncagjncaaDoorA01
import Derived.Lib.TrailingZeros
import Derived.Lib.Tables
import Derived.Test.YtmbgodncagjncaaDoorProg
import Derived.Lib.EndianBits
import Derived.Shelf.Spec.TrailingZeros
namespace Go.Proofs.YtmbgodncagjncaaDoor
set_option linter.unusedSimpArgs false
set_option linter.unusedVariables false
open Go.ChangeShapes Go.WideShapes Go.ChangeAt Go.RowKit Go.Joins

def szW (c : Int) : Int := if c = 0 then 2 else if c = 1 then 4 else if c = 2 then 8 else if c = 3 then 16 else 0
def blW (c : Int) : Int := if c = 0 then 16 else if c = 1 then 8 else if c = 2 then 4 else if c = 3 then 2 else 0
def flW (c : Int) : Int := if c = 0 then 1 else if c = 1 then 3 else if c = 2 then 7 else if c = 3 then 15 else 0
/-- The code's table of sizes, in its variable. -/
def Sz (w : World) : Prop := 0 < w.heap.size ∧ w.cell? ⟨0, 0, none⟩ = some (.int .i64 2) ∧ w.cell? ⟨0, 1, none⟩ = some (.int .i64 4) ∧ w.cell? ⟨0, 2, none⟩ = some (.int .i64 8) ∧ w.cell? ⟨0, 3, none⟩ = some (.int .i64 16)
theorem Sz.below {w w' : World} (h : Sz w) (hb : Below w.heap.size w w') : Sz w' := by
  obtain ⟨h0, h1, h2, h3, h4⟩ := h
  refine ⟨Nat.lt_of_lt_of_le h0 hb.size, ?_, ?_, ?_, ?_⟩ <;> rw [hb.cell (by exact h0)] <;> assumption
theorem sizes_of {W : World} {l rest : List (String × DataW Unit)} (h : laidMetH Tryd.prog l W) (hp : (l.all fun x => x.2.handleName?.isNone) = true)
    (hm : (l.filter fun x => x.1 == "flotsam/class.sizes") = ("flotsam/class.sizes", Lib.tabData .i64 [2, 4, 8, 16]) :: rest) : Sz W := by
  have ht := tab_is (g := 0) (t := 47) (e := 3) (n := 4) h hp hm (by kernel_rfl) (by kernel_rfl) Tryd.underlying47 Tryd.underlying3 (by kernel_rfl) (by kernel_rfl)
  have hg : Tryd.prog.globalNamed "flotsam/class.sizes" = some 0 := by kernel_rfl
  have h0 := ht.cell hg 0 (by decide)
  exact ⟨World.block_lt_of_cell? W _ h0, h0, ht.cell hg 1 (by decide), ht.cell hg 2 (by decide), ht.cell hg 3 (by decide)⟩

theorem cwords_any (c : Int) (w : World) (hS : Sz w) :
    Calls Tryd.prog 89 #[.int .i64 c] w fun e w' => e = .returned (.int .i64 (szW c)) ∧ Below w.heap.size w w' := by
  obtain ⟨s, s0, s1, s2, s3⟩ := hS
  by_cases h : 0 ≤ c ∧ c < 4
  · obtain rfl | rfl | rfl | rfl : c = 0 ∨ c = 1 ∨ c = 2 ∨ c = 3 := by omega
    all_goals
      go_enter Tryd.func89, Tryd.ntmps89
      go_wp2
      go_returns
      exact ⟨ret_int (by simp [szW]), by go_grown⟩
  · have e : szW c = 0 := by unfold szW; (repeat' split) <;> omega
    go_enter Tryd.func89, Tryd.ntmps89
    go_wp2
    all_goals
      go_returns
      exact ⟨ret_int (by simp [e]), by go_grown⟩

theorem cl_cases (c : Int) : c = 0 ∧ szW c = 2 ∧ blW c = 16 ∧ flW c = 1 ∨ c = 1 ∧ szW c = 4 ∧ blW c = 8 ∧ flW c = 3 ∨ c = 2 ∧ szW c = 8 ∧ blW c = 4 ∧ flW c = 7 ∨ c = 3 ∧ szW c = 16 ∧ blW c = 2 ∧ flW c = 15 ∨ ¬ (0 ≤ c ∧ c < 4) ∧ szW c = 0 ∧ blW c = 0 ∧ flW c = 0 := by
  by_cases h : 0 ≤ c ∧ c < 4
  · obtain rfl | rfl | rfl | rfl : c = 0 ∨ c = 1 ∨ c = 2 ∨ c = 3 := by omega
    all_goals simp [szW, blW, flW]
  · refine .inr (.inr (.inr (.inr ⟨h, ?_, ?_, ?_⟩)))
    · unfold szW; (repeat' split) <;> omega
    · unfold blW; (repeat' split) <;> omega
    · unfold flW; (repeat' split) <;> omega

theorem sz_next {c : Int} (h : 0 ≤ c) (h' : c < 3) : 2 * szW c = szW (c + 1) := by
  obtain rfl | rfl | rfl : c = 0 ∨ c = 1 ∨ c = 2 := by omega
  all_goals rfl
theorem bl_next {c : Int} (h : 0 ≤ c) (h' : c < 3) : blW c = 2 * blW (c + 1) := by
  obtain rfl | rfl | rfl : c = 0 ∨ c = 1 ∨ c = 2 := by omega
  all_goals rfl

theorem rcwords_any (c : Int) (w : World) :
    Calls Tryd.prog 61 #[.int .i64 c] w fun e w' => e = .returned (.int .i64 (szW c)) ∧ Below w.heap.size w w' := by
  by_cases h : 0 ≤ c ∧ c ≤ 3
  · obtain ⟨h0, h1⟩ := h
    go_enter Tryd.func61, Tryd.ntmps61
    go_wp2
    go_loopg [3, 4] c.toNat (fun g nv iv wr => ∃ i : Int, 0 ≤ i ∧ i ≤ c ∧ g = (c - i).toNat ∧ nv = .int .i64 (szW i) ∧ iv = .int .i64 i ∧ Below w.heap.size w wr)
    case atStart => exact ⟨0, by omega, by omega, by omega, rfl, rfl, by go_grown⟩
    case round =>
      obtain ⟨i, il, ih, rfl, rfl, rfl, hbw⟩ := hrel
      obtain ⟨hc, hf, hb, hz⟩ := bstep hbw (w := w) (Below.refl _ _)
      have hbd := cl_cases i
      by_cases hi : i < c
      · have hn := sz_next il (by omega)
        go_wp2
        go_roundg (c - (i + 1)).toNat
        case measure => omega
        case rel => exact ⟨i + 1, by omega, by omega, rfl, by simp [hn], rfl, by go_grown⟩
      · obtain rfl : i = c := by omega
        go_wp2
        go_returns
        exact ⟨ret_int (by simp), by go_grown⟩
  · have e : szW c = 0 := by have := cl_cases c; omega
    go_enter Tryd.func61, Tryd.ntmps61
    go_wp2
    all_goals
      go_returns
      exact ⟨ret_int (by simp [e]), by go_grown⟩

theorem rcblocks_any (c : Int) (w : World) :
    Calls Tryd.prog 60 #[.int .i64 c] w fun e w' => e = .returned (.int .i64 (blW c)) ∧ Below w.heap.size w w' := by
  by_cases h : 0 ≤ c ∧ c ≤ 3
  · obtain ⟨h0, h1⟩ := h
    go_enter Tryd.func60, Tryd.ntmps60
    go_wp2
    go_loopg [3, 4] c.toNat (fun g nv iv wr => ∃ i : Int, 0 ≤ i ∧ i ≤ c ∧ g = (c - i).toNat ∧ nv = .int .i64 (blW i) ∧ iv = .int .i64 i ∧ Below w.heap.size w wr)
    case atStart => exact ⟨0, by omega, by omega, by omega, rfl, rfl, by go_grown⟩
    case round =>
      obtain ⟨i, il, ih, rfl, rfl, rfl, hbw⟩ := hrel
      obtain ⟨hc, hf, hb, hz⟩ := bstep hbw (w := w) (Below.refl _ _)
      have hbd := cl_cases i
      by_cases hi : i < c
      · have hn := bl_next il (by omega)
        have hn' : blW i / 2 = blW (i + 1) := by omega
        go_wp2
        go_roundg (c - (i + 1)).toNat
        case measure => omega
        case rel => exact ⟨i + 1, by omega, by omega, rfl, by simp [hn'], rfl, by go_grown⟩
      · obtain rfl : i = c := by omega
        go_wp2
        go_returns
        exact ⟨ret_int (by simp), by go_grown⟩
  · have e : blW c = 0 := by have := cl_cases c; omega
    go_enter Tryd.func60, Tryd.ntmps60
    go_wp2
    all_goals
      go_returns
      exact ⟨ret_int (by simp [e]), by go_grown⟩

end Go.Proofs.YtmbgodncagjncaaDoor
namespace Go.Proofs.YtmbgodncagjncaaDoor
set_option linter.unusedSimpArgs false
set_option linter.unusedVariables false
open Go.RowKit

def inB (n : Int) : Bool := decide (0 ≤ n) && decide (n < 32)
def oneN (n : Int) : Nat := if inB n = true then 2 ^ n.toNat else 0
def hasB (m n : Int) : Bool := inB n && m.toNat.testBit n.toNat
def withW (m n : Int) : Int := ((m.toNat ||| oneN n : Nat) : Int)
def cntTo (f : Int → Bool) : Nat → Int
  | 0 => 0
  | k + 1 => cntTo f k + (if f (k : Int) = true then 1 else 0)
def countW (m : Int) : Int := cntTo (hasB m) 32
def Mask (m : Int) : Prop := 0 ≤ m ∧ m < 4294967296

theorem inB_iff (n : Int) : inB n = true ↔ 0 ≤ n ∧ n < 32 := by simp [inB]
theorem inB_yes {n : Int} (h0 : 0 ≤ n) (h1 : n < 32) : inB n = true := (inB_iff n).2 ⟨h0, h1⟩
theorem inB_no {n : Int} (h : ¬ (0 ≤ n ∧ n < 32)) : inB n = false := by
  cases e : inB n with
  | false => rfl
  | true => exact absurd ((inB_iff n).1 e) h
theorem oneN_lt (n : Int) : oneN n < 2 ^ 32 := by
  unfold oneN
  split
  · rename_i h
    have := (inB_iff n).1 h
    exact Nat.pow_lt_pow_right (by decide) (by omega)
  · decide
theorem testBit_oneN (n : Int) (i : Nat) : (oneN n).testBit i = (inB n && decide (n.toNat = i)) := by
  unfold oneN
  split <;> simp_all [Nat.testBit_two_pow]
theorem lt_testBit {m i : Nat} (h : m < 2 ^ 32) (hi : 32 ≤ i) : m.testBit i = false :=
  Nat.testBit_lt_two_pow (Nat.lt_of_lt_of_le h (Nat.pow_le_pow_right (by decide) hi))
theorem mask_with {m n : Int} (h : Mask m) : Mask (withW m n) := by
  have := Nat.or_lt_two_pow (x := m.toNat) (y := oneN n) (n := 32) (by have := h.2; have := h.1; omega) (oneN_lt n)
  unfold withW Mask
  omega
theorem has_with (m n i : Int) : hasB (withW m n) i = (hasB m i || inB n && decide (i = n)) := by
  unfold hasB withW
  cases hi : inB i with
  | false =>
    cases hn : inB n with
    | false => simp
    | true =>
      have h1 := (inB_iff n).1 hn
      have : ¬ i = n := fun e => by rw [e, hn] at hi; simp at hi
      simp [this]
  | true =>
    have h0 := (inB_iff i).1 hi
    simp only [Int.toNat_natCast, Nat.testBit_or, testBit_oneN, Bool.true_and]
    congr 1
    cases hn : inB n with
    | false => rfl
    | true =>
      have h1 := (inB_iff n).1 hn
      simp only [Bool.true_and, decide_eq_decide]
      omega
theorem has_out {m i : Int} (h : ¬ (0 ≤ i ∧ i < 32)) : hasB m i = false := by simp [hasB, inB_no h]
/-! ### The operations on bits that the code leaves. -/
theorem toNat_cast {m : Int} (h : Mask m) : (m.toNat : Int) = m := by have := h.1; omega
/-! ### The least number. -/
/-! ### How many. -/
theorem cntTo_congr {f g : Int → Bool} : ∀ {k : Nat}, (∀ i : Nat, i < k → f i = g i) → cntTo f k = cntTo g k
  | 0, _ => rfl
  | k + 1, h => by
    simp only [cntTo]
    rw [cntTo_congr (k := k) fun i hi => h i (by omega), h k (by omega)]
/-! ### The mask of those numbers that are told. -/
end Go.Proofs.YtmbgodncagjncaaDoor
/-! Contracts of bits.* for every mask and number. -/
namespace Go.Proofs.YtmbgodncagjncaaDoor
set_option linter.unusedSimpArgs false
set_option linter.unusedVariables false
open Go.ChangeShapes Go.WideShapes Go.ChangeAt Go.RowKit

/-- Where the table isn't read nothing is asked of it. -/
def Tab (_ : World) : Prop := True
theorem Tab.below {w w' : World} (_ : Tab w) (_ : Below w.heap.size w w') : Tab w' := trivial
end Go.Proofs.YtmbgodncagjncaaDoor
