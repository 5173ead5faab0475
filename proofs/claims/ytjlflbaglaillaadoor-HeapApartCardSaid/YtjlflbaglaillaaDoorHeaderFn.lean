/- Headers as words: what chapter 2 says of them, plain lemmas. -/
import Derived.Test.YtjlflbaglaillaaDoorKit
import Derived.Lib.EndianBits
namespace Go.Proofs.YtjlflbaglaillaaDoor
set_option linter.unusedSimpArgs false
set_option linter.unusedVariables false
open Go.ChangeShapes Go.WideShapes Go.ChangeAt Go.RowKit

def fldV (k : Int) : Int := if k = 0 then 1 else if k = 1 then 3 else if k = 2 then 7 else 15
def hmayB (u c : Bool) (k n : Int) : Bool := if u = true then decide (0 ≤ k) && decide (k < 4) && decide (0 ≤ n) && decide (n ≤ fldV k) else !c && (k == 0) && (n == 0)
def hputW (u c : Bool) (k n : Int) : Int := if hmayB u c k n = true then (if u = true then 128 + (if c = true then 64 else 0) + 16 * k + n else 0) else 0
def gU (x : Int) : Bool := decide (128 ≤ x) && decide (x < 256) && decide (x % 16 ≤ fldV (x / 16 % 4))
def gC (x : Int) : Bool := gU x && decide (x / 64 % 2 = 1)
def gK (x : Int) : Int := if gU x = true then x / 16 % 4 else 0
def gN (x : Int) : Int := if gU x = true then x % 16 else 0

theorem fldV_le (k n : Int) (h0 : 0 ≤ k) (h1 : k < 4) (h : n ≤ fldV k) : (k = 0 ∧ n ≤ 1) ∨ (k = 1 ∧ n ≤ 3) ∨ (k = 2 ∧ n ≤ 7) ∨ (k = 3 ∧ n ≤ 15) := by
  obtain rfl | rfl | rfl | rfl : k = 0 ∨ k = 1 ∨ k = 2 ∨ k = 3 := by omega
  all_goals simp [fldV] at h ⊢; omega
theorem hmay_cases {c : Bool} {k n : Int} (h : hmayB true c k n = true) : (k = 0 ∧ 0 ≤ n ∧ n ≤ 1) ∨ (k = 1 ∧ 0 ≤ n ∧ n ≤ 3) ∨ (k = 2 ∧ 0 ≤ n ∧ n ≤ 7) ∨ (k = 3 ∧ 0 ≤ n ∧ n ≤ 15) := by
  simp [hmayB] at h
  have := fldV_le k n (by omega) (by omega) h.2
  omega
theorem hmay_un {c : Bool} {k n : Int} (h : hmayB false c k n = true) : c = false ∧ k = 0 ∧ n = 0 := by
  simp [hmayB] at h
  exact ⟨h.1.1, h.1.2, h.2⟩

theorem hputW_yes {c : Bool} {k n : Int} (h : hmayB true c k n = true) : hputW true c k n = 128 + (if c = true then 64 else 0) + 16 * k + n := by
  simp [hputW, h]

theorem hputW_no {u c : Bool} {k n : Int} (h : hmayB u c k n = false) : hputW u c k n = 0 := by simp [hputW, h]
theorem hputW_un (c : Bool) (k n : Int) : hputW false c k n = 0 := by simp [hputW]

theorem raw_yes (x : Int) (h : gU x = true) : 128 ≤ x ∧ x < 256 ∧ x / 128 % 2 = 1 ∧ hmayB true (decide (x / 64 % 2 = 1)) (x / 16 % 4) (x % 16) = true ∧ hputW true (decide (x / 64 % 2 = 1)) (x / 16 % 4) (x % 16) = x := by
  simp [gU] at h
  have hm : hmayB true (decide (x / 64 % 2 = 1)) (x / 16 % 4) (x % 16) = true := by simp [hmayB, h]; omega
  refine ⟨by omega, by omega, by omega, hm, ?_⟩
  rw [hputW_yes hm]
  simp only [decide_eq_true_eq]
  split <;> omega
/-- What a test tells of a header that may be: it is x's just if it is what x says. -/
theorem raw_of (x : Int) (c : Bool) (k n : Int) (h : hmayB true c k n = true) (hp : hputW true c k n = x) : gU x = true ∧ c = decide (x / 64 % 2 = 1) ∧ k = x / 16 % 4 ∧ n = x % 16 := by
  rw [hputW_yes h] at hp
  have hk := hmay_cases h
  simp [hmayB] at h
  have e1 : x / 16 % 4 = k := by subst hp; split <;> omega
  have e2 : x % 16 = n := by subst hp; split <;> omega
  refine ⟨?_, ?_, e1.symm, e2.symm⟩
  · simp [gU, e1, e2, h]; subst hp; split <;> omega
  · cases c <;> simp at hp ⊢ <;> omega
end Go.Proofs.YtjlflbaglaillaaDoor
