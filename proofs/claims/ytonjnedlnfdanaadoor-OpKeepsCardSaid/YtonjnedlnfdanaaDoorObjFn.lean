/- Objects as data: what chapter 8 says of them, plain lemmas. -/
import Derived.Test.YtonjnedlnfdanaaDoorHeapFn
import Derived.Test.YtonjnedlnfdanaaDoorWord
namespace Go.Proofs.YtonjnedlnfdanaaDoor
set_option linter.unusedSimpArgs false
set_option linter.unusedVariables false
open Go.ChangeShapes Go.WideShapes Go.ChangeAt Go.RowKit

/-- The word at an address. -/
def woH (h : Hp) (a : Int) : Int := h.z a.toNat
/-- An object is there. -/
def obB (h : Hp) (a : Int) : Bool := fiB h a && (gU (woH h a) && decide (a + gN (woH h a) < 32 * (a / 32) + 32))
def obC (h : Hp) (a : Int) : Bool := obB h a && gC (woH h a)
def obK (h : Hp) (a : Int) : Int := if obB h a = true then gK (woH h a) else 0
def obN (h : Hp) (a : Int) : Int := if obB h a = true then gN (woH h a) else 0
def fdE (h : Hp) (a i : Int) : Int := if obB h a = true then (if 0 ≤ i ∧ i < obN h a then 0 else 4) else 1
/-- The word of a field. -/
def fdX (h : Hp) (a i : Int) : Int := if fdE h a i = 0 then woH h (a + 1 + i) else 0
def putH (h : Hp) (p x : Int) : Hp := { h with z := putZ h.z p x }
def seE (h : Hp) (a i k n : Int) : Int := if fdE h a i = 0 then (if mayB k n = true then 0 else 1) else fdE h a i
def seH (h : Hp) (a i k n : Int) : Hp := if seE h a i k n = 0 then putH h (a + 1 + i) (putV k n) else h
def paH (h : Hp) (a : Int) : Hp := if obB h a = true then putH h a (hputW true h.b (obK h a) (obN h a)) else h
def blB (h : Hp) (a : Int) : Bool := obB h a && (obC h a == h.b)
theorem ob_no {h : Hp} {a : Int} (e : obB h a = false) : obC h a = false ∧ obK h a = 0 ∧ obN h a = 0 := by
  refine ⟨by unfold obC; rw [e]; rfl, ?_, ?_⟩
  · unfold obK; rw [if_neg (by simp [e])]
  · unfold obN; rw [if_neg (by simp [e])]
theorem gN_bound {X : Int} : 0 ≤ gN X ∧ gN X ≤ 15 := by
  unfold gN
  split
  · omega
  · omega
theorem wo_wf {h : Hp} (hw : h.wf) {a : Int} (a0 : 0 ≤ a) (a1 : a < h.n) : 0 ≤ woH h a ∧ woH h a < 18446744073709551616 := by
  have := hw.1 a.toNat (by omega)
  exact wf_u64 this
theorem ob_spec {h : Hp} {a : Int} (hf : formB h = true) (e : obB h a = true) :
    fiB h a = true ∧ gU (woH h a) = true ∧ 0 ≤ a ∧ a < h.n ∧ a + gN (woH h a) < 32 * (a / 32) + 32 ∧ 32 * (a / 32) + 32 ≤ h.n ∧ obC h a = gC (woH h a) ∧ obK h a = gK (woH h a) ∧ obN h a = gN (woH h a) ∧ hmayB true (gC (woH h a)) (gK (woH h a)) (gN (woH h a)) = true := by
  have e' := e
  simp only [obB, Bool.and_eq_true, decide_eq_true_eq] at e'
  obtain ⟨h1, h2, h3⟩ := e'
  obtain ⟨p0, p1, -⟩ := fi_spec hf h1
  have hn := (form_iff.1 hf).2.2.1
  refine ⟨h1, h2, by omega, by omega, h3, by omega, by unfold obC; rw [e]; rfl, by unfold obK; rw [if_pos e], by unfold obN; rw [if_pos e], ?_⟩
  obtain ⟨-, -, -, h4, -⟩ := raw_yes _ h2
  have e1 : gC (woH h a) = decide (woH h a / 64 % 2 = 1) := by unfold gC; rw [h2]; rfl
  have e2 : gK (woH h a) = woH h a / 16 % 4 := by unfold gK; rw [if_pos h2]
  have e3 : gN (woH h a) = woH h a % 16 := by unfold gN; rw [if_pos h2]
  rw [e1, e2, e3]
  exact h4
theorem may_any_colour {c c' : Bool} {k n : Int} (h : hmayB true c k n = true) : hmayB true c' k n = true := by simpa [hmayB] using h
theorem fd_cases (h : Hp) (a i : Int) : (obB h a = true ∧ 0 ≤ i ∧ i < obN h a ∧ fdE h a i = 0 ∧ fdX h a i = woH h (a + 1 + i)) ∨ (obB h a = true ∧ ¬ (0 ≤ i ∧ i < obN h a) ∧ fdE h a i = 4 ∧ fdX h a i = 0) ∨ (obB h a = false ∧ fdE h a i = 1 ∧ fdX h a i = 0) := by
  cases e : obB h a with
  | true =>
    by_cases h1 : 0 ≤ i ∧ i < obN h a
    · have e0 : fdE h a i = 0 := by unfold fdE; rw [if_pos e, if_pos h1]
      exact .inl ⟨rfl, h1.1, h1.2, e0, by unfold fdX; rw [if_pos e0]⟩
    · have e0 : fdE h a i = 4 := by unfold fdE; rw [if_pos e, if_neg h1]
      exact .inr (.inl ⟨rfl, h1, e0, by unfold fdX; rw [if_neg (by omega)]⟩)
  | false =>
    have e0 : fdE h a i = 1 := by unfold fdE; rw [if_neg (by simp [e])]
    exact .inr (.inr ⟨rfl, e0, by unfold fdX; rw [if_neg (by omega)]⟩)
theorem get_zero : getK 0 = 0 ∧ getN 0 = 0 := by decide
theorem put_form (h : Hp) (p x : Int) : formB (putH h p x) = formB h := rfl
theorem se_form {h : Hp} (hf : formB h = true) (a i k n : Int) : formB (seH h a i k n) = true := by
  unfold seH; split
  · exact hf
  · exact hf
theorem pa_form {h : Hp} (hf : formB h = true) (a : Int) : formB (paH h a) = true := by
  unfold paH; split
  · exact hf
  · exact hf
end Go.Proofs.YtonjnedlnfdanaaDoor
