/- Shading (chapter 16), as data: heaps with some objects painted. -/
import Derived.Test.YtmbgodncagjncaaDoorB28
import Derived.Test.YtmbgodncagjncaaDoorB10
import Derived.Test.YtmbgodncagjncaaDoorB19
namespace Go.Proofs.YtmbgodncagjncaaDoor
set_option linter.unusedSimpArgs false
set_option linter.unusedVariables false
open Go.ChangeShapes Go.WideShapes Go.ChangeAt Go.RowKit

/-- Objects lie apart: each is of its span's class. -/
def apB (h : Hp) : Bool := (obL h h.n).all fun a => obK h a == (spH h (a / 32)).cl
theorem ob_range {h : Hp} {a : Int} (hF : formB h = true) (ho : obB h a = true) : 0 ≤ a ∧ a < h.n := by
  obtain ⟨-, -, a0, a1, -⟩ := ob_spec hF ho
  exact ⟨a0, a1⟩
theorem mem_obL {h : Hp} {a : Int} (hF : formB h = true) : a ∈ obL h h.n ↔ obB h a = true := by
  rw [obL_mem]
  exact ⟨fun h => h.2.2, fun ho => ⟨(ob_range hF ho).1, (ob_range hF ho).2, ho⟩⟩
theorem apB_iff {h : Hp} (hF : formB h = true) : apB h = true ↔ ∀ a, obB h a = true → obK h a = (spH h (a / 32)).cl := by
  unfold apB
  rw [List.all_eq_true]
  constructor
  · intro H a ho
    simpa using H a ((mem_obL hF).2 ho)
  · intro H a ha
    simpa using H a ((mem_obL hF).1 ha)
/-- A heap in which the objects of P are black. -/
def pnH (h : Hp) (P : Int → Bool) : Hp := { h with z := fun i => if (obB h i && P i) = true then hputW true h.b (obK h i) (obN h i) else h.z i }
theorem pn_n (h : Hp) (P : Int → Bool) : (pnH h P).n = h.n ∧ (pnH h P).m = h.m ∧ (pnH h P).b = h.b := ⟨rfl, rfl, rfl⟩
theorem pn_word {h : Hp} {P : Int → Bool} {a : Int} (a0 : 0 ≤ a) : woH (pnH h P) a = if (obB h a && P a) = true then hputW true h.b (obK h a) (obN h a) else woH h a := by
  show (if (obB h (a.toNat : Int) && P (a.toNat : Int)) = true then hputW true h.b (obK h (a.toNat : Int)) (obN h (a.toNat : Int)) else h.z a.toNat) = _
  rw [show ((a.toNat : Nat) : Int) = a by omega]
  rfl
theorem ob_out {h : Hp} {a : Int} (a0 : ¬ 0 ≤ a) : obB h a = false := by
  have hf : fiB h a = false := by unfold fiB; rw [inI_no (by omega)]; rfl
  unfold obB; rw [hf]; rfl
theorem ob_may {h : Hp} {a : Int} (hF : formB h = true) (ho : obB h a = true) (c : Bool) : hmayB true c (obK h a) (obN h a) = true := by
  obtain ⟨-, -, -, -, -, -, -, eK, eN, hm⟩ := ob_spec hF ho
  rw [eK, eN]
  exact may_any_colour hm
theorem pn_ob {h : Hp} (hF : formB h = true) (P : Int → Bool) (a : Int) :
    obB (pnH h P) a = obB h a ∧ obK (pnH h P) a = obK h a ∧ obN (pnH h P) a = obN h a ∧ obC (pnH h P) a = if (obB h a && P a) = true then h.b else obC h a := by
  by_cases a0 : 0 ≤ a
  · have hfi : fiB (pnH h P) a = fiB h a := rfl
    by_cases e : (obB h a && P a) = true
    · have ho : obB h a = true := by simp only [Bool.and_eq_true] at e; exact e.1
      obtain ⟨o1, o2, o3, o4, o5, o6, oC, oK, oN, -⟩ := ob_spec hF ho
      obtain ⟨g1, g2, g3, g4⟩ := got_of (ob_may hF ho h.b)
      have hw : woH (pnH h P) a = hputW true h.b (obK h a) (obN h a) := by rw [pn_word a0, if_pos e]
      have hoa : obB (pnH h P) a = true := by
        unfold obB
        rw [hw, hfi, o1, g1, g4, oN]
        simp
        exact o5
      obtain ⟨-, -, -, -, -, -, pC, pK, pN, -⟩ := ob_spec (h := pnH h P) hF hoa
      rw [hw] at pC pK pN
      exact ⟨by rw [hoa, ho], by rw [pK, g3], by rw [pN, g4], by rw [pC, g2, if_pos e]⟩
    · have hw : woH (pnH h P) a = woH h a := by rw [pn_word a0, if_neg e]
      have hob : obB (pnH h P) a = obB h a := by unfold obB; rw [hw, hfi]
      rw [if_neg e]
      exact ⟨hob, by unfold obK; rw [hob, hw], by unfold obN; rw [hob, hw], by unfold obC; rw [hob, hw]⟩
  · have o1 := ob_out (h := h) a0
    have o2 := ob_out (h := pnH h P) a0
    obtain ⟨a1, a2, a3⟩ := ob_no o1
    obtain ⟨b1, b2, b3⟩ := ob_no o2
    rw [if_neg (by simp [o1])]
    exact ⟨by rw [o1, o2], by rw [a2, b2], by rw [a3, b3], by rw [a1, b1]⟩
theorem pn_black {h : Hp} (hF : formB h = true) (P : Int → Bool) (a : Int) : blB (pnH h P) a = (blB h a || (obB h a && P a)) := by
  obtain ⟨e1, -, -, e4⟩ := pn_ob hF P a
  unfold blB
  rw [e1, e4, (pn_n h P).2.2]
  cases obB h a <;> cases P a <;> simp
theorem pn_list {h : Hp} (hF : formB h = true) (P : Int → Bool) (k : Nat) : obL (pnH h P) k = obL h k := obL_congr (fun b => (pn_ob hF P b).1) k
/-- The word of an object that is black. -/
theorem black_word {h : Hp} {a : Int} (hF : formB h = true) (hb : blB h a = true) : woH h a = hputW true h.b (obK h a) (obN h a) := by
  simp only [blB, Bool.and_eq_true, beq_iff_eq] at hb
  obtain ⟨ho, hc⟩ := hb
  obtain ⟨-, o2, -, -, -, -, oC, oK, oN, -⟩ := ob_spec hF ho
  obtain ⟨-, -, -, -, hp⟩ := raw_yes _ o2
  have e1 : gC (woH h a) = decide (woH h a / 64 % 2 = 1) := by unfold gC; rw [o2]; rfl
  have e2 : gK (woH h a) = woH h a / 16 % 4 := by unfold gK; rw [if_pos o2]
  have e3 : gN (woH h a) = woH h a % 16 := by unfold gN; rw [if_pos o2]
  rw [← hc, oC, oK, oN, e1, e2, e3]
  exact hp.symm
theorem hp_ext {h g : Hp} (h1 : h.n = g.n) (h2 : h.z = g.z) (h3 : h.m = g.m) (h4 : h.s = g.s) (h5 : h.b = g.b) : h = g := by
  obtain ⟨_, _, _, _, _⟩ := h
  obtain ⟨_, _, _, _, _⟩ := g
  dsimp only at h1 h2 h3 h4 h5
  subst h1 h2 h3 h4 h5
  rfl
theorem wo_nat (h : Hp) (i : Nat) : woH h (i : Int) = h.z i := by unfold woH; rw [Int.toNat_natCast]
/-- Painting hangs on who is white alone. -/
theorem pn_congr {h : Hp} (hF : formB h = true) {P Q : Int → Bool} (e : ∀ a, obB h a = true → blB h a = false → P a = Q a) : pnH h P = pnH h Q := by
  refine hp_ext rfl (funext fun i => ?_) rfl rfl rfl
  rw [← wo_nat, ← wo_nat, pn_word (by omega), pn_word (by omega)]
  cases ho : obB h i with
  | false => simp
  | true =>
    cases hb : blB h i with
    | false => rw [e _ ho hb]
    | true => simp only [Bool.true_and, black_word hF hb, ite_self]
theorem pn_none {h : Hp} (hF : formB h = true) {P : Int → Bool} (e : ∀ a, obB h a = true → blB h a = false → P a = false) : pnH h P = h := by
  rw [pn_congr hF (Q := fun _ => false) e]
  refine hp_ext rfl (funext fun i => ?_) rfl rfl rfl
  rw [← wo_nat, ← wo_nat, pn_word (by omega)]
  simp
theorem pn_again {h : Hp} (hF : formB h = true) (P Q : Int → Bool) : pnH (pnH h P) Q = pnH h (fun a => P a || Q a) := by
  refine hp_ext rfl (funext fun i => ?_) rfl rfl rfl
  obtain ⟨e1, e2, e3, -⟩ := pn_ob hF P (i : Int)
  rw [← wo_nat, ← wo_nat, pn_word (by omega), pn_word (by omega), pn_word (by omega), e1, e2, e3]
  show (if _ then hputW true h.b _ _ else _) = _
  cases obB h i <;> cases P i <;> cases Q i <;> simp
theorem pa_pn {h : Hp} (hF : formB h = true) (a : Int) : paH h a = pnH h (fun x => x == a) := by
  unfold paH
  by_cases ho : obB h a = true
  · rw [if_pos ho]
    obtain ⟨a0, a1⟩ := ob_range hF ho
    refine hp_ext rfl (funext fun i => ?_) rfl rfl rfl
    rw [← wo_nat, ← wo_nat, pn_word (by omega)]
    by_cases e : (i : Int) = a
    · rw [e, wo_same a0, if_pos (by simp [ho])]
    · rw [wo_put (by omega) e, if_neg (by simp [e])]
  · rw [if_neg ho, pn_none hF fun x hx _ => ?_]
    simp only [beq_eq_false_iff_ne]
    rintro rfl
    exact ho hx
/-- Where objects lie apart no field is another one's header. -/
theorem pn_field {h : Hp} (hF : formB h = true) (hA : apB h = true) (P : Int → Bool) {a : Int} (ho : obB h a = true) {j : Nat} (hj : (j : Int) < obN h a) : woH (pnH h P) (a + 1 + j) = woH h (a + 1 + j) := by
  obtain ⟨o1, -, a0, -, -, -, -, oK, oN, hm⟩ := ob_spec hF ho
  rw [pn_word (by omega)]
  by_cases e : (obB h (a + 1 + j) && P (a + 1 + j)) = true
  · exfalso
    have hb : obB h (a + 1 + j) = true := by simp only [Bool.and_eq_true] at e; exact e.1
    obtain ⟨b1, -⟩ := ob_spec hF hb
    obtain ⟨-, -, -, f1⟩ := may_class hm
    rw [← oK, ← oN, (apB_iff hF).1 hA a ho] at f1
    have k1 := block_in hF o1
    have k2 := block_in hF b1
    have k3 := blocks_apart hF o1 b1 (by omega)
    omega
  · rw [if_neg e]
theorem rfH_congr {h g : Hp} {a : Int} (hn : obN g a = obN h a) (hw : ∀ j : Nat, (j : Int) < obN h a → woH g (a + 1 + j) = woH h (a + 1 + j)) : rfH g a = rfH h a := by
  have hk : ∀ k : Nat, (k : Int) ≤ obN h a → rfL g a k = rfL h a k := fun k => by
    induction k with
    | zero => intro _; rfl
    | succ k ih =>
      intro hk
      have e := hw k (by omega)
      have ih := ih (by omega)
      by_cases e2 : getK (woH h (a + 1 + k)) = 2
      · rw [rfL_yes e2, rfL_yes (by rw [e]; exact e2), ih, e]
      · rw [rfL_no e2, rfL_no (by rw [e]; exact e2), ih]
  unfold rfH
  rw [hn]
  by_cases h0 : 0 ≤ obN h a
  · exact hk _ (by omega)
  · rw [show (obN h a).toNat = 0 by omega]; rfl
theorem pn_refs {h : Hp} (hF : formB h = true) (hA : apB h = true) (P : Int → Bool) (a : Int) : rfH (pnH h P) a = rfH h a := by
  obtain ⟨e1, -, e3, -⟩ := pn_ob hF P a
  refine rfH_congr e3 fun j hj => ?_
  cases ho : obB h a with
  | true => exact pn_field hF hA P ho hj
  | false => rw [(ob_no ho).2.2] at hj; omega
/-! Values shaded, one behind the other: the heap, the row, whether it is over. -/
structure Sd where
  h : Hp
  n : Nat
  z : Nat → Int
  o : Bool
/-- Is anything done with a value? -/
def shB (h : Hp) (v : Vl) : Bool := decide (v.k = 2) && (obB h v.n && !blB h v.n)
def sdS (r : Int) (s : Sd) (v : Vl) : Sd := if shB s.h v = true then ⟨paH s.h v.n, gpN r s.n v.n, gpZ r s.n s.z v.n, s.o || !gpB r s.n v.n⟩ else s
end Go.Proofs.YtmbgodncagjncaaDoor
