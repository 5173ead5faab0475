/- Shading (chapter 16), as data: heaps with some objects painted. -/
import Derived.Test.YtokbggokkjefhaaDoorSoundFn
import Derived.Test.YtokbggokkjefhaaDoorVals
import Derived.Test.YtokbggokkjefhaaDoorGreyFn
namespace Go.Proofs.YtokbggokkjefhaaDoor
set_option linter.unusedSimpArgs false
set_option linter.unusedVariables false
open Go.ChangeShapes Go.WideShapes Go.ChangeAt Go.RowKit

/-- Objects lie apart: each is of its span's class. -/
def apB (h : Hp) : Bool := (obL h h.n).all fun a => obK h a == (spH h (a / 32)).cl
theorem ob_range {h : Hp} {a : Int} (hF : formB h = true) (ho : obB h a = true) : 0 ≤ a ∧ a < h.n := by
  obtain ⟨-, -, a0, a1, -⟩ := ob_spec hF ho
  exact ⟨a0, a1⟩
theorem mem_obL {h : Hp} {a : Int} (hF : formB h = true) : a ∈ obL h h.n ↔ obB h a = true := by
  rw [obL_mem]
  exact ⟨fun h => h.2.2, fun ho => ⟨(ob_range hF ho).1, (ob_range hF ho).2, ho⟩⟩
theorem apB_iff {h : Hp} (hF : formB h = true) : apB h = true ↔ ∀ a, obB h a = true → obK h a = (spH h (a / 32)).cl := by
  unfold apB
  rw [List.all_eq_true]
  constructor
  · intro H a ho
    simpa using H a ((mem_obL hF).2 ho)
  · intro H a ha
    simpa using H a ((mem_obL hF).1 ha)
/-- A heap in which the objects of P are black. -/
def pnH (h : Hp) (P : Int → Bool) : Hp := { h with z := fun i => if (obB h i && P i) = true then hputW true h.b (obK h i) (obN h i) else h.z i }
theorem pn_n (h : Hp) (P : Int → Bool) : (pnH h P).n = h.n ∧ (pnH h P).m = h.m ∧ (pnH h P).b = h.b := ⟨rfl, rfl, rfl⟩
theorem pn_form (h : Hp) (P : Int → Bool) : formB (pnH h P) = formB h := rfl
theorem pn_word {h : Hp} {P : Int → Bool} {a : Int} (a0 : 0 ≤ a) : woH (pnH h P) a = if (obB h a && P a) = true then hputW true h.b (obK h a) (obN h a) else woH h a := by
  show (if (obB h (a.toNat : Int) && P (a.toNat : Int)) = true then hputW true h.b (obK h (a.toNat : Int)) (obN h (a.toNat : Int)) else h.z a.toNat) = _
  rw [show ((a.toNat : Nat) : Int) = a by omega]
  rfl
theorem ob_out {h : Hp} {a : Int} (a0 : ¬ 0 ≤ a) : obB h a = false := by
  have hf : fiB h a = false := by unfold fiB; rw [inI_no (by omega)]; rfl
  unfold obB; rw [hf]; rfl
theorem ob_may {h : Hp} {a : Int} (hF : formB h = true) (ho : obB h a = true) (c : Bool) : hmayB true c (obK h a) (obN h a) = true := by
  obtain ⟨-, -, -, -, -, -, -, eK, eN, hm⟩ := ob_spec hF ho
  rw [eK, eN]
  exact may_any_colour hm
theorem pn_ob {h : Hp} (hF : formB h = true) (P : Int → Bool) (a : Int) :
    obB (pnH h P) a = obB h a ∧ obK (pnH h P) a = obK h a ∧ obN (pnH h P) a = obN h a ∧ obC (pnH h P) a = if (obB h a && P a) = true then h.b else obC h a := by
  by_cases a0 : 0 ≤ a
  · have hfi : fiB (pnH h P) a = fiB h a := rfl
    by_cases e : (obB h a && P a) = true
    · have ho : obB h a = true := by simp only [Bool.and_eq_true] at e; exact e.1
      obtain ⟨o1, o2, o3, o4, o5, o6, oC, oK, oN, -⟩ := ob_spec hF ho
      obtain ⟨g1, g2, g3, g4⟩ := got_of (ob_may hF ho h.b)
      have hw : woH (pnH h P) a = hputW true h.b (obK h a) (obN h a) := by rw [pn_word a0, if_pos e]
      have hoa : obB (pnH h P) a = true := by
        unfold obB
        rw [hw, hfi, o1, g1, g4, oN]
        simp
        exact o5
      obtain ⟨-, -, -, -, -, -, pC, pK, pN, -⟩ := ob_spec (h := pnH h P) hF hoa
      rw [hw] at pC pK pN
      exact ⟨by rw [hoa, ho], by rw [pK, g3], by rw [pN, g4], by rw [pC, g2, if_pos e]⟩
    · have hw : woH (pnH h P) a = woH h a := by rw [pn_word a0, if_neg e]
      have hob : obB (pnH h P) a = obB h a := by unfold obB; rw [hw, hfi]
      rw [if_neg e]
      exact ⟨hob, by unfold obK; rw [hob, hw], by unfold obN; rw [hob, hw], by unfold obC; rw [hob, hw]⟩
  · have o1 := ob_out (h := h) a0
    have o2 := ob_out (h := pnH h P) a0
    obtain ⟨a1, a2, a3⟩ := ob_no o1
    obtain ⟨b1, b2, b3⟩ := ob_no o2
    rw [if_neg (by simp [o1])]
    exact ⟨by rw [o1, o2], by rw [a2, b2], by rw [a3, b3], by rw [a1, b1]⟩
theorem pn_black {h : Hp} (hF : formB h = true) (P : Int → Bool) (a : Int) : blB (pnH h P) a = (blB h a || (obB h a && P a)) := by
  obtain ⟨e1, -, -, e4⟩ := pn_ob hF P a
  unfold blB
  rw [e1, e4, (pn_n h P).2.2]
  cases obB h a <;> cases P a <;> simp
theorem pn_list {h : Hp} (hF : formB h = true) (P : Int → Bool) (k : Nat) : obL (pnH h P) k = obL h k := obL_congr (fun b => (pn_ob hF P b).1) k
/-- The word of an object that is black. -/
theorem black_word {h : Hp} {a : Int} (hF : formB h = true) (hb : blB h a = true) : woH h a = hputW true h.b (obK h a) (obN h a) := by
  simp only [blB, Bool.and_eq_true, beq_iff_eq] at hb
  obtain ⟨ho, hc⟩ := hb
  obtain ⟨-, o2, -, -, -, -, oC, oK, oN, -⟩ := ob_spec hF ho
  obtain ⟨-, -, -, -, hp⟩ := raw_yes _ o2
  have e1 : gC (woH h a) = decide (woH h a / 64 % 2 = 1) := by unfold gC; rw [o2]; rfl
  have e2 : gK (woH h a) = woH h a / 16 % 4 := by unfold gK; rw [if_pos o2]
  have e3 : gN (woH h a) = woH h a % 16 := by unfold gN; rw [if_pos o2]
  rw [← hc, oC, oK, oN, e1, e2, e3]
  exact hp.symm
theorem hp_ext {h g : Hp} (h1 : h.n = g.n) (h2 : h.z = g.z) (h3 : h.m = g.m) (h4 : h.s = g.s) (h5 : h.b = g.b) : h = g := by
  obtain ⟨_, _, _, _, _⟩ := h
  obtain ⟨_, _, _, _, _⟩ := g
  dsimp only at h1 h2 h3 h4 h5
  subst h1 h2 h3 h4 h5
  rfl
theorem wo_nat (h : Hp) (i : Nat) : woH h (i : Int) = h.z i := by unfold woH; rw [Int.toNat_natCast]
/-- Painting hangs on who is white alone. -/
theorem pn_congr {h : Hp} (hF : formB h = true) {P Q : Int → Bool} (e : ∀ a, obB h a = true → blB h a = false → P a = Q a) : pnH h P = pnH h Q := by
  refine hp_ext rfl (funext fun i => ?_) rfl rfl rfl
  rw [← wo_nat, ← wo_nat, pn_word (by omega), pn_word (by omega)]
  cases ho : obB h i with
  | false => simp
  | true =>
    cases hb : blB h i with
    | false => rw [e _ ho hb]
    | true => simp only [Bool.true_and, black_word hF hb, ite_self]
theorem pn_none {h : Hp} (hF : formB h = true) {P : Int → Bool} (e : ∀ a, obB h a = true → blB h a = false → P a = false) : pnH h P = h := by
  rw [pn_congr hF (Q := fun _ => false) e]
  refine hp_ext rfl (funext fun i => ?_) rfl rfl rfl
  rw [← wo_nat, ← wo_nat, pn_word (by omega)]
  simp
theorem pn_again {h : Hp} (hF : formB h = true) (P Q : Int → Bool) : pnH (pnH h P) Q = pnH h (fun a => P a || Q a) := by
  refine hp_ext rfl (funext fun i => ?_) rfl rfl rfl
  obtain ⟨e1, e2, e3, -⟩ := pn_ob hF P (i : Int)
  rw [← wo_nat, ← wo_nat, pn_word (by omega), pn_word (by omega), pn_word (by omega), e1, e2, e3]
  show (if _ then hputW true h.b _ _ else _) = _
  cases obB h i <;> cases P i <;> cases Q i <;> simp
theorem pa_pn {h : Hp} (hF : formB h = true) (a : Int) : paH h a = pnH h (fun x => x == a) := by
  unfold paH
  by_cases ho : obB h a = true
  · rw [if_pos ho]
    obtain ⟨a0, a1⟩ := ob_range hF ho
    refine hp_ext rfl (funext fun i => ?_) rfl rfl rfl
    rw [← wo_nat, ← wo_nat, pn_word (by omega)]
    by_cases e : (i : Int) = a
    · rw [e, wo_same a0, if_pos (by simp [ho])]
    · rw [wo_put (by omega) e, if_neg (by simp [e])]
  · rw [if_neg ho, pn_none hF fun x hx _ => ?_]
    simp only [beq_eq_false_iff_ne]
    rintro rfl
    exact ho hx
/-- Where objects lie apart no field is another one's header. -/
theorem pn_field {h : Hp} (hF : formB h = true) (hA : apB h = true) (P : Int → Bool) {a : Int} (ho : obB h a = true) {j : Nat} (hj : (j : Int) < obN h a) : woH (pnH h P) (a + 1 + j) = woH h (a + 1 + j) := by
  obtain ⟨o1, -, a0, -, -, -, -, oK, oN, hm⟩ := ob_spec hF ho
  rw [pn_word (by omega)]
  by_cases e : (obB h (a + 1 + j) && P (a + 1 + j)) = true
  · exfalso
    have hb : obB h (a + 1 + j) = true := by simp only [Bool.and_eq_true] at e; exact e.1
    obtain ⟨b1, -⟩ := ob_spec hF hb
    obtain ⟨-, -, -, f1⟩ := may_class hm
    rw [← oK, ← oN, (apB_iff hF).1 hA a ho] at f1
    have k1 := block_in hF o1
    have k2 := block_in hF b1
    have k3 := blocks_apart hF o1 b1 (by omega)
    omega
  · rw [if_neg e]
theorem rfH_congr {h g : Hp} {a : Int} (hn : obN g a = obN h a) (hw : ∀ j : Nat, (j : Int) < obN h a → woH g (a + 1 + j) = woH h (a + 1 + j)) : rfH g a = rfH h a := by
  have hk : ∀ k : Nat, (k : Int) ≤ obN h a → rfL g a k = rfL h a k := fun k => by
    induction k with
    | zero => intro _; rfl
    | succ k ih =>
      intro hk
      have e := hw k (by omega)
      have ih := ih (by omega)
      by_cases e2 : getK (woH h (a + 1 + k)) = 2
      · rw [rfL_yes e2, rfL_yes (by rw [e]; exact e2), ih, e]
      · rw [rfL_no e2, rfL_no (by rw [e]; exact e2), ih]
  unfold rfH
  rw [hn]
  by_cases h0 : 0 ≤ obN h a
  · exact hk _ (by omega)
  · rw [show (obN h a).toNat = 0 by omega]; rfl
theorem pn_refs {h : Hp} (hF : formB h = true) (hA : apB h = true) (P : Int → Bool) (a : Int) : rfH (pnH h P) a = rfH h a := by
  obtain ⟨e1, -, e3, -⟩ := pn_ob hF P a
  refine rfH_congr e3 fun j hj => ?_
  cases ho : obB h a with
  | true => exact pn_field hF hA P ho hj
  | false => rw [(ob_no ho).2.2] at hj; omega
theorem pn_apart {h : Hp} (hF : formB h = true) (hA : apB h = true) (P : Int → Bool) : apB (pnH h P) = true :=
  (apB_iff (h := pnH h P) hF).2 fun a ho => by
    obtain ⟨e1, e2, -⟩ := pn_ob hF P a
    rw [e1] at ho
    rw [e2]
    exact (apB_iff hF).1 hA a ho
/-! Values shaded, one behind the other: the heap, the row, whether it is over. -/
structure Sd where
  h : Hp
  n : Nat
  z : Nat → Int
  o : Bool
/-- Is anything done with a value? -/
def shB (h : Hp) (v : Vl) : Bool := decide (v.k = 2) && (obB h v.n && !blB h v.n)
def sdS (r : Int) (s : Sd) (v : Vl) : Sd := if shB s.h v = true then ⟨paH s.h v.n, gpN r s.n v.n, gpZ r s.n s.z v.n, s.o || !gpB r s.n v.n⟩ else s
def sdA (r : Int) (s : Sd) (y : Nat → Vl) : Nat → Sd
  | 0 => s
  | k + 1 => sdS r (sdA r s y k) (y k)
/-- Is an address named by one of the first k values? -/
def nmB (y : Nat → Vl) : Nat → Int → Bool
  | 0, _ => false
  | k + 1, a => nmB y k a || (decide ((y k).k = 2) && (y k).n == a)
theorem nm_iff {y : Nat → Vl} {a : Int} : ∀ {k : Nat}, nmB y k a = true ↔ ∃ j, j < k ∧ (y j).k = 2 ∧ (y j).n = a
  | 0 => by simp [nmB]
  | k + 1 => by
    simp only [nmB, Bool.or_eq_true, Bool.and_eq_true, decide_eq_true_eq, beq_iff_eq, nm_iff (k := k)]
    constructor
    · rintro (⟨j, h1, h2⟩ | h)
      · exact ⟨j, by omega, h2⟩
      · exact ⟨k, by omega, h⟩
    · rintro ⟨j, h1, h2⟩
      by_cases e : j = k
      · subst e; exact .inr h2
      · exact .inl ⟨j, by omega, h2⟩
theorem sd_heap {h : Hp} (hF : formB h = true) (r : Int) (n : Nat) (z : Nat → Int) (o : Bool) (y : Nat → Vl) : ∀ k, (sdA r ⟨h, n, z, o⟩ y k).h = pnH h (nmB y k)
  | 0 => (pn_none hF fun _ _ _ => rfl).symm
  | k + 1 => by
    have ih := sd_heap hF r n z o y k
    show (sdS r (sdA r ⟨h, n, z, o⟩ y k) (y k)).h = _
    unfold sdS
    by_cases e : shB (sdA r ⟨h, n, z, o⟩ y k).h (y k) = true
    · rw [if_pos e]
      show paH (sdA r ⟨h, n, z, o⟩ y k).h (y k).n = _
      rw [ih] at e ⊢
      rw [pa_pn (show formB (pnH h (nmB y k)) = true from hF), pn_again hF]
      refine pn_congr hF fun a _ _ => ?_
      have e2 : (y k).k = 2 := by simp only [shB, Bool.and_eq_true, decide_eq_true_eq] at e; exact e.1
      show _ = (nmB y k a || (decide ((y k).k = 2) && (y k).n == a))
      rw [decide_eq_true e2, Bool.true_and, Bool.beq_comm]
    · rw [if_neg e, ih]
      rw [ih] at e
      refine pn_congr hF fun a ho hb => ?_
      show _ = (nmB y k a || (decide ((y k).k = 2) && (y k).n == a))
      by_cases e2 : (decide ((y k).k = 2) && (y k).n == a) = true
      · simp only [Bool.and_eq_true, decide_eq_true_eq, beq_iff_eq] at e2
        obtain ⟨e3, rfl⟩ := e2
        have : blB (pnH h (nmB y k)) (y k).n = true := by
          have h1 := (pn_ob hF (nmB y k) (y k).n).1
          rw [ho] at h1
          simpa [shB, e3, h1] using e
        rw [pn_black hF, hb, ho] at this
        simp at this
        rw [this]; rfl
      · rw [show (decide ((y k).k = 2) && (y k).n == a) = false by simpa using e2, Bool.or_false]
/-- How many objects became black. -/
def whN (h : Hp) (P : Int → Bool) : Nat := (obL h h.n).countP fun a => !blB h a && P a
theorem countP_one {L : List Int} {a : Int} {p q : Int → Bool} (hn : L.Nodup) (ha : a ∈ L) (hp : p a = false) (hq : ∀ x, q x = (p x || x == a)) : L.countP q = L.countP p + 1 := by
  induction L with
  | nil => cases ha
  | cons x L ih =>
    obtain ⟨hx, hn⟩ := List.nodup_cons.1 hn
    rw [List.countP_cons, List.countP_cons, hq x]
    rcases List.mem_cons.1 ha with rfl | ha
    · have : L.countP q = L.countP p := List.countP_congr fun y hy => by
        rw [hq y]
        have : ¬ y = a := fun e => hx (e ▸ hy)
        simp [this]
      rw [this, hp]
      simp
    · have : ¬ x = a := fun e => hx (e ▸ ha)
      rw [ih hn ha]
      simp [this]
      omega
theorem obL_nodup (h : Hp) (k : Nat) : (obL h k).Nodup := (obL_rise h k).imp fun hlt => by omega
theorem wh_none {h : Hp} {P : Int → Bool} (e : ∀ a, obB h a = true → blB h a = false → P a = false) (hF : formB h = true) : whN h P = 0 := by
  unfold whN
  rw [List.countP_eq_zero]
  intro a ha
  cases hb : blB h a with
  | true => simp
  | false => rw [e a ((mem_obL hF).1 ha) hb]; simp
/-- What became black is in the row, in order, or it is over. -/
theorem sd_row {h : Hp} (hF : formB h = true) {r : Int} {n : Nat} (z : Nat → Int) (hr : (n : Int) ≤ r) (y : Nat → Vl) : ∀ k,
    (sdA r ⟨h, n, z, false⟩ y k).n = n + min (whN h (nmB y k)) (r - n).toNat ∧ (sdA r ⟨h, n, z, false⟩ y k).o = decide ((r - n).toNat < whN h (nmB y k)) ∧
    ((sdA r ⟨h, n, z, false⟩ y k).o = false → ∀ a, obB h a = true → blB h a = false → nmB y k a = true → ∃ t, t < (sdA r ⟨h, n, z, false⟩ y k).n ∧ (sdA r ⟨h, n, z, false⟩ y k).z t = a) ∧
    (∀ t, t < n → (sdA r ⟨h, n, z, false⟩ y k).z t = z t)
  | 0 => by
    have e : whN h (nmB y 0) = 0 := wh_none (fun _ _ _ => rfl) hF
    refine ⟨?_, ?_, ?_, fun t ht => rfl⟩
    · rw [e]; show n = _; omega
    · rw [e]; show false = _; simp
    · intro _ a _ _ hm; cases hm
  | k + 1 => by
    obtain ⟨i1, i2, i3, i4⟩ := sd_row hF z hr y k
    have hh := sd_heap hF r n z false y k
    show (sdS r (sdA r ⟨h, n, z, false⟩ y k) (y k)).n = _ ∧ (sdS r (sdA r ⟨h, n, z, false⟩ y k) (y k)).o = _ ∧ _ ∧ _
    have hS : sdA r ⟨h, n, z, false⟩ y (k + 1) = sdS r (sdA r ⟨h, n, z, false⟩ y k) (y k) := rfl
    rw [hS]
    generalize sdA r ⟨h, n, z, false⟩ y k = S at *
    unfold sdS
    by_cases e : shB S.h (y k) = true
    · rw [if_pos e]
      rw [hh] at e
      simp only [shB, Bool.and_eq_true, decide_eq_true_eq, Bool.not_eq_true'] at e
      obtain ⟨ek, eo, eb⟩ := e
      rw [(pn_ob hF _ _).1] at eo
      rw [pn_black hF, eo] at eb
      simp only [Bool.or_eq_false_iff, Bool.true_and] at eb
      obtain ⟨eb, en⟩ := eb
      have hw : whN h (nmB y (k + 1)) = whN h (nmB y k) + 1 := countP_one (obL_nodup _ _) ((mem_obL hF).2 eo) (by simp [en]) fun x => by
        show (!blB h x && (nmB y k x || (decide ((y k).k = 2) && (y k).n == x))) = _
        rw [decide_eq_true ek, Bool.true_and]
        by_cases ex : x = (y k).n
        · subst ex; simp [eb]
        · have : ((y k).n == x) = false := by simpa using fun h => ex h.symm
          simp [this, ex]
      have a0 := (ob_range hF eo).1
      have hB : gpB r S.n (y k).n = decide ((S.n : Int) < r) := by unfold gpB; simp [a0]
      rw [hw]
      by_cases hlt : (S.n : Int) < r
      · have hB1 : gpB r S.n (y k).n = true := by rw [hB]; simpa using hlt
        have e1 : gpN r S.n (y k).n = S.n + 1 := by unfold gpN; rw [if_pos hB1]
        have e2 : gpZ r S.n S.z (y k).n = pzZ S.z S.n (y k).n := by unfold gpZ; rw [if_pos hB1]
        refine ⟨?_, ?_, fun hov a ho hb hm => ?_, fun t ht => ?_⟩
        · show gpN r S.n (y k).n = _; omega
        · show (S.o || !gpB r S.n (y k).n) = _
          rw [hB1, i2, Bool.not_true, Bool.or_false]
          exact decide_eq_decide.2 (by omega)
        · show ∃ t, t < gpN r S.n (y k).n ∧ gpZ r S.n S.z (y k).n t = a
          rw [e1, e2]
          have hov' : S.o = false := by
            have : (S.o || !gpB r S.n (y k).n) = false := hov
            rw [hB1] at this
            simpa using this
          by_cases ea : a = (y k).n
          · exact ⟨S.n, by omega, by unfold pzZ; rw [if_pos rfl, ea]⟩
          · have hm' : nmB y k a = true := by
              have : (nmB y k a || (decide ((y k).k = 2) && (y k).n == a)) = true := hm
              rw [show ((y k).n == a) = false by simpa using fun h => ea h.symm] at this
              simpa using this
            obtain ⟨t, t1, t2⟩ := i3 hov' a ho hb hm'
            exact ⟨t, by omega, by unfold pzZ; rw [if_neg (by omega)]; exact t2⟩
        · show gpZ r S.n S.z (y k).n t = z t
          rw [e2]; unfold pzZ
          rw [if_neg (by omega)]
          exact i4 t ht
      · have hB0 : gpB r S.n (y k).n = false := by rw [hB]; simpa using hlt
        have e1 : gpN r S.n (y k).n = S.n := by unfold gpN; rw [if_neg (by simp [hB0])]
        have e2 : gpZ r S.n S.z (y k).n = S.z := by unfold gpZ; rw [if_neg (by simp [hB0])]
        refine ⟨?_, ?_, fun hov => ?_, fun t ht => ?_⟩
        · show gpN r S.n (y k).n = _; omega
        · show (S.o || !gpB r S.n (y k).n) = _
          rw [hB0, Bool.not_false, Bool.or_true]
          symm
          simp only [decide_eq_true_eq]
          omega
        · have : (S.o || !gpB r S.n (y k).n) = false := hov
          rw [hB0] at this
          simp at this
        · show gpZ r S.n S.z (y k).n t = z t
          rw [e2]; exact i4 t ht
    · rw [if_neg e]
      have hc : ∀ a, obB h a = true → blB h a = false → nmB y (k + 1) a = nmB y k a := fun a ho hb => by
        show (nmB y k a || (decide ((y k).k = 2) && (y k).n == a)) = _
        by_cases e2 : (decide ((y k).k = 2) && (y k).n == a) = true
        · simp only [Bool.and_eq_true, decide_eq_true_eq, beq_iff_eq] at e2
          obtain ⟨e3, rfl⟩ := e2
          rw [hh] at e
          have : blB (pnH h (nmB y k)) (y k).n = true := by
            have h1 := (pn_ob hF (nmB y k) (y k).n).1
            rw [ho] at h1
            simpa [shB, e3, h1] using e
          rw [pn_black hF, hb, ho] at this
          simp at this
          rw [this]; rfl
        · rw [show (decide ((y k).k = 2) && (y k).n == a) = false by simpa using e2, Bool.or_false]
      have hw : whN h (nmB y (k + 1)) = whN h (nmB y k) := by
        unfold whN
        refine List.countP_congr fun a ha => ?_
        cases hb : blB h a with
        | true => simp
        | false => rw [hc a ((mem_obL hF).1 ha) hb]
      rw [hw]
      exact ⟨i1, i2, fun hov a ho hb hm => i3 hov a ho hb (by rw [← hc a ho hb]; exact hm), i4⟩
/-- Values that are shaded once more change nothing. -/
theorem sd_still {r : Int} {s : Sd} {y : Nat → Vl} : ∀ k, (∀ j, j < k → shB s.h (y j) = false) → sdA r s y k = s
  | 0, _ => rfl
  | k + 1, H => by
    show sdS r (sdA r s y k) (y k) = s
    rw [sd_still k fun j hj => H j (by omega)]
    unfold sdS
    rw [if_neg (by rw [H k (by omega)]; simp)]
theorem sd_twice {h : Hp} (hF : formB h = true) {r : Int} {n : Nat} {z : Nat → Int} {o o' : Bool} {y : Nat → Vl} {k : Nat} {n' : Nat} {z' : Nat → Int} : sdA r ⟨(sdA r ⟨h, n, z, o⟩ y k).h, n', z', o'⟩ y k = ⟨(sdA r ⟨h, n, z, o⟩ y k).h, n', z', o'⟩ := by
  refine sd_still k fun j hj => ?_
  show shB (sdA r ⟨h, n, z, o⟩ y k).h (y j) = false
  rw [sd_heap hF]
  unfold shB
  by_cases e : (y j).k = 2
  · rw [pn_black hF, (pn_ob hF _ _).1, nm_iff.2 ⟨j, hj, e, rfl⟩]
    cases obB h (y j).n <;> simp
  · simp [e]
end Go.Proofs.YtokbggokkjefhaaDoor
