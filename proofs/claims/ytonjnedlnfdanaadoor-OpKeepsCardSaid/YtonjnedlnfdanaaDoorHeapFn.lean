/- Heaps as data: what chapter 7 says of them, plain lemmas. -/
import Derived.Test.YtonjnedlnfdanaaDoorArena
import Derived.Test.YtonjnedlnfdanaaDoorSpans
import Derived.Test.YtonjnedlnfdanaaDoorHeader
namespace Go.Proofs.YtonjnedlnfdanaaDoor
set_option linter.unusedSimpArgs false
set_option linter.unusedVariables false
open Go.ChangeShapes Go.WideShapes Go.ChangeAt Go.RowKit

def Sp.right (s : Sp) : Bool := rightB s.st s.cl s.fr
def spEq (s t : Sp) : Bool := s.st == t.st && (s.cl == t.cl && s.fr == t.fr)
theorem spEq_iff {s t : Sp} : spEq s t = true ↔ s = t := by
  obtain ⟨a, b, c⟩ := s
  obtain ⟨a', b', c'⟩ := t
  simp [spEq]
theorem spEq_self (s : Sp) : spEq s s = true := spEq_iff.2 rfl
/-- Another span at a place. -/
def setS (s : Nat → Sp) (p : Int) (x : Sp) : Nat → Sp := fun j => if (j : Int) = p then x else s j
/-- So many words from a place on become 0. -/
def zerZ (z : Nat → Int) (a k : Int) : Nat → Int := fun j => if a ≤ j ∧ (j : Int) < a + k then 0 else z j
def spH (h : Hp) (p : Int) : Sp := h.s p.toNat
def formB (h : Hp) : Bool := decide (1 ≤ h.m ∧ h.m ≤ 16 ∧ h.n = 32 * h.m ∧ ∀ i, i < h.m → (h.s i).right = true)
def sameS (n : Nat) (s t : Nat → Sp) : Bool := (List.range n).all fun i => spEq (s i) (t i)
def sameH (a b : Hp) : Bool := (a.b == b.b) && (decide (a.m = b.m) && (sameZ a.n a.z b.n b.z && sameS a.m a.s b.s))
/-- The block that begins at an address. -/
def fiB (h : Hp) (a : Int) : Bool := inI (32 * h.m) a && (!((spH h (a / 32)).st == 0) && plB (spH h (a / 32)).cl a)
def fiP (h : Hp) (a : Int) : Int := if fiB h a = true then a / 32 else 0
def fiI (h : Hp) (a : Int) : Int := if fiB h a = true then plI (spH h (a / 32)).cl a else 0
def withS (h : Hp) (p : Int) (x : Sp) : Hp := { h with s := setS h.s p x }
def opB (h : Hp) (p c : Int) : Bool := inI h.m p && (clB c && (spH h p).st == 0)
def opH (h : Hp) (p c : Int) : Hp := if opB h p c = true then withS h p ⟨1, c, wholeW (blW c)⟩ else h
def loB (h : Hp) (p : Int) : Bool := inI h.m p && (!((spH h p).st == 0) && countW (spH h p).fr == blW (spH h p).cl)
def loH (h : Hp) (p : Int) : Hp := if loB h p = true then withS h p ⟨0, 0, 0⟩ else h
def laB (h : Hp) (p f : Int) : Bool := inI h.m p && (decide (0 ≤ f) && (decide (f < szW (spH h p).cl) && takeB (spH h p).st (spH h p).fr))
def laA (h : Hp) (p f : Int) : Int := if laB h p f = true then 32 * p + leastW (spH h p).fr * szW (spH h p).cl else 0
def laH (h : Hp) (p f : Int) : Hp :=
  if laB h p f = true then
    { withS h p ⟨(spH h p).st, (spH h p).cl, woutW (spH h p).fr (leastW (spH h p).fr)⟩ with
      z := putZ (zerZ h.z (32 * p + leastW (spH h p).fr * szW (spH h p).cl) (szW (spH h p).cl)) (32 * p + leastW (spH h p).fr * szW (spH h p).cl) (hputW true h.b (spH h p).cl f) }
  else h
def frB (h : Hp) (a : Int) : Bool := fiB h a && giveB (spH h (a / 32)).st (spH h (a / 32)).cl (spH h (a / 32)).fr (plI (spH h (a / 32)).cl a)
def frH (h : Hp) (a : Int) : Hp :=
  if frB h a = true then
    { withS h (a / 32) ⟨(spH h (a / 32)).st, (spH h (a / 32)).cl, withW (spH h (a / 32)).fr (plI (spH h (a / 32)).cl a)⟩ with z := zerZ h.z a (szW (spH h (a / 32)).cl) }
  else h
def usS (s : Sp) : Int := usedN s.st s.cl s.fr * szW s.cl
def usT (s : Nat → Sp) : Nat → Int
  | 0 => 0
  | k + 1 => usT s k + usS (s k)
def usH (h : Hp) : Int := usT h.s h.m
/-- What Go's types say of a heap. -/
def Hp.wf (h : Hp) : Prop := (∀ i, i < h.n → (Lit.int .u64 (h.z i)).wf = true) ∧ ∀ i, i < h.m → (h.s i).wf

theorem form_iff {h : Hp} : formB h = true ↔ 1 ≤ h.m ∧ h.m ≤ 16 ∧ h.n = 32 * h.m ∧ ∀ i, i < h.m → (h.s i).right = true := by simp only [formB, decide_eq_true_eq]
theorem wf_mask {h : Hp} (hw : h.wf) {p : Int} (h0 : 0 ≤ p) (h1 : p < h.m) : Mask (spH h p).fr := (hw.2 p.toNat (by omega)).2.2
theorem form_at {h : Hp} (hf : formB h = true) {p : Int} (h0 : 0 ≤ p) (h1 : p < h.m) : rightB (spH h p).st (spH h p).cl (spH h p).fr = true := (form_iff.1 hf).2.2.2 p.toNat (by omega)
theorem form_with {h : Hp} (hf : formB h = true) {p : Int} {x : Sp} (hx : x.right = true) : formB (withS h p x) = true := by
  obtain ⟨a, b, c, d⟩ := form_iff.1 hf
  refine form_iff.2 ⟨a, b, c, fun i hi => ?_⟩
  show (setS h.s p x i).right = true
  unfold setS
  split
  · exact hx
  · exact d i hi
theorem form_words {h : Hp} (z : Nat → Int) : formB { h with z := z } = formB h := rfl
theorem form_open {h : Hp} (hf : formB h = true) (p c : Int) : formB (opH h p c) = true := by
  unfold opH
  split
  · rename_i e
    simp only [opB, Bool.and_eq_true] at e
    have := e.2.1
    simp only [clB, Bool.and_eq_true, decide_eq_true_eq] at this
    exact form_with hf (right_mask_new c this.1 this.2)
  · exact hf
theorem form_close {h : Hp} (hf : formB h = true) (p : Int) : formB (loH h p) = true := by
  unfold loH
  split
  · exact form_with hf (by decide)
  · exact hf
theorem la_spec {h : Hp} {p f : Int} (hf : formB h = true) (hw : h.wf) (e : laB h p f = true) :
    0 ≤ p ∧ p < h.m ∧ p < 16 ∧ 0 ≤ f ∧ f < szW (spH h p).cl ∧ takeB (spH h p).st (spH h p).fr = true ∧ (spH h p).st = 1 ∧ 0 ≤ (spH h p).cl ∧ (spH h p).cl < 4 ∧ 0 ≤ leastW (spH h p).fr ∧ leastW (spH h p).fr < blW (spH h p).cl := by
  simp only [laB, Bool.and_eq_true, decide_eq_true_eq] at e
  obtain ⟨e1, e2, e3, e4⟩ := e
  obtain ⟨p0, p1⟩ := of_inI e1
  obtain ⟨a, b, c, d, e, -⟩ := take_spec (form_at hf p0 p1) (wf_mask hw p0 p1) e4
  have := (form_iff.1 hf).2.1
  exact ⟨p0, p1, by omega, e2, e3, e4, a, b, c, d, e⟩
theorem form_lay {h : Hp} (hf : formB h = true) (hw : h.wf) (p f : Int) : formB (laH h p f) = true := by
  unfold laH
  split
  · rename_i e
    obtain ⟨p0, p1, -, -, -, ht, -⟩ := la_spec hf hw e
    have hr := right_take (form_at hf p0 p1) (wf_mask hw p0 p1)
    rw [takeF, if_pos ht] at hr
    exact form_with (h := h) hf hr
  · exact hf
theorem fi_spec {h : Hp} {a : Int} (hf : formB h = true) (e : fiB h a = true) :
    0 ≤ a / 32 ∧ a / 32 < h.m ∧ a / 32 < 16 ∧ ((spH h (a / 32)).st = 1 ∨ (spH h (a / 32)).st = 2) ∧ plB (spH h (a / 32)).cl a = true ∧ 0 ≤ plI (spH h (a / 32)).cl a ∧ plI (spH h (a / 32)).cl a < blW (spH h (a / 32)).cl ∧ 32 * (a / 32) + plI (spH h (a / 32)).cl a * szW (spH h (a / 32)).cl = a := by
  simp only [fiB, Bool.and_eq_true, Bool.not_eq_true', beq_eq_false_iff_ne] at e
  obtain ⟨e1, e2, e3⟩ := e
  obtain ⟨a0, a1⟩ := of_inI e1
  have hm := (form_iff.1 hf).2.1
  obtain ⟨-, -, c, d, e⟩ := pl_in e3
  have hp : plP (spH h (a / 32)).cl a = a / 32 := by unfold plP; rw [if_pos e3]
  rw [hp] at e
  have hst : (spH h (a / 32)).st = 1 ∨ (spH h (a / 32)).st = 2 := by
    rcases right_iff.1 (form_at hf (p := a / 32) (by omega) (by omega)) with ⟨h0, -⟩ | ⟨h0, -⟩
    · exact absurd h0 e2
    · exact h0
  exact ⟨by omega, by omega, by omega, hst, e3, c, d, e⟩
/-- Where a block begins there is one. -/
theorem fi_of {h : Hp} {p i : Int} (hf : formB h = true) (p0 : 0 ≤ p) (p1 : p < h.m) (hst : ¬ (spH h p).st = 0) (i0 : 0 ≤ i) (i1 : i < blW (spH h p).cl) :
    fiB h (32 * p + i * szW (spH h p).cl) = true ∧ (32 * p + i * szW (spH h p).cl) / 32 = p ∧ plI (spH h p).cl (32 * p + i * szW (spH h p).cl) = i := by
  have hm := (form_iff.1 hf).2.1
  obtain ⟨a, b, c⟩ := pl_at p0 (show p < 16 by omega) i0 i1 rfl
  have hp : (32 * p + i * szW (spH h p).cl) / 32 = p := by
    have : plP (spH h p).cl (32 * p + i * szW (spH h p).cl) = (32 * p + i * szW (spH h p).cl) / 32 := by unfold plP; rw [if_pos a]
    omega
  refine ⟨?_, hp, c⟩
  unfold fiB
  rw [hp, a, inI_yes (by omega) (by omega)]
  simp [hst]
theorem fr_spec {h : Hp} {a : Int} (hf : formB h = true) (hw : h.wf) (e : frB h a = true) :
    fiB h a = true ∧ giveB (spH h (a / 32)).st (spH h (a / 32)).cl (spH h (a / 32)).fr (plI (spH h (a / 32)).cl a) = true ∧ hasB (spH h (a / 32)).fr (plI (spH h (a / 32)).cl a) = false := by
  simp only [frB, Bool.and_eq_true] at e
  obtain ⟨p0, p1, -⟩ := fi_spec hf e.1
  exact ⟨e.1, e.2, (give_spec (form_at hf p0 p1) (wf_mask hw p0 p1) e.2).2.2.2.2.2.2.1⟩
theorem form_free {h : Hp} (hf : formB h = true) (hw : h.wf) (a : Int) : formB (frH h a) = true := by
  unfold frH
  split
  · rename_i e
    obtain ⟨e1, e2, -⟩ := fr_spec hf hw e
    obtain ⟨p0, p1, -⟩ := fi_spec hf e1
    have hr := right_give (i := plI (spH h (a / 32)).cl a) (form_at hf p0 p1) (wf_mask hw p0 p1)
    rw [giveF, if_pos e2] at hr
    exact form_with (h := h) hf hr
  · exact hf

/-! ### What is used. -/
theorem usT_congr {s t : Nat → Sp} : ∀ {k : Nat}, (∀ i, i < k → s i = t i) → usT s k = usT t k
  | 0, _ => rfl
  | k + 1, h => by
    simp only [usT]
    rw [usT_congr (k := k) fun i hi => h i (by omega), h k (by omega)]
theorem usT_set (s : Nat → Sp) (p : Int) (x : Sp) : ∀ {k : Nat}, 0 ≤ p → p < k → usT (setS s p x) k = usT s k - usS (s p.toNat) + usS x
  | 0, h0, h1 => by omega
  | k + 1, h0, h1 => by
    simp only [usT]
    by_cases e : p = k
    · subst e
      rw [usT_congr (s := setS s k x) (t := s) fun i hi => by unfold setS; rw [if_neg (by omega)]]
      have : setS s k x k = x := by unfold setS; rw [if_pos rfl]
      rw [this, Int.toNat_natCast]
      omega
    · rw [usT_set s p x (k := k) h0 (by omega)]
      have : setS s p x k = s k := by unfold setS; rw [if_neg (by omega)]
      rw [this]
      omega
theorem us_with {h : Hp} {p : Int} {x : Sp} (h0 : 0 ≤ p) (h1 : p < h.m) : usH (withS h p x) = usH h - usS (spH h p) + usS x := usT_set h.s p x h0 h1
theorem sameS_iff {n : Nat} {s t : Nat → Sp} : sameS n s t = true ↔ ∀ i, i < n → s i = t i := by
  simp only [sameS, List.all_eq_true, List.mem_range, spEq_iff]
theorem sameZ_iff {n m : Nat} {z y : Nat → Int} : sameZ n z m y = true ↔ n = m ∧ ∀ i, i < n → z i = y i := by simp only [sameZ, decide_eq_true_eq]
theorem sameH_iff {a b : Hp} : sameH a b = true ↔ a.b = b.b ∧ a.m = b.m ∧ (a.n = b.n ∧ ∀ i, i < a.n → a.z i = b.z i) ∧ ∀ i, i < a.m → a.s i = b.s i := by
  simp only [sameH, Bool.and_eq_true, beq_iff_eq, decide_eq_true_eq, sameZ_iff, sameS_iff]
theorem sameH_self (h : Hp) : sameH h h = true := sameH_iff.2 ⟨rfl, rfl, ⟨rfl, fun _ _ => rfl⟩, fun _ _ => rfl⟩
theorem set_set (s : Nat → Sp) (p : Int) (x y : Sp) : setS (setS s p x) p y = setS s p y := by
  funext j; unfold setS; split <;> rfl
theorem set_was (s : Nat → Sp) (p : Int) {x : Sp} (h0 : 0 ≤ p) (h : x = s p.toNat) (i : Nat) : setS s p x i = s i := by
  unfold setS; split
  · rename_i e; rw [h]; congr 1; omega
  · rfl
theorem spH_with (h : Hp) {p : Int} (x : Sp) (h0 : 0 ≤ p) : spH (withS h p x) p = x := by
  show setS h.s p x p.toNat = x
  unfold setS; rw [if_pos (by omega)]

/-! ### Opened and closed, laid and freed. -/
theorem op_spec {h : Hp} {p c : Int} (hf : formB h = true) (e : opB h p c = true) : 0 ≤ p ∧ p < h.m ∧ 0 ≤ c ∧ c < 4 ∧ spH h p = ⟨0, 0, 0⟩ := by
  simp only [opB, Bool.and_eq_true, beq_iff_eq, clB, decide_eq_true_eq] at e
  obtain ⟨e1, ⟨e2, e3⟩, e4⟩ := e
  obtain ⟨p0, p1⟩ := of_inI e1
  refine ⟨p0, p1, e2, e3, ?_⟩
  have hr := form_at hf p0 p1
  generalize spH h p = s at hr e4
  obtain ⟨st, cl, fr⟩ := s
  rcases right_iff.1 hr with ⟨-, h1, h2⟩ | ⟨h0, -⟩
  · simp at e4 h1 h2; simp [e4, h1, h2]
  · simp at e4 h0; omega
theorem open_close {h : Hp} {p c : Int} (hf : formB h = true) (e : opB h p c = true) :
    loB (opH h p c) p = true ∧ sameH (loH (opH h p c) p) h = true ∧ usH (opH h p c) = usH h := by
  obtain ⟨p0, p1, c0, c1, hs⟩ := op_spec hf e
  have eo : opH h p c = withS h p ⟨1, c, wholeW (blW c)⟩ := by unfold opH; rw [if_pos e]
  have hb := bl_bound c
  have hcount : countW (wholeW (blW c)) = blW c := (count_whole (cl := c) (mask_whole _) (by
    have := right_mask_new c c0 c1
    rcases right_iff.1 this with ⟨h, -⟩ | ⟨-, -, -, h⟩
    · exact absurd h (by decide)
    · exact h)).2 rfl
  have el : loB (opH h p c) p = true := by
    rw [eo]
    unfold loB
    rw [spH_with h _ p0, inI_yes p0 (show p < (withS h p ⟨1, c, wholeW (blW c)⟩).m from p1)]
    simp [hcount]
  refine ⟨el, ?_, ?_⟩
  · unfold loH
    rw [if_pos el, eo]
    refine sameH_iff.2 ⟨rfl, rfl, ⟨rfl, fun _ _ => rfl⟩, fun i _ => ?_⟩
    show setS (setS h.s p _) p ⟨0, 0, 0⟩ i = h.s i
    rw [set_set]
    exact set_was h.s p p0 hs.symm i
  · rw [eo, us_with p0 p1, hs]
    simp [usS, usedN, useB, hcount]
theorem add_one_mul' (a b : Int) : (a + 1) * b = a * b + b := by rw [Int.add_mul, Int.one_mul]
/-- What laying does. -/
theorem lay_free {h : Hp} {p f : Int} (hf : formB h = true) (hw : h.wf) (e : laB h p f = true) :
    fiB (laH h p f) (laA h p f) = true ∧ fiP (laH h p f) (laA h p f) = p ∧ frB (laH h p f) (laA h p f) = true ∧ usH (laH h p f) = usH h + szW (spH h p).cl ∧
      usH (frH (laH h p f) (laA h p f)) = usH h ∧ (∀ i, (frH (laH h p f) (laA h p f)).s i = h.s i) ∧ (frH (laH h p f) (laA h p f)).b = h.b ∧
      ∀ i, (frH (laH h p f) (laA h p f)).z i = zerZ h.z (laA h p f) (szW (spH h p).cl) i := by
  obtain ⟨p0, p1, p2, f0, f1, ht, hst, c0, c1, l0, l1⟩ := la_spec hf hw e
  have hr := form_at hf p0 p1
  have hm := wf_mask hw p0 p1
  obtain ⟨g0, g1, g2⟩ := give_back hr hm ht
  have ea : laA h p f = 32 * p + leastW (spH h p).fr * szW (spH h p).cl := by unfold laA; rw [if_pos e]
  have hf' := form_lay hf hw p f
  have el : laH h p f = { withS h p ⟨(spH h p).st, (spH h p).cl, woutW (spH h p).fr (leastW (spH h p).fr)⟩ with
      z := putZ (zerZ h.z (32 * p + leastW (spH h p).fr * szW (spH h p).cl) (szW (spH h p).cl)) (32 * p + leastW (spH h p).fr * szW (spH h p).cl) (hputW true h.b (spH h p).cl f) } := by
    unfold laH; rw [if_pos e]
  have hsp : spH (laH h p f) p = ⟨(spH h p).st, (spH h p).cl, woutW (spH h p).fr (leastW (spH h p).fr)⟩ := by
    rw [el]; exact spH_with h _ p0
  have hmm : (laH h p f).m = h.m := by rw [el]; rfl
  obtain ⟨i0, i1, i2⟩ := fi_of hf' (p := p) (i := leastW (spH h p).fr) p0 (by rw [hmm]; exact p1) (by rw [hsp]; show ¬ (spH h p).st = 0; omega) l0 (by rw [hsp]; exact l1)
  rw [hsp] at i0 i1 i2
  rw [ea]
  have efr : frB (laH h p f) (32 * p + leastW (spH h p).fr * szW (spH h p).cl) = true := by
    unfold frB
    rw [i0, i1, hsp, i2]
    simpa using g0
  have eus : usS ⟨(spH h p).st, (spH h p).cl, woutW (spH h p).fr (leastW (spH h p).fr)⟩ = usS (spH h p) + szW (spH h p).cl := by
    simp only [usS, usedN]
    rw [show useB (spH h p).st = true by rw [hst]; rfl, if_pos rfl, if_pos rfl, g2, ← add_one_mul']
    congr 1
    omega
  have eus1 : usH (laH h p f) = usH h + szW (spH h p).cl := by
    rw [el]
    show usH (withS h p _) = _
    rw [us_with p0 p1, eus]
    omega
  have efrH : frH (laH h p f) (32 * p + leastW (spH h p).fr * szW (spH h p).cl) =
      { withS (laH h p f) p ⟨(spH h p).st, (spH h p).cl, (spH h p).fr⟩ with z := zerZ (laH h p f).z (32 * p + leastW (spH h p).fr * szW (spH h p).cl) (szW (spH h p).cl) } := by
    unfold frH
    rw [if_pos efr, i1, hsp]
    simp only [i2, g1]
  have ehs : (⟨(spH h p).st, (spH h p).cl, (spH h p).fr⟩ : Sp) = spH h p := rfl
  refine ⟨i0, ?_, efr, eus1, ?_, ?_, ?_, ?_⟩
  · unfold fiP; rw [if_pos i0, i1]
  · rw [efrH, ehs]
    show usH (withS (laH h p f) p (spH h p)) = _
    rw [us_with p0 (by rw [hmm]; exact p1), hsp, eus, eus1]
    omega
  · intro i
    rw [efrH, ehs, el]
    show setS (setS h.s p _) p (spH h p) i = h.s i
    rw [set_set]
    exact set_was h.s p p0 rfl i
  · rw [efrH, el]; rfl
  · intro i
    rw [efrH, el]
    show zerZ (putZ (zerZ h.z _ _) _ _) _ _ i = _
    unfold zerZ putZ
    have hs2 : 2 ≤ szW (spH h p).cl := by have := cl_cases (spH h p).cl; omega
    by_cases hh : 32 * p + leastW (spH h p).fr * szW (spH h p).cl ≤ (i : Int) ∧ (i : Int) < 32 * p + leastW (spH h p).fr * szW (spH h p).cl + szW (spH h p).cl
    · rw [if_pos hh, if_pos hh]
    · rw [if_neg hh, if_neg hh, if_neg (by omega)]
      exact if_neg hh

/-! ### Objects that are laid and not freed lie apart. -/
/-- A block lies within its page. -/
theorem block_in {h : Hp} {a : Int} (hf : formB h = true) (e : fiB h a = true) : 0 ≤ a ∧ 32 * (a / 32) ≤ a ∧ a + szW (spH h (a / 32)).cl ≤ 32 * (a / 32) + 32 ∧ a + szW (spH h (a / 32)).cl ≤ h.n ∧ 2 ≤ szW (spH h (a / 32)).cl := by
  obtain ⟨p0, p1, -, -, -, i0, i1, e1⟩ := fi_spec hf e
  have hn := (form_iff.1 hf).2.2.1
  generalize plI (spH h (a / 32)).cl a = i at i0 i1 e1
  rcases cl_cases (spH h (a / 32)).cl with ⟨-, h0, h1, -⟩ | ⟨-, h0, h1, -⟩ | ⟨-, h0, h1, -⟩ | ⟨-, h0, h1, -⟩ | ⟨-, h0, h1, -⟩
  all_goals
    rw [h1] at i1
    rw [h0] at e1 ⊢
    omega
theorem blocks_apart {h : Hp} {a b : Int} (hf : formB h = true) (ha : fiB h a = true) (hb : fiB h b = true) (hne : ¬ a = b) :
    a + szW (spH h (a / 32)).cl ≤ b ∨ b + szW (spH h (b / 32)).cl ≤ a := by
  by_cases hp : a / 32 = b / 32
  · obtain ⟨-, -, -, -, -, i0, i1, e1⟩ := fi_spec hf ha
    obtain ⟨-, -, -, -, -, j0, j1, e2⟩ := fi_spec hf hb
    rw [← hp] at e2 j0 j1 ⊢
    generalize plI (spH h (a / 32)).cl a = i at i0 i1 e1
    generalize plI (spH h (a / 32)).cl b = j at j0 j1 e2
    rcases cl_cases (spH h (a / 32)).cl with ⟨-, h0, h1, -⟩ | ⟨-, h0, h1, -⟩ | ⟨-, h0, h1, -⟩ | ⟨-, h0, h1, -⟩ | ⟨-, h0, h1, -⟩
    all_goals
      rw [h1] at i1
      rw [h0] at e1 e2 ⊢
      omega
  · have := block_in hf ha
    have := block_in hf hb
    omega
/-- The block that begins there isn't free. -/
def usedB (h : Hp) (a : Int) : Bool := fiB h a && !hasB (spH h (a / 32)).fr (plI (spH h (a / 32)).cl a)
theorem fr_iff {h : Hp} (hf : formB h = true) (a : Int) : frB h a = usedB h a := by
  unfold frB usedB
  cases e : fiB h a with
  | false => rfl
  | true =>
    obtain ⟨-, -, -, hst, -, i0, i1, -⟩ := fi_spec hf e
    simp [giveB, (use_iff _).2 hst, i0, i1]
/-- What was laid and not freed: addresses with their words. -/
structure Laid (h : Hp) (L : List (Int × Int)) : Prop where
  form : formB h = true
  wf : h.wf
  all : ∀ a, a ∈ L.map Prod.fst ↔ usedB h a = true
  nodup : (L.map Prod.fst).Nodup
  size : ∀ x ∈ L, x.2 = szW (spH h (x.1 / 32)).cl
  head : ∀ x ∈ L, ∃ c f, hmayB true c (spH h (x.1 / 32)).cl f = true ∧ h.z x.1.toNat = hputW true c (spH h (x.1 / 32)).cl f
  tail : ∀ x ∈ L, ∀ k : Int, 0 < k → k < x.2 → h.z (x.1 + k).toNat = 0
  rest : ∀ j : Nat, j < h.n → (∀ x ∈ L, ¬ (x.1 ≤ j ∧ (j : Int) < x.1 + x.2)) → h.z j = 0
  sum : usH h = (L.map Prod.snd).sum
theorem Laid.fi {h : Hp} {L : List (Int × Int)} (hl : Laid h L) {x : Int × Int} (hx : x ∈ L) : fiB h x.1 = true := by
  have := (hl.all x.1).1 (List.mem_map_of_mem hx)
  simp only [usedB, Bool.and_eq_true] at this
  exact this.1
theorem Laid.one {h : Hp} {L : List (Int × Int)} (hl : Laid h L) {x y : Int × Int} (hx : x ∈ L) (hy : y ∈ L) (e : x.1 = y.1) : x = y := by
  have : x.2 = y.2 := by rw [hl.size x hx, hl.size y hy, e]
  exact Prod.ext e this
theorem Laid.apart {h : Hp} {L : List (Int × Int)} (hl : Laid h L) {x y : Int × Int} (hx : x ∈ L) (hy : y ∈ L) (hne : ¬ x.1 = y.1) : x.1 + x.2 ≤ y.1 ∨ y.1 + y.2 ≤ x.1 := by
  rw [hl.size x hx, hl.size y hy]
  exact blocks_apart hl.form (hl.fi hx) (hl.fi hy) hne
theorem spH_other (h : Hp) {p q : Int} (x : Sp) (h0 : 0 ≤ q) (hne : ¬ q = p) : spH (withS h p x) q = spH h q := by
  show setS h.s p x q.toNat = h.s q.toNat
  unfold setS; rw [if_neg (by omega)]
theorem wf_with {h : Hp} (hw : h.wf) {p : Int} {x : Sp} (hx : x.wf) : (withS h p x).wf := by
  refine ⟨hw.1, fun i hi => ?_⟩
  show (setS h.s p x i).wf
  unfold setS; split
  · exact hx
  · exact hw.2 i hi
/-- What is used is asked of its own page alone. -/
theorem used_other {h g : Hp} {a : Int} (hm : g.m = h.m) (hs : 0 ≤ a / 32 → spH g (a / 32) = spH h (a / 32)) : usedB g a = usedB h a := by
  unfold usedB fiB
  by_cases h0 : 0 ≤ a
  · rw [hs (by omega), hm]
  · rw [show inI (32 * g.m) a = false from inI_no (by omega), show inI (32 * h.m) a = false from inI_no (by omega)]
    rfl
theorem used_free {h : Hp} {a : Int} (e : (spH h (a / 32)).st = 0) : usedB h a = false := by simp [usedB, fiB, e]
theorem Laid.open {h : Hp} {L : List (Int × Int)} (hl : Laid h L) (p c : Int) : Laid (opH h p c) L := by
  cases e : opB h p c with
  | false => unfold opH; rw [if_neg (by simp [e])]; exact hl
  | true =>
    obtain ⟨p0, p1, c0, c1, hs⟩ := op_spec hl.form e
    have hus := (open_close hl.form e).2.2
    have hf' := form_open hl.form p c
    have eo : opH h p c = withS h p ⟨1, c, wholeW (blW c)⟩ := by unfold opH; rw [if_pos e]
    rw [eo] at hus hf' ⊢
    have hpage : ∀ a, usedB h a = true → spH (withS h p ⟨1, c, wholeW (blW c)⟩) (a / 32) = spH h (a / 32) := by
      intro a ha
      simp only [usedB, Bool.and_eq_true] at ha
      obtain ⟨q0, -, -, hst, -⟩ := fi_spec hl.form ha.1
      refine spH_other h _ q0 fun e => ?_
      rw [e, hs] at hst
      simp at hst
    have hused : ∀ a, usedB (withS h p ⟨1, c, wholeW (blW c)⟩) a = usedB h a := by
      intro a
      by_cases ea : a / 32 = p
      · rw [used_free (h := h) (by rw [ea, hs])]
        unfold usedB
        rw [ea, spH_with h _ p0]
        cases ef : fiB (withS h p ⟨1, c, wholeW (blW c)⟩) a with
        | false => rfl
        | true =>
          obtain ⟨-, -, -, -, -, i0, i1, -⟩ := fi_spec hf' ef
          rw [ea, spH_with h _ p0] at i0 i1
          have hb := bl_bound c
          simp only [] at i0 i1 ⊢
          rw [has_whole _ i0 (by omega)]
          simp [i1]
      · exact used_other rfl fun q0 => spH_other h _ q0 ea
    exact {
      form := hf'
      wf := wf_with hl.wf ⟨⟨by show (-9223372036854775808 : Int) ≤ 1; decide, by show (1 : Int) ≤ 9223372036854775807; decide⟩, ⟨by show -9223372036854775808 ≤ c; omega, by show c ≤ 9223372036854775807; omega⟩, mask_whole _⟩
      all := fun a => by rw [hused]; exact hl.all a
      nodup := hl.nodup
      size := fun x hx => by rw [hpage _ ((hl.all x.1).1 (List.mem_map_of_mem hx))]; exact hl.size x hx
      head := fun x hx => by rw [hpage _ ((hl.all x.1).1 (List.mem_map_of_mem hx))]; exact hl.head x hx
      tail := hl.tail
      rest := hl.rest
      sum := hus.trans hl.sum }
theorem lo_spec {h : Hp} {p : Int} (hf : formB h = true) (hw : h.wf) (e : loB h p = true) : 0 ≤ p ∧ p < h.m ∧ (∀ i, 0 ≤ i → i < blW (spH h p).cl → hasB (spH h p).fr i = true) ∧ usS (spH h p) = 0 := by
  simp only [loB, Bool.and_eq_true, Bool.not_eq_true', beq_eq_false_iff_ne, beq_iff_eq] at e
  obtain ⟨e1, e2, e3⟩ := e
  obtain ⟨p0, p1⟩ := of_inI e1
  have hm := wf_mask hw p0 p1
  rcases right_iff.1 (form_at hf p0 p1) with ⟨h0, -⟩ | ⟨-, c0, c1, hs⟩
  · exact absurd h0 e2
  · have hwhole := (count_whole hm hs).1 e3
    have hb := bl_bound (spH h p).cl
    refine ⟨p0, p1, fun i i0 i1 => ?_, ?_⟩
    · rw [hwhole, has_whole _ i0 (by omega)]; simp [i1]
    · unfold usS usedN
      split
      · rw [e3]; simp
      · simp
theorem Laid.close {h : Hp} {L : List (Int × Int)} (hl : Laid h L) (p : Int) : Laid (loH h p) L := by
  cases e : loB h p with
  | false => unfold loH; rw [if_neg (by simp [e])]; exact hl
  | true =>
    obtain ⟨p0, p1, hall, hu⟩ := lo_spec hl.form hl.wf e
    have hf' := form_close hl.form p
    have eo : loH h p = withS h p ⟨0, 0, 0⟩ := by unfold loH; rw [if_pos e]
    rw [eo] at hf' ⊢
    have hno : ∀ a, a / 32 = p → usedB h a = false := by
      intro a ea
      unfold usedB
      cases ef : fiB h a with
      | false => rfl
      | true =>
        obtain ⟨-, -, -, -, -, i0, i1, -⟩ := fi_spec hl.form ef
        rw [ea] at i0 i1 ⊢
        rw [hall _ i0 i1]
        rfl
    have hpage : ∀ a, usedB h a = true → spH (withS h p ⟨0, 0, 0⟩) (a / 32) = spH h (a / 32) := by
      intro a ha
      have ha' := ha
      simp only [usedB, Bool.and_eq_true] at ha'
      obtain ⟨q0, -⟩ := fi_spec hl.form ha'.1
      refine spH_other h _ q0 fun e => ?_
      rw [hno a e] at ha
      cases ha
    have hused : ∀ a, usedB (withS h p ⟨0, 0, 0⟩) a = usedB h a := by
      intro a
      by_cases ea : a / 32 = p
      · rw [hno a ea]
        exact used_free (by rw [ea, spH_with h _ p0])
      · exact used_other rfl fun q0 => spH_other h _ q0 ea
    exact {
      form := hf'
      wf := wf_with hl.wf ⟨⟨by decide, by decide⟩, ⟨by decide, by decide⟩, ⟨by decide, by decide⟩⟩
      all := fun a => by rw [hused]; exact hl.all a
      nodup := hl.nodup
      size := fun x hx => by rw [hpage _ ((hl.all x.1).1 (List.mem_map_of_mem hx))]; exact hl.size x hx
      head := fun x hx => by rw [hpage _ ((hl.all x.1).1 (List.mem_map_of_mem hx))]; exact hl.head x hx
      tail := hl.tail
      rest := hl.rest
      sum := by
        rw [us_with p0 p1, hu, ← hl.sum]
        simp [usS, usedN, useB] }

theorem hput_lt {c : Bool} {k n : Int} (h : hmayB true c k n = true) : 0 ≤ hputW true c k n ∧ hputW true c k n < 256 := by
  rw [hputW_yes h]
  have := hmay_cases h
  split <;> omega
theorem may_of {c : Bool} {k f : Int} (k0 : 0 ≤ k) (k1 : k < 4) (f0 : 0 ≤ f) (f1 : f < szW k) : hmayB true c k f = true := by
  rcases cl_cases k with ⟨rfl, h0, -⟩ | ⟨rfl, h0, -⟩ | ⟨rfl, h0, -⟩ | ⟨rfl, h0, -⟩ | ⟨h, -⟩
  all_goals first | omega | (rw [h0] at f1; simp [hmayB, fldV]; omega)
theorem wf_u64_of {a : Int} (h : 0 ≤ a) (h' : a < 18446744073709551616) : (Lit.int .u64 a).wf = true := by
  simp [Lit.wf, IntKind.min, IntKind.max, IntKind.signed, IntKind.bits]; omega
theorem wf_lay {h : Hp} (hf : formB h = true) (hw : h.wf) (p f : Int) : (laH h p f).wf := by
  unfold laH
  split
  · rename_i e
    obtain ⟨p0, p1, p2, f0, f1, ht, hst, c0, c1, l0, l1⟩ := la_spec hf hw e
    have hx : (⟨(spH h p).st, (spH h p).cl, woutW (spH h p).fr (leastW (spH h p).fr)⟩ : Sp).wf := by
      have := hw.2 p.toNat (by omega)
      exact ⟨this.1, this.2.1, mask_wout _ _⟩
    refine ⟨fun i hi => ?_, (wf_with hw (p := p) hx).2⟩
    show (Lit.int .u64 (putZ (zerZ h.z _ _) _ _ i)).wf = true
    unfold putZ zerZ
    split
    · have := hput_lt (may_of (c := h.b) c0 c1 f0 f1)
      exact wf_u64_of this.1 (by omega)
    · split
      · decide
      · exact hw.1 i hi
  · exact hw
theorem wf_free {h : Hp} (hw : h.wf) (a : Int) : (frH h a).wf := by
  unfold frH
  split
  · rename_i e
    simp only [frB, fiB, Bool.and_eq_true] at e
    obtain ⟨a0, a1⟩ := of_inI e.1.1
    have hs := hw.2 (a / 32).toNat (by omega)
    have hx : (⟨(spH h (a / 32)).st, (spH h (a / 32)).cl, withW (spH h (a / 32)).fr (plI (spH h (a / 32)).cl a)⟩ : Sp).wf := ⟨hs.1, hs.2.1, mask_with hs.2.2⟩
    refine ⟨fun i hi => ?_, (wf_with hw (p := a / 32) hx).2⟩
    show (Lit.int .u64 (zerZ h.z _ _ i)).wf = true
    unfold zerZ
    split
    · decide
    · exact hw.1 i hi
  · exact hw
/-- Of the class's blocks each index has an address of its own. -/
theorem at_of_index {h : Hp} {a : Int} {p i : Int} (hf : formB h = true) (e : fiB h a = true) (ep : a / 32 = p) (ei : plI (spH h (a / 32)).cl a = i) : a = 32 * p + i * szW (spH h p).cl := by
  obtain ⟨-, -, -, -, -, -, -, e1⟩ := fi_spec hf e
  rw [ei, ep] at e1
  exact e1.symm
theorem Laid.lay {h : Hp} {L : List (Int × Int)} (hl : Laid h L) (p f : Int) :
    Laid (laH h p f) (if laB h p f = true then L ++ [(laA h p f, szW (spH h p).cl)] else L) ∧ (laB h p f = true → (spH (laH h p f) p).cl = (spH h p).cl ∧ 0 ≤ (spH h p).cl ∧ (spH h p).cl < 4) := by
  cases e : laB h p f with
  | false => 
    refine ⟨?_, fun h => by cases h⟩
    unfold laH; rw [if_neg (by simp [e]), if_neg (by simp)]; exact hl
  | true =>
    obtain ⟨p0, p1, p2, f0, f1, ht, hst, c0, c1, l0, l1⟩ := la_spec hl.form hl.wf e
    have hr := form_at hl.form p0 p1
    have hm := wf_mask hl.wf p0 p1
    obtain ⟨-, -, -, -, -, lb, -⟩ := take_spec hr hm ht
    obtain ⟨k0, -, -, k3, -⟩ := lay_free hl.form hl.wf e
    have hf' := form_lay hl.form hl.wf p f
    have hw' := wf_lay hl.form hl.wf p f
    have ea : laA h p f = 32 * p + leastW (spH h p).fr * szW (spH h p).cl := by unfold laA; rw [if_pos e]
    have el : laH h p f = { withS h p ⟨(spH h p).st, (spH h p).cl, woutW (spH h p).fr (leastW (spH h p).fr)⟩ with
        z := putZ (zerZ h.z (laA h p f) (szW (spH h p).cl)) (laA h p f) (hputW true h.b (spH h p).cl f) } := by
      rw [ea]; unfold laH; rw [if_pos e]
    have hsp : spH (laH h p f) p = ⟨(spH h p).st, (spH h p).cl, woutW (spH h p).fr (leastW (spH h p).fr)⟩ := by
      rw [el]; exact spH_with h _ p0
    have hoth : ∀ q, 0 ≤ q → ¬ q = p → spH (laH h p f) q = spH h q := by
      intro q q0 hq; rw [el]; exact spH_other h _ q0 hq
    have hcl : ∀ q, 0 ≤ q → (spH (laH h p f) q).cl = (spH h q).cl := by
      intro q q0
      by_cases hq : q = p
      · rw [hq, hsp]
      · rw [hoth q q0 hq]
    have hmm : (laH h p f).m = h.m := by rw [el]; rfl
    have hnn : (laH h p f).n = h.n := by rw [el]; rfl
    have hz : (laH h p f).z = putZ (zerZ h.z (laA h p f) (szW (spH h p).cl)) (laA h p f) (hputW true h.b (spH h p).cl f) := by rw [el]
    obtain ⟨i0, i1, i2⟩ := fi_of hl.form (p := p) (i := leastW (spH h p).fr) p0 p1 (by omega) l0 l1
    rw [← ea] at i0 i1 i2
    have hfi : ∀ a, fiB (laH h p f) a = fiB h a := by
      intro a
      unfold fiB
      by_cases a0 : 0 ≤ a
      · by_cases hq : a / 32 = p
        · rw [hq, hsp, hmm]
        · rw [hoth _ (by omega) hq, hmm]
      · rw [show inI (32 * (laH h p f).m) a = false from inI_no (by omega), show inI (32 * h.m) a = false from inI_no (by omega)]
        rfl
    have hnew : usedB h (laA h p f) = false := by
      unfold usedB; rw [i1, i2, lb]; simp
    have hused : ∀ a, usedB (laH h p f) a = (usedB h a || decide (a = laA h p f)) := by
      intro a
      by_cases hq : a / 32 = p
      · unfold usedB
        rw [hfi, hq, hsp]
        cases ef : fiB h a with
        | false =>
          have : ¬ a = laA h p f := fun h => by rw [h, i0] at ef; cases ef
          simp [this]
        | true =>
          obtain ⟨-, -, -, -, -, j0, j1, -⟩ := fi_spec hl.form ef
          simp only [Bool.true_and]
          rw [has_wout _ _ hm, inB_yes l0 (by have := bl_bound (spH h p).cl; omega)]
          have : (plI (spH h p).cl a = leastW (spH h p).fr) ↔ a = laA h p f := by
            constructor
            · intro h1
              rw [ea]
              exact at_of_index hl.form ef hq (by rw [hq]; exact h1)
            · rintro rfl; exact i2
          rw [show decide (plI (spH h p).cl a = leastW (spH h p).fr) = decide (a = laA h p f) from decide_eq_decide.2 this]
          cases hasB (spH h p).fr (plI (spH h p).cl a) <;> cases decide (a = laA h p f) <;> rfl
      · have : ¬ a = laA h p f := fun h => hq (by rw [h]; exact i1)
        rw [used_other (h := h) hmm fun q0 => hoth _ q0 hq]
        simp [this]
    have hszp := (block_in hl.form i0).2.2.2.2
    rw [i1] at hszp
    have hold : ∀ x ∈ L, x.1 + x.2 ≤ laA h p f ∨ laA h p f + szW (spH h p).cl ≤ x.1 := by
      intro x hx
      rw [hl.size x hx]
      have hne : ¬ x.1 = laA h p f := fun e => by
        have := (hl.all x.1).1 (List.mem_map_of_mem hx)
        rw [e, hnew] at this; cases this
      have := blocks_apart hl.form (hl.fi hx) i0 hne
      rw [i1] at this
      exact this
    have hsz : ∀ x ∈ L, 2 ≤ x.2 ∧ 0 ≤ x.1 := by
      intro x hx
      rw [hl.size x hx]
      have := block_in hl.form (hl.fi hx)
      exact ⟨this.2.2.2.2, this.1⟩
    have a0 := (block_in hl.form i0).1
    refine ⟨?_, fun _ => ⟨by rw [hsp], c0, c1⟩⟩
    rw [if_pos rfl]
    refine { form := hf', wf := hw', all := fun a => ?_, nodup := ?_, size := fun x hx => ?_, head := fun x hx => ?_, tail := fun x hx k k0 k1 => ?_, rest := fun j hj hno => ?_, sum := ?_ }
    · rw [hused, List.map_append, List.mem_append, hl.all, Bool.or_eq_true, decide_eq_true_eq]
      simp
    · rw [List.map_append, List.nodup_append]
      refine ⟨hl.nodup, by simp, fun a ha b hb => ?_⟩
      simp at hb
      subst hb
      rintro rfl
      rw [(hl.all _).1 ha] at hnew
      cases hnew
    · rcases List.mem_append.1 hx with h1 | h1
      · rw [hcl _ (by have := hsz x h1; omega)]; exact hl.size x h1
      · simp at h1; subst h1; simp only []; rw [i1, hsp]
    · rcases List.mem_append.1 hx with h1 | h1
      · rw [hcl _ (by have := hsz x h1; omega), hz]
        obtain ⟨c, g, hc, hg⟩ := hl.head x h1
        refine ⟨c, g, hc, ?_⟩
        have := hold x h1
        have := hsz x h1
        unfold putZ zerZ
        rw [if_neg (by omega), if_neg (by omega)]
        exact hg
      · simp at h1; subst h1
        simp only []
        rw [i1, hsp, hz]
        refine ⟨h.b, f, may_of c0 c1 f0 f1, ?_⟩
        unfold putZ
        rw [if_pos (by omega)]
    · rw [hz]
      rcases List.mem_append.1 hx with h1 | h1
      · have := hold x h1
        have := hsz x h1
        unfold putZ zerZ
        rw [if_neg (by omega), if_neg (by omega)]
        exact hl.tail x h1 k k0 k1
      · simp at h1; subst h1
        simp only [] at k1 ⊢
        unfold putZ zerZ
        rw [if_neg (by omega), if_pos (by omega)]
    · rw [hz]
      rw [hnn] at hj
      have hn := hno (laA h p f, szW (spH h p).cl) (by simp)
      simp only [] at hn
      unfold putZ zerZ
      rw [if_neg (by omega), if_neg (by omega)]
      exact hl.rest j hj fun x hx => hno x (by simp [hx])
    · rw [k3, List.map_append, List.sum_append, hl.sum]
      simp

theorem Laid.free {h : Hp} {L : List (Int × Int)} (hl : Laid h L) (a : Int) :
    Laid (frH h a) (if frB h a = true then L.filter (fun x => !decide (x.1 = a)) else L) ∧ (frB h a = true ↔ a ∈ L.map Prod.fst) := by
  refine ⟨?_, by rw [fr_iff hl.form, hl.all]⟩
  cases e : frB h a with
  | false => unfold frH; rw [if_neg (by simp [e]), if_neg (by simp)]; exact hl
  | true =>
    obtain ⟨ef, hg, hno⟩ := fr_spec hl.form hl.wf e
    obtain ⟨p0, p1, p2, hst, hpl, i0, i1, -⟩ := fi_spec hl.form ef
    have hm := wf_mask hl.wf p0 p1
    have hb := bl_bound (spH h (a / 32)).cl
    have hf' := form_free hl.form hl.wf a
    have hw' := wf_free hl.wf a
    have el : frH h a = { withS h (a / 32) ⟨(spH h (a / 32)).st, (spH h (a / 32)).cl, withW (spH h (a / 32)).fr (plI (spH h (a / 32)).cl a)⟩ with z := zerZ h.z a (szW (spH h (a / 32)).cl) } := by
      unfold frH; rw [if_pos e]
    have hsp : spH (frH h a) (a / 32) = ⟨(spH h (a / 32)).st, (spH h (a / 32)).cl, withW (spH h (a / 32)).fr (plI (spH h (a / 32)).cl a)⟩ := by
      rw [el]; exact spH_with h _ p0
    have hoth : ∀ q, 0 ≤ q → ¬ q = a / 32 → spH (frH h a) q = spH h q := by
      intro q q0 hq; rw [el]; exact spH_other h _ q0 hq
    have hcl : ∀ q, 0 ≤ q → (spH (frH h a) q).cl = (spH h q).cl := by
      intro q q0
      by_cases hq : q = a / 32
      · rw [hq, hsp]
      · rw [hoth q q0 hq]
    have hmm : (frH h a).m = h.m := by rw [el]; rfl
    have hnn : (frH h a).n = h.n := by rw [el]; rfl
    have hz : (frH h a).z = zerZ h.z a (szW (spH h (a / 32)).cl) := by rw [el]
    have hfi : ∀ b, fiB (frH h a) b = fiB h b := by
      intro b
      unfold fiB
      by_cases b0 : 0 ≤ b
      · by_cases hq : b / 32 = a / 32
        · rw [hq, hsp, hmm]
        · rw [hoth _ (by omega) hq, hmm]
      · rw [show inI (32 * (frH h a).m) b = false from inI_no (by omega), show inI (32 * h.m) b = false from inI_no (by omega)]
        rfl
    have hmine : usedB h a = true := by rw [← fr_iff hl.form, e]
    have hused : ∀ b, usedB (frH h a) b = (usedB h b && !decide (b = a)) := by
      intro b
      by_cases hq : b / 32 = a / 32
      · unfold usedB
        rw [hfi, hq, hsp]
        cases eb : fiB h b with
        | false => rfl
        | true =>
          simp only [Bool.true_and]
          rw [has_with, inB_yes i0 (by omega)]
          have : (plI (spH h (a / 32)).cl b = plI (spH h (a / 32)).cl a) ↔ b = a := by
            constructor
            · intro h1
              have e1 := at_of_index hl.form eb hq (i := plI (spH h (a / 32)).cl a) (by rw [hq]; exact h1)
              have e2 := at_of_index hl.form ef rfl rfl
              omega
            · rintro rfl; rfl
          rw [show decide (plI (spH h (a / 32)).cl b = plI (spH h (a / 32)).cl a) = decide (b = a) from decide_eq_decide.2 this]
          cases hasB (spH h (a / 32)).fr (plI (spH h (a / 32)).cl b) <;> cases decide (b = a) <;> rfl
      · have : ¬ b = a := fun h => hq (by rw [h])
        rw [used_other (h := h) hmm fun q0 => hoth _ q0 hq]
        simp [this]
    have hszp := (block_in hl.form ef).2.2.2.2
    have a0 := (block_in hl.form ef).1
    have hold : ∀ x ∈ L, ¬ x.1 = a → x.1 + x.2 ≤ a ∨ a + szW (spH h (a / 32)).cl ≤ x.1 := by
      intro x hx hne
      rw [hl.size x hx]
      exact blocks_apart hl.form (hl.fi hx) ef hne
    have hsz : ∀ x ∈ L, 2 ≤ x.2 ∧ 0 ≤ x.1 := by
      intro x hx
      rw [hl.size x hx]
      have := block_in hl.form (hl.fi hx)
      exact ⟨this.2.2.2.2, this.1⟩
    have hin : ∀ x, x ∈ L.filter (fun x => !decide (x.1 = a)) ↔ x ∈ L ∧ ¬ x.1 = a := by
      intro x; simp [List.mem_filter]
    have hus : usH (frH h a) = usH h - szW (spH h (a / 32)).cl := by
      rw [el]
      show usH (withS h (a / 32) _) = _
      rw [us_with p0 p1]
      simp only [usS, usedN]
      rw [(use_iff _).2 hst, if_pos rfl, if_pos rfl, count_with i0 (by omega) hno]
      have := add_one_mul' (blW (spH h (a / 32)).cl - (countW (spH h (a / 32)).fr + 1)) (szW (spH h (a / 32)).cl)
      rw [show blW (spH h (a / 32)).cl - (countW (spH h (a / 32)).fr + 1) + 1 = blW (spH h (a / 32)).cl - countW (spH h (a / 32)).fr by omega] at this
      omega
    rw [if_pos rfl]
    refine { form := hf', wf := hw', all := fun b => ?_, nodup := ?_, size := fun x hx => ?_, head := fun x hx => ?_, tail := fun x hx k k0 k1 => ?_, rest := fun j hj hno => ?_, sum := ?_ }
    · rw [hused, Bool.and_eq_true, ← hl.all]
      constructor
      · intro h1
        obtain ⟨x, hx, rfl⟩ := List.mem_map.1 h1
        rw [hin] at hx
        exact ⟨List.mem_map_of_mem hx.1, by simp [hx.2]⟩
      · rintro ⟨h1, h2⟩
        obtain ⟨x, hx, rfl⟩ := List.mem_map.1 h1
        exact List.mem_map_of_mem ((hin x).2 ⟨hx, by simpa using h2⟩)
    · exact hl.nodup.sublist (List.filter_sublist.map _)
    · rw [hin] at hx
      rw [hcl _ (by have := hsz x hx.1; omega)]; exact hl.size x hx.1
    · rw [hin] at hx
      rw [hcl _ (by have := hsz x hx.1; omega), hz]
      obtain ⟨c, g, hc, hg⟩ := hl.head x hx.1
      refine ⟨c, g, hc, ?_⟩
      have := hold x hx.1 hx.2
      have := hsz x hx.1
      unfold zerZ
      rw [if_neg (by omega)]
      exact hg
    · rw [hin] at hx
      rw [hz]
      have := hold x hx.1 hx.2
      have := hsz x hx.1
      unfold zerZ
      rw [if_neg (by omega)]
      exact hl.tail x hx.1 k k0 k1
    · rw [hz]
      rw [hnn] at hj
      unfold zerZ
      split
      · rfl
      · rename_i hout
        refine hl.rest j hj fun x hx => ?_
        by_cases ex : x.1 = a
        · rw [hl.size x hx, ex]; exact hout
        · exact hno x ((hin x).2 ⟨hx, ex⟩)
    · rw [hus, hl.sum]
      have key : ∀ M : List (Int × Int), (M.map Prod.fst).Nodup → (∀ x ∈ M, x.1 = a → x.2 = szW (spH h (a / 32)).cl) →
          (M.map Prod.snd).sum - (if a ∈ M.map Prod.fst then szW (spH h (a / 32)).cl else 0) = ((M.filter (fun x => !decide (x.1 = a))).map Prod.snd).sum := by
        intro M
        induction M with
        | nil => intro _ _; simp
        | cons y M ih =>
          intro hnd hs
          rw [List.map_cons, List.nodup_cons] at hnd
          have ih' := ih hnd.2 fun x hx => hs x (by simp [hx])
          by_cases ey : y.1 = a
          · have hy := hs y (by simp) ey
            have hnot : ¬ a ∈ M.map Prod.fst := by rw [← ey]; exact hnd.1
            rw [if_neg hnot] at ih'
            rw [if_pos (by simp [ey])]
            simp only [List.map_cons, List.sum_cons, List.filter_cons, ey, decide_true, Bool.not_true]
            rw [hy]
            simp only [Bool.false_eq_true, if_false]
            omega
          · simp only [List.map_cons, List.sum_cons, List.filter_cons, ey, decide_false, Bool.not_false, if_true]
            have : (a ∈ y.1 :: M.map Prod.fst) ↔ a ∈ M.map Prod.fst := by
              rw [List.mem_cons]
              exact ⟨fun h => h.resolve_left fun h => ey h.symm, fun h => .inr h⟩
            simp only [this]
            omega
      have := key L hl.nodup fun x hx ex => by rw [hl.size x hx, ex]
      rw [if_pos ((hl.all a).2 hmine)] at this
      exact this
/-- Ways of a new heap. -/
def newH (n : Nat) : Hp := ⟨32 * n, fun _ => 0, n, fun _ => ⟨0, 0, 0⟩, false⟩
theorem form_new {n : Nat} (h1 : 1 ≤ n) (h2 : n ≤ 16) : formB (newH n) = true := form_iff.2 ⟨h1, h2, rfl, fun _ _ => by show rightB 0 0 0 = true; decide⟩
theorem wf_zero : (⟨0, 0, 0⟩ : Sp).wf := ⟨⟨by decide, by decide⟩, ⟨by decide, by decide⟩, ⟨by decide, by decide⟩⟩
theorem wf_new (n : Nat) : (newH n).wf := ⟨fun _ _ => by show (Lit.int .u64 0).wf = true; decide, fun _ _ => wf_zero⟩
theorem usT_new : ∀ k : Nat, usT (fun _ => ⟨0, 0, 0⟩) k = 0
  | 0 => rfl
  | k + 1 => by simp only [usT]; rw [usT_new k]; simp [usS, usedN, useB]
theorem Laid.new {n : Nat} (h1 : 1 ≤ n) (h2 : n ≤ 16) : Laid (newH n) [] where
  form := form_new h1 h2
  wf := wf_new n
  all := fun a => by rw [used_free (h := newH n) rfl]; simp
  nodup := by simp
  size := fun x hx => by simp at hx
  head := fun x hx => by simp at hx
  tail := fun x hx => by simp at hx
  rest := fun _ _ _ => rfl
  sum := usT_new n
end Go.Proofs.YtonjnedlnfdanaaDoor
