/- Marking (chapter 17), as data: what is black as marking ends. -/
import Derived.Test.YtmbgodncagjncaaDoorB30
namespace Go.Proofs.YtmbgodncagjncaaDoor
set_option linter.unusedSimpArgs false
set_option linter.unusedVariables false
open Go.ChangeShapes Go.WideShapes Go.ChangeAt Go.RowKit

def inRow (m : Mk) (a : Int) : Prop := m.g.mem a ∨ ∃ i, i < m.nb ∧ (m.b i).mem a
/-- A heap that is another one with some objects painted. -/
def Pnt (h0 h : Hp) : Prop := ∃ P : Int → Bool, h = pnH h0 P
theorem Pnt.refl {h : Hp} (hF : formB h = true) : Pnt h h := ⟨fun _ => false, (pn_none hF fun _ _ _ => rfl).symm⟩
theorem Pnt.form {h0 h : Hp} (hp : Pnt h0 h) (hF : formB h0 = true) : formB h = true := by
  obtain ⟨P, rfl⟩ := hp
  exact hF
theorem Pnt.ob {h0 h : Hp} (hp : Pnt h0 h) (hF : formB h0 = true) (a : Int) : obB h a = obB h0 a ∧ obN h a = obN h0 a := by
  obtain ⟨P, rfl⟩ := hp
  exact ⟨(pn_ob hF P a).1, (pn_ob hF P a).2.2.1⟩
theorem Pnt.refs {h0 h : Hp} (hp : Pnt h0 h) (hF : formB h0 = true) (hA : apB h0 = true) (a : Int) : rfH h a = rfH h0 a := by
  obtain ⟨P, rfl⟩ := hp
  exact pn_refs hF hA P a
theorem Pnt.field {h0 h : Hp} (hp : Pnt h0 h) (hF : formB h0 = true) (hA : apB h0 = true) {a : Int} (ho : obB h0 a = true) {j : Nat} (hj : (j : Int) < obN h0 a) : woH h (a + 1 + j) = woH h0 (a + 1 + j) := by
  obtain ⟨P, rfl⟩ := hp
  exact pn_field hF hA P ho hj
theorem Pnt.list {h0 h : Hp} (hp : Pnt h0 h) (hF : formB h0 = true) : obL h h.n = obL h0 h0.n ∧ h.n = h0.n ∧ h.m = h0.m ∧ h.b = h0.b := by
  obtain ⟨P, rfl⟩ := hp
  exact ⟨pn_list hF P _, rfl, rfl, rfl⟩
theorem Pnt.black {h0 h : Hp} (hp : Pnt h0 h) (hF : formB h0 = true) {a : Int} (hb : blB h0 a = true) : blB h a = true := by
  obtain ⟨P, rfl⟩ := hp
  rw [pn_black hF, hb]; rfl
theorem Pnt.shade {h0 h : Hp} (hp : Pnt h0 h) (hF : formB h0 = true) (g : Gy) (v : Vl) : Pnt h0 (shM h g v).h := by
  obtain ⟨Q, e, -⟩ := shM_pn (hp.form hF) g v
  obtain ⟨P, rfl⟩ := hp
  exact ⟨_, e.trans (pn_again hF P Q)⟩
theorem shM_new {h : Hp} (hF : formB h = true) (g : Gy) {v : Vl} {a : Int} (hb : blB (shM h g v).h a = true) : blB h a = true ∨ (a = v.n ∧ v.k = 2 ∧ obB h a = true) := by
  rw [shM_heap hF] at hb
  by_cases e : shB h v = true
  · rw [if_pos e, pn_black hF] at hb
    by_cases e2 : blB h a = true
    · exact .inl e2
    · right
      have e3 : (obB h a && (a == v.n)) = true := by simpa [e2] using hb
      simp only [Bool.and_eq_true, beq_iff_eq] at e3
      simp only [shB, Bool.and_eq_true, decide_eq_true_eq] at e
      exact ⟨e3.2, e.1, e3.1⟩
  · rw [if_neg e] at hb
    exact .inl hb
theorem shM_stays {h : Hp} (hF : formB h = true) (g : Gy) (v : Vl) {a : Int} (hb : blB h a = true) : blB (shM h g v).h a = true := by
  obtain ⟨P, e, -⟩ := shM_pn hF g v
  rw [e, pn_black hF, hb]; rfl
/-- The value of an object's field. -/
theorem fv_ref {h : Hp} {a i : Int} (e : fdE h a i = 0) (hk : (fvV h a i).k = 2) : (fvV h a i).n ∈ rfH h a := by
  obtain ⟨h1, h2, h3⟩ := fd_ok e
  have hx : fdX h a i = woH h (a + 1 + i) := by unfold fdX; rw [if_pos e]
  have ei : ((i.toNat : Nat) : Int) = i := by omega
  refine rfH_mem.2 ⟨i.toNat, by omega, ?_, ?_⟩
  · rw [ei, ← hx]; exact hk
  · rw [ei, ← hx]; rfl
/-! All that is black, or is to be looked at, is of a closed set. -/
structure MkU (h0 : Hp) (R : Int → Prop) (h : Hp) (m : Mk) : Prop where
  pn : Pnt h0 h
  up : ∀ a, blB h a = true → R a
  upo : ¬ m.ob = -1 → R m.ob
  upr : ∀ a, inRow m a → obB h0 a = true → R a
  upv : ∀ i, i < m.nr → (m.ro i).k = 2 → obB h0 (m.ro i).n = true → R (m.ro i).n
theorem MkU.shade {h0 : Hp} {R : Int → Prop} {h : Hp} {m : Mk} (hu : MkU h0 R h m) (hF : formB h0 = true) (g : Gy) {v : Vl} (hv : v.k = 2 → obB h0 v.n = true → R v.n) : ∀ a, blB (shM h g v).h a = true → R a := fun a ha => by
  rcases shM_new (hu.pn.form hF) g ha with h1 | ⟨rfl, h2, h3⟩
  · exact hu.up a h1
  · exact hv h2 (by rw [← (hu.pn.ob hF _).1]; exact h3)
theorem MkU.hand {h0 : Hp} {R : Int → Prop} {h : Hp} {m : Mk} (hu : MkU h0 R h m) (hF : formB h0 = true) {a : Int} (ha : obB h0 a = true → R a) : MkU h0 R h (haM h m a) := by
  rcases ha_cases h m a with e | ⟨h1, h2, e⟩
  · rw [e]; exact hu
  · rw [e]
    exact ⟨hu.pn, hu.up, fun _ => ha (by rw [← (hu.pn.ob hF _).1]; exact h1), hu.upr, hu.upv⟩
theorem pop_mem {g : Gy} {k : Nat} (hk : k ≤ g.n) {a : Int} (h : (⟨g.r, k, g.z⟩ : Gy).mem a) : g.mem a := by
  obtain ⟨t, t1, t2⟩ := h
  exact ⟨t, by have : t < k := t1; omega, t2⟩
theorem pop_last {g : Gy} (h0 : 0 < g.n) {a : Int} (h : g.mem a) : (⟨g.r, g.n - 1, g.z⟩ : Gy).mem a ∨ a = g.z (g.n - 1) := by
  obtain ⟨t, t1, t2⟩ := h
  by_cases e : t = g.n - 1
  · right; rw [← e]; exact t2.symm
  · left; exact ⟨t, by show t < g.n - 1; omega, t2⟩
theorem MkU.step {h0 : Hp} {R : Int → Prop} {h : Hp} {m : Mk} (hu : MkU h0 R h m) (hF : formB h0 = true) (hA : apB h0 = true) (hR : rightM h m) (hc : ∀ x y, R x → y ∈ rfH h0 x → obB h0 y = true → R y) : MkU h0 R (stM h m).1 (stM h m).2.1 := by
  obtain ⟨-, -, -, r4⟩ := hR
  have hFh := hu.pn.form hF
  unfold stM
  by_cases h1 : ¬ m.ob = -1
  · rw [if_pos h1]
    have r4' : fdE h m.ob m.fi = 0 := by
      rcases r4 with ⟨e, -⟩ | ⟨-, e⟩
      · exact absurd e h1
      · exact e
    have hv : (fvV h m.ob m.fi).k = 2 → obB h0 (fvV h m.ob m.fi).n = true → R (fvV h m.ob m.fi).n := fun hk ho => by
      have := fv_ref r4' hk
      rw [hu.pn.refs hF hA] at this
      exact hc _ _ (hu.upo h1) this ho
    have hp := hu.pn.shade hF m.g (fvV h m.ob m.fi)
    have hb := hu.shade hF m.g hv
    have hrow := (shM_row hFh m.g (fvV h m.ob m.fi)).2.2
    generalize shM h m.g (fvV h m.ob m.fi) = S at *
    have hup : ∀ a, ((S.gy m.g.r).mem a ∨ ∃ i, i < m.nb ∧ (m.b i).mem a) → obB h0 a = true → R a := fun a ha ho => by
      rcases ha with ha | ha
      · rcases hrow a ha with ha | ⟨rfl, hk⟩
        · exact hu.upr a (.inl ha) ho
        · exact hv hk ho
      · exact hu.upr a (.inr ha) ho
    by_cases e : m.fi + 1 = obN h m.ob
    · rw [if_pos e]
      exact ⟨hp, hb, fun h => absurd rfl h, hup, hu.upv⟩
    · rw [if_neg e]
      exact ⟨hp, hb, hu.upo, hup, hu.upv⟩
  · rw [if_neg h1]
    have hob : m.ob = -1 := by simpa using h1
    by_cases h2 : 0 < m.g.n
    · rw [if_pos h2]
      have hum : MkU h0 R h { m with g := ⟨m.g.r, m.g.n - 1, m.g.z⟩ } := ⟨hu.pn, hu.up, hu.upo, fun a ha ho => by
        rcases ha with ha | ha
        · exact hu.upr a (.inl (pop_mem (by omega) ha)) ho
        · exact hu.upr a (.inr ha) ho, hu.upv⟩
      exact hum.hand hF fun ho => hu.upr _ (.inl ⟨m.g.n - 1, by omega, rfl⟩) ho
    · rw [if_neg h2]
      cases hf : fsB m with
      | some i =>
        simp only
        obtain ⟨i1, i2⟩ := fs_some hf
        have hum : MkU h0 R h { m with b := setB m.b i ⟨(m.b i).r, (m.b i).n - 1, (m.b i).z⟩ } := ⟨hu.pn, hu.up, hu.upo, fun a ha ho => by
          rcases ha with ha | ⟨k, hk, ha⟩
          · exact hu.upr a (.inl ha) ho
          · dsimp only at ha
            unfold setB at ha
            by_cases e : k = i
            · rw [if_pos e] at ha
              exact hu.upr a (.inr ⟨i, i1, pop_mem (by omega) ha⟩) ho
            · rw [if_neg e] at ha
              exact hu.upr a (.inr ⟨k, hk, ha⟩) ho, hu.upv⟩
        exact hum.hand hF fun ho => hu.upr _ (.inr ⟨i, i1, (m.b i).n - 1, by omega, rfl⟩) ho
      | none =>
        simp only
        by_cases h3 : 0 < m.nr
        · rw [if_pos h3]
          have hv : (m.ro 0).k = 2 → obB h0 (m.ro 0).n = true → R (m.ro 0).n := hu.upv 0 h3
          have hp := hu.pn.shade hF m.g (m.ro 0)
          have hb := hu.shade hF m.g hv
          have hrow := (shM_row hFh m.g (m.ro 0)).2.2
          generalize shM h m.g (m.ro 0) = S at *
          refine ⟨hp, hb, hu.upo, fun a ha ho => ?_, fun i hi => hu.upv (i + 1) (by have : i < m.nr - 1 := hi; omega)⟩
          rcases ha with ha | ha
          · rcases hrow a ha with ha | ⟨rfl, hk⟩
            · exact hu.upr a (.inl ha) ho
            · exact hv hk ho
          · exact hu.upr a (.inr ha) ho
        · rw [if_neg h3]
          by_cases h4 : ¬ m.cu = -1
          · rw [if_pos h4]
            cases hl : lbA h m.cu with
            | some a =>
              simp only
              obtain ⟨-, a2, -, -⟩ := lb_some hFh hl
              have hum : MkU h0 R h { m with cu := a + 1 } := ⟨hu.pn, hu.up, hu.upo, hu.upr, hu.upv⟩
              exact hum.hand hF fun _ => hu.up a a2
            | none =>
              simp only
              exact ⟨hu.pn, hu.up, hu.upo, hu.upr, hu.upv⟩
          · rw [if_neg h4]
            by_cases h5 : m.ov = true
            · rw [if_pos h5]
              exact ⟨hu.pn, hu.up, hu.upo, hu.upr, hu.upv⟩
            · rw [if_neg h5]
              exact hu
/-! What black objects refer to is black, or will be looked at. -/
structure MkL (h0 : Hp) (T : Int → Prop) (h : Hp) (m : Mk) : Prop where
  pn : Pnt h0 h
  lo : ∀ a, blB h a = true → ∀ j : Nat, (j : Int) < obN h0 a → getK (woH h0 (a + 1 + j)) = 2 → obB h0 (getN (woH h0 (a + 1 + j))) = true →
    blB h (getN (woH h0 (a + 1 + j))) = true ∨ (a = m.ob ∧ m.fi ≤ j) ∨ inRow m a ∨ m.ov = true ∨ (¬ m.cu = -1 ∧ m.cu ≤ a)
  ro : ∀ x, T x → obB h0 x = true → blB h x = true ∨ ∃ i, i < m.nr ∧ (m.ro i).k = 2 ∧ (m.ro i).n = x
/-- .. as marking is done: it is closed. -/
theorem MkL.done {h0 : Hp} {T : Int → Prop} {h : Hp} {m : Mk} (hl : MkL h0 T h m) (hd : (stM h m).2.2 = true) :
    (∀ a, blB h a = true → ∀ y ∈ rfH h0 a, obB h0 y = true → blB h y = true) ∧ (∀ x, T x → obB h0 x = true → blB h x = true) := by
  unfold stM at hd
  by_cases h1 : ¬ m.ob = -1
  · rw [if_pos h1] at hd; cases hd
  rw [if_neg h1] at hd
  by_cases h2 : 0 < m.g.n
  · rw [if_pos h2] at hd; cases hd
  rw [if_neg h2] at hd
  cases hf : fsB m with
  | some i => simp only [hf] at hd; cases hd
  | none =>
    simp only [hf] at hd
    by_cases h3 : 0 < m.nr
    · rw [if_pos h3] at hd; cases hd
    rw [if_neg h3] at hd
    by_cases h4 : ¬ m.cu = -1
    · rw [if_pos h4] at hd
      cases hl : lbA h m.cu with
      | some a => simp only [hl] at hd; cases hd
      | none => simp only [hl] at hd; cases hd
    rw [if_neg h4] at hd
    by_cases h5 : m.ov = true
    · rw [if_pos h5] at hd; cases hd
    refine ⟨fun a ha y hy ho => ?_, fun x hx ho => ?_⟩
    · obtain ⟨j, j0, j1, rfl⟩ := rfH_mem.1 hy
      rcases hl.lo a ha j j0 j1 ho with h | ⟨rfl, -⟩ | h | h | ⟨h, -⟩
      · exact h
      · exfalso
        have : m.ob = -1 := by simpa using h1
        have hx : obB h m.ob = true := by simp only [blB, Bool.and_eq_true] at ha; exact ha.1
        exact ob_minus hx this
      · exfalso
        rcases h with ⟨t, t1, -⟩ | ⟨i, hi, t, t1, -⟩
        · omega
        · have := fs_none hf i hi
          omega
      · exact absurd h h5
      · exact absurd h h4
    · rcases hl.ro x hx ho with h | ⟨i, hi, -⟩
      · exact h
      · omega
theorem black_ob {h : Hp} {a : Int} (hb : blB h a = true) : obB h a = true := by simp only [blB, Bool.and_eq_true] at hb; exact hb.1
theorem MkL.hand {h0 : Hp} {T : Int → Prop} {h : Hp} {m : Mk} {x : Int} (hF : formB h0 = true) (hp : Pnt h0 h)
    (hlo : ∀ a, blB h a = true → ∀ j : Nat, (j : Int) < obN h0 a → getK (woH h0 (a + 1 + j)) = 2 → obB h0 (getN (woH h0 (a + 1 + j))) = true →
      blB h (getN (woH h0 (a + 1 + j))) = true ∨ a = x ∨ inRow m a ∨ m.ov = true ∨ (¬ m.cu = -1 ∧ m.cu ≤ a))
    (hro : ∀ x, T x → obB h0 x = true → blB h x = true ∨ ∃ i, i < m.nr ∧ (m.ro i).k = 2 ∧ (m.ro i).n = x) : MkL h0 T h (haM h m x) := by
  by_cases hc : obB h x = true ∧ 0 < obN h x
  · have e : haM h m x = { m with ob := x, fi := 0 } := by unfold haM; rw [if_pos hc]
    rw [e]
    refine ⟨hp, fun a ha j hj hk ho => ?_, hro⟩
    rcases hlo a ha j hj hk ho with h | rfl | h | h | h
    · exact .inl h
    · exact .inr (.inl ⟨rfl, by show (0 : Int) ≤ j; omega⟩)
    · exact .inr (.inr (.inl h))
    · exact .inr (.inr (.inr (.inl h)))
    · exact .inr (.inr (.inr (.inr h)))
  · have e : haM h m x = m := by unfold haM; rw [if_neg hc]
    rw [e]
    refine ⟨hp, fun a ha j hj hk ho => ?_, hro⟩
    rcases hlo a ha j hj hk ho with h | rfl | h | h | h
    · exact .inl h
    · exact absurd ⟨black_ob ha, by rw [(hp.ob hF a).2]; omega⟩ hc
    · exact .inr (.inr (.inl h))
    · exact .inr (.inr (.inr (.inl h)))
    · exact .inr (.inr (.inr (.inr h)))
theorem MkL.step {h0 : Hp} {T : Int → Prop} {h : Hp} {m : Mk} (hl : MkL h0 T h m) (hF : formB h0 = true) (hA : apB h0 = true) (hR : rightM h m) : MkL h0 T (stM h m).1 (stM h m).2.1 := by
  obtain ⟨-, -, -, r4⟩ := hR
  have hFh := hl.pn.form hF
  unfold stM
  by_cases h1 : ¬ m.ob = -1
  · rw [if_pos h1]
    have r4' : fdE h m.ob m.fi = 0 := by
      rcases r4 with ⟨e, -⟩ | ⟨-, e⟩
      · exact absurd e h1
      · exact e
    obtain ⟨f1, f2, f3⟩ := fd_ok r4'
    have hp := hl.pn.shade hF m.g (fvV h m.ob m.fi)
    obtain ⟨hn, hkeep, -⟩ := shM_row hFh m.g (fvV h m.ob m.fi)
    have hst := fun a (hb : blB h a = true) => shM_stays hFh m.g (fvV h m.ob m.fi) hb
    have hfv : ∀ j : Nat, (j : Int) = m.fi → getK (woH h0 (m.ob + 1 + j)) = 2 → obB h0 (getN (woH h0 (m.ob + 1 + j))) = true → blB (shM h m.g (fvV h m.ob m.fi)).h (getN (woH h0 (m.ob + 1 + j))) = true := fun j ej hk ho => by
      have hf : woH h (m.ob + 1 + j) = woH h0 (m.ob + 1 + j) := hl.pn.field hF hA (by rw [← (hl.pn.ob hF _).1]; exact f1) (by rw [← (hl.pn.ob hF _).2]; omega)
      have ev : fvV h m.ob m.fi = ⟨getK (woH h0 (m.ob + 1 + j)), getN (woH h0 (m.ob + 1 + j))⟩ := by
        unfold fvV fdX
        rw [if_pos r4', ← ej, hf]
      have := shM_black hFh m.g (v := fvV h m.ob m.fi) (by rw [ev]; exact hk) (by rw [ev, (hl.pn.ob hF _).1]; exact ho)
      rw [ev] at this ⊢
      exact this
    generalize shM h m.g (fvV h m.ob m.fi) = S at *
    have hro : ∀ x, T x → obB h0 x = true → blB S.h x = true ∨ ∃ i, i < m.nr ∧ (m.ro i).k = 2 ∧ (m.ro i).n = x := fun x hx ho => (hl.ro x hx ho).imp (hst x) id
    have hrow : ∀ a, inRow m a → ((S.gy m.g.r).mem a ∨ ∃ i, i < m.nb ∧ (m.b i).mem a) := fun a ha => ha.imp (hkeep a) id
    by_cases e : m.fi + 1 = obN h m.ob
    · rw [if_pos e]
      refine ⟨hp, fun a ha j hj hk ho => ?_, hro⟩
      by_cases hb : blB h a = true
      · rcases hl.lo a hb j hj hk ho with h | ⟨rfl, h⟩ | h | h | h
        · exact .inl (hst _ h)
        · left
          rw [← (hl.pn.ob hF _).2] at hj
          exact hfv j (by omega) hk ho
        · exact .inr (.inr (.inl (hrow a h)))
        · exact .inr (.inr (.inr (.inl (by show (m.ov || S.o) = true; rw [h]; rfl))))
        · exact .inr (.inr (.inr (.inr h)))
      · rcases hn a ha with h | h | h
        · exact absurd h hb
        · exact .inr (.inr (.inl (.inl h)))
        · exact .inr (.inr (.inr (.inl (by show (m.ov || S.o) = true; rw [h]; simp))))
    · rw [if_neg e]
      refine ⟨hp, fun a ha j hj hk ho => ?_, hro⟩
      by_cases hb : blB h a = true
      · rcases hl.lo a hb j hj hk ho with h | ⟨rfl, h⟩ | h | h | h
        · exact .inl (hst _ h)
        · by_cases ej : (j : Int) = m.fi
          · exact .inl (hfv j ej hk ho)
          · exact .inr (.inl ⟨rfl, by show m.fi + 1 ≤ (j : Int); omega⟩)
        · exact .inr (.inr (.inl (hrow a h)))
        · exact .inr (.inr (.inr (.inl (by show (m.ov || S.o) = true; rw [h]; rfl))))
        · exact .inr (.inr (.inr (.inr h)))
      · rcases hn a ha with h | h | h
        · exact absurd h hb
        · exact .inr (.inr (.inl (.inl h)))
        · exact .inr (.inr (.inr (.inl (by show (m.ov || S.o) = true; rw [h]; simp))))
  · rw [if_neg h1]
    have hob : m.ob = -1 := by simpa using h1
    have hno : ∀ {a : Int} {j : Nat}, blB h a = true → ¬ (a = m.ob ∧ m.fi ≤ j) := fun ha ⟨e, _⟩ => ob_minus (black_ob ha) (e.trans hob)
    by_cases h2 : 0 < m.g.n
    · rw [if_pos h2]
      refine MkL.hand hF hl.pn (fun a ha j hj hk ho => ?_) hl.ro
      rcases hl.lo a ha j hj hk ho with h | h | h | h | h
      · exact .inl h
      · exact absurd h (hno ha)
      · rcases h with h | h
        · rcases pop_last h2 h with h | h
          · exact .inr (.inr (.inl (.inl h)))
          · exact .inr (.inl h)
        · exact .inr (.inr (.inl (.inr h)))
      · exact .inr (.inr (.inr (.inl h)))
      · exact .inr (.inr (.inr (.inr h)))
    · rw [if_neg h2]
      cases hf : fsB m with
      | some i =>
        simp only
        obtain ⟨i1, i2⟩ := fs_some hf
        refine MkL.hand hF hl.pn (fun a ha j hj hk ho => ?_) hl.ro
        rcases hl.lo a ha j hj hk ho with h | h | h | h | h
        · exact .inl h
        · exact absurd h (hno ha)
        · rcases h with h | ⟨u, hu, h⟩
          · exact .inr (.inr (.inl (.inl h)))
          · by_cases e : u = i
            · subst e
              rcases pop_last i2 h with h | h
              · exact .inr (.inr (.inl (.inr ⟨u, hu, by show (setB m.b u _ u).mem a; unfold setB; rw [if_pos rfl]; exact h⟩)))
              · exact .inr (.inl h)
            · exact .inr (.inr (.inl (.inr ⟨u, hu, by show (setB m.b i _ u).mem a; unfold setB; rw [if_neg e]; exact h⟩)))
        · exact .inr (.inr (.inr (.inl h)))
        · exact .inr (.inr (.inr (.inr h)))
      | none =>
        simp only
        by_cases h3 : 0 < m.nr
        · rw [if_pos h3]
          have hp := hl.pn.shade hF m.g (m.ro 0)
          obtain ⟨hn, hkeep, -⟩ := shM_row hFh m.g (m.ro 0)
          have hst := fun a (hb : blB h a = true) => shM_stays hFh m.g (m.ro 0) hb
          have hbl : (m.ro 0).k = 2 → obB h0 (m.ro 0).n = true → blB (shM h m.g (m.ro 0)).h (m.ro 0).n = true := fun hk ho => shM_black hFh m.g hk (by rw [(hl.pn.ob hF _).1]; exact ho)
          generalize shM h m.g (m.ro 0) = S at *
          refine ⟨hp, fun a ha j hj hk ho => ?_, fun x hx ho => ?_⟩
          · by_cases hb : blB h a = true
            · rcases hl.lo a hb j hj hk ho with h | h | h | h | h
              · exact .inl (hst _ h)
              · exact absurd h (hno hb)
              · exact .inr (.inr (.inl (h.imp (hkeep a) id)))
              · exact .inr (.inr (.inr (.inl (by show (m.ov || S.o) = true; rw [h]; rfl))))
              · exact .inr (.inr (.inr (.inr h)))
            · rcases hn a ha with h | h | h
              · exact absurd h hb
              · exact .inr (.inr (.inl (.inl h)))
              · exact .inr (.inr (.inr (.inl (by show (m.ov || S.o) = true; rw [h]; simp))))
          · rcases hl.ro x hx ho with h | ⟨i, hi, hk, hn⟩
            · exact .inl (hst _ h)
            · cases i with
              | zero => subst hn; exact .inl (hbl hk ho)
              | succ i => exact .inr ⟨i, by show i < m.nr - 1; omega, hk, hn⟩
        · rw [if_neg h3]
          by_cases h4 : ¬ m.cu = -1
          · rw [if_pos h4]
            cases hlb : lbA h m.cu with
            | some x =>
              simp only
              obtain ⟨x1, x2, x3, x4⟩ := lb_some hFh hlb
              have x0 := (ob_range hFh x1).1
              refine MkL.hand hF hl.pn (fun a ha j hj hk ho => ?_) hl.ro
              rcases hl.lo a ha j hj hk ho with h | h | h | h | ⟨-, h⟩
              · exact .inl h
              · exact absurd h (hno ha)
              · exact .inr (.inr (.inl h))
              · exact .inr (.inr (.inr (.inl h)))
              · have := x4 a ha h
                by_cases e : a = x
                · exact .inr (.inl e)
                · exact .inr (.inr (.inr (.inr ⟨by show ¬ x + 1 = -1; omega, by show x + 1 ≤ a; omega⟩)))
            | none =>
              simp only
              refine ⟨hl.pn, fun a ha j hj hk ho => ?_, hl.ro⟩
              rcases hl.lo a ha j hj hk ho with h | h | h | h | ⟨-, h⟩
              · exact .inl h
              · exact absurd h (hno ha)
              · exact .inr (.inr (.inl h))
              · exact .inr (.inr (.inr (.inl h)))
              · exact absurd h (lb_none hFh hlb ha)
          · rw [if_neg h4]
            by_cases h5 : m.ov = true
            · rw [if_pos h5]
              refine ⟨hl.pn, fun a ha j hj hk ho => ?_, hl.ro⟩
              exact .inr (.inr (.inr (.inr ⟨by show ¬ (0 : Int) = -1; decide, (ob_range hFh (black_ob ha)).1⟩)))
            · rw [if_neg h5]
              exact hl
end Go.Proofs.YtmbgodncagjncaaDoor
