/- What is reached (chapter 15), as data. -/
import Derived.Test.YtmbgodncagjncaaDoorB28
import Derived.Test.YtmbgodncagjncaaDoorB10
import Derived.Test.YtmbgodncagjncaaDoorB29
import Derived.Test.YtmbgodncagjncaaDoorB22
namespace Go.Proofs.YtmbgodncagjncaaDoor
set_option linter.unusedSimpArgs false
set_option linter.unusedVariables false
open Go.ChangeShapes Go.WideShapes Go.ChangeAt Go.RowKit Go.Joins

/-- Reached from the addresses S: in each closed set that holds the objects among them. -/
def Rch (h : Hp) (S : List Int) (a : Int) : Prop :=
  ∀ P : Int → Prop, (∀ x, x ∈ S → obB h x = true → P x) → (∀ x y, P x → y ∈ rfH h x → obB h y = true → P y) → P a
theorem Rch.root {h : Hp} {S : List Int} {a : Int} (hm : a ∈ S) (ho : obB h a = true) : Rch h S a := fun _ h0 _ => h0 a hm ho
theorem Rch.step {h : Hp} {S : List Int} {a b : Int} (hr : Rch h S a) (hm : b ∈ rfH h a) (ho : obB h b = true) : Rch h S b := fun P h0 h1 => h1 a b (hr P h0 h1) hm ho
theorem Rch.mono {h : Hp} {S T : List Int} {a : Int} (hr : Rch h S a) (hs : ∀ x, x ∈ S → x ∈ T) : Rch h T a := hr (Rch h T) (fun x hx ho => .root (hs x hx) ho) (fun _ _ hx hy ho => hx.step hy ho)
theorem Rch.cases {h : Hp} {S T : List Int} {a : Int} (hr : Rch h (S ++ T) a) : Rch h S a ∨ Rch h T a :=
  hr (fun x => Rch h S x ∨ Rch h T x) (fun x hx ho => (List.mem_append.1 hx).imp (fun h => .root h ho) (fun h => .root h ho)) (fun _ _ hx hy ho => hx.imp (fun h => h.step hy ho) (fun h => h.step hy ho))
end Go.Proofs.YtmbgodncagjncaaDoor
namespace Go.Proofs.YtmbgodncagjncaaDoor
set_option linter.unusedSimpArgs false
set_option linter.unusedVariables false
open Go.ChangeShapes Go.WideShapes Go.ChangeAt Go.RowKit

def Gy.mem (g : Gy) (a : Int) : Prop := ∃ t, t < g.n ∧ g.z t = a
def Gy.right (g : Gy) : Bool := rightG g.r g.n g.z
structure Mk where
  g : Gy
  nb : Nat
  b : Nat → Gy
  nr : Nat
  ro : Nat → Vl
  ob : Int
  fi : Int
  cu : Int
  ov : Bool
def setB (b : Nat → Gy) (i : Nat) (x : Gy) : Nat → Gy := fun j => if j = i then x else b j
/-- The first row that isn't empty. -/
def fsB (m : Mk) : Option Nat := (List.range m.nb).find? fun i => decide (0 < (m.b i).n)
theorem fs_some {m : Mk} {i : Nat} (h : fsB m = some i) : i < m.nb ∧ 0 < (m.b i).n := by
  unfold fsB at h
  have h1 := List.mem_of_find?_eq_some h
  have h2 := List.find?_some h
  exact ⟨by simpa using h1, by simpa using h2⟩
theorem fs_none {m : Mk} (h : fsB m = none) : ∀ i, i < m.nb → (m.b i).n = 0 := fun i hi => by
  unfold fsB at h
  rw [List.find?_eq_none] at h
  have := h i (by simpa using hi)
  simpa using this
/-- The least black object at an address or behind. -/
def lbA (h : Hp) (c : Int) : Option Int := (obL h h.n).find? fun a => decide (c ≤ a) && blB h a
theorem lb_some {h : Hp} {c a : Int} (hF : formB h = true) (e : lbA h c = some a) : obB h a = true ∧ blB h a = true ∧ c ≤ a ∧ ∀ x, blB h x = true → c ≤ x → a ≤ x := by
  unfold lbA at e
  have h1 := List.mem_of_find?_eq_some e
  have h2 := List.find?_some e
  simp only [Bool.and_eq_true, decide_eq_true_eq] at h2
  refine ⟨(mem_obL hF).1 h1, h2.2, h2.1, fun x hx hc => ?_⟩
  have hxo : obB h x = true := by simp only [blB, Bool.and_eq_true] at hx; exact hx.1
  obtain ⟨l1, l2, hs, hno⟩ := (List.find?_eq_some_iff_append.1 e).2
  have hxm := (mem_obL hF).2 hxo
  have hp := obL_rise h h.n
  rw [hs] at hxm hp
  rcases List.mem_append.1 hxm with hm | hm
  · have := hno x hm
    simp [hx, hc] at this
  · rcases List.mem_cons.1 hm with rfl | hm
    · exact Int.le_refl _
    · have := (List.pairwise_append.1 hp).2.1
      have := (List.pairwise_cons.1 this).1 x hm
      omega
theorem lb_none {h : Hp} {c : Int} (hF : formB h = true) (e : lbA h c = none) {x : Int} (hx : blB h x = true) : ¬ c ≤ x := fun hc => by
  have hxo : obB h x = true := by simp only [blB, Bool.and_eq_true] at hx; exact hx.1
  unfold lbA at e
  rw [List.find?_eq_none] at e
  have := e x ((mem_obL hF).2 hxo)
  simp [hx, hc] at this
/-- An object is taken in hand. -/
def haM (h : Hp) (m : Mk) (a : Int) : Mk := if obB h a = true ∧ 0 < obN h a then { m with ob := a, fi := 0 } else m
/-- The value of a field. -/
def fvV (h : Hp) (a i : Int) : Vl := ⟨getK (fdX h a i), getN (fdX h a i)⟩
def shM (h : Hp) (g : Gy) (v : Vl) : Sd := sdS g.r ⟨h, g.n, g.z, false⟩ v
def Sd.gy (s : Sd) (r : Int) : Gy := ⟨r, s.n, s.z⟩
/-- A step: the heap, the marker, whether marking is done. -/
def stM (h : Hp) (m : Mk) : Hp × Mk × Bool :=
  if ¬ m.ob = -1 then
    ((shM h m.g (fvV h m.ob m.fi)).h,
     (if m.fi + 1 = obN h m.ob then { m with g := (shM h m.g (fvV h m.ob m.fi)).gy m.g.r, ov := m.ov || (shM h m.g (fvV h m.ob m.fi)).o, ob := -1, fi := 0 }
      else { m with g := (shM h m.g (fvV h m.ob m.fi)).gy m.g.r, ov := m.ov || (shM h m.g (fvV h m.ob m.fi)).o, fi := m.fi + 1 }), false)
  else if 0 < m.g.n then (h, haM h { m with g := ⟨m.g.r, m.g.n - 1, m.g.z⟩ } (m.g.z (m.g.n - 1)), false)
  else match fsB m with
    | some i => (h, haM h { m with b := setB m.b i ⟨(m.b i).r, (m.b i).n - 1, (m.b i).z⟩ } ((m.b i).z ((m.b i).n - 1)), false)
    | none =>
      if 0 < m.nr then ((shM h m.g (m.ro 0)).h, { m with g := (shM h m.g (m.ro 0)).gy m.g.r, ov := m.ov || (shM h m.g (m.ro 0)).o, nr := m.nr - 1, ro := fun i => m.ro (i + 1) }, false)
      else if ¬ m.cu = -1 then (match lbA h m.cu with
        | some a => (h, haM h { m with cu := a + 1 } a, false)
        | none => (h, { m with cu := -1 }, false))
      else if m.ov = true then (h, { m with ov := false, cu := 0 }, false)
      else (h, m, true)
/-- A marker that is right beside a heap. -/
def rightM (h : Hp) (m : Mk) : Prop := m.g.right = true ∧ (∀ i, i < m.nb → (m.b i).right = true) ∧ (-1 ≤ m.cu ∧ m.cu ≤ h.n) ∧ ((m.ob = -1 ∧ m.fi = 0) ∨ (¬ m.ob = -1 ∧ fdE h m.ob m.fi = 0))
theorem fd_ok {h : Hp} {a i : Int} (e : fdE h a i = 0) : obB h a = true ∧ 0 ≤ i ∧ i < obN h a := by
  rcases fd_cases h a i with ⟨h1, h2, h3, -⟩ | ⟨-, -, h3, -⟩ | ⟨-, h3, -⟩
  · exact ⟨h1, h2, h3⟩
  · omega
  · omega
/-! What shading one value does. -/
theorem shM_heap {h : Hp} (hF : formB h = true) (g : Gy) (v : Vl) : (shM h g v).h = if shB h v = true then pnH h (fun x => x == v.n) else h := by
  unfold shM sdS
  by_cases e : shB h v = true
  · rw [if_pos e, if_pos e, ← pa_pn hF]
  · rw [if_neg e, if_neg e]
theorem shM_pn {h : Hp} (hF : formB h = true) (g : Gy) (v : Vl) : ∃ P : Int → Bool, (shM h g v).h = pnH h P ∧ ∀ x, P x = true → x = v.n ∧ v.k = 2 := by
  rw [shM_heap hF]
  by_cases e : shB h v = true
  · rw [if_pos e]
    refine ⟨_, rfl, fun x hx => ⟨by simpa using hx, ?_⟩⟩
    simp only [shB, Bool.and_eq_true, decide_eq_true_eq] at e
    exact e.1
  · rw [if_neg e]
    exact ⟨fun _ => false, (pn_none hF fun _ _ _ => rfl).symm, fun x hx => by cases hx⟩
/-- .. the object that it tells of is black then. -/
theorem shM_black {h : Hp} (hF : formB h = true) (g : Gy) {v : Vl} (hk : v.k = 2) (ho : obB h v.n = true) : blB (shM h g v).h v.n = true := by
  rw [shM_heap hF]
  by_cases e : shB h v = true
  · rw [if_pos e, pn_black hF, ho]; simp
  · rw [if_neg e]
    simpa [shB, hk, ho] using e
/-- .. and it is in the row, or it is over; the row holds what it held. -/
theorem shM_row {h : Hp} (hF : formB h = true) (g : Gy) (v : Vl) :
    (∀ a, blB (shM h g v).h a = true → blB h a = true ∨ ((shM h g v).gy g.r).mem a ∨ (shM h g v).o = true) ∧ (∀ a, g.mem a → ((shM h g v).gy g.r).mem a) ∧ (∀ a, ((shM h g v).gy g.r).mem a → g.mem a ∨ (a = v.n ∧ v.k = 2)) := by
  have hh := shM_heap hF g v
  unfold shM sdS at hh ⊢
  by_cases e : shB h v = true
  · rw [if_pos e] at hh ⊢
    rw [if_pos e] at hh
    have e' := e
    simp only [shB, Bool.and_eq_true, decide_eq_true_eq, Bool.not_eq_true'] at e'
    obtain ⟨ek, eo, eb⟩ := e'
    have a0 := (ob_range hF eo).1
    cases hB : gpB g.r g.n v.n with
    | true =>
      have e1 : gpN g.r g.n v.n = g.n + 1 := by unfold gpN; rw [if_pos hB]
      have e2 : gpZ g.r g.n g.z v.n = pzZ g.z g.n v.n := by unfold gpZ; rw [if_pos hB]
      refine ⟨fun a ha => ?_, fun a ha => ?_, fun a ha => ?_⟩
      · rw [show (⟨paH h v.n, gpN g.r g.n v.n, gpZ g.r g.n g.z v.n, false || !gpB g.r g.n v.n⟩ : Sd).h = pnH h (fun x => x == v.n) from hh, pn_black hF] at ha
        by_cases ea : a = v.n
        · right; left
          exact ⟨g.n, by show g.n < gpN g.r g.n v.n; omega, by show gpZ g.r g.n g.z v.n g.n = a; rw [e2]; unfold pzZ; rw [if_pos rfl, ea]⟩
        · left
          have : (a == v.n) = false := by simpa using ea
          rw [this] at ha
          simpa using ha
      · obtain ⟨t, t1, t2⟩ := ha
        exact ⟨t, by show t < gpN g.r g.n v.n; omega, by show gpZ g.r g.n g.z v.n t = a; rw [e2]; unfold pzZ; rw [if_neg (by omega)]; exact t2⟩
      · obtain ⟨t, t1, t2⟩ := ha
        replace t1 : t < gpN g.r g.n v.n := t1
        replace t2 : gpZ g.r g.n g.z v.n t = a := t2
        rw [e1] at t1
        rw [e2] at t2
        unfold pzZ at t2
        by_cases et : t = g.n
        · rw [if_pos et] at t2; exact .inr ⟨t2.symm, ek⟩
        · rw [if_neg et] at t2; exact .inl ⟨t, by omega, t2⟩
    | false =>
      have e1 : gpN g.r g.n v.n = g.n := by unfold gpN; rw [if_neg (by simp [hB])]
      have e2 : gpZ g.r g.n g.z v.n = g.z := by unfold gpZ; rw [if_neg (by simp [hB])]
      refine ⟨fun a _ => .inr (.inr rfl), fun a ha => ?_, fun a ha => ?_⟩
      · obtain ⟨t, t1, t2⟩ := ha
        exact ⟨t, by show t < gpN g.r g.n v.n; omega, by show gpZ g.r g.n g.z v.n t = a; rw [e2]; exact t2⟩
      · obtain ⟨t, t1, t2⟩ := ha
        replace t1 : t < gpN g.r g.n v.n := t1
        replace t2 : gpZ g.r g.n g.z v.n t = a := t2
        rw [e1] at t1
        rw [e2] at t2
        exact .inl ⟨t, t1, t2⟩
  · rw [if_neg e]
    exact ⟨fun a ha => .inl ha, fun a ha => ha, fun a ha => .inl ha⟩
/-! Within how many steps marking is done. -/
theorem ha_cases (h : Hp) (m : Mk) (a : Int) : haM h m a = m ∨ (obB h a = true ∧ 0 < obN h a ∧ haM h m a = { m with ob := a, fi := 0 }) := by
  unfold haM
  by_cases e : obB h a = true ∧ 0 < obN h a
  · rw [if_pos e]; exact .inr ⟨e.1, e.2, rfl⟩
  · rw [if_neg e]; exact .inl rfl
theorem ob_minus {h : Hp} {a : Int} (ho : obB h a = true) : ¬ a = -1 := by
  rintro rfl
  rw [ob_out (by omega)] at ho
  cases ho
end Go.Proofs.YtmbgodncagjncaaDoor
