/- Marking (chapter 17), as data: markers, steps, within how many of them marking is done. -/
import Derived.Test.YtiofeebiejkajaaDoorB24
import Derived.Test.YtiofeebiejkajaaDoorB32
namespace Go.Proofs.YtiofeebiejkajaaDoor
set_option linter.unusedSimpArgs false
set_option linter.unusedVariables false
open Go.ChangeShapes Go.WideShapes Go.ChangeAt Go.RowKit

def Gy.mem (g : Gy) (a : Int) : Prop := ∃ t, t < g.n ∧ g.z t = a
def Gy.right (g : Gy) : Bool := rightG g.r g.n g.z
structure Mk where
  g : Gy
  nb : Nat
  b : Nat → Gy
  nr : Nat
  ro : Nat → Vl
  ob : Int
  fi : Int
  cu : Int
  ov : Bool
def setB (b : Nat → Gy) (i : Nat) (x : Gy) : Nat → Gy := fun j => if j = i then x else b j
def smB (b : Nat → Gy) : Nat → Nat
  | 0 => 0
  | k + 1 => smB b k + (b k).n
theorem smB_set (b : Nat → Gy) (i : Nat) (x : Gy) : ∀ k, smB (setB b i x) k + (if i < k then (b i).n else 0) = smB b k + (if i < k then x.n else 0)
  | 0 => by simp [smB]
  | k + 1 => by
    have ih := smB_set b i x k
    unfold smB
    by_cases e : k = i
    · subst e
      rw [if_neg (by omega), if_neg (by omega)] at ih
      rw [if_pos (by omega), if_pos (by omega), show setB b k x k = x by simp [setB]]
      omega
    · rw [show setB b i x k = b k by simp [setB, e]]
      by_cases h : i < k
      · rw [if_pos h, if_pos h] at ih
        rw [if_pos (by omega), if_pos (by omega)]
        omega
      · rw [if_neg h, if_neg h] at ih
        rw [if_neg (by omega), if_neg (by omega)]
        omega
/-- The first row that isn't empty. -/
def fsB (m : Mk) : Option Nat := (List.range m.nb).find? fun i => decide (0 < (m.b i).n)
theorem fs_some {m : Mk} {i : Nat} (h : fsB m = some i) : i < m.nb ∧ 0 < (m.b i).n := by
  unfold fsB at h
  have h1 := List.mem_of_find?_eq_some h
  have h2 := List.find?_some h
  exact ⟨by simpa using h1, by simpa using h2⟩
theorem fs_none {m : Mk} (h : fsB m = none) : ∀ i, i < m.nb → (m.b i).n = 0 := fun i hi => by
  unfold fsB at h
  rw [List.find?_eq_none] at h
  have := h i (by simpa using hi)
  simpa using this
/-- The least black object at an address or behind. -/
def lbA (h : Hp) (c : Int) : Option Int := (obL h h.n).find? fun a => decide (c ≤ a) && blB h a
theorem lb_some {h : Hp} {c a : Int} (hF : formB h = true) (e : lbA h c = some a) : obB h a = true ∧ blB h a = true ∧ c ≤ a ∧ ∀ x, blB h x = true → c ≤ x → a ≤ x := by
  unfold lbA at e
  have h1 := List.mem_of_find?_eq_some e
  have h2 := List.find?_some e
  simp only [Bool.and_eq_true, decide_eq_true_eq] at h2
  refine ⟨(mem_obL hF).1 h1, h2.2, h2.1, fun x hx hc => ?_⟩
  have hxo : obB h x = true := by simp only [blB, Bool.and_eq_true] at hx; exact hx.1
  obtain ⟨l1, l2, hs, hno⟩ := (List.find?_eq_some_iff_append.1 e).2
  have hxm := (mem_obL hF).2 hxo
  have hp := obL_rise h h.n
  rw [hs] at hxm hp
  rcases List.mem_append.1 hxm with hm | hm
  · have := hno x hm
    simp [hx, hc] at this
  · rcases List.mem_cons.1 hm with rfl | hm
    · exact Int.le_refl _
    · have := (List.pairwise_append.1 hp).2.1
      have := (List.pairwise_cons.1 this).1 x hm
      omega
theorem lb_none {h : Hp} {c : Int} (hF : formB h = true) (e : lbA h c = none) {x : Int} (hx : blB h x = true) : ¬ c ≤ x := fun hc => by
  have hxo : obB h x = true := by simp only [blB, Bool.and_eq_true] at hx; exact hx.1
  unfold lbA at e
  rw [List.find?_eq_none] at e
  have := e x ((mem_obL hF).2 hxo)
  simp [hx, hc] at this
/-- An object is taken in hand. -/
def haM (h : Hp) (m : Mk) (a : Int) : Mk := if obB h a = true ∧ 0 < obN h a then { m with ob := a, fi := 0 } else m
/-- The value of a field. -/
def fvV (h : Hp) (a i : Int) : Vl := ⟨getK (fdX h a i), getN (fdX h a i)⟩
def shM (h : Hp) (g : Gy) (v : Vl) : Sd := sdS g.r ⟨h, g.n, g.z, false⟩ v
def Sd.gy (s : Sd) (r : Int) : Gy := ⟨r, s.n, s.z⟩
/-- A step: the heap, the marker, whether marking is done. -/
def stM (h : Hp) (m : Mk) : Hp × Mk × Bool :=
  if ¬ m.ob = -1 then
    ((shM h m.g (fvV h m.ob m.fi)).h,
     (if m.fi + 1 = obN h m.ob then { m with g := (shM h m.g (fvV h m.ob m.fi)).gy m.g.r, ov := m.ov || (shM h m.g (fvV h m.ob m.fi)).o, ob := -1, fi := 0 }
      else { m with g := (shM h m.g (fvV h m.ob m.fi)).gy m.g.r, ov := m.ov || (shM h m.g (fvV h m.ob m.fi)).o, fi := m.fi + 1 }), false)
  else if 0 < m.g.n then (h, haM h { m with g := ⟨m.g.r, m.g.n - 1, m.g.z⟩ } (m.g.z (m.g.n - 1)), false)
  else match fsB m with
    | some i => (h, haM h { m with b := setB m.b i ⟨(m.b i).r, (m.b i).n - 1, (m.b i).z⟩ } ((m.b i).z ((m.b i).n - 1)), false)
    | none =>
      if 0 < m.nr then ((shM h m.g (m.ro 0)).h, { m with g := (shM h m.g (m.ro 0)).gy m.g.r, ov := m.ov || (shM h m.g (m.ro 0)).o, nr := m.nr - 1, ro := fun i => m.ro (i + 1) }, false)
      else if ¬ m.cu = -1 then (match lbA h m.cu with
        | some a => (h, haM h { m with cu := a + 1 } a, false)
        | none => (h, { m with cu := -1 }, false))
      else if m.ov = true then (h, { m with ov := false, cu := 0 }, false)
      else (h, m, true)
/-- A marker that is right beside a heap. -/
def rightM (h : Hp) (m : Mk) : Prop := m.g.right = true ∧ (∀ i, i < m.nb → (m.b i).right = true) ∧ (-1 ≤ m.cu ∧ m.cu ≤ h.n) ∧ ((m.ob = -1 ∧ m.fi = 0) ∨ (¬ m.ob = -1 ∧ fdE h m.ob m.fi = 0))
theorem fd_ok {h : Hp} {a i : Int} (e : fdE h a i = 0) : obB h a = true ∧ 0 ≤ i ∧ i < obN h a := by
  rcases fd_cases h a i with ⟨h1, h2, h3, -⟩ | ⟨-, -, h3, -⟩ | ⟨-, h3, -⟩
  · exact ⟨h1, h2, h3⟩
  · omega
  · omega
theorem fd_of {h : Hp} {a i : Int} (h1 : obB h a = true) (h2 : 0 ≤ i) (h3 : i < obN h a) : fdE h a i = 0 := by
  unfold fdE; rw [if_pos h1, if_pos ⟨h2, h3⟩]
/-! What shading one value does. -/
theorem shM_heap {h : Hp} (hF : formB h = true) (g : Gy) (v : Vl) : (shM h g v).h = if shB h v = true then pnH h (fun x => x == v.n) else h := by
  unfold shM sdS
  by_cases e : shB h v = true
  · rw [if_pos e, if_pos e, ← pa_pn hF]
  · rw [if_neg e, if_neg e]
theorem shM_pn {h : Hp} (hF : formB h = true) (g : Gy) (v : Vl) : ∃ P : Int → Bool, (shM h g v).h = pnH h P ∧ ∀ x, P x = true → x = v.n ∧ v.k = 2 := by
  rw [shM_heap hF]
  by_cases e : shB h v = true
  · rw [if_pos e]
    refine ⟨_, rfl, fun x hx => ⟨by simpa using hx, ?_⟩⟩
    simp only [shB, Bool.and_eq_true, decide_eq_true_eq] at e
    exact e.1
  · rw [if_neg e]
    exact ⟨fun _ => false, (pn_none hF fun _ _ _ => rfl).symm, fun x hx => by cases hx⟩
/-- .. the object that it tells of is black then. -/
theorem shM_black {h : Hp} (hF : formB h = true) (g : Gy) {v : Vl} (hk : v.k = 2) (ho : obB h v.n = true) : blB (shM h g v).h v.n = true := by
  rw [shM_heap hF]
  by_cases e : shB h v = true
  · rw [if_pos e, pn_black hF, ho]; simp
  · rw [if_neg e]
    simpa [shB, hk, ho] using e
/-- .. and it is in the row, or it is over; the row holds what it held. -/
theorem shM_row {h : Hp} (hF : formB h = true) (g : Gy) (v : Vl) :
    (∀ a, blB (shM h g v).h a = true → blB h a = true ∨ ((shM h g v).gy g.r).mem a ∨ (shM h g v).o = true) ∧ (∀ a, g.mem a → ((shM h g v).gy g.r).mem a) ∧ (∀ a, ((shM h g v).gy g.r).mem a → g.mem a ∨ (a = v.n ∧ v.k = 2)) := by
  have hh := shM_heap hF g v
  unfold shM sdS at hh ⊢
  by_cases e : shB h v = true
  · rw [if_pos e] at hh ⊢
    rw [if_pos e] at hh
    have e' := e
    simp only [shB, Bool.and_eq_true, decide_eq_true_eq, Bool.not_eq_true'] at e'
    obtain ⟨ek, eo, eb⟩ := e'
    have a0 := (ob_range hF eo).1
    cases hB : gpB g.r g.n v.n with
    | true =>
      have e1 : gpN g.r g.n v.n = g.n + 1 := by unfold gpN; rw [if_pos hB]
      have e2 : gpZ g.r g.n g.z v.n = pzZ g.z g.n v.n := by unfold gpZ; rw [if_pos hB]
      refine ⟨fun a ha => ?_, fun a ha => ?_, fun a ha => ?_⟩
      · rw [show (⟨paH h v.n, gpN g.r g.n v.n, gpZ g.r g.n g.z v.n, false || !gpB g.r g.n v.n⟩ : Sd).h = pnH h (fun x => x == v.n) from hh, pn_black hF] at ha
        by_cases ea : a = v.n
        · right; left
          exact ⟨g.n, by show g.n < gpN g.r g.n v.n; omega, by show gpZ g.r g.n g.z v.n g.n = a; rw [e2]; unfold pzZ; rw [if_pos rfl, ea]⟩
        · left
          have : (a == v.n) = false := by simpa using ea
          rw [this] at ha
          simpa using ha
      · obtain ⟨t, t1, t2⟩ := ha
        exact ⟨t, by show t < gpN g.r g.n v.n; omega, by show gpZ g.r g.n g.z v.n t = a; rw [e2]; unfold pzZ; rw [if_neg (by omega)]; exact t2⟩
      · obtain ⟨t, t1, t2⟩ := ha
        replace t1 : t < gpN g.r g.n v.n := t1
        replace t2 : gpZ g.r g.n g.z v.n t = a := t2
        rw [e1] at t1
        rw [e2] at t2
        unfold pzZ at t2
        by_cases et : t = g.n
        · rw [if_pos et] at t2; exact .inr ⟨t2.symm, ek⟩
        · rw [if_neg et] at t2; exact .inl ⟨t, by omega, t2⟩
    | false =>
      have e1 : gpN g.r g.n v.n = g.n := by unfold gpN; rw [if_neg (by simp [hB])]
      have e2 : gpZ g.r g.n g.z v.n = g.z := by unfold gpZ; rw [if_neg (by simp [hB])]
      refine ⟨fun a _ => .inr (.inr rfl), fun a ha => ?_, fun a ha => ?_⟩
      · obtain ⟨t, t1, t2⟩ := ha
        exact ⟨t, by show t < gpN g.r g.n v.n; omega, by show gpZ g.r g.n g.z v.n t = a; rw [e2]; exact t2⟩
      · obtain ⟨t, t1, t2⟩ := ha
        replace t1 : t < gpN g.r g.n v.n := t1
        replace t2 : gpZ g.r g.n g.z v.n t = a := t2
        rw [e1] at t1
        rw [e2] at t2
        exact .inl ⟨t, t1, t2⟩
  · rw [if_neg e]
    exact ⟨fun a ha => .inl ha, fun a ha => ha, fun a ha => .inl ha⟩
theorem shM_right {h : Hp} (hF : formB h = true) {g : Gy} (v : Vl) (hg : g.right = true) : ((shM h g v).gy g.r).right = true := by
  obtain ⟨⟨r0, r1, r2⟩, hz⟩ := rightG_iff.1 hg
  unfold shM sdS
  by_cases e : shB h v = true
  · rw [if_pos e]
    have e' := e
    simp only [shB, Bool.and_eq_true] at e'
    have a0 := (ob_range hF e'.2.1).1
    cases hB : gpB g.r g.n v.n with
    | true =>
      have e1 : gpN g.r g.n v.n = g.n + 1 := by unfold gpN; rw [if_pos hB]
      have e2 : gpZ g.r g.n g.z v.n = pzZ g.z g.n v.n := by unfold gpZ; rw [if_pos hB]
      have hlt : (g.n : Int) < g.r := by
        simp only [gpB, Bool.and_eq_true, decide_eq_true_eq] at hB
        exact hB.2
      refine rightG_iff.2 ⟨⟨r0, r1, ?_⟩, fun i hi => ?_⟩
      · show ((gpN g.r g.n v.n : Nat) : Int) ≤ g.r
        omega
      · show 0 ≤ gpZ g.r g.n g.z v.n i
        replace hi : i < gpN g.r g.n v.n := hi
        rw [e2]
        unfold pzZ
        split
        · exact a0
        · exact hz i (by omega)
    | false =>
      have e1 : gpN g.r g.n v.n = g.n := by unfold gpN; rw [if_neg (by simp [hB])]
      have e2 : gpZ g.r g.n g.z v.n = g.z := by unfold gpZ; rw [if_neg (by simp [hB])]
      refine rightG_iff.2 ⟨⟨r0, r1, ?_⟩, fun i hi => ?_⟩
      · show ((gpN g.r g.n v.n : Nat) : Int) ≤ g.r
        omega
      · show 0 ≤ gpZ g.r g.n g.z v.n i
        replace hi : i < gpN g.r g.n v.n := hi
        rw [e2]
        exact hz i (by omega)
  · rw [if_neg e]; exact hg
/-! Within how many steps marking is done. -/
def whC (h : Hp) : Nat := (obL h h.n).countP fun a => !blB h a
def afC (h : Hp) (c : Int) : Nat := (obL h h.n).countP fun a => decide (c ≤ a)
def nOb (h : Hp) : Nat := (obL h h.n).length
theorem whC_shade {h : Hp} (hF : formB h = true) (g : Gy) (v : Vl) :
    (shM h g v).n + (if (shM h g v).o = true then 17 * nOb h + 2 else 0) + whC (shM h g v).h * (17 * nOb h + 19) ≤ g.n + whC h * (17 * nOb h + 19) ∧
    17 * (shM h g v).n + (if (shM h g v).o = true then 17 * nOb h + 2 else 0) + whC (shM h g v).h * (17 * nOb h + 19) ≤ 17 * g.n + whC h * (17 * nOb h + 19) := by
  have hh := shM_heap hF g v
  by_cases e : shB h v = true
  · rw [if_pos e] at hh
    have e' := e
    simp only [shB, Bool.and_eq_true, decide_eq_true_eq, Bool.not_eq_true'] at e'
    obtain ⟨ek, eo, eb⟩ := e'
    have hw : whC h = whC (pnH h fun x => x == v.n) + 1 := by
      unfold whC
      rw [(pn_n h _).1, pn_list hF]
      refine countP_one (obL_nodup _ _) ((mem_obL hF).2 eo) ?_ fun x => ?_
      · rw [pn_black hF, eo]; simp
      · rw [pn_black hF]
        by_cases ex : x = v.n
        · subst ex; simp [eb]
        · have : (x == v.n) = false := by simpa using ex
          rw [this]
          simp
    have hn : (shM h g v).n ≤ g.n + 1 ∧ (shM h g v).n = gpN g.r g.n v.n := by
      unfold shM sdS
      rw [if_pos e]
      refine ⟨?_, rfl⟩
      show gpN g.r g.n v.n ≤ g.n + 1
      unfold gpN
      split <;> omega
    have ho : (shM h g v).o = !gpB g.r g.n v.n := by
      unfold shM sdS
      rw [if_pos e]
      simp
    rw [hh, hw, Nat.add_mul, Nat.one_mul]
    cases hB : gpB g.r g.n v.n
    · have : gpN g.r g.n v.n = g.n := by unfold gpN; rw [if_neg (by simp [hB])]
      rw [ho, hB, if_pos (by simp)]
      omega
    · rw [ho, hB, if_neg (by simp)]
      omega
  · have e1 : shM h g v = ⟨h, g.n, g.z, false⟩ := by unfold shM sdS; rw [if_neg e]
    rw [e1]
    simp
theorem shM_same {h : Hp} (hF : formB h = true) (g : Gy) (v : Vl) : formB (shM h g v).h = true ∧ (shM h g v).h.n = h.n ∧ (∀ a, obB (shM h g v).h a = obB h a ∧ obN (shM h g v).h a = obN h a) ∧ (∀ c, afC (shM h g v).h c = afC h c) ∧ nOb (shM h g v).h = nOb h := by
  obtain ⟨P, e, -⟩ := shM_pn hF g v
  rw [e]
  refine ⟨hF, rfl, fun a => ⟨(pn_ob hF P a).1, (pn_ob hF P a).2.2.1⟩, fun c => ?_, ?_⟩
  · unfold afC; rw [(pn_n h P).1, pn_list hF]
  · unfold nOb; rw [(pn_n h P).1, pn_list hF]
/-- What is still to be done, at most. -/
def muM (h : Hp) (m : Mk) : Int :=
  (if m.ob = -1 then 0 else obN h m.ob - m.fi) + 17 * (m.g.n + smB m.b m.nb : Nat) + m.nr + (if m.cu = -1 then 0 else 17 * (afC h m.cu : Int) + 1) + (if m.ov = true then 17 * (nOb h : Int) + 2 else 0) + (whC h * (17 * nOb h + 19) : Nat)
theorem obN_bound {h : Hp} (hF : formB h = true) (a : Int) : 0 ≤ obN h a ∧ obN h a ≤ 15 := by
  cases ho : obB h a with
  | true => rw [(ob_spec hF ho).2.2.2.2.2.2.2.2.1]; exact gN_bound
  | false => rw [(ob_no ho).2.2]; omega
theorem ha_cases (h : Hp) (m : Mk) (a : Int) : haM h m a = m ∨ (obB h a = true ∧ 0 < obN h a ∧ haM h m a = { m with ob := a, fi := 0 }) := by
  unfold haM
  by_cases e : obB h a = true ∧ 0 < obN h a
  · rw [if_pos e]; exact .inr ⟨e.1, e.2, rfl⟩
  · rw [if_neg e]; exact .inl rfl
theorem ob_minus {h : Hp} {a : Int} (ho : obB h a = true) : ¬ a = -1 := by
  rintro rfl
  rw [ob_out (by omega)] at ho
  cases ho
theorem mu_hand {h : Hp} (hF : formB h = true) {m : Mk} (hm : m.ob = -1) (a : Int) : muM h (haM h m a) ≤ muM h m + 15 := by
  rcases ha_cases h m a with e | ⟨h1, h2, e⟩
  · rw [e]; omega
  · rw [e]
    have := obN_bound hF a
    unfold muM
    dsimp only
    rw [if_neg (ob_minus h1), if_pos hm]
    omega
theorem right_hand {h : Hp} {m : Mk} (hm : m.ob = -1) (hR : rightM h m) (a : Int) : rightM h (haM h m a) := by
  rcases ha_cases h m a with e | ⟨h1, h2, e⟩
  · rw [e]; exact hR
  · rw [e]
    obtain ⟨r1, r2, r3, r4⟩ := hR
    exact ⟨r1, r2, r3, .inr ⟨ob_minus h1, fd_of h1 (Int.le_refl _) h2⟩⟩
theorem pop_right {g : Gy} (hg : g.right = true) (k : Nat) (hk : k ≤ g.n) : (⟨g.r, k, g.z⟩ : Gy).right = true := by
  obtain ⟨⟨r0, r1, r2⟩, hz⟩ := rightG_iff.1 hg
  exact rightG_iff.2 ⟨⟨r0, r1, by show (k : Int) ≤ g.r; omega⟩, fun i hi => hz i (by have : i < k := hi; omega)⟩
theorem setB_right {b : Nat → Gy} {nb i : Nat} {x : Gy} (hb : ∀ j, j < nb → (b j).right = true) (hx : x.right = true) : ∀ j, j < nb → (setB b i x j).right = true := fun j hj => by
  unfold setB
  split
  · exact hx
  · exact hb j hj
theorem right_pn {h g : Hp} {m : Mk} (hn : g.n = h.n) (ho : ∀ a, obB g a = obB h a ∧ obN g a = obN h a) (hR : rightM h m) : rightM g m := by
  obtain ⟨r1, r2, r3, r4⟩ := hR
  refine ⟨r1, r2, by rw [hn]; exact r3, ?_⟩
  rcases r4 with r4 | ⟨r5, r6⟩
  · exact .inl r4
  · obtain ⟨f1, f2, f3⟩ := fd_ok r6
    exact .inr ⟨r5, fd_of (by rw [(ho _).1]; exact f1) f2 (by rw [(ho _).2]; exact f3)⟩
theorem afC_less {h : Hp} {c a : Int} (hF : formB h = true) (ho : obB h a = true) (hc : c ≤ a) : afC h (a + 1) + 1 ≤ afC h c := by
  unfold afC
  have hm := (mem_obL hF).2 ho
  have hnd := obL_nodup h h.n
  generalize obL h h.n = L at *
  induction L with
  | nil => cases hm
  | cons x L ih =>
    obtain ⟨hx, hnd⟩ := List.nodup_cons.1 hnd
    rw [List.countP_cons, List.countP_cons]
    have hle : L.countP (fun x => decide (a + 1 ≤ x)) ≤ L.countP (fun x => decide (c ≤ x)) := List.countP_mono_left fun y _ hy => by
      simp only [decide_eq_true_eq] at hy ⊢
      omega
    rcases List.mem_cons.1 hm with rfl | hm
    · rw [if_neg (by simp; omega), if_pos (by simpa using hc)]
      omega
    · have := ih hm hnd
      by_cases e : a + 1 ≤ x
      · rw [if_pos (by simpa using e), if_pos (by simp; omega)]
        omega
      · rw [if_neg (by simpa using e)]
        omega
theorem afC_le (h : Hp) (c : Int) : afC h c ≤ nOb h := List.countP_le_length
/-- A step that isn't the last one: less is to be done; the marker stays right; the heap is painted. -/
theorem st_step {h : Hp} {m : Mk} (hF : formB h = true) (hR : rightM h m) (hd : (stM h m).2.2 = false) :
    muM (stM h m).1 (stM h m).2.1 + 1 ≤ muM h m ∧ rightM (stM h m).1 (stM h m).2.1 := by
  have hR0 := hR
  obtain ⟨r1, r2, ⟨r3, r3'⟩, r4⟩ := hR
  unfold stM at hd ⊢
  by_cases h1 : ¬ m.ob = -1
  · rw [if_pos h1]
    have r4' : fdE h m.ob m.fi = 0 := by
      rcases r4 with ⟨e, -⟩ | ⟨-, e⟩
      · exact absurd e h1
      · exact e
    obtain ⟨f1, f2, f3⟩ := fd_ok r4'
    have hw := (whC_shade hF m.g (fvV h m.ob m.fi)).2
    obtain ⟨s1, s2, s3, s4, s5⟩ := shM_same hF m.g (fvV h m.ob m.fi)
    have sr := shM_right hF (fvV h m.ob m.fi) r1
    generalize shM h m.g (fvV h m.ob m.fi) = S at *
    have hSn : (S.gy m.g.r).n = S.n := rfl
    by_cases e : m.fi + 1 = obN h m.ob
    · rw [if_pos e]
      refine ⟨?_, right_pn s2 s3 ⟨sr, r2, ⟨r3, r3'⟩, .inl ⟨rfl, rfl⟩⟩⟩
      unfold muM
      dsimp only
      rw [if_pos rfl, if_neg h1, s4, s5, hSn]
      have : (if (m.ov || S.o) = true then 17 * (nOb h : Int) + 2 else 0) ≤ (if m.ov = true then 17 * (nOb h : Int) + 2 else 0) + ((if S.o = true then 17 * nOb h + 2 else 0 : Nat) : Int) := by
        cases m.ov <;> cases S.o <;> simp <;> omega
      omega
    · rw [if_neg e]
      refine ⟨?_, right_pn s2 s3 ⟨sr, r2, ⟨r3, r3'⟩, .inr ⟨h1, fd_of f1 (by show 0 ≤ m.fi + 1; omega) (by show m.fi + 1 < obN h m.ob; omega)⟩⟩⟩
      unfold muM
      dsimp only
      rw [if_neg h1, if_neg h1, s4, s5, hSn, (s3 m.ob).2]
      have : (if (m.ov || S.o) = true then 17 * (nOb h : Int) + 2 else 0) ≤ (if m.ov = true then 17 * (nOb h : Int) + 2 else 0) + ((if S.o = true then 17 * nOb h + 2 else 0 : Nat) : Int) := by
        cases m.ov <;> cases S.o <;> simp <;> omega
      omega
  · rw [if_neg h1] at hd ⊢
    have hob : m.ob = -1 := by simpa using h1
    have hfi : m.fi = 0 := by
      rcases r4 with ⟨-, e⟩ | ⟨e, -⟩
      · exact e
      · exact absurd hob e
    by_cases h2 : 0 < m.g.n
    · rw [if_pos h2] at hd ⊢
      have hRm : rightM h { m with g := ⟨m.g.r, m.g.n - 1, m.g.z⟩ } := ⟨pop_right r1 _ (by omega), r2, ⟨r3, r3'⟩, .inl ⟨hob, hfi⟩⟩
      refine ⟨?_, right_hand (by exact hob) hRm _⟩
      have := mu_hand (m := { m with g := ⟨m.g.r, m.g.n - 1, m.g.z⟩ }) hF hob (m.g.z (m.g.n - 1))
      have e : muM h { m with g := ⟨m.g.r, m.g.n - 1, m.g.z⟩ } + 17 = muM h m := by
        unfold muM
        dsimp only
        omega
      dsimp only
      omega
    · rw [if_neg h2] at hd ⊢
      cases hf : fsB m with
      | some i =>
        simp only [hf] at hd ⊢
        obtain ⟨i1, i2⟩ := fs_some hf
        have hRm : rightM h { m with b := setB m.b i ⟨(m.b i).r, (m.b i).n - 1, (m.b i).z⟩ } := ⟨r1, setB_right r2 (pop_right (r2 i i1) _ (by omega)), ⟨r3, r3'⟩, .inl ⟨hob, hfi⟩⟩
        refine ⟨?_, right_hand (by exact hob) hRm _⟩
        have := mu_hand (m := { m with b := setB m.b i ⟨(m.b i).r, (m.b i).n - 1, (m.b i).z⟩ }) hF hob ((m.b i).z ((m.b i).n - 1))
        have hs := smB_set m.b i ⟨(m.b i).r, (m.b i).n - 1, (m.b i).z⟩ m.nb
        rw [if_pos i1, if_pos i1] at hs
        have e : muM h { m with b := setB m.b i ⟨(m.b i).r, (m.b i).n - 1, (m.b i).z⟩ } + 17 = muM h m := by
          unfold muM
          dsimp only at hs ⊢
          omega
        omega
      | none =>
        simp only [hf] at hd ⊢
        by_cases h3 : 0 < m.nr
        · rw [if_pos h3] at hd ⊢
          have hw := (whC_shade hF m.g (m.ro 0)).2
          obtain ⟨s1, s2, s3, s4, s5⟩ := shM_same hF m.g (m.ro 0)
          have sr := shM_right hF (m.ro 0) r1
          generalize shM h m.g (m.ro 0) = S at *
          have hSn : (S.gy m.g.r).n = S.n := rfl
          refine ⟨?_, right_pn s2 s3 ⟨sr, r2, ⟨r3, r3'⟩, .inl ⟨hob, hfi⟩⟩⟩
          unfold muM
          dsimp only
          rw [if_pos hob, if_pos hob, s4, s5, hSn]
          have : (if (m.ov || S.o) = true then 17 * (nOb h : Int) + 2 else 0) ≤ (if m.ov = true then 17 * (nOb h : Int) + 2 else 0) + ((if S.o = true then 17 * nOb h + 2 else 0 : Nat) : Int) := by
            cases m.ov <;> cases S.o <;> simp <;> omega
          omega
        · rw [if_neg h3] at hd ⊢
          by_cases h4 : ¬ m.cu = -1
          · rw [if_pos h4] at hd ⊢
            cases hl : lbA h m.cu with
            | some a =>
              simp only [hl] at hd ⊢
              obtain ⟨a1, a2, a3, -⟩ := lb_some hF hl
              obtain ⟨a4, a5⟩ := ob_range hF a1
              have hRm : rightM h { m with cu := a + 1 } := ⟨r1, r2, ⟨by show -1 ≤ a + 1; omega, by show a + 1 ≤ (h.n : Int); omega⟩, .inl ⟨hob, hfi⟩⟩
              refine ⟨?_, right_hand (by exact hob) hRm _⟩
              have := mu_hand (m := { m with cu := a + 1 }) hF hob a
              have hc := afC_less (c := m.cu) hF a1 a3
              have e : muM h { m with cu := a + 1 } + 17 ≤ muM h m := by
                unfold muM
                dsimp only
                rw [if_neg (show ¬ a + 1 = -1 by omega), if_neg h4]
                omega
              omega
            | none =>
              simp only [hl] at hd ⊢
              refine ⟨?_, r1, r2, ⟨by show (-1 : Int) ≤ -1; omega, by show (-1 : Int) ≤ (h.n : Int); omega⟩, .inl ⟨hob, hfi⟩⟩
              unfold muM
              dsimp only
              rw [if_pos rfl, if_neg h4]
              omega
          · rw [if_neg h4] at hd ⊢
            have hcu : m.cu = -1 := by simpa using h4
            by_cases h5 : m.ov = true
            · rw [if_pos h5] at hd ⊢
              refine ⟨?_, r1, r2, ⟨by show (-1 : Int) ≤ 0; omega, by show (0 : Int) ≤ (h.n : Int); omega⟩, .inl ⟨hob, hfi⟩⟩
              have := afC_le h 0
              unfold muM
              dsimp only
              rw [if_neg (show ¬ (0 : Int) = -1 by decide), if_pos hcu, h5]
              simp
              omega
            · rw [if_neg h5] at hd
              cases hd
end Go.Proofs.YtiofeebiejkajaaDoor
