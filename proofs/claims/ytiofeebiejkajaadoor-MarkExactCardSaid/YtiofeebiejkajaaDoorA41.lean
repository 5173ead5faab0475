/- Contracts of the code's marking (chapter 17): the six steps under one form. -/
import Derived.Test.YtiofeebiejkajaaDoorA40
import Derived.Test.YtiofeebiejkajaaDoorA18
namespace Go.Proofs.YtiofeebiejkajaaDoor
set_option linter.unusedSimpArgs false
set_option linter.unusedVariables false
open Go.ChangeShapes Go.WideShapes Go.ChangeAt Go.RowKit Go.Joins

/-- Can this step be taken? -/
def cS (m : Mk) : Nat → Bool
  | 0 => decide (¬ m.ob = -1)
  | 1 => decide (0 < m.g.n)
  | 2 => (fsB m).isSome
  | 3 => decide (0 < m.nr)
  | 4 => decide (¬ m.cu = -1)
  | 5 => m.ov
  | _ => false
/-- What a step's function leaves. -/
def StepL (N B n k : Nat) (b : Bool) (h : Hp) (m : Mk) (j : Nat) (w : World) (e : Ending) (w' : World) : Prop :=
  e = .returned (.bool (cS m j)) ∧ Aside (fun k => k = B) w w' ∧ (cS m j = true → StV N B n k b (stM h m).1 (stM h m).2.1 w' ∧ (stM h m).2.2 = false) ∧ (cS m j = false → StV N B n k b h m w')
section
variable {N B n k : Nat} {b : Bool} {h : Hp} {m : Mk} {w : World}
theorem rg_le {g : Gy} (h : g.right = true) : g.r ≤ 16 ∧ g.n ≤ 16 := by
  unfold Gy.right rightG at h
  simp only [Bool.and_eq_true, decide_eq_true_eq] at h
  omega
theorem step0 (hS : Sz w) (hSB : ¬ 0 = B) (hN : N ≤ B) (hst : StV N B n k b h m w) (hF : formB h = true) (hR : rightM h m) :
    Calls Tryd.prog 30 #[.pointer (some ⟨B, 0, none⟩)] w (StepL N B n k b h m 0 w) := by
  by_cases h0 : m.ob = -1
  · have e : cS m 0 = false := by simp [cS, h0]
    refine (mfield_no N B n k b h m w hst h0).mono ?_
    rintro e1 w' ⟨rfl, hb⟩
    exact ⟨by rw [e], Aside.of hb, (fun h => by rw [e] at h; cases h), fun _ => hst.below hb⟩
  · have e : cS m 0 = true := by simp [cS, h0]
    obtain ⟨r1, r2⟩ := rg_le hR.1
    have hfd : fdE h m.ob m.fi = 0 := by
      rcases hR.2.2.2 with ⟨h1, -⟩ | ⟨-, h1⟩
      · exact absurd h1 h0
      · exact h1
    refine (mfield_yes N B n k b h m w hS hSB hN hst hF h0 hfd (by omega) (by omega)).mono ?_
    rintro e1 w' ⟨rfl, hs, hA⟩
    have es : stM h m = ((shM h m.g (fvV h m.ob m.fi)).h, (if m.fi + 1 = obN h m.ob then { m with g := (shM h m.g (fvV h m.ob m.fi)).gy m.g.r, ov := m.ov || (shM h m.g (fvV h m.ob m.fi)).o, ob := -1, fi := 0 }
      else { m with g := (shM h m.g (fvV h m.ob m.fi)).gy m.g.r, ov := m.ov || (shM h m.g (fvV h m.ob m.fi)).o, fi := m.fi + 1 }), false) := by unfold stM; rw [if_pos h0]
    exact ⟨by rw [e], hA, (fun _ => by rw [es]; exact ⟨hs, rfl⟩), fun h => by rw [e] at h; cases h⟩
theorem step1 (hS : Sz w) (hSB : ¬ 0 = B) (hN : N ≤ B) (hst : StV N B n k b h m w) (hF : formB h = true) (hR : rightM h m) (c0 : cS m 0 = false) :
    Calls Tryd.prog 31 #[.pointer (some ⟨B, 0, none⟩)] w (StepL N B n k b h m 1 w) := by
  have h0 : ¬ ¬ m.ob = -1 := by simpa [cS] using c0
  by_cases h1 : 0 < m.g.n
  · have e : cS m 1 = true := by simp [cS, h1]
    obtain ⟨r1, r2⟩ := rg_le hR.1
    refine (mgrey_yes N B n k b h m w hS hSB hN hst hF h1 (by omega)).mono ?_
    rintro e1 w' ⟨rfl, hs, hA⟩
    have es : stM h m = (h, haM h { m with g := ⟨m.g.r, m.g.n - 1, m.g.z⟩ } (m.g.z (m.g.n - 1)), false) := by unfold stM; rw [if_neg h0, if_pos h1]
    exact ⟨by rw [e], hA, (fun _ => by rw [es]; exact ⟨hs, rfl⟩), fun h => by rw [e] at h; cases h⟩
  · have e : cS m 1 = false := by simp [cS, h1]
    refine (mgrey_no N B n k b h m w hst (by omega)).mono ?_
    rintro e1 w' ⟨rfl, hb⟩
    exact ⟨by rw [e], Aside.of hb, (fun h => by rw [e] at h; cases h), fun _ => hst.below hb⟩
theorem step2 (hS : Sz w) (hSB : ¬ 0 = B) (hN : N ≤ B) (hst : StV N B n k b h m w) (hF : formB h = true) (hR : rightM h m) (hnb : m.nb ≤ 1000) (c0 : cS m 0 = false) (c1 : cS m 1 = false) :
    Calls Tryd.prog 32 #[.pointer (some ⟨B, 0, none⟩)] w (StepL N B n k b h m 2 w) := by
  have h0 : ¬ ¬ m.ob = -1 := by simpa [cS] using c0
  have h1 : ¬ 0 < m.g.n := by simpa [cS] using c1
  refine (mbarr_any N B n k b h m w hS hSB hN hst hF (by omega) fun t ht => by have := (rg_le (hR.2.1 t ht)).2; omega).mono ?_
  rintro e1 w' ⟨rfl, hs, hA⟩
  refine ⟨rfl, hA, fun hc => ?_, fun hc => ?_⟩
  · obtain ⟨i, hi⟩ := Option.isSome_iff_exists.1 hc
    have es : stM h m = (h, haM h { m with b := setB m.b i ⟨(m.b i).r, (m.b i).n - 1, (m.b i).z⟩ } ((m.b i).z ((m.b i).n - 1)), false) := by unfold stM; rw [if_neg h0, if_neg h1, hi]
    rw [baM_some hi] at hs
    rw [es]
    exact ⟨hs, rfl⟩
  · have hi : fsB m = none := by simpa [cS] using hc
    rw [baM_none hi] at hs
    exact hs
theorem step3 (hS : Sz w) (hSB : ¬ 0 = B) (hN : N ≤ B) (hst : StV N B n k b h m w) (hF : formB h = true) (hR : rightM h m) (hnr : m.nr ≤ 1000000) (c0 : cS m 0 = false) (c1 : cS m 1 = false) (c2 : cS m 2 = false) :
    Calls Tryd.prog 33 #[.pointer (some ⟨B, 0, none⟩)] w (StepL N B n k b h m 3 w) := by
  have h0 : ¬ ¬ m.ob = -1 := by simpa [cS] using c0
  have h1 : ¬ 0 < m.g.n := by simpa [cS] using c1
  have h2 : fsB m = none := by simpa [cS] using c2
  by_cases h3 : 0 < m.nr
  · have e : cS m 3 = true := by simp [cS, h3]
    obtain ⟨r1, r2⟩ := rg_le hR.1
    refine (mroot_yes N B n k b h m w hS hSB hN hst hF h3 hnr (by omega) (by omega)).mono ?_
    rintro e1 w' ⟨rfl, hs, hA⟩
    have es : stM h m = ((shM h m.g (m.ro 0)).h, { m with g := (shM h m.g (m.ro 0)).gy m.g.r, ov := m.ov || (shM h m.g (m.ro 0)).o, nr := m.nr - 1, ro := fun i => m.ro (i + 1) }, false) := by unfold stM; rw [if_neg h0, if_neg h1, h2]; dsimp only; rw [if_pos h3]
    exact ⟨by rw [e], hA, (fun _ => by rw [es]; exact ⟨hs, rfl⟩), fun h => by rw [e] at h; cases h⟩
  · have e : cS m 3 = false := by simp [cS, h3]
    refine (mroot_no N B n k b h m w hst (by omega)).mono ?_
    rintro e1 w' ⟨rfl, hb⟩
    exact ⟨by rw [e], Aside.of hb, (fun h => by rw [e] at h; cases h), fun _ => hst.below hb⟩
theorem step4 (hS : Sz w) (hSB : ¬ 0 = B) (hN : N ≤ B) (hst : StV N B n k b h m w) (hF : formB h = true) (hR : rightM h m) (c0 : cS m 0 = false) (c1 : cS m 1 = false) (c2 : cS m 2 = false) (c3 : cS m 3 = false) :
    Calls Tryd.prog 34 #[.pointer (some ⟨B, 0, none⟩)] w (StepL N B n k b h m 4 w) := by
  have h0 : ¬ ¬ m.ob = -1 := by simpa [cS] using c0
  have h1 : ¬ 0 < m.g.n := by simpa [cS] using c1
  have h2 : fsB m = none := by simpa [cS] using c2
  have h3 : ¬ 0 < m.nr := by simpa [cS] using c3
  by_cases h4 : m.cu = -1
  · have e : cS m 4 = false := by simp [cS, h4]
    refine (mcur_no N B n k b h m w hst h4).mono ?_
    rintro e1 w' ⟨rfl, hb⟩
    exact ⟨by rw [e], Aside.of hb, (fun h => by rw [e] at h; cases h), fun _ => hst.below hb⟩
  · have e : cS m 4 = true := by simp [cS, h4]
    refine (mcur_yes N B n k b h m w hS hSB hN hst hF h4 hR.2.2.1).mono ?_
    rintro e1 w' ⟨rfl, hs, hA⟩
    have es : stM h m = (h, cuM h m, false) := by
      unfold stM cuM; rw [if_neg h0, if_neg h1, h2]; dsimp only; rw [if_neg h3, if_pos h4]
      cases lbA h m.cu <;> rfl
    exact ⟨by rw [e], hA, (fun _ => by rw [es]; exact ⟨hs, rfl⟩), fun h => by rw [e] at h; cases h⟩
theorem step5 (hN : N ≤ B) (hst : StV N B n k b h m w) (hF : formB h = true) (c0 : cS m 0 = false) (c1 : cS m 1 = false) (c2 : cS m 2 = false) (c3 : cS m 3 = false) (c4 : cS m 4 = false) :
    Calls Tryd.prog 35 #[.pointer (some ⟨B, 0, none⟩)] w (StepL N B n k b h m 5 w) := by
  have h0 : ¬ ¬ m.ob = -1 := by simpa [cS] using c0
  have h1 : ¬ 0 < m.g.n := by simpa [cS] using c1
  have h2 : fsB m = none := by simpa [cS] using c2
  have h3 : ¬ 0 < m.nr := by simpa [cS] using c3
  have h4 : ¬ ¬ m.cu = -1 := by simpa [cS] using c4
  refine (mlook_any N B n k b h m w hN hst hF).mono ?_
  rintro e1 w' ⟨rfl, hs, hA⟩
  refine ⟨rfl, hA, fun hc => ?_, fun hc => ?_⟩
  · have hc' : m.ov = true := hc
    have es : stM h m = (h, { m with ov := false, cu := 0 }, false) := by unfold stM; rw [if_neg h0, if_neg h1, h2]; dsimp only; rw [if_neg h3, if_neg h4, if_pos hc']
    rw [if_pos hc'] at hs
    rw [es]
    exact ⟨hs, rfl⟩
  · have hc' : ¬ m.ov = true := by have : m.ov = false := hc; simp [this]
    rw [if_neg hc'] at hs
    exact hs
theorem step_none (hc : ∀ j, j < 6 → cS m j = false) : stM h m = (h, m, true) := by
  have h0 : ¬ ¬ m.ob = -1 := by simpa [cS] using hc 0 (by omega)
  have h1 : ¬ 0 < m.g.n := by simpa [cS] using hc 1 (by omega)
  have h2 : fsB m = none := by simpa [cS] using hc 2 (by omega)
  have h3 : ¬ 0 < m.nr := by simpa [cS] using hc 3 (by omega)
  have h4 : ¬ ¬ m.cu = -1 := by simpa [cS] using hc 4 (by omega)
  have h5 : ¬ m.ov = true := by have : m.ov = false := hc 5 (by omega); simp [this]
  unfold stM; rw [if_neg h0, if_neg h1, h2]; dsimp only; rw [if_neg h3, if_neg h4, if_neg h5]
end
end Go.Proofs.YtiofeebiejkajaaDoor
namespace Go.Proofs.YtiofeebiejkajaaDoor
set_option linter.unusedSimpArgs false
set_option linter.unusedVariables false
open Go.ChangeShapes Go.WideShapes Go.ChangeAt Go.RowKit Go.Joins

structure SwapInv (ops : Array Oper) (a : Act) (ds : List (Option Nat)) (Φ : Nat → (Nat → Value) → World → Prop) (R : Bool → World → Prop) (is : Nat) (b : Array Bool) (a' : Act) (w' : World) : Prop where
  world : R (b.getD is false) w'
  bsize : b.size = ops.size
  defers : a'.defers = a.defers
  size : a'.tmps.size = a.tmps.size
  same : ∀ t, some t ∉ ds → a'.tmps[t]? = a.tmps[t]?
  closed : ∀ j o, ops[j]? = some o → b.getD j false = true → ∀ e ∈ o.after, Region.binds .any e = true → b.getD e.on false = true
  facts : ∀ i, b.getD i false = true → Φ i (slotVals a' ds) w'
section
variable {P : Program} {l : List Oper} {Q : Exit → Act → World → Prop} {a : Act} {ds : List (Option Nat)} {Φ : Nat → (Nat → Value) → World → Prop} {R : Bool → World → Prop} {is : Nat} {anc : Nat → Bool} {Per : Nat → World → World → Prop}
end
/-- What the store waits for: each of 'anc' is waited for by the store, or by a later one of 'anc' ('nx'). -/
def ancOK (ops : Array Oper) (is : Nat) (anc nx : List Nat) : Bool := anc.all fun i => match ops[nx.getD i 0]? with | some o => (o.after.any fun e => Region.binds .any e && e.on == i) && (nx.getD i 0 == is || anc.contains (nx.getD i 0)) && decide (i < nx.getD i 0) | none => false
end Go.Proofs.YtiofeebiejkajaaDoor
