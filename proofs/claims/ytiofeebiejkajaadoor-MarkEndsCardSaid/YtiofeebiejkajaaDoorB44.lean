/- Contracts of the code's marking (chapter 17): the six steps under one form. -/
import Derived.Test.YtiofeebiejkajaaDoorB42
import Derived.Test.YtiofeebiejkajaaDoorB43
import Derived.Test.YtiofeebiejkajaaDoorB22
import Derived.Test.YtiofeebiejkajaaDoorB34
namespace Go.Proofs.YtiofeebiejkajaaDoor
set_option linter.unusedSimpArgs false
set_option linter.unusedVariables false
open Go.ChangeShapes Go.WideShapes Go.ChangeAt Go.RowKit Go.Joins

/-- Can this step be taken? -/
def cS (m : Mk) : Nat → Bool
  | 0 => decide (¬ m.ob = -1)
  | 1 => decide (0 < m.g.n)
  | 2 => (fsB m).isSome
  | 3 => decide (0 < m.nr)
  | 4 => decide (¬ m.cu = -1)
  | 5 => m.ov
  | _ => false
/-- What a step's function leaves. -/
def StepL (N B n k : Nat) (b : Bool) (h : Hp) (m : Mk) (j : Nat) (w : World) (e : Ending) (w' : World) : Prop :=
  e = .returned (.bool (cS m j)) ∧ Aside (fun k => k = B) w w' ∧ (cS m j = true → StV N B n k b (stM h m).1 (stM h m).2.1 w' ∧ (stM h m).2.2 = false) ∧ (cS m j = false → StV N B n k b h m w')
section
variable {N B n k : Nat} {b : Bool} {h : Hp} {m : Mk} {w : World}
theorem rg_le {g : Gy} (h : g.right = true) : g.r ≤ 16 ∧ g.n ≤ 16 := by
  unfold Gy.right rightG at h
  simp only [Bool.and_eq_true, decide_eq_true_eq] at h
  omega
theorem step0 (hS : Sz w) (hSB : ¬ 0 = B) (hN : N ≤ B) (hst : StV N B n k b h m w) (hF : formB h = true) (hR : rightM h m) :
    Calls Tryd.prog 30 #[.pointer (some ⟨B, 0, none⟩)] w (StepL N B n k b h m 0 w) := by
  by_cases h0 : m.ob = -1
  · have e : cS m 0 = false := by simp [cS, h0]
    refine (mfield_no N B n k b h m w hst h0).mono ?_
    rintro e1 w' ⟨rfl, hb⟩
    exact ⟨by rw [e], Aside.of hb, (fun h => by rw [e] at h; cases h), fun _ => hst.below hb⟩
  · have e : cS m 0 = true := by simp [cS, h0]
    obtain ⟨r1, r2⟩ := rg_le hR.1
    have hfd : fdE h m.ob m.fi = 0 := by
      rcases hR.2.2.2 with ⟨h1, -⟩ | ⟨-, h1⟩
      · exact absurd h1 h0
      · exact h1
    refine (mfield_yes N B n k b h m w hS hSB hN hst hF h0 hfd (by omega) (by omega)).mono ?_
    rintro e1 w' ⟨rfl, hs, hA⟩
    have es : stM h m = ((shM h m.g (fvV h m.ob m.fi)).h, (if m.fi + 1 = obN h m.ob then { m with g := (shM h m.g (fvV h m.ob m.fi)).gy m.g.r, ov := m.ov || (shM h m.g (fvV h m.ob m.fi)).o, ob := -1, fi := 0 }
      else { m with g := (shM h m.g (fvV h m.ob m.fi)).gy m.g.r, ov := m.ov || (shM h m.g (fvV h m.ob m.fi)).o, fi := m.fi + 1 }), false) := by unfold stM; rw [if_pos h0]
    exact ⟨by rw [e], hA, (fun _ => by rw [es]; exact ⟨hs, rfl⟩), fun h => by rw [e] at h; cases h⟩
theorem step1 (hS : Sz w) (hSB : ¬ 0 = B) (hN : N ≤ B) (hst : StV N B n k b h m w) (hF : formB h = true) (hR : rightM h m) (c0 : cS m 0 = false) :
    Calls Tryd.prog 31 #[.pointer (some ⟨B, 0, none⟩)] w (StepL N B n k b h m 1 w) := by
  have h0 : ¬ ¬ m.ob = -1 := by simpa [cS] using c0
  by_cases h1 : 0 < m.g.n
  · have e : cS m 1 = true := by simp [cS, h1]
    obtain ⟨r1, r2⟩ := rg_le hR.1
    refine (mgrey_yes N B n k b h m w hS hSB hN hst hF h1 (by omega)).mono ?_
    rintro e1 w' ⟨rfl, hs, hA⟩
    have es : stM h m = (h, haM h { m with g := ⟨m.g.r, m.g.n - 1, m.g.z⟩ } (m.g.z (m.g.n - 1)), false) := by unfold stM; rw [if_neg h0, if_pos h1]
    exact ⟨by rw [e], hA, (fun _ => by rw [es]; exact ⟨hs, rfl⟩), fun h => by rw [e] at h; cases h⟩
  · have e : cS m 1 = false := by simp [cS, h1]
    refine (mgrey_no N B n k b h m w hst (by omega)).mono ?_
    rintro e1 w' ⟨rfl, hb⟩
    exact ⟨by rw [e], Aside.of hb, (fun h => by rw [e] at h; cases h), fun _ => hst.below hb⟩
theorem step2 (hS : Sz w) (hSB : ¬ 0 = B) (hN : N ≤ B) (hst : StV N B n k b h m w) (hF : formB h = true) (hR : rightM h m) (hnb : m.nb ≤ 1000) (c0 : cS m 0 = false) (c1 : cS m 1 = false) :
    Calls Tryd.prog 32 #[.pointer (some ⟨B, 0, none⟩)] w (StepL N B n k b h m 2 w) := by
  have h0 : ¬ ¬ m.ob = -1 := by simpa [cS] using c0
  have h1 : ¬ 0 < m.g.n := by simpa [cS] using c1
  refine (mbarr_any N B n k b h m w hS hSB hN hst hF (by omega) fun t ht => by have := (rg_le (hR.2.1 t ht)).2; omega).mono ?_
  rintro e1 w' ⟨rfl, hs, hA⟩
  refine ⟨rfl, hA, fun hc => ?_, fun hc => ?_⟩
  · obtain ⟨i, hi⟩ := Option.isSome_iff_exists.1 hc
    have es : stM h m = (h, haM h { m with b := setB m.b i ⟨(m.b i).r, (m.b i).n - 1, (m.b i).z⟩ } ((m.b i).z ((m.b i).n - 1)), false) := by unfold stM; rw [if_neg h0, if_neg h1, hi]
    rw [baM_some hi] at hs
    rw [es]
    exact ⟨hs, rfl⟩
  · have hi : fsB m = none := by simpa [cS] using hc
    rw [baM_none hi] at hs
    exact hs
theorem step3 (hS : Sz w) (hSB : ¬ 0 = B) (hN : N ≤ B) (hst : StV N B n k b h m w) (hF : formB h = true) (hR : rightM h m) (hnr : m.nr ≤ 1000000) (c0 : cS m 0 = false) (c1 : cS m 1 = false) (c2 : cS m 2 = false) :
    Calls Tryd.prog 33 #[.pointer (some ⟨B, 0, none⟩)] w (StepL N B n k b h m 3 w) := by
  have h0 : ¬ ¬ m.ob = -1 := by simpa [cS] using c0
  have h1 : ¬ 0 < m.g.n := by simpa [cS] using c1
  have h2 : fsB m = none := by simpa [cS] using c2
  by_cases h3 : 0 < m.nr
  · have e : cS m 3 = true := by simp [cS, h3]
    obtain ⟨r1, r2⟩ := rg_le hR.1
    refine (mroot_yes N B n k b h m w hS hSB hN hst hF h3 hnr (by omega) (by omega)).mono ?_
    rintro e1 w' ⟨rfl, hs, hA⟩
    have es : stM h m = ((shM h m.g (m.ro 0)).h, { m with g := (shM h m.g (m.ro 0)).gy m.g.r, ov := m.ov || (shM h m.g (m.ro 0)).o, nr := m.nr - 1, ro := fun i => m.ro (i + 1) }, false) := by unfold stM; rw [if_neg h0, if_neg h1, h2]; dsimp only; rw [if_pos h3]
    exact ⟨by rw [e], hA, (fun _ => by rw [es]; exact ⟨hs, rfl⟩), fun h => by rw [e] at h; cases h⟩
  · have e : cS m 3 = false := by simp [cS, h3]
    refine (mroot_no N B n k b h m w hst (by omega)).mono ?_
    rintro e1 w' ⟨rfl, hb⟩
    exact ⟨by rw [e], Aside.of hb, (fun h => by rw [e] at h; cases h), fun _ => hst.below hb⟩
theorem step4 (hS : Sz w) (hSB : ¬ 0 = B) (hN : N ≤ B) (hst : StV N B n k b h m w) (hF : formB h = true) (hR : rightM h m) (c0 : cS m 0 = false) (c1 : cS m 1 = false) (c2 : cS m 2 = false) (c3 : cS m 3 = false) :
    Calls Tryd.prog 34 #[.pointer (some ⟨B, 0, none⟩)] w (StepL N B n k b h m 4 w) := by
  have h0 : ¬ ¬ m.ob = -1 := by simpa [cS] using c0
  have h1 : ¬ 0 < m.g.n := by simpa [cS] using c1
  have h2 : fsB m = none := by simpa [cS] using c2
  have h3 : ¬ 0 < m.nr := by simpa [cS] using c3
  by_cases h4 : m.cu = -1
  · have e : cS m 4 = false := by simp [cS, h4]
    refine (mcur_no N B n k b h m w hst h4).mono ?_
    rintro e1 w' ⟨rfl, hb⟩
    exact ⟨by rw [e], Aside.of hb, (fun h => by rw [e] at h; cases h), fun _ => hst.below hb⟩
  · have e : cS m 4 = true := by simp [cS, h4]
    refine (mcur_yes N B n k b h m w hS hSB hN hst hF h4 hR.2.2.1).mono ?_
    rintro e1 w' ⟨rfl, hs, hA⟩
    have es : stM h m = (h, cuM h m, false) := by
      unfold stM cuM; rw [if_neg h0, if_neg h1, h2]; dsimp only; rw [if_neg h3, if_pos h4]
      cases lbA h m.cu <;> rfl
    exact ⟨by rw [e], hA, (fun _ => by rw [es]; exact ⟨hs, rfl⟩), fun h => by rw [e] at h; cases h⟩
theorem step5 (hN : N ≤ B) (hst : StV N B n k b h m w) (hF : formB h = true) (c0 : cS m 0 = false) (c1 : cS m 1 = false) (c2 : cS m 2 = false) (c3 : cS m 3 = false) (c4 : cS m 4 = false) :
    Calls Tryd.prog 35 #[.pointer (some ⟨B, 0, none⟩)] w (StepL N B n k b h m 5 w) := by
  have h0 : ¬ ¬ m.ob = -1 := by simpa [cS] using c0
  have h1 : ¬ 0 < m.g.n := by simpa [cS] using c1
  have h2 : fsB m = none := by simpa [cS] using c2
  have h3 : ¬ 0 < m.nr := by simpa [cS] using c3
  have h4 : ¬ ¬ m.cu = -1 := by simpa [cS] using c4
  refine (mlook_any N B n k b h m w hN hst hF).mono ?_
  rintro e1 w' ⟨rfl, hs, hA⟩
  refine ⟨rfl, hA, fun hc => ?_, fun hc => ?_⟩
  · have hc' : m.ov = true := hc
    have es : stM h m = (h, { m with ov := false, cu := 0 }, false) := by unfold stM; rw [if_neg h0, if_neg h1, h2]; dsimp only; rw [if_neg h3, if_neg h4, if_pos hc']
    rw [if_pos hc'] at hs
    rw [es]
    exact ⟨hs, rfl⟩
  · have hc' : ¬ m.ov = true := by have : m.ov = false := hc; simp [this]
    rw [if_neg hc'] at hs
    exact hs
theorem step_none (hc : ∀ j, j < 6 → cS m j = false) : stM h m = (h, m, true) := by
  have h0 : ¬ ¬ m.ob = -1 := by simpa [cS] using hc 0 (by omega)
  have h1 : ¬ 0 < m.g.n := by simpa [cS] using hc 1 (by omega)
  have h2 : fsB m = none := by simpa [cS] using hc 2 (by omega)
  have h3 : ¬ 0 < m.nr := by simpa [cS] using hc 3 (by omega)
  have h4 : ¬ ¬ m.cu = -1 := by simpa [cS] using hc 4 (by omega)
  have h5 : ¬ m.ov = true := by have : m.ov = false := hc 5 (by omega); simp [this]
  unfold stM; rw [if_neg h0, if_neg h1, h2]; dsimp only; rw [if_neg h3, if_neg h4, if_neg h5]
end
end Go.Proofs.YtiofeebiejkajaaDoor
namespace Go.Proofs.YtiofeebiejkajaaDoor
set_option linter.unusedSimpArgs false
set_option linter.unusedVariables false
open Go.ChangeShapes Go.WideShapes Go.ChangeAt Go.RowKit Go.Joins

section
variable {P : Program} {l : List Oper} {Q : Exit → Act → World → Prop} {a : Act} {ds : List (Option Nat)} {Φ : Nat → (Nat → Value) → World → Prop} {R : Bool → World → Prop} {is : Nat} {anc : Nat → Bool} {Per : Nat → World → World → Prop}
end
end Go.Proofs.YtiofeebiejkajaaDoor
namespace Go.Proofs.YtiofeebiejkajaaDoor
set_option linter.unusedSimpArgs false
set_option linter.unusedVariables false
open Go.ChangeShapes Go.WideShapes Go.ChangeAt Go.RowKit Go.Joins

section
variable {P : Program} {l : List Oper} {Q : Exit → Act → World → Prop} {a : Act} {ds : List (Option Nat)} {Φ : Nat → (Nat → Value) → World → Prop} {R : Bool → World → Prop} {is : Nat} {anc dsc : Nat → Bool} {Per : Nat → World → World → Prop}
end
end Go.Proofs.YtiofeebiejkajaaDoor
namespace Go.Proofs.YtiofeebiejkajaaDoor
set_option linter.unusedSimpArgs false
set_option linter.unusedVariables false
open Go.ChangeShapes Go.WideShapes Go.ChangeAt Go.RowKit Go.Joins

def HmT (n k : Nat) (b : Bool) (H : Hp) (N : Nat) (M : Mk) (v : Value) (w : World) : Prop :=
  ∃ p c q d pg cg pb cb pr cr, v = .tuple #[.agg #[.slice p n c, .slice q k d, .bool b], .agg #[.int .i64 M.g.r, .slice pg M.g.n cg, .slice pb M.nb cb, .slice pr M.nr cr, .int .i64 M.ob, .int .i64 M.fi, .int .i64 M.cu, .bool M.ov]] ∧ HpIn w p n c q k d b H ∧ MAtE N w M pg cg pb cb pr cr
def MkV (N : Nat) (M : Mk) (v : Value) (w : World) : Prop :=
  ∃ pg cg pb cb pr cr, v = .agg #[.int .i64 M.g.r, .slice pg M.g.n cg, .slice pb M.nb cb, .slice pr M.nr cr, .int .i64 M.ob, .int .i64 M.fi, .int .i64 M.cu, .bool M.ov] ∧ MAtE N w M pg cg pb cb pr cr
def FullME (T N : Nat) (M : Mk) (g : Nat) (w : World) : Prop :=
  ∃ pg cg pb cb pr cr, TBox T g #[.int .i64 M.g.r, .slice pg M.g.n cg, .slice pb M.nb cb, .slice pr M.nr cr, .int .i64 M.ob, .int .i64 M.fi, .int .i64 M.cu, .bool M.ov] w ∧ MAtE N w M pg cg pb cb pr cr
section
variable {n k N T T' m' g g' : Nat} {b : Bool} {H : Hp} {M : Mk} {v : Value} {w w' : World}
theorem HmT.below (h : HmT n k b H N M v w) (hb : Below w.heap.size w w') : HmT n k b H N M v w' := by
  obtain ⟨p, c, q, d, pg, cg, pb, cb, pr, cr, e, h1, h2⟩ := h
  exact ⟨p, c, q, d, pg, cg, pb, cb, pr, cr, e, h1.below hb, h2.below hb⟩
theorem MkV.below (h : MkV N M v w) (hb : Below w.heap.size w w') : MkV N M v w' := by
  obtain ⟨pg, cg, pb, cb, pr, cr, e, h2⟩ := h
  exact ⟨pg, cg, pb, cb, pr, cr, e, h2.below hb⟩
theorem FullME.below (h : FullME T N M g w) (hb : Below w.heap.size w w') : FullME T N M g w' := by
  obtain ⟨pg, cg, pb, cb, pr, cr, e, h2⟩ := h
  exact ⟨pg, cg, pb, cb, pr, cr, e.below hb, h2.below hb⟩
theorem HmT.putsV (h : HmT n k b H N M v w) (hv : VarT T m' g w) (hT : ¬ 3 = T) (hT2 : ¬ 28 = T) (hT3 : ¬ 38 = T) (hg : N ≤ g) (hn : 32 ≤ n) (hk : 0 < k) (ys : List Value) : HmT n k b H N M v (putsL g 0 ys w) := by
  obtain ⟨p, c, q, d, pg, cg, pb, cb, pr, cr, e, h1, h2⟩ := h
  exact ⟨p, c, q, d, pg, cg, pb, cb, pr, cr, e, hpIn_puts (hv.clear h1 hn hk) ys 0 h1, h2.puts hv hT hT2 hT3 hg ys⟩
theorem MkV.putsV (h : MkV N M v w) (hv : VarT T m' g w) (hT : ¬ 3 = T) (hT2 : ¬ 28 = T) (hT3 : ¬ 38 = T) (hg : N ≤ g) (ys : List Value) : MkV N M v (putsL g 0 ys w) := by
  obtain ⟨pg, cg, pb, cb, pr, cr, e, h2⟩ := h
  exact ⟨pg, cg, pb, cb, pr, cr, e, h2.puts hv hT hT2 hT3 hg ys⟩
theorem FullME.putsV (h : FullME T N M g' w) (hv : VarT T' m' g w) (hTT : ¬ T = T') (hT : ¬ 3 = T') (hT2 : ¬ 28 = T') (hT3 : ¬ 38 = T') (hg : N ≤ g) (ys : List Value) : FullME T N M g' (putsL g 0 ys w) := by
  obtain ⟨pg, cg, pb, cb, pr, cr, e, h2⟩ := h
  exact ⟨pg, cg, pb, cb, pr, cr, tbox_stays e hv hTT ys, h2.puts hv hT hT2 hT3 hg ys⟩
theorem VarT.eight (h : VarT T 8 g w) : ∃ x0 x1 x2 x3 x4 x5 x6 x7, TBox T g #[x0, x1, x2, x3, x4, x5, x6, x7] w := by
  obtain ⟨⟨l⟩, e, -, h⟩ := h
  have e' : l.length = 8 := e
  rcases l with _ | ⟨x0, l⟩
  · simp at e'
  rcases l with _ | ⟨x1, l⟩
  · simp at e'
  rcases l with _ | ⟨x2, l⟩
  · simp at e'
  rcases l with _ | ⟨x3, l⟩
  · simp at e'
  rcases l with _ | ⟨x4, l⟩
  · simp at e'
  rcases l with _ | ⟨x5, l⟩
  · simp at e'
  rcases l with _ | ⟨x6, l⟩
  · simp at e'
  rcases l with _ | ⟨x7, l⟩
  · simp at e'
  have : l = [] := List.eq_nil_of_length_eq_zero (by simp only [List.length_cons] at e'; omega)
  subst this
  exact ⟨x0, x1, x2, x3, x4, x5, x6, x7, h⟩
theorem mk_frozen {x0 x1 x2 x3 x4 x5 x6 x7 : Value} (h : TBox T g #[x0, x1, x2, x3, x4, x5, x6, x7] w) : w.frozen? ⟨g, 0, none⟩ = false ∧ w.frozen? ⟨g, 1, none⟩ = false ∧ w.frozen? ⟨g, 2, none⟩ = false ∧ w.frozen? ⟨g, 3, none⟩ = false ∧ w.frozen? ⟨g, 4, none⟩ = false ∧ w.frozen? ⟨g, 5, none⟩ = false ∧ w.frozen? ⟨g, 6, none⟩ = false ∧ w.frozen? ⟨g, 7, none⟩ = false :=
  ⟨h.frozen 0, h.frozen 1, h.frozen 2, h.frozen 3, h.frozen 4, h.frozen 5, h.frozen 6, h.frozen 7⟩
theorem set_eight (x0 x1 x2 x3 x4 x5 x6 x7 a0 a1 a2 a3 a4 a5 a6 a7 : Value) : setFrom #[x0, x1, x2, x3, x4, x5, x6, x7] 0 [a0, a1, a2, a3, a4, a5, a6, a7] = #[a0, a1, a2, a3, a4, a5, a6, a7] := by
  simp only [setFrom, Nat.reduceAdd, List.setIfInBounds_toArray, List.set_cons_succ, List.set_cons_zero]
theorem VarT.full8 {a0 a1 a2 a3 a4 a5 a6 a7 : Value} (h : VarT T 8 g w) : TBox T g #[a0, a1, a2, a3, a4, a5, a6, a7] (putsL g 0 [a0, a1, a2, a3, a4, a5, a6, a7] w) := by
  obtain ⟨x0, x1, x2, x3, x4, x5, x6, x7, h⟩ := h.eight
  have := h.putsL [a0, a1, a2, a3, a4, a5, a6, a7] 0
  rwa [set_eight] at this
end
/-- The two variables. -/
def HmS (TH GH TM GM : Nat) (w : World) : Prop := VarT TH 3 GH w ∧ VarT TM 8 GM w
theorem HmS.below {TH GH TM GM : Nat} {w w' : World} (h : HmS TH GH TM GM w) (hb : Below w.heap.size w w') : HmS TH GH TM GM w' := ⟨h.1.below hb, h.2.below hb⟩
theorem HmS.puts {TH GH TM GM g : Nat} {w : World} (h : HmS TH GH TM GM w) {ys : List Value} (hy : PlainL ys) : HmS TH GH TM GM (putsL g 0 ys w) := ⟨h.1.puts hy, h.2.puts hy⟩
end Go.Proofs.YtiofeebiejkajaaDoor
