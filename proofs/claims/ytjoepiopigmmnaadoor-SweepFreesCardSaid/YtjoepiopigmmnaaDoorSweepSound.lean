/- Sweeping keeps a heap's rules (chapters 9 and 12): plain lemmas. -/
import Derived.Test.YtjoepiopigmmnaaDoorSoundFn
import Derived.Test.YtjoepiopigmmnaaDoorSweepFn
namespace Go.Proofs.YtjoepiopigmmnaaDoor
set_option linter.unusedSimpArgs false
set_option linter.unusedVariables false

theorem no_same {g h : Hp} {a : Int} {n : Nat} (H : ∀ i : Nat, i < n → woH g (a + i) = woH h (a + i)) : noB g a n = noB h a n := by
  rw [Bool.eq_iff_iff, noB_iff, noB_iff]
  exact ⟨fun h1 i hi => (H i hi).symm.trans (h1 i hi), fun h1 i hi => (H i hi).trans (h1 i hi)⟩
theorem no_zero {g : Hp} {a : Int} {n : Nat} (H : ∀ i : Nat, i < n → woH g (a + i) = 0) : noB g a n = true := noB_iff.2 H
theorem ob_same {g h : Hp} {a : Int} (hf : fiB g a = fiB h a) (hw : woH g a = woH h a) : obB g a = obB h a ∧ obK g a = obK h a ∧ obN g a = obN h a := by
  have ho : obB g a = obB h a := by unfold obB; rw [hf, hw]
  refine ⟨ho, ?_, ?_⟩
  · unfold obK; rw [ho, hw]
  · unfold obN; rw [ho, hw]
theorem obN_pos (h : Hp) (a : Int) : 0 ≤ obN h a := by
  unfold obN gN
  repeat' split
  all_goals omega
/-- A block whose words and mask are the same keeps rules 2 and 3. -/
theorem bk_same {g h : Hp} {q : Nat} {i : Int} (hc : (g.s q).cl = (h.s q).cl) (hm : hasB (g.s q).fr i = hasB (h.s q).fr i) (hf : fiB g (bkA h q i) = fiB h (bkA h q i)) (h0 : 0 < szW (h.s q).cl)
    (hz : ∀ k : Int, 0 ≤ k → k < szW (h.s q).cl → woH g (bkA h q i + k) = woH h (bkA h q i + k)) : bk2 g q i = bk2 h q i ∧ bk3 g q i = bk3 h q i := by
  have ha : bkA g q i = bkA h q i := by unfold bkA; rw [hc]
  have hw : woH g (bkA h q i) = woH h (bkA h q i) := by
    have := hz 0 (Int.le_refl _) h0
    simpa using this
  obtain ⟨e1, e2, e3⟩ := ob_same hf hw
  constructor
  · unfold bk2
    rw [hm, ha, hc, e1, e2, no_same fun j hj => hz j (by omega) (by omega)]
  · unfold bk3
    rw [hm, ha, hc, e3]
    have hN := obN_pos h (bkA h q i)
    rw [no_same (g := g) (h := h) fun j hj => by
      have := hz (1 + obN h (bkA h q i) + j) (by omega) (by omega)
      rw [show bkA h q i + (1 + obN h (bkA h q i) + j) = bkA h q i + 1 + obN h (bkA h q i) + (j : Int) by omega] at this
      exact this]
/-- A free block whose words are 0 keeps them. -/
theorem bk_free {g : Hp} {q : Nat} {i : Int} (hm : hasB (g.s q).fr i = true) (hz : ∀ k : Int, 0 ≤ k → k < szW (g.s q).cl → woH g (bkA g q i + k) = 0) : bk2 g q i = true ∧ bk3 g q i = true := by
  constructor
  · unfold bk2
    rw [if_pos hm]
    exact no_zero fun j hj => hz j (by omega) (by omega)
  · unfold bk3
    rw [if_pos hm]
/-- A block of a page in use, where it lies. -/
theorem bk_at {h : Hp} (hF : formB h = true) {q : Nat} (hq : q < h.m) (hs : ¬ (h.s q).st = 0) {i : Int} (i0 : 0 ≤ i) (i1 : i < blW (h.s q).cl) : fiB h (bkA h q i) = true ∧ bkA h q i / 32 = q ∧ plI (h.s q).cl (bkA h q i) = i ∧ 0 < szW (h.s q).cl ∧ 32 * (q : Int) ≤ bkA h q i ∧ bkA h q i + szW (h.s q).cl ≤ 32 * q + 32 := by
  obtain ⟨f1, f2, f3⟩ := fi_of (h := h) (p := (q : Int)) (i := i) hF (by omega) (by omega) (by rw [spH_nat]; exact hs) i0 (by rw [spH_nat]; exact i1)
  rw [spH_nat] at f1 f2 f3
  have e : 32 * (q : Int) + i * szW (h.s q).cl = bkA h q i := rfl
  rw [e] at f1 f2 f3
  obtain ⟨b0, b1, b2, b3, b4⟩ := block_in hF f1
  rw [f2, spH_nat] at b2 b3 b4
  exact ⟨f1, f2, f3, by omega, by omega, by omega⟩
/-- A page whose span and words are the same keeps rules 2 and 3. -/
theorem pg_same {g h : Hp} (hF : formB h = true) (hm : g.m = h.m) {q : Nat} (hq : q < h.m) (hs : g.s q = h.s q) (hz : ∀ j : Nat, j / 32 = q → g.z j = h.z j) : (pg2 h q = true → pg2 g q = true) ∧ (pg3 h q = true → pg3 g q = true) := by
  by_cases h0 : (h.s q).st = 0
  · constructor
    · unfold pg2
      rw [hs, if_pos h0, if_pos h0]
      intro h1
      rw [no_same (h := h) fun i hi => hz _ (by omega)]
      exact h1
    · intro _
      unfold pg3
      rw [hs, if_pos h0]
  · have key : ∀ i : Nat, (i : Int) < blW (h.s q).cl → bk2 g q i = bk2 h q i ∧ bk3 g q i = bk3 h q i := fun i hi => by
      obtain ⟨f1, f2, f3, f4, f5, f6⟩ := bk_at hF hq h0 (i := (i : Int)) (by omega) hi
      refine bk_same (by rw [hs]) (by rw [hs]) ?_ f4 fun k k0 k1 => hz _ (by omega)
      refine fi_congr hm fun _ => ?_
      rw [f2, spH_nat, spH_nat, hs]
      exact ⟨rfl, Iff.rfl⟩
    have h0' : ¬ (g.s q).st = 0 := by rw [hs]; exact h0
    constructor
    · intro h1
      refine (pg2_used h0').2 fun i hi => ?_
      rw [hs] at hi
      rw [(key i hi).1]
      exact (pg2_used h0).1 h1 i hi
    · intro h1
      refine (pg3_used h0').2 fun i hi => ?_
      rw [hs] at hi
      rw [(key i hi).2]
      exact (pg3_used h0).1 h1 i hi
/-- The blocks fill the page. -/
theorem bk_fill {h : Hp} {q : Nat} (hc : 0 ≤ (h.s q).cl ∧ (h.s q).cl < 4) {j : Int} (j0 : 0 ≤ j) (j1 : j < 32) : ∃ i k : Int, 0 ≤ i ∧ i < blW (h.s q).cl ∧ 0 ≤ k ∧ k < szW (h.s q).cl ∧ 32 * (q : Int) + j = bkA h q i + k := by
  unfold bkA
  rcases cl_cases (h.s q).cl with ⟨-, h0, h1, -⟩ | ⟨-, h0, h1, -⟩ | ⟨-, h0, h1, -⟩ | ⟨-, h0, h1, -⟩ | ⟨h, -⟩
  · rw [h0, h1]; exact ⟨j / 2, j % 2, by omega, by omega, by omega, by omega, by omega⟩
  · rw [h0, h1]; exact ⟨j / 4, j % 4, by omega, by omega, by omega, by omega, by omega⟩
  · rw [h0, h1]; exact ⟨j / 8, j % 8, by omega, by omega, by omega, by omega, by omega⟩
  · rw [h0, h1]; exact ⟨j / 16, j % 16, by omega, by omega, by omega, by omega, by omega⟩
  · exact absurd hc h
/-- One page swept, rules 2 and 3 stay. -/
theorem on_rules {h : Hp} (hF : formB h = true) (hw : h.wf) (h2 : ru2 h = true) (h3 : ru3 h = true) (n : Nat) (y : Nat → Int) : ru2 (onH h n y) = true ∧ ru3 (onH h n y) = true := by
  cases e : onP h with
  | none =>
    have h1 : onH h n y = h := by unfold onH; rw [e]
    rw [h1]
    exact ⟨h2, h3⟩
  | some p =>
    obtain ⟨hp, hst, -⟩ := on_some e
    have S := swp hF hw hp 32 (Nat.le_refl _)
    have O := ond hF hw n y e
    generalize hr : swA h p 32 = r at S
    have hz : (onH h n y).z = r.1.z := by rw [O.z, hr]
    have hmine : (onH h n y).s p = clS (keptY n y p) (r.1.s p) := by
      have := O.mine
      rw [hr, spH_nat, spH_nat] at this
      exact this
    have hoth : ∀ q : Nat, ¬ q = p → (onH h n y).s q = h.s q := fun q hq => by
      have := O.oth (q : Int) (by omega) (by omega)
      rwa [spH_nat, spH_nat] at this
    have hh0 : ¬ (h.s p).st = 0 := by omega
    have hrc : (r.1.s p).cl = (h.s p).cl := by have := S.cl (p : Int) (by omega); rwa [spH_nat, spH_nat] at this
    have hrs : (r.1.s p).st = 2 := by have := S.st (p : Int) (by omega); rw [spH_nat, spH_nat] at this; omega
    have hp2 := (pg2_used hh0).1 (ru2_iff.1 h2 p hp)
    have hp3 := (pg3_used hh0).1 (ru3_iff.1 h3 p hp)
    have hcr : 0 ≤ (h.s p).cl ∧ (h.s p).cl < 4 := by
      rcases right_iff.1 (form_at hF (p := (p : Int)) (by omega) (by omega)) with ⟨h1, -⟩ | ⟨-, c0, c1, -⟩
      · rw [spH_nat] at h1; exact absurd h1 hh0
      · rw [spH_nat] at c0 c1; exact ⟨c0, c1⟩
    -- each block of the page, behind the sweep
    have blk : ∀ i : Nat, (i : Int) < blW (h.s p).cl → (hasB (r.1.s p).fr i = true ∧ ∀ k : Int, 0 ≤ k → k < szW (h.s p).cl → woH r.1 (bkA h p i + k) = 0) ∨ (hasB (r.1.s p).fr i = false ∧ hasB (h.s p).fr i = false ∧ ∀ k : Int, 0 ≤ k → k < szW (h.s p).cl → woH r.1 (bkA h p i + k) = woH h (bkA h p i + k)) := fun i hi => by
      obtain ⟨f1, f2, f3, f4, f5, f6⟩ := bk_at hF hp hh0 (i := (i : Int)) (by omega) hi
      have hu : usedB h (bkA h p i) = !hasB (h.s p).fr i := by unfold usedB; rw [f1, f2, spH_nat, f3]; rfl
      have hur : usedB r.1 (bkA h p i) = !hasB (r.1.s p).fr i := by unfold usedB; rw [S.fi, f1, f2, spH_nat, hrc, f3]; rfl
      have hus := S.used (bkA h p i)
      rw [hu, hur] at hus
      cases hg : goB h p 32 (bkA h p i) with
      | true =>
        rw [hg] at hus
        refine .inl ⟨by cases hx : hasB (r.1.s p).fr i <;> simp [hx] at hus ⊢, fun k k0 k1 => ?_⟩
        exact S.zero _ f1 hg k k0 (by rw [f2, spH_nat]; exact k1)
      | false =>
        rw [hg] at hus
        have hwd : ∀ k : Int, 0 ≤ k → k < szW (h.s p).cl → woH r.1 (bkA h p i + k) = woH h (bkA h p i + k) := fun k k0 k1 => S.word _ f1 hg k k0 (by rw [f2, spH_nat]; exact k1)
        cases hx : hasB (h.s p).fr i with
        | true =>
          rw [hx] at hus
          refine .inl ⟨by cases hx : hasB (r.1.s p).fr i <;> simp [hx] at hus ⊢, fun k k0 k1 => ?_⟩
          rw [hwd k k0 k1]
          have hb := hp2 i hi
          unfold bk2 at hb
          rw [if_pos hx] at hb
          have := noB_iff.1 hb k.toNat (by omega)
          rwa [Int.toNat_of_nonneg k0] at this
        | false =>
          rw [hx] at hus
          exact .inr ⟨by cases hx : hasB (r.1.s p).fr i <;> simp [hx] at hus ⊢, rfl, hwd⟩
    have out : ∀ q : Nat, q < h.m → ¬ q = p → (pg2 (onH h n y) q = true ∧ pg3 (onH h n y) q = true) := fun q hq hqp => by
      have := pg_same hF O.mm hq (hoth q hqp) fun j hj => by rw [hz]; exact S.out j (by omega)
      exact ⟨this.1 (ru2_iff.1 h2 q hq), this.2 (ru3_iff.1 h3 q hq)⟩
    have mine : pg2 (onH h n y) p = true ∧ pg3 (onH h n y) p = true := by
      by_cases hc : countW (r.1.s p).fr = blW (r.1.s p).cl ∧ keptY n y p = false
      · have hsp : (onH h n y).s p = ⟨0, 0, 0⟩ := by rw [hmine]; unfold clS; rw [if_pos hc]
        constructor
        · unfold pg2
          rw [hsp, if_pos rfl]
          refine no_zero fun j hj => ?_
          obtain ⟨i, k, i0, i1, k0, k1, ej⟩ := bk_fill (h := h) (q := p) hcr (j := (j : Int)) (by omega) (by omega)
          obtain ⟨f1, f2, f3, -⟩ := bk_at hF hp hh0 i0 i1
          have hi := blk i.toNat (by omega)
          rw [Int.toNat_of_nonneg i0] at hi
          have hall : hasB (r.1.s p).fr i = true := by
            have hu := whole_free S.form S.wf (b := bkA h p i) (by rw [f2, spH_nat]; exact hc.1)
            unfold usedB at hu
            rw [S.fi, f1, f2, spH_nat, hrc, f3] at hu
            simpa using hu
          rw [ej]
          rcases hi with ⟨-, hz0⟩ | ⟨hno, -⟩
          · have := hz0 k k0 k1
            unfold woH at this ⊢
            rw [hz]
            exact this
          · rw [hall] at hno; cases hno
        · unfold pg3
          rw [hsp, if_pos rfl]
      · have hsp : (onH h n y).s p = ⟨1, (r.1.s p).cl, (r.1.s p).fr⟩ := by rw [hmine]; unfold clS; rw [if_neg hc]
        have hg0 : ¬ ((onH h n y).s p).st = 0 := by rw [hsp]; show ¬ (1 : Int) = 0; decide
        have hgc : ((onH h n y).s p).cl = (h.s p).cl := by rw [hsp]; exact hrc
        have hgf : ((onH h n y).s p).fr = (r.1.s p).fr := by rw [hsp]
        have ha : ∀ i : Int, bkA (onH h n y) p i = bkA h p i := fun i => by unfold bkA; rw [hgc]
        have hwo : ∀ a : Int, woH (onH h n y) a = woH r.1 a := fun a => by unfold woH; rw [hz]
        have each : ∀ i : Nat, (i : Int) < blW (h.s p).cl → bk2 (onH h n y) p i = true ∧ bk3 (onH h n y) p i = true := fun i hi => by
          obtain ⟨f1, f2, f3, f4, f5, f6⟩ := bk_at hF hp hh0 (i := (i : Int)) (by omega) hi
          rcases blk i hi with ⟨hx, hz0⟩ | ⟨hx, hx', hw'⟩
          · exact bk_free (by rw [hgf]; exact hx) fun k k0 k1 => by rw [ha, hwo]; exact hz0 k k0 (by rw [hgc] at k1; exact k1)
          · have := bk_same (g := onH h n y) (h := h) hgc (by rw [hgf, hx, hx']) (fi_congr O.mm fun _ => by
              rw [f2, spH_nat, spH_nat]
              refine ⟨hgc, ?_⟩
              exact ⟨fun h1 => absurd h1 hg0, fun h1 => absurd h1 hh0⟩) f4 fun k k0 k1 => by rw [hwo]; exact hw' k k0 k1
            rw [this.1, this.2]
            exact ⟨hp2 i hi, hp3 i hi⟩
        exact ⟨(pg2_used hg0).2 fun i hi => (each i (by rw [hgc] at hi; exact hi)).1, (pg3_used hg0).2 fun i hi => (each i (by rw [hgc] at hi; exact hi)).2⟩
    constructor
    · refine ru2_iff.2 fun q hq => ?_
      by_cases hqp : q = p
      · subst hqp; exact mine.1
      · exact (out q (by have := O.mm; omega) hqp).1
    · refine ru3_iff.2 fun q hq => ?_
      by_cases hqp : q = p
      · subst hqp; exact mine.2
      · exact (out q (by have := O.mm; omega) hqp).2
theorem al_rules {h : Hp} (hF : formB h = true) (hw : h.wf) (h2 : ru2 h = true) (h3 : ru3 h = true) (n : Nat) (y : Nat → Int) : ∀ i, ru2 (alA h n y i).1 = true ∧ ru3 (alA h n y i).1 = true
  | 0 => ⟨h2, h3⟩
  | i + 1 => by
    obtain ⟨a1, a2⟩ := al_rules hF hw h2 h3 n y i
    obtain ⟨b1, b2, -⟩ := al_form hF hw n y i
    exact on_rules b1 b2 a1 a2 n y
theorem us_of {h : Hp} (hF : formB h = true) (h2 : ru2 h = true) : UsB h := fun a ho => by
  obtain ⟨-, -, -, hh⟩ := sound_obj hF h2 ho
  unfold usedB
  rw [ob_fi ho, hh]
  rfl
/-- What sweeping to the end does to a heap of rules 2 and 3. -/
structure Swept (n : Nat) (y : Nat → Int) (h g : Hp) : Prop where
  form : formB g = true
  wf : g.wf
  nn : g.n = h.n
  mm : g.m = h.m
  bb : g.b = h.b
  none : drH g = 0
  ob : ∀ b, obB g b = (obB h b && (blB h b || !decide ((spH h (b / 32)).st = 2)))
  clean : ∀ q : Nat, q < h.m → ¬ (h.s q).st = 2 → g.s q = h.s q
  word : ∀ b, obB g b = true → woH g b = woH h b
  words : ∀ b, obB g b = true → ∀ k : Int, 0 ≤ k → k < szW (spH h (b / 32)).cl → woH g (b + k) = woH h (b + k)
  two : ru2 g = true
  three : ru3 g = true
  shut : ∀ q : Nat, q < h.m → (h.s q).st = 2 → (g.s q = ⟨0, 0, 0⟩ ∧ keptY n y q = false) ∨ ((g.s q).st = 1 ∧ (keptY n y q = true ∨ ¬ countW (g.s q).fr = blW (g.s q).cl))
theorem swept {h : Hp} (hF : formB h = true) (hw : h.wf) (h2 : ru2 h = true) (h3 : ru3 h = true) (n : Nat) (y : Nat → Int) : Swept n y h (alA h n y 17).1 := by
  obtain ⟨a1, a2, a3, a4, a5, a6, -⟩ := al_form hF hw n y 17
  obtain ⟨b1, b2⟩ := al_rules hF hw h2 h3 n y 17
  have A := al_at hF hw (us_of hF h2) n y 17
  generalize (alA h n y 17).1 = g at *
  have hd : drH g = 0 := by
    have := dr_le h.s h.m
    have h4 := (form_iff.1 hF).2.1
    unfold drH at a6 ⊢
    omega
  have hnd : ∀ q : Int, 0 ≤ q → q < h.m → ¬ (spH g q).st = 2 := fun q q0 q1 e => by
    have := dr_pos (s := g.s) (p := q.toNat) (k := g.m) (by omega) e
    unfold drH at hd
    omega
  refine ⟨a1, a2, a3, a4, a5, hd, fun b => ?_, A.clean, A.word, A.words, b1, b2, fun q hq h2 => A.shut q hq h2 (by have := hnd (q : Int) (by omega) (by omega); rwa [spH_nat] at this)⟩
  rw [A.ob]
  cases ho : obB h b with
  | false => rfl
  | true =>
    have hf := fi_spec hF (ob_fi ho)
    have hn := hnd (b / 32) hf.1 hf.2.1
    unfold whB
    rw [ho, decide_eq_true hn]
    cases blB h b <;> cases decide ((spH h (b / 32)).st = 2) <;> rfl
/-- Swept to its end, a sound heap is sound, if what is still there refers to what is black. -/
theorem swept_sound {h g : Hp} {n : Nat} {y : Nat → Int} (hck : ckH h = 0) (S : Swept n y h g) (hcl : ∀ a, obB g a = true → ∀ r ∈ rfH h a, blB h r = true) : ckH g = 0 := by
  obtain ⟨hF, h2, h3, h4⟩ := ck_zero.1 hck
  refine ck_zero.2 ⟨S.form, S.two, S.three, ru4_iff.2 fun a ha => ?_⟩
  have ho := ((obL_mem g a g.n).1 ha).2.2
  have hoh : obB h a = true := by
    rw [S.ob, Bool.and_eq_true] at ho
    exact ho.1
  have hblk : ∀ r ∈ rfH g a, obB g r = true := fun r hr => by
    obtain ⟨j, hj, e1, e2⟩ := rfH_mem.1 hr
    obtain ⟨-, -, o3, -⟩ := sound_obj hF h2 hoh
    have hw : woH g a = woH h a := S.word a ho
    have hN : obN g a = obN h a := by unfold obN; rw [ho, hoh, hw]
    have hwj : woH g (a + 1 + j) = woH h (a + 1 + j) := by
      have := S.words a ho (1 + j) (by omega) (by omega)
      rwa [show a + (1 + (j : Int)) = a + 1 + j by omega] at this
    have hrh : r ∈ rfH h a := rfH_mem.2 ⟨j, by omega, by rw [← hwj]; exact e1, by rw [← hwj]; exact e2⟩
    have hb := hcl a ho r hrh
    have hob : obB h r = true := by
      simp only [blB, Bool.and_eq_true] at hb
      exact hb.1
    rw [S.ob, hob, hb]
    rfl
  unfold reB
  split
  · rfl
  · exact List.all_eq_true.2 hblk
/-- A mask that isn't whole has a block in use. -/
theorem some_used {g : Hp} (hF : formB g = true) (hw : g.wf) {q : Nat} (hq : q < g.m) (hs : ¬ (g.s q).st = 0) (hc : ¬ countW (g.s q).fr = blW (g.s q).cl) : ∃ i : Nat, (i : Int) < blW (g.s q).cl ∧ hasB (g.s q).fr i = false := by
  have hm := wf_mask hw (p := (q : Int)) (by omega) (by omega)
  rw [spH_nat] at hm
  rcases right_iff.1 (form_at hF (p := (q : Int)) (by omega) (by omega)) with ⟨h1, -⟩ | ⟨-, c0, c1, hsm⟩
  · rw [spH_nat] at h1; exact absurd h1 hs
  · rw [spH_nat] at hsm
    refine Classical.byContradiction fun hno => hc ((count_whole hm hsm).2 (mask_ext hm (mask_whole _) fun i i0 i1 => ?_))
    rw [has_whole _ i0 i1]
    by_cases hi : i < blW (g.s q).cl
    · rw [decide_eq_true hi]
      cases hx : hasB (g.s q).fr i with
      | true => rfl
      | false => exact absurd ⟨i.toNat, by omega, by rw [Int.toNat_of_nonneg i0]; exact hx⟩ hno
    · rw [decide_eq_false hi]
      exact (small_iff hm).1 hsm i (by omega) i1
/-- The page that was dirty: free, if no object is left and no cache has it; else clean. -/
theorem swept_page {h g : Hp} {n : Nat} {y : Nat → Int} (S : Swept n y h g) {q : Nat} (hq : q < h.m) (hd : (h.s q).st = 2) :
    ((∃ b, obB g b = true ∧ b / 32 = q) ∨ keptY n y q = true → (g.s q).st = 1) ∧ (¬ ((∃ b, obB g b = true ∧ b / 32 = q) ∨ keptY n y q = true) → (g.s q).st = 0) := by
  have hqg : q < g.m := by have := S.mm; omega
  rcases S.shut q hq hd with ⟨h1, h2⟩ | ⟨h1, h2⟩
  · refine ⟨fun h3 => ?_, fun _ => by rw [h1]⟩
    rcases h3 with ⟨b, hb, hbq⟩ | h3
    · obtain ⟨-, -, -, hst, -⟩ := fi_spec S.form (ob_fi hb)
      rw [hbq, spH_nat, h1] at hst
      simp at hst
    · rw [h2] at h3; cases h3
  · refine ⟨fun _ => h1, fun h3 => ?_⟩
    rcases h2 with h2 | h2
    · exact absurd (.inr h2) h3
    · obtain ⟨i, i1, hi⟩ := some_used S.form S.wf hqg (by omega) h2
      have h0 : ¬ (g.s q).st = 0 := by omega
      have hb := (pg2_used h0).1 (ru2_iff.1 S.two q hqg) i i1
      unfold bk2 at hb
      rw [if_neg (by rw [hi]; decide), Bool.and_eq_true] at hb
      obtain ⟨-, f2, -⟩ := bk_at S.form hqg h0 (i := (i : Int)) (by omega) i1
      exact absurd (.inl ⟨_, hb.1, f2⟩) h3
end Go.Proofs.YtjoepiopigmmnaaDoor
