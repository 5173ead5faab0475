/- Sweeping beside other caches (chapter 12): what is freed is the same. -/
import Derived.Test.YtjoepiopigmmnaaDoorSweepSound
namespace Go.Proofs.YtjoepiopigmmnaaDoor
set_option linter.unusedSimpArgs false
set_option linter.unusedVariables false

/-- Heaps with the same words, and the same dirty pages. -/
structure Eqd (g h : Hp) : Prop where
  nn : g.n = h.n
  mm : g.m = h.m
  bb : g.b = h.b
  z : g.z = h.z
  st : ∀ q : Nat, (g.s q).st = 2 ↔ (h.s q).st = 2
  sp : ∀ q : Nat, (g.s q).st = 2 → g.s q = h.s q
theorem Eqd.refl (h : Hp) : Eqd h h := ⟨rfl, rfl, rfl, rfl, fun _ => Iff.rfl, fun _ _ => rfl⟩
/-- Of a page all is asked of its own span and the words. -/
theorem page_same {g h : Hp} {p : Nat} {a : Int} (mm : g.m = h.m) (bb : g.b = h.b) (z : g.z = h.z) (sp : g.s p = h.s p) (ha : a / 32 = p) :
    whB g a = whB h a ∧ frB g a = frB h a ∧ (frH g a).z = (frH h a).z ∧ (frH g a).s p = (frH h a).s p := by
  have hs : spH g (a / 32) = spH h (a / 32) := by rw [ha, spH_nat, spH_nat]; exact sp
  have hf : fiB g a = fiB h a := by unfold fiB; rw [hs, mm]
  have hw : woH g a = woH h a := by unfold woH; rw [z]
  have ho : obB g a = obB h a := by unfold obB; rw [hf, hw]
  have hfr : frB g a = frB h a := by unfold frB; rw [hf, hs]
  refine ⟨?_, hfr, ?_, ?_⟩
  · unfold whB blB obC
    rw [ho, hw, bb]
  · unfold frH
    rw [hfr, hs, z]
    split
    · rfl
    · exact z
  · unfold frH
    rw [hfr, hs]
    split
    · show setS g.s _ _ p = setS h.s _ _ p
      unfold setS
      rw [sp]
    · exact sp
theorem fr_other {g : Hp} {a : Int} {p q : Nat} (ha : a / 32 = p) (hq : ¬ q = p) : (frH g a).s q = g.s q := by
  unfold frH
  split
  · show setS g.s _ _ q = _
    unfold setS
    rw [if_neg (by omega)]
  · rfl
theorem sw_same {g h : Hp} (E : Eqd g h) {p : Nat} (hd : (g.s p).st = 2) : ∀ k : Nat, k ≤ 32 → (swA g p k).2 = (swA h p k).2 ∧ (swA g p k).1.z = (swA h p k).1.z ∧ (swA g p k).1.s p = (swA h p k).1.s p ∧ (∀ q : Nat, ¬ q = p → (swA g p k).1.s q = g.s q) ∧ ∀ q : Nat, ¬ q = p → (swA h p k).1.s q = h.s q
  | 0, _ => ⟨rfl, E.z, E.sp p hd, fun _ _ => rfl, fun _ _ => rfl⟩
  | k + 1, hk => by
    obtain ⟨h1, h2, h3, h4, h5⟩ := sw_same E hd k (by omega)
    have n1 := sw_n g p k
    have n2 := sw_n h p k
    have ha : (32 * (p : Int) + k) / 32 = p := by omega
    have P := page_same (g := (swA g p k).1) (h := (swA h p k).1) (a := 32 * (p : Int) + k) (n1.2.1.trans (E.mm.trans n2.2.1.symm)) (n1.2.2.trans (E.bb.trans n2.2.2.symm)) h2 h3 ha
    have e1 : swA g p (k + 1) = if whB (swA g p k).1 (32 * p + k) = true ∧ frB (swA g p k).1 (32 * p + k) = true then (frH (swA g p k).1 (32 * p + k), (swA g p k).2 + szW (g.s p).cl) else swA g p k := rfl
    have e2 : swA h p (k + 1) = if whB (swA h p k).1 (32 * p + k) = true ∧ frB (swA h p k).1 (32 * p + k) = true then (frH (swA h p k).1 (32 * p + k), (swA h p k).2 + szW (h.s p).cl) else swA h p k := rfl
    rw [e1, e2, ← P.1, ← P.2.1]
    clear e1 e2
    by_cases hc : whB (swA g p k).1 (32 * p + k) = true ∧ frB (swA g p k).1 (32 * p + k) = true
    · rw [if_pos hc, if_pos hc]
      refine ⟨?_, P.2.2.1, P.2.2.2, fun q hq => (fr_other ha hq).trans (h4 q hq), fun q hq => (fr_other ha hq).trans (h5 q hq)⟩
      show (swA g p k).2 + szW (g.s p).cl = (swA h p k).2 + szW (h.s p).cl
      rw [h1, E.sp p hd]
    · rw [if_neg hc, if_neg hc]
      exact ⟨h1, h2, h3, h4, h5⟩
theorem on_same {g h : Hp} (E : Eqd g h) : onP g = onP h := by
  unfold onP
  rw [E.mm]
  congr 1
  funext p
  exact decide_eq_decide.2 (E.st p)
theorem on_eqd {g h : Hp} (E : Eqd g h) (n : Nat) (y : Nat → Int) (n' : Nat) (y' : Nat → Int) : Eqd (onH g n y) (onH h n' y') ∧ onW g = onW h := by
  have eP := on_same E
  cases e : onP g with
  | none =>
    have e' : onP h = none := by rw [← eP, e]
    have h1 : onH g n y = g := by unfold onH; rw [e]
    have h2 : onH h n' y' = h := by unfold onH; rw [e']
    rw [h1, h2]
    refine ⟨E, ?_⟩
    unfold onW
    rw [e, e']
  | some p =>
    have e' : onP h = some p := by rw [← eP, e]
    obtain ⟨-, hst, -⟩ := on_some e
    obtain ⟨h1, h2, h3, h4, h5⟩ := sw_same E hst 32 (Nat.le_refl _)
    have n1 := sw_n g p 32
    have n2 := sw_n h p 32
    have g1 : onH g n y = withS (swA g p 32).1 p (clS (keptY n y p) (spH (swA g p 32).1 p)) := by unfold onH; rw [e]
    have g2 : onH h n' y' = withS (swA h p 32).1 p (clS (keptY n' y' p) (spH (swA h p 32).1 p)) := by unfold onH; rw [e']
    have w1 : onW g = (swA g p 32).2 := by unfold onW; rw [e]
    have w2 : onW h = (swA h p 32).2 := by unfold onW; rw [e']
    rw [g1, g2, w1, w2]
    clear g1 g2 w1 w2
    generalize swA g p 32 = r at *
    generalize swA h p 32 = t at *
    have hne : ∀ (k : Bool) (s : Sp), ¬ (clS k s).st = 2 := fun k s => by rcases cl_st k s with h | h <;> rw [h] <;> decide
    have hs : ∀ (u : Hp) (x : Sp) (q : Nat), (withS u p x).s q = if q = p then x else u.s q := fun u x q => by
      show setS u.s p x q = _
      unfold setS
      by_cases hq : q = p
      · rw [if_pos hq, if_pos (by omega)]
      · rw [if_neg hq, if_neg (by omega)]
    refine ⟨⟨n1.1.trans (E.nn.trans n2.1.symm), n1.2.1.trans (E.mm.trans n2.2.1.symm), n1.2.2.trans (E.bb.trans n2.2.2.symm), h2, fun q => ?_, fun q hq2 => ?_⟩, h1⟩
    · rw [hs, hs]
      by_cases hq : q = p
      · rw [if_pos hq, if_pos hq]
        exact ⟨fun h => absurd h (hne _ _), fun h => absurd h (hne _ _)⟩
      · rw [if_neg hq, if_neg hq, h4 q hq, h5 q hq]
        exact E.st q
    · rw [hs] at hq2 ⊢
      rw [hs]
      by_cases hq : q = p
      · rw [if_pos hq] at hq2
        exact absurd hq2 (hne _ _)
      · rw [if_neg hq] at hq2 ⊢
        rw [if_neg hq, h5 q hq]
        rw [h4 q hq] at hq2 ⊢
        exact E.sp q hq2
/-- Whatever the caches, the same words are freed. -/
theorem al_same (h : Hp) (n : Nat) (y : Nat → Int) (n' : Nat) (y' : Nat → Int) : ∀ i, Eqd (alA h n y i).1 (alA h n' y' i).1 ∧ (alA h n y i).2 = (alA h n' y' i).2
  | 0 => ⟨Eqd.refl h, rfl⟩
  | i + 1 => by
    obtain ⟨a1, a2⟩ := al_same h n y n' y' i
    obtain ⟨b1, b2⟩ := on_eqd a1 n y n' y'
    refine ⟨b1, ?_⟩
    show (alA h n y i).2 + onW (alA h n y i).1 = (alA h n' y' i).2 + onW (alA h n' y' i).1
    rw [a2, b2]
/-! Page by page. -/
theorem on_stay {h : Hp} (e : onP h = none) (n : Nat) (y : Nat → Int) : onH h n y = h ∧ onW h = 0 := by
  constructor
  · unfold onH; rw [e]
  · unfold onW; rw [e]
theorem al_spans {h : Hp} (hF : formB h = true) (hw : h.wf) (n : Nat) (y : Nat → Int) : ∀ i (q : Nat), ((alA h n y i).1.s q).st = 2 → (alA h n y i).1.s q = h.s q
  | 0, _, _ => rfl
  | i + 1, q, h2 => by
    obtain ⟨a1, a2, -⟩ := al_form hF hw n y i
    have e1 : (alA h n y (i + 1)).1 = onH (alA h n y i).1 n y := rfl
    rw [e1] at h2 ⊢
    cases e : onP (alA h n y i).1 with
    | none =>
      rw [(on_stay e n y).1] at h2 ⊢
      exact al_spans hF hw n y i q h2
    | some p =>
      have O := ond a1 a2 n y e
      by_cases hq : q = p
      · subst hq
        have hm := O.mine
        generalize swA (alA h n y i).1 q 32 = r at hm
        rw [spH_nat] at hm
        rw [hm] at h2
        rcases cl_st (keptY n y q) (spH r.1 q) with h | h <;> rw [h] at h2 <;> exact absurd h2 (by decide)
      · have ho := O.oth (q : Int) (by omega) (by omega)
        rw [spH_nat, spH_nat] at ho
        rw [ho] at h2 ⊢
        exact al_spans hF hw n y i q h2
/-- Pages are swept rising. -/
theorem al_rise {h : Hp} (hF : formB h = true) (hw : h.wf) {n : Nat} {y : Nat → Int} {p q : Nat} (e : onP h = some p) (e' : onP (onH h n y) = some q) : p < q := by
  have O := ond hF hw n y e
  obtain ⟨-, -, h3⟩ := on_some e
  obtain ⟨-, hq, -⟩ := on_some e'
  by_cases hqp : q = p
  · subst hqp
    have hm := O.mine
    generalize swA h q 32 = r at hm
    rw [spH_nat] at hm
    rw [hm] at hq
    rcases cl_st (keptY n y q) (spH r.1 q) with h | h <;> rw [h] at hq <;> exact absurd hq (by decide)
  · have ho := O.oth (q : Int) (by omega) (by omega)
    rw [spH_nat, spH_nat] at ho
    rw [ho] at hq
    rcases Nat.lt_or_ge q p with h | h
    · exact absurd hq (h3 q h)
    · omega
theorem al_stop {h : Hp} {n : Nat} {y : Nat → Int} {i : Nat} (e : onP (alA h n y i).1 = none) : ∀ j, alA h n y (i + j) = alA h n y i
  | 0 => rfl
  | j + 1 => by
    have ih := al_stop e j
    have e1 : alA h n y (i + (j + 1)) = (onH (alA h n y (i + j)).1 n y, (alA h n y (i + j)).2 + onW (alA h n y (i + j)).1) := rfl
    rw [e1, ih, (on_stay e n y).1, (on_stay e n y).2, Int.add_zero]
theorem on_zero {h : Hp} : onP h = none ↔ drH h = 0 := by
  constructor
  · exact fun e => dr_zero (on_none e)
  · intro e
    cases h1 : onP h with
    | none => rfl
    | some p =>
      obtain ⟨hp, hst, -⟩ := on_some h1
      have := dr_pos (s := h.s) hp hst
      unfold drH at e
      omega
/-- There are as many as pages are dirty. -/
theorem al_count {h : Hp} (hF : formB h = true) (hw : h.wf) (n : Nat) (y : Nat → Int) (i : Nat) : (onP (alA h n y i).1 = none ↔ drH h ≤ i) := by
  obtain ⟨-, -, -, -, -, a6, -⟩ := al_form hF hw n y i
  rw [on_zero, a6]
  omega
theorem al_all {h : Hp} (hF : formB h = true) (hw : h.wf) {n : Nat} {y : Nat → Int} {i : Nat} (hi : drH h ≤ i) (h17 : i ≤ 17) : alA h n y 17 = alA h n y i := by
  have := al_stop (n := n) (y := y) ((al_count hF hw n y i).2 hi) (17 - i)
  rwa [show i + (17 - i) = 17 by omega] at this
/-! Where nothing is white. -/
theorem sw_none {h : Hp} (hn : ∀ b, whB h b = false) (p : Nat) : ∀ k, swA h p k = (h, 0)
  | 0 => rfl
  | k + 1 => by
    have ih := sw_none hn p k
    have e1 : swA h p (k + 1) = if whB (swA h p k).1 (32 * p + k) = true ∧ frB (swA h p k).1 (32 * p + k) = true then (frH (swA h p k).1 (32 * p + k), (swA h p k).2 + szW (h.s p).cl) else swA h p k := rfl
    rw [e1, ih]
    rw [if_neg]
    rintro ⟨h1, -⟩
    rw [hn] at h1
    cases h1
theorem on_black {h : Hp} (hF : formB h = true) (hw : h.wf) (hu : UsB h) (hn : ∀ b, whB h b = false) (n : Nat) (y : Nat → Int) : onW h = 0 ∧ (∀ b, obB (onH h n y) b = obB h b) ∧ ∀ b, whB (onH h n y) b = false := by
  cases e : onP h with
  | none =>
    obtain ⟨h1, h2⟩ := on_stay e n y
    rw [h1, h2]
    exact ⟨rfl, fun _ => rfl, hn⟩
  | some p =>
    have hW : onW h = 0 := by
      unfold onW
      rw [e]
      show (swA h p 32).2 = 0
      rw [sw_none hn p 32]
    have O := ond hF hw n y e
    have hob := on_ob hF hw hu n y e
    have h1 : ∀ b, obB (onH h n y) b = obB h b := fun b => by rw [(hob b).1, hn]; simp
    refine ⟨hW, h1, fun b => ?_⟩
    have hb := hn b
    unfold whB blB obC at hb ⊢
    rw [h1, O.bb]
    cases ho : obB h b with
    | false => rfl
    | true =>
      rw [((hob b).2 (by rw [h1]; exact ho)).1]
      rw [ho] at hb
      exact hb
theorem al_black {h : Hp} (hF : formB h = true) (hw : h.wf) (hu : UsB h) (hn : ∀ b, whB h b = false) (n : Nat) (y : Nat → Int) : ∀ i, (alA h n y i).2 = 0 ∧ (∀ b, obB (alA h n y i).1 b = obB h b) ∧ (∀ b, whB (alA h n y i).1 b = false) ∧ UsB (alA h n y i).1
  | 0 => ⟨rfl, fun _ => rfl, hn, hu⟩
  | i + 1 => by
    obtain ⟨b1, b2, b3, b4⟩ := al_black hF hw hu hn n y i
    obtain ⟨a1, a2, -⟩ := al_form hF hw n y i
    obtain ⟨c1, c2, c3⟩ := on_black a1 a2 b4 b3 n y
    refine ⟨?_, fun b => (c2 b).trans (b2 b), c3, on_us a1 a2 b4 n y⟩
    show (alA h n y i).2 + onW (alA h n y i).1 = 0
    rw [b1, c1]
    rfl
/-- Sweeping begun: objects are as they were. -/
theorem bg_ob (h : Hp) (b : Int) : fiB (bgH h) b = fiB h b ∧ obB (bgH h) b = obB h b ∧ whB (bgH h) b = whB h b ∧ usedB (bgH h) b = usedB h b := by
  have hf : fiB (bgH h) b = fiB h b := fi_congr rfl fun _ => ⟨(bg_sp h (b / 32)).1, (bg_sp h (b / 32)).2.2⟩
  have hw : woH (bgH h) b = woH h b := rfl
  have ho : obB (bgH h) b = obB h b := by unfold obB; rw [hf, hw]
  refine ⟨hf, ho, ?_, ?_⟩
  · unfold whB blB obC
    rw [ho, hw]
    rfl
  · unfold usedB
    rw [hf, (bg_sp h (b / 32)).1, (bg_sp h (b / 32)).2.1]
end Go.Proofs.YtjoepiopigmmnaaDoor
