/- What taking does (chapter 11): plain lemmas. -/
import Derived.Test.YtjoepiopigmmnaaDoorTakeIn
namespace Go.Proofs.YtjoepiopigmmnaaDoor
set_option linter.unusedSimpArgs false
set_option linter.unusedVariables false

/-! How often a number stands in a row, one place changed. -/
theorem cntY_step (y : Nat → Int) (x : Int) (n : Nat) {v : Int} (h : y n = v) : cntY y x (n + 1) = cntY y x n + if v = x then 1 else 0 := by subst h; rfl
theorem cntY_cong {y z : Nat → Int} {x : Int} : ∀ {k : Nat}, (∀ j, j < k → y j = z j) → cntY y x k = cntY z x k
  | 0, _ => rfl
  | k + 1, h => by rw [cntY_step y x k (h k (by omega)), cntY_step z x k rfl, cntY_cong (k := k) fun j hj => h j (by omega)]
theorem cntY_set (y : Nat → Int) (J : Nat) (a x : Int) : ∀ {n : Nat}, J < n → cntY (fun j => if j = J then a else y j) x n = cntY y x n - (if y J = x then 1 else 0) + (if a = x then 1 else 0)
  | 0, h => by omega
  | n + 1, h => by
    rw [cntY_step y x n rfl]
    by_cases e : J = n
    · subst e
      rw [cntY_step _ x J (v := a) (if_pos rfl), cntY_cong (z := y) fun j hj => if_neg (by omega)]
      omega
    · rw [cntY_step _ x n (v := y n) (if_neg (by omega)), cntY_set y J a x (n := n) (by omega)]
      omega
theorem cntY_none {y : Nat → Int} {x : Int} : ∀ {n : Nat}, (∀ j, j < n → ¬ y j = x) → cntY y x n = 0
  | 0, _ => rfl
  | n + 1, h => by
    simp only [cntY]
    rw [cntY_none (n := n) fun j hj => h j (by omega), if_neg (h n (by omega))]
    rfl
theorem cntY_one {y : Nat → Int} {x : Int} {i n : Nat} (hi : i < n) (h : y i = x) : 1 ≤ cntY y x n := by
  induction n with
  | zero => omega
  | succ n ih =>
    simp only [cntY]
    have := (cntY_bound y x n).1
    by_cases e : i = n
    · subst e
      rw [if_pos h]
      omega
    · have := ih (by omega)
      split <;> omega
theorem cntY_two {y : Nat → Int} {x : Int} {i j n : Nat} (hi : i < n) (hj : j < n) (hne : ¬ i = j) (h1 : y i = x) (h2 : y j = x) : 2 ≤ cntY y x n := by
  induction n with
  | zero => omega
  | succ n ih =>
    simp only [cntY]
    by_cases e : i = n
    · subst e
      have := cntY_one (y := y) (x := x) (n := i) (show j < i by omega) h2
      rw [if_pos h1]
      omega
    · by_cases e' : j = n
      · subst e'
        have := cntY_one (y := y) (x := x) (n := j) (show i < j by omega) h1
        rw [if_pos h2]
        omega
      · have := ih (by omega) (by omega)
        split <;> omega
theorem kept_no {n : Nat} {y : Nat → Int} {p : Nat} (h : keptY n y p = false) : ∀ j, j < n * 4 → ¬ y j = p := fun j hj e => by
  have := hasY_hit (y := y) e hj
  simp [keptY, this] at h
theorem wf_open {h : Hp} (hw : h.wf) (p c : Int) : (opH h p c).wf := by
  unfold opH
  split
  · rename_i e
    simp only [opB, clB, Bool.and_eq_true, decide_eq_true_eq] at e
    exact wf_with hw ⟨⟨by show (-9223372036854775808 : Int) ≤ 1; decide, by show (1 : Int) ≤ 9223372036854775807; decide⟩, ⟨by show -9223372036854775808 ≤ c; omega, by show c ≤ 9223372036854775807; omega⟩, mask_whole _⟩
  · exact hw
/-- The page that is found, once it is open: clean, of the class, other pages and all words as they were. -/
theorem opened_is {h : Hp} {p : Nat} {c : Int} (c0 : 0 ≤ c) (c1 : c < 4) (hp : p < h.m) (hs : (h.s p).st = 0 ∨ ((h.s p).cl = c ∧ openY (h.s p) = true)) :
    (spH (opH h p c) p).st = 1 ∧ (spH (opH h p c) p).cl = c ∧ (opH h p c).z = h.z ∧ ∀ q : Int, 0 ≤ q → ¬ q = p → spH (opH h p c) q = spH h q := by
  have hcl : clB c = true := by simp [clB]; omega
  have hin : inI h.m (p : Int) = true := by simp [inI]; omega
  by_cases h0 : (h.s p).st = 0
  · have ho : opB h p c = true := by
      have : (spH h p).st = 0 := by simpa [spH] using h0
      simp [opB, hin, hcl, this]
    have hg : opH h p c = withS h p ⟨1, c, wholeW (blW c)⟩ := by unfold opH; rw [if_pos ho]
    rw [hg]
    rw [spH_with h _ (by omega)]
    exact ⟨rfl, rfl, rfl, fun q q0 hq => spH_other h _ q0 hq⟩
  · obtain ⟨hc, hO⟩ := hs.resolve_left h0
    obtain ⟨h1, h2⟩ := open_st hO
    have ho : ¬ opB h p c = true := by
      have : ¬ (spH h p).st = 0 := by simpa [spH] using h0
      simp [opB, this]
    have hg : opH h p c = h := by unfold opH; rw [if_neg ho]
    have hsp : spH h (p : Int) = h.s p := by simp [spH]
    rw [hg, hsp]
    exact ⟨h1, hc, rfl, fun _ _ _ => rfl⟩
/-- What is known of a block that was taken. -/
structure Got (h : Hp) (n : Nat) (y : Nat → Int) (m : Nat) (f : Int) (p : Nat) : Prop where
  page : p < h.m
  at1 : 0 ≤ takeA h n y m f
  at2 : takeA h n y m f / 32 = p
  room : takeA h n y m f + szW (ofC f) ≤ 32 * p + 32
  inn : takeA h n y m f + szW (ofC f) ≤ h.n
  f0 : 0 ≤ f
  f1 : f ≤ 15
  form : formB (takeH h n y m f) = true
  wf : (takeH h n y m f).wf
  st : (spH (takeH h n y m f) p).st = 1
  cl : (spH (takeH h n y m f) p).cl = ofC f
  oth : ∀ q : Int, 0 ≤ q → ¬ q = p → spH (takeH h n y m f) q = spH h q
  words : (takeH h n y m f).z = putZ (zerZ h.z (takeA h n y m f) (szW (ofC f))) (takeA h n y m f) (hputW true h.b (ofC f) f)
  used : usH (takeH h n y m f) = usH h + szW (ofC f)
  laid : ∀ L, Laid h L → Laid (takeH h n y m f) (L ++ [(takeA h n y m f, szW (ofC f))])
theorem of_bounds {f : Int} (h : ofB f = true) : 0 ≤ f ∧ f ≤ 15 := by simpa [ofB] using h
theorem take_got {h : Hp} {n : Nat} {y : Nat → Int} {m p : Nat} {f : Int} (hF : formB h = true) (hw : h.wf) (hr : rightY h n y = true) (hm : m < n) (e : takeP h n y m f = some p) : Got h n y m f p := by
  obtain ⟨e1, e2, -⟩ := takeP_yes e
  obtain ⟨hpm, hlay⟩ := take_lays hF hr hm e
  obtain ⟨c0, c1⟩ := ofC_at f
  have hBP : ofB f = true ∧ pageY h n y m (ofC f).toNat = some p := by
    unfold takeP at e
    by_cases hB : ofB f = true
    · rw [if_pos hB] at e; exact ⟨hB, e⟩
    · rw [if_neg hB] at e; cases e
  obtain ⟨hB, hp⟩ := hBP
  obtain ⟨f0, f1⟩ := of_bounds hB
  obtain ⟨-, hs⟩ := page_is hr hm (by omega) hp
  rw [Int.toNat_of_nonneg c0] at hs
  obtain ⟨s1, s2, s3, s4⟩ := opened_is c0 c1 hpm hs
  have hF1 := form_open hF p (ofC f)
  have hw1 := wf_open hw p (ofC f)
  have hb1 := (op_n h p (ofC f)).2.2
  have hn1 := (op_n h p (ofC f)).1
  have hus1 : usH (opH h p (ofC f)) = usH h := by
    by_cases ho : opB h p (ofC f) = true
    · exact (open_close hF ho).2.2
    · unfold opH; rw [if_neg ho]
  obtain ⟨p0, p1, p2, g0, g1, ht, hst, -, -, l0, l1⟩ := la_spec hF1 hw1 hlay
  obtain ⟨k0, -, -, k3, -⟩ := lay_free hF1 hw1 hlay
  have hz := la_z hlay
  have hL := fun L (hl : Laid h L) => (hl.open p (ofC f)).lay p f
  have ea : laA (opH h p (ofC f)) p f = 32 * p + leastW (spH (opH h p (ofC f)) p).fr * szW (spH (opH h p (ofC f)) p).cl := by unfold laA; rw [if_pos hlay]
  obtain ⟨i0, i1, -⟩ := fi_of hF1 (p := p) (i := leastW (spH (opH h p (ofC f)) p).fr) p0 p1 (by omega) l0 l1
  rw [← ea] at i0 i1
  have hblk := block_in hF1 i0
  rw [i1, s2] at hblk
  have el : laH (opH h p (ofC f)) p f = { withS (opH h p (ofC f)) p ⟨(spH (opH h p (ofC f)) p).st, (spH (opH h p (ofC f)) p).cl, woutW (spH (opH h p (ofC f)) p).fr (leastW (spH (opH h p (ofC f)) p).fr)⟩ with
      z := putZ (zerZ (opH h p (ofC f)).z (32 * p + leastW (spH (opH h p (ofC f)) p).fr * szW (spH (opH h p (ofC f)) p).cl) (szW (spH (opH h p (ofC f)) p).cl)) (32 * p + leastW (spH (opH h p (ofC f)) p).fr * szW (spH (opH h p (ofC f)) p).cl) (hputW true (opH h p (ofC f)).b (spH (opH h p (ofC f)) p).cl f) } := by
    unfold laH; rw [if_pos hlay]
  have hsp : spH (laH (opH h p (ofC f)) p f) p = ⟨(spH (opH h p (ofC f)) p).st, (spH (opH h p (ofC f)) p).cl, woutW (spH (opH h p (ofC f)) p).fr (leastW (spH (opH h p (ofC f)) p).fr)⟩ := by
    rw [el]; exact spH_with (opH h p (ofC f)) _ p0
  have hoth : ∀ q : Int, 0 ≤ q → ¬ q = p → spH (laH (opH h p (ofC f)) p f) q = spH (opH h p (ofC f)) q := by
    intro q q0 hq; rw [el]; exact spH_other (opH h p (ofC f)) _ q0 hq
  exact {
    page := hpm
    at1 := by rw [e2]; exact hblk.1
    at2 := by rw [e2]; exact i1
    room := by rw [e2]; omega
    inn := by rw [e2]; omega
    f0 := f0
    f1 := f1
    form := by rw [e1]; exact form_lay hF1 hw1 p f
    wf := by rw [e1]; exact wf_lay hF1 hw1 p f
    st := by rw [e1, hsp]; exact s1
    cl := by rw [e1, hsp]; exact s2
    oth := fun q q0 hq => by rw [e1, hoth q q0 hq]; exact s4 q q0 hq
    words := by rw [e1, e2, hz, s2, s3, hb1]
    used := by rw [e1, k3, s2, hus1]
    laid := fun L hl => by
      have := (hL L hl).1
      rw [if_pos hlay, s2] at this
      rw [e1, e2]
      exact this }
theorem okY_of {h : Hp} {n : Nat} {y : Nat → Int} {j : Nat} {v : Int} (e : y j = v) (hv : v = -1 ∨ (0 ≤ v ∧ v < h.m ∧ ¬ (spH h v).st = 0 ∧ (spH h v).cl = (j % 4 : Nat) ∧ cntY y v (n * 4) = 1)) : okY h n y j := by subst e; exact hv
/-- Taken, caches stay right. -/
theorem take_right {h : Hp} {n : Nat} {y : Nat → Int} {m p : Nat} {f : Int} (hF : formB h = true) (hw : h.wf) (hr : rightY h n y = true) (hm : m < n) (e : takeP h n y m f = some p) : rightY (takeH h n y m f) n (takeY h n y m f) = true := by
  have g := take_got hF hw hr hm e
  obtain ⟨-, -, e3⟩ := takeP_yes e
  obtain ⟨c0, c1⟩ := ofC_at f
  have hp : pageY h n y m (ofC f).toNat = some p := by
    unfold takeP at e
    by_cases hB : ofB f = true
    · rw [if_pos hB] at e; exact e
    · rw [if_neg hB] at e; cases e
  have hR := rightY_iff.1 hr
  have hm' : (takeH h n y m f).m = h.m := (take_n h n y m f).2.1
  have hJ : m * 4 + (ofC f).toNat < n * 4 := by omega
  have hfree : y (m * 4 + (ofC f).toNat) = p ∨ ∀ j, j < n * 4 → ¬ y j = p := by
    rcases page_free hp with h1 | h1 | h1
    · exact .inl h1
    · exact .inr (kept_no h1)
    · refine .inr fun j hj hy => ?_
      have := (right_use hr hj (by omega)).1
      rw [hy] at this
      exact this (by simpa [spH] using h1)
  have hpge : (0 : Int) ≤ p := by omega
  rw [e3]
  refine rightY_iff.2 fun j hj => ?_
  by_cases hjJ : j = m * 4 + (ofC f).toNat
  · subst hjJ
    have hc : cntY (fun j => if j = m * 4 + (ofC f).toNat then (p : Int) else y j) p (n * 4) = 1 := by
      rw [cntY_set y _ _ _ hJ, if_pos rfl]
      rcases hfree with h1 | h1
      · have := (right_use hr hJ (by omega)).2.2
        rw [h1] at this
        rw [this, if_pos h1]
        omega
      · rw [cntY_none h1, if_neg (h1 _ hJ)]
        omega
    refine okY_of (v := p) (if_pos rfl) (.inr ⟨hpge, by rw [hm']; have := g.page; omega, by rw [g.st]; omega, ?_, hc⟩)
    rw [g.cl]
    omega
  · refine okY_of (v := y j) (if_neg hjJ) ?_
    rcases hR j hj with h1 | ⟨v0, v1, v2, v3, v4⟩
    · exact .inl h1
    · have hvp : ¬ y j = p := by
        rcases hfree with h1 | h1
        · intro h2
          have h3 := cntY_two (y := y) (x := (p : Int)) hj hJ hjJ h2 h1
          rw [h2] at v4
          omega
        · exact h1 j hj
      have hvJ : ¬ y (m * 4 + (ofC f).toNat) = y j := fun h1 => by
        have h3 := cntY_two (y := y) (x := y j) hj hJ hjJ rfl h1
        omega
      refine .inr ⟨v0, by rw [hm']; exact v1, by rw [g.oth _ v0 hvp]; exact v2, by rw [g.oth _ v0 hvp]; exact v3, ?_⟩
      rw [cntY_set y _ _ _ hJ, if_neg hvJ, if_neg (fun h1 => hvp h1.symm)]
      omega
end Go.Proofs.YtjoepiopigmmnaaDoor
