/- Sweeping as data (chapter 12): plain lemmas. -/
import Derived.Test.YtjoepiopigmmnaaDoorObjFn
import Derived.Test.YtjoepiopigmmnaaDoorTakeGot
namespace Go.Proofs.YtjoepiopigmmnaaDoor
set_option linter.unusedSimpArgs false
set_option linter.unusedVariables false

def bgS (s : Sp) : Sp := if s.st = 1 then ⟨2, s.cl, s.fr⟩ else s
/-- The heap in which sweeping has begun. -/
def bgH (h : Hp) : Hp := { h with s := fun i => bgS (h.s i) }
/-- How many spans are dirty. -/
def drT (s : Nat → Sp) : Nat → Nat
  | 0 => 0
  | k + 1 => drT s k + if (s k).st = 2 then 1 else 0
def drH (h : Hp) : Nat := drT h.s h.m
/-- A white object. -/
def whB (h : Hp) (a : Int) : Bool := obB h a && !blB h a
/-- The first k words of a page gone through: what is white is freed; the words of the blocks are counted. -/
def swA (h : Hp) (p : Nat) : Nat → Hp × Int
  | 0 => (h, 0)
  | k + 1 => if whB (swA h p k).1 (32 * p + k) = true ∧ frB (swA h p k).1 (32 * p + k) = true then (frH (swA h p k).1 (32 * p + k), (swA h p k).2 + szW (h.s p).cl) else swA h p k
/-- A span once its page was gone through. -/
def clS (kept : Bool) (s : Sp) : Sp := if countW s.fr = blW s.cl ∧ kept = false then ⟨0, 0, 0⟩ else ⟨1, s.cl, s.fr⟩
/-- The least dirty page. -/
def onP (h : Hp) : Option Nat := (List.range h.m).find? fun p => decide ((h.s p).st = 2)
def onH (h : Hp) (n : Nat) (y : Nat → Int) : Hp := match onP h with
  | some p => withS (swA h p 32).1 p (clS (keptY n y p) (spH (swA h p 32).1 p))
  | none => h
def onW (h : Hp) : Int := match onP h with
  | some p => (swA h p 32).2
  | none => 0
/-- All, so many times one. -/
def alA (h : Hp) (n : Nat) (y : Nat → Int) : Nat → Hp × Int
  | 0 => (h, 0)
  | i + 1 => (onH (alA h n y i).1 n y, (alA h n y i).2 + onW (alA h n y i).1)
theorem bg_n (h : Hp) : (bgH h).n = h.n ∧ (bgH h).m = h.m ∧ (bgH h).b = h.b ∧ (bgH h).z = h.z := ⟨rfl, rfl, rfl, rfl⟩
theorem bg_right (s : Sp) (h : s.right = true) : (bgS s).right = true := by
  obtain ⟨st, cl, fr⟩ := s
  unfold bgS
  split
  · rename_i e
    simp only at e
    subst e
    simpa [Sp.right, rightB, useB] using h
  · exact h
theorem form_begin {h : Hp} (hF : formB h = true) : formB (bgH h) = true := by
  obtain ⟨a, b, c, d⟩ := form_iff.1 hF
  exact form_iff.2 ⟨a, b, c, fun i hi => bg_right _ (d i hi)⟩
theorem wf_begin {h : Hp} (hw : h.wf) : (bgH h).wf := by
  refine ⟨hw.1, fun i hi => ?_⟩
  show (bgS (h.s i)).wf
  have := hw.2 i hi
  unfold bgS
  split
  · exact ⟨⟨by show (-9223372036854775808 : Int) ≤ 2; decide, by show (2 : Int) ≤ 9223372036854775807; decide⟩, this.2⟩
  · exact this
/-- Nothing but a span's state turns. -/
theorem bg_sp (h : Hp) (q : Int) : (spH (bgH h) q).cl = (spH h q).cl ∧ (spH (bgH h) q).fr = (spH h q).fr ∧ ((spH (bgH h) q).st = 0 ↔ (spH h q).st = 0) := by
  show (bgS (h.s q.toNat)).cl = _ ∧ (bgS (h.s q.toNat)).fr = _ ∧ ((bgS (h.s q.toNat)).st = 0 ↔ _)
  unfold bgS
  split
  · rename_i e
    refine ⟨rfl, rfl, ?_⟩
    show (2 : Int) = 0 ↔ (h.s q.toNat).st = 0
    omega
  · exact ⟨rfl, rfl, Iff.rfl⟩
theorem sw_n (h : Hp) (p : Nat) : ∀ k, (swA h p k).1.n = h.n ∧ (swA h p k).1.m = h.m ∧ (swA h p k).1.b = h.b
  | 0 => ⟨rfl, rfl, rfl⟩
  | k + 1 => by
    unfold swA
    split
    · have := sw_n h p k
      have f := fr_n (swA h p k).1 (32 * p + k)
      exact ⟨f.1.trans this.1, f.2.1.trans this.2.1, f.2.2.trans this.2.2⟩
    · exact sw_n h p k
theorem sw_form {h : Hp} (hF : formB h = true) (hw : h.wf) (p : Nat) : ∀ k, formB (swA h p k).1 = true ∧ (swA h p k).1.wf
  | 0 => ⟨hF, hw⟩
  | k + 1 => by
    have := sw_form hF hw p k
    unfold swA
    split
    · exact ⟨form_free this.1 this.2 _, wf_free this.2 _⟩
    · exact this
theorem cl_right {k : Bool} {s : Sp} (hs : s.right = true) (h0 : ¬ s.st = 0) : (clS k s).right = true := by
  obtain ⟨st, cl, fr⟩ := s
  unfold clS
  split
  · decide
  · rcases right_iff.1 hs with ⟨h1, -⟩ | ⟨h1, c0, c1, h2⟩
    · exact absurd h1 h0
    · exact right_iff.2 (.inr ⟨.inl rfl, c0, c1, h2⟩)
/-- What freeing does. -/
structure Frd (h : Hp) (a : Int) : Prop where
  begins : fiB h a = true
  z : (frH h a).z = zerZ h.z a (szW (spH h (a / 32)).cl)
  st : ∀ q, 0 ≤ q → (spH (frH h a) q).st = (spH h q).st
  cl : ∀ q, 0 ≤ q → (spH (frH h a) q).cl = (spH h q).cl
  oth : ∀ q, 0 ≤ q → ¬ q = a / 32 → spH (frH h a) q = spH h q
  fi : ∀ b, fiB (frH h a) b = fiB h b
  used : ∀ b, usedB (frH h a) b = (usedB h b && !decide (b = a))
  count : countW (spH (frH h a) (a / 32)).fr = countW (spH h (a / 32)).fr + 1
  sum : usH (frH h a) = usH h - szW (spH h (a / 32)).cl
theorem frd {h : Hp} {a : Int} (hf : formB h = true) (hw : h.wf) (e : frB h a = true) : Frd h a := by
  obtain ⟨ef, hg, hno⟩ := fr_spec hf hw e
  obtain ⟨p0, p1, p2, hst, hpl, i0, i1, -⟩ := fi_spec hf ef
  have hm := wf_mask hw p0 p1
  have hb := bl_bound (spH h (a / 32)).cl
  have el : frH h a = { withS h (a / 32) ⟨(spH h (a / 32)).st, (spH h (a / 32)).cl, withW (spH h (a / 32)).fr (plI (spH h (a / 32)).cl a)⟩ with z := zerZ h.z a (szW (spH h (a / 32)).cl) } := by
    unfold frH; rw [if_pos e]
  have hsp : spH (frH h a) (a / 32) = ⟨(spH h (a / 32)).st, (spH h (a / 32)).cl, withW (spH h (a / 32)).fr (plI (spH h (a / 32)).cl a)⟩ := by
    rw [el]; exact spH_with h _ p0
  have hoth : ∀ q, 0 ≤ q → ¬ q = a / 32 → spH (frH h a) q = spH h q := by
    intro q q0 hq; rw [el]; exact spH_other h _ q0 hq
  have hcl : ∀ q, 0 ≤ q → (spH (frH h a) q).cl = (spH h q).cl := by
    intro q q0
    by_cases hq : q = a / 32
    · rw [hq, hsp]
    · rw [hoth q q0 hq]
  have hstt : ∀ q, 0 ≤ q → (spH (frH h a) q).st = (spH h q).st := by
    intro q q0
    by_cases hq : q = a / 32
    · rw [hq, hsp]
    · rw [hoth q q0 hq]
  have hmm : (frH h a).m = h.m := by rw [el]; rfl
  have hz : (frH h a).z = zerZ h.z a (szW (spH h (a / 32)).cl) := by rw [el]
  have hfi : ∀ b, fiB (frH h a) b = fiB h b := by
    intro b
    unfold fiB
    by_cases b0 : 0 ≤ b
    · by_cases hq : b / 32 = a / 32
      · rw [hq, hsp, hmm]
      · rw [hoth _ (by omega) hq, hmm]
    · rw [show inI (32 * (frH h a).m) b = false from inI_no (by omega), show inI (32 * h.m) b = false from inI_no (by omega)]
      rfl
  have hcount : countW (withW (spH h (a / 32)).fr (plI (spH h (a / 32)).cl a)) = countW (spH h (a / 32)).fr + 1 := count_with i0 (by omega) hno
  refine ⟨ef, hz, hstt, hcl, hoth, hfi, fun b => ?_, by rw [hsp]; exact hcount, ?_⟩
  · by_cases hq : b / 32 = a / 32
    · unfold usedB
      rw [hfi, hq, hsp]
      cases eb : fiB h b with
      | false => rfl
      | true =>
        simp only [Bool.true_and]
        rw [has_with, inB_yes i0 (by omega)]
        have : (plI (spH h (a / 32)).cl b = plI (spH h (a / 32)).cl a) ↔ b = a := by
          constructor
          · intro h1
            have e1 := at_of_index hf eb hq (i := plI (spH h (a / 32)).cl a) (by rw [hq]; exact h1)
            have e2 := at_of_index hf ef rfl rfl
            omega
          · rintro rfl; rfl
        rw [show decide (plI (spH h (a / 32)).cl b = plI (spH h (a / 32)).cl a) = decide (b = a) from decide_eq_decide.2 this]
        cases hasB (spH h (a / 32)).fr (plI (spH h (a / 32)).cl b) <;> cases decide (b = a) <;> rfl
    · have : ¬ b = a := fun h => hq (by rw [h])
      rw [used_other (h := h) hmm fun q0 => hoth _ q0 hq]
      simp [this]
  · rw [el]
    show usH (withS h (a / 32) _) = _
    rw [us_with p0 p1]
    simp only [usS, usedN]
    rw [(use_iff _).2 hst, if_pos rfl, if_pos rfl, hcount]
    have := add_one_mul' (blW (spH h (a / 32)).cl - (countW (spH h (a / 32)).fr + 1)) (szW (spH h (a / 32)).cl)
    rw [show blW (spH h (a / 32)).cl - (countW (spH h (a / 32)).fr + 1) + 1 = blW (spH h (a / 32)).cl - countW (spH h (a / 32)).fr by omega] at this
    omega
/-- Another block's words stay. -/
theorem fr_word {h : Hp} {a b : Int} (hf : formB h = true) (hw : h.wf) (e : frB h a = true) (hb : fiB h b = true) (hne : ¬ b = a) {k : Int} (k0 : 0 ≤ k) (k1 : k < szW (spH h (b / 32)).cl) : (frH h a).z (b + k).toNat = h.z (b + k).toNat := by
  have F := frd hf hw e
  have b0 := (block_in hf hb).1
  rw [F.z]
  unfold zerZ
  rw [if_neg ?_]
  rcases blocks_apart hf hb F.begins hne with h1 | h1 <;> omega
/-- Where an object begins a block does. -/
theorem ob_fi {h : Hp} {a : Int} (e : obB h a = true) : fiB h a = true := by
  simp only [obB, Bool.and_eq_true] at e
  exact e.1
/-- Another object stays, with its header. -/
theorem fr_ob {h : Hp} {a b : Int} (hf : formB h = true) (hw : h.wf) (e : frB h a = true) (hne : ¬ b = a) : obB (frH h a) b = obB h b ∧ (fiB h b = true → woH (frH h a) b = woH h b) := by
  have F := frd hf hw e
  have hword : fiB h b = true → woH (frH h a) b = woH h b := fun hb => by
    have := fr_word hf hw e hb hne (k := 0) (Int.le_refl _) (by have := block_in hf hb; omega)
    simpa [woH] using this
  refine ⟨?_, hword⟩
  unfold obB
  rw [F.fi]
  cases hb : fiB h b with
  | false => rfl
  | true => rw [hword hb]
/-- What was freed is no object. -/
theorem fr_gone {h : Hp} {a : Int} (hf : formB h = true) (hw : h.wf) (e : frB h a = true) : obB (frH h a) a = false := by
  have F := frd hf hw e
  have b0 := block_in hf F.begins
  have : woH (frH h a) a = 0 := by
    unfold woH
    rw [F.z]
    unfold zerZ
    rw [if_pos (by omega)]
  unfold obB
  rw [this]
  have hg : gU 0 = false := by decide
  simp [hg]
/-- What is freed while the first k words of a page are gone through. -/
def goB (h : Hp) (p k : Nat) (b : Int) : Bool := decide (32 * (p : Int) ≤ b ∧ b < 32 * p + k) && (whB h b && usedB h b)
theorem go_next (h : Hp) (p k : Nat) (b : Int) : goB h p (k + 1) b = (goB h p k b || (decide (b = 32 * p + k) && (whB h b && usedB h b))) := by
  unfold goB
  have : decide (32 * (p : Int) ≤ b ∧ b < 32 * p + (k + 1 : Nat)) = (decide (32 * (p : Int) ≤ b ∧ b < 32 * p + k) || decide (b = 32 * p + k)) := by
    rw [← Bool.decide_or]
    exact decide_eq_decide.2 (by constructor <;> intro h <;> omega)
  rw [this]
  cases decide (32 * (p : Int) ≤ b ∧ b < 32 * p + k) <;> cases decide (b = 32 * p + k) <;> cases whB h b && usedB h b <;> rfl
theorem go_past (h : Hp) (p k : Nat) : goB h p k (32 * p + k) = false := by
  unfold goB
  rw [show decide (32 * (p : Int) ≤ 32 * p + k ∧ (32 * (p : Int) + k) < 32 * p + k) = false from decide_eq_false (by omega)]
  rfl
/-- Where a page stands whose first k words were gone through. -/
structure Swp (h : Hp) (p k : Nat) (g : Hp) (w : Int) : Prop where
  form : formB g = true
  wf : g.wf
  nn : g.n = h.n
  mm : g.m = h.m
  bb : g.b = h.b
  fi : ∀ b, fiB g b = fiB h b
  st : ∀ q, 0 ≤ q → (spH g q).st = (spH h q).st
  cl : ∀ q, 0 ≤ q → (spH g q).cl = (spH h q).cl
  oth : ∀ q : Int, 0 ≤ q → ¬ q = p → spH g q = spH h q
  used : ∀ b, usedB g b = (usedB h b && !goB h p k b)
  ob : ∀ b, obB g b = (obB h b && !goB h p k b)
  word : ∀ b, fiB h b = true → goB h p k b = false → ∀ j : Int, 0 ≤ j → j < szW (spH h (b / 32)).cl → g.z (b + j).toNat = h.z (b + j).toNat
  zero : ∀ b, fiB h b = true → goB h p k b = true → ∀ j : Int, 0 ≤ j → j < szW (spH h (b / 32)).cl → g.z (b + j).toNat = 0
  out : ∀ j : Nat, ¬ j / 32 = p → g.z j = h.z j
  sum : usH g + w = usH h
  pos : 0 ≤ w
theorem swp {h : Hp} (hF : formB h = true) (hw : h.wf) {p : Nat} (hp : p < h.m) : ∀ k : Nat, k ≤ 32 → Swp h p k (swA h p k).1 (swA h p k).2
  | 0, _ => by
    have g0 : ∀ b, goB h p 0 b = false := fun b => by
      unfold goB
      rw [show decide (32 * (p : Int) ≤ b ∧ b < 32 * p + (0 : Nat)) = false from decide_eq_false (by omega)]
      rfl
    exact {
      form := hF, wf := hw, nn := rfl, mm := rfl, bb := rfl, fi := fun _ => rfl, st := fun _ _ => rfl, cl := fun _ _ => rfl, oth := fun _ _ _ => rfl
      used := fun b => by rw [g0]; simp [swA]
      ob := fun b => by rw [g0]; simp [swA]
      word := fun _ _ _ _ _ _ => rfl
      zero := fun b _ hg => by rw [g0] at hg; cases hg
      out := fun _ _ => rfl
      sum := by simp [swA]
      pos := by simp [swA] }
  | k + 1, hk => by
    have S := swp hF hw hp k (by omega)
    generalize hr : swA h p k = r at S
    have hgo := go_past h p k
    have hob : obB r.1 (32 * p + k) = obB h (32 * p + k) := by rw [S.ob, hgo]; simp
    have hus : usedB r.1 (32 * p + k) = usedB h (32 * p + k) := by rw [S.used, hgo]; simp
    have hwo : fiB h (32 * p + k) = true → woH r.1 (32 * p + k) = woH h (32 * p + k) := fun hf => by
      have := S.word _ hf hgo 0 (Int.le_refl _) (by have := block_in hF hf; omega)
      simpa [woH] using this
    have hwh : whB r.1 (32 * p + k) = whB h (32 * p + k) := by
      unfold whB blB obC
      rw [hob, S.bb]
      cases ho : obB h (32 * p + k) with
      | false => rfl
      | true => rw [hwo (ob_fi ho)]
    have hfr : frB r.1 (32 * p + k) = usedB h (32 * p + k) := by rw [fr_iff S.form, hus]
    have hsw : swA h p (k + 1) = if whB h (32 * p + k) = true ∧ usedB h (32 * p + k) = true then (frH r.1 (32 * p + k), r.2 + szW (h.s p).cl) else r := by
      rw [← hwh, ← hfr, ← hr]; rfl
    rw [hsw]
    by_cases hc : whB h (32 * p + k) = true ∧ usedB h (32 * p + k) = true
    · rw [if_pos hc]
      have hdiv : (32 * (p : Int) + k) / 32 = p := by omega
      have he : frB r.1 (32 * p + k) = true := by rw [hfr]; exact hc.2
      have F := frd S.form S.wf he
      have hn := fr_n r.1 (32 * p + k)
      have hnx : ∀ b, goB h p (k + 1) b = (goB h p k b || decide (b = 32 * p + k)) := fun b => by
        rw [go_next]
        by_cases hb : b = 32 * p + k
        · subst hb; simp [hc.1, hc.2]
        · simp [hb]
      have hcl : szW (spH r.1 ((32 * (p : Int) + k) / 32)).cl = szW (h.s p).cl := by
        rw [hdiv, S.cl _ (by omega)]; rfl
      have hszp : 0 ≤ szW (h.s p).cl := by have := cl_cases (h.s p).cl; omega
      exact {
        form := form_free S.form S.wf _
        wf := wf_free S.wf _
        nn := hn.1.trans S.nn
        mm := hn.2.1.trans S.mm
        bb := hn.2.2.trans S.bb
        fi := fun b => (F.fi b).trans (S.fi b)
        st := fun q q0 => (F.st q q0).trans (S.st q q0)
        cl := fun q q0 => (F.cl q q0).trans (S.cl q q0)
        oth := fun q q0 hq => (F.oth q q0 (by rw [hdiv]; exact hq)).trans (S.oth q q0 hq)
        used := fun b => by
          rw [F.used, S.used, hnx]
          cases usedB h b <;> cases goB h p k b <;> cases decide (b = 32 * p + k) <;> rfl
        ob := fun b => by
          rw [hnx]
          by_cases hb : b = 32 * p + k
          · subst hb
            rw [fr_gone S.form S.wf he]
            simp
          · rw [(fr_ob S.form S.wf he hb).1, S.ob]
            simp [hb]
        word := fun b hb hg j j0 j1 => by
          rw [hnx, Bool.or_eq_false_iff] at hg
          have hb' : ¬ b = 32 * p + k := by simpa using hg.2
          rw [← S.word b hb hg.1 j j0 j1]
          refine fr_word S.form S.wf he (by rw [S.fi]; exact hb) hb' j0 ?_
          have b0 := (block_in hF hb).1
          rw [S.cl _ (by omega)]
          exact j1
        zero := fun b hb hg j j0 j1 => by
          have b0 := (block_in hF hb).1
          by_cases hb' : b = 32 * p + k
          · show (frH r.1 (32 * p + k)).z (b + j).toNat = 0
            rw [F.z]
            unfold zerZ
            rw [if_pos ?_]
            rw [hcl]
            rw [hb', hdiv] at j1
            have j2 : j < szW (h.s p).cl := j1
            omega
          · have hg' : goB h p k b = true := by rw [hnx] at hg; simpa [hb'] using hg
            rw [← S.zero b hb hg' j j0 j1]
            refine fr_word S.form S.wf he (by rw [S.fi]; exact hb) hb' j0 ?_
            rw [S.cl _ (by omega)]
            exact j1
        out := fun j hj => by
          rw [← S.out j hj, F.z]
          unfold zerZ
          have hblk := block_in S.form F.begins
          rw [hdiv] at hblk ⊢
          rw [if_neg (by omega)]
        sum := by
          have h1 := F.sum
          rw [hcl] at h1
          have h2 := S.sum
          show usH (frH r.1 (32 * p + k)) + (r.2 + szW (h.s p).cl) = usH h
          omega
        pos := by have := S.pos; show 0 ≤ r.2 + szW (h.s p).cl; omega }
    · rw [if_neg hc]
      have hnx : ∀ b, goB h p (k + 1) b = goB h p k b := fun b => by
        rw [go_next]
        by_cases hb : b = 32 * p + k
        · subst hb
          have : (whB h (32 * p + k) && usedB h (32 * p + k)) = false := by
            cases h1 : whB h (32 * p + k) <;> cases h2 : usedB h (32 * p + k) <;> first | rfl | exact absurd ⟨h1, h2⟩ hc
          rw [this]
          simp
        · simp [hb]
      exact { S with used := fun b => by rw [hnx]; exact S.used b, ob := fun b => by rw [hnx]; exact S.ob b, word := fun b hb hg => S.word b hb (by rw [← hnx]; exact hg), zero := fun b hb hg => S.zero b hb (by rw [← hnx]; exact hg) }
/-! One page swept. -/
theorem on_some {h : Hp} {p : Nat} (e : onP h = some p) : p < h.m ∧ (h.s p).st = 2 ∧ ∀ j, j < p → ¬ (h.s j).st = 2 := by
  unfold onP at e
  rw [List.find?_range_eq_some] at e
  exact ⟨List.mem_range.1 e.2.1, by simpa using e.1, fun j hj => by simpa using e.2.2 j hj⟩
theorem on_none {h : Hp} (e : onP h = none) : ∀ j, j < h.m → ¬ (h.s j).st = 2 := fun j hj => by
  unfold onP at e
  rw [List.find?_eq_none] at e
  simpa using e j (List.mem_range.2 hj)
theorem drT_cong {s t : Nat → Sp} : ∀ {k : Nat}, (∀ i, i < k → s i = t i) → drT s k = drT t k
  | 0, _ => rfl
  | k + 1, h => by
    simp only [drT]
    rw [drT_cong (k := k) fun i hi => h i (by omega), h k (by omega)]
theorem drT_set (s : Nat → Sp) (p : Nat) (x : Sp) : ∀ {k : Nat}, p < k → drT (setS s p x) k + (if (s p).st = 2 then 1 else 0) = drT s k + (if x.st = 2 then 1 else 0)
  | 0, h => by omega
  | k + 1, h => by
    simp only [drT]
    by_cases e : p = k
    · subst e
      have h1 : setS s p x p = x := by unfold setS; rw [if_pos rfl]
      rw [drT_cong (s := setS s p x) (t := s) fun i hi => by unfold setS; rw [if_neg (by omega)], h1]
      omega
    · have h1 : setS s p x k = s k := by unfold setS; rw [if_neg (by omega)]
      rw [h1]
      have := drT_set s p x (k := k) (by omega)
      omega
theorem dr_zero {s : Nat → Sp} : ∀ {k : Nat}, (∀ i, i < k → ¬ (s i).st = 2) → drT s k = 0
  | 0, _ => rfl
  | k + 1, h => by
    simp only [drT]
    rw [dr_zero (k := k) fun i hi => h i (by omega), if_neg (h k (by omega))]
theorem dr_pos {s : Nat → Sp} {p : Nat} : ∀ {k : Nat}, p < k → (s p).st = 2 → 1 ≤ drT s k
  | 0, h, _ => by omega
  | k + 1, h, e => by
    simp only [drT]
    by_cases hp : p = k
    · subst hp; rw [if_pos e]; omega
    · have := dr_pos (k := k) (by omega) e
      omega
/-- What sweeping one page does. -/
structure Ond (h : Hp) (n : Nat) (y : Nat → Int) (p : Nat) : Prop where
  form : formB (onH h n y) = true
  wf : (onH h n y).wf
  nn : (onH h n y).n = h.n
  mm : (onH h n y).m = h.m
  bb : (onH h n y).b = h.b
  oth : ∀ q : Int, 0 ≤ q → ¬ q = p → spH (onH h n y) q = spH h q
  mine : spH (onH h n y) p = clS (keptY n y p) (spH (swA h p 32).1 p)
  z : (onH h n y).z = (swA h p 32).1.z
  less : drH (onH h n y) + 1 = drH h
  sum : usH (onH h n y) + onW h = usH h
  pos : 0 ≤ onW h
theorem cl_st (k : Bool) (s : Sp) : (clS k s).st = 0 ∨ (clS k s).st = 1 := by
  unfold clS
  split
  · exact .inl rfl
  · exact .inr rfl
theorem cl_us (k : Bool) (s : Sp) (h : s.st = 1 ∨ s.st = 2) : usS (clS k s) = usS s := by
  obtain ⟨st, cl, fr⟩ := s
  have hu : useB st = true := (use_iff st).2 h
  unfold clS
  split
  · rename_i e
    simp only at e
    simp [usS, usedN, hu, e.1, useB]
  · have h' : st = 1 ∨ st = 2 := h
    simp [usS, usedN, useB, h']
theorem ond {h : Hp} (hF : formB h = true) (hw : h.wf) (n : Nat) (y : Nat → Int) {p : Nat} (e : onP h = some p) : Ond h n y p := by
  obtain ⟨hp, hst, -⟩ := on_some e
  have S := swp hF hw hp 32 (Nat.le_refl _)
  have eH : onH h n y = withS (swA h p 32).1 p (clS (keptY n y p) (spH (swA h p 32).1 p)) := by unfold onH; rw [e]
  have eW : onW h = (swA h p 32).2 := by unfold onW; rw [e]
  generalize hr : swA h p 32 = r at S eH eW
  have p0 : (0 : Int) ≤ p := by omega
  have pm : (p : Int) < r.1.m := by have := S.mm; omega
  have hst2 : (spH r.1 p).st = 2 := by rw [S.st _ p0]; exact hst
  have hright : (spH r.1 p).right = true := form_at S.form p0 pm
  have hmask := wf_mask S.wf p0 pm
  refine ⟨?_, ?_, ?_, ?_, ?_, ?_, ?_, ?_, ?_, ?_, by rw [eW]; exact S.pos⟩
  · rw [eH]; exact form_with S.form (cl_right hright (by omega))
  · rw [eH]
    have hsw := S.wf.2 p (by omega)
    refine wf_with S.wf ?_
    show (clS (keptY n y p) (r.1.s (p : Int).toNat)).wf
    rw [Int.toNat_natCast]
    unfold clS
    split
    · exact wf_zero
    · exact ⟨⟨by show (-9223372036854775808 : Int) ≤ 1; decide, by show (1 : Int) ≤ 9223372036854775807; decide⟩, hsw.2⟩
  · rw [eH]; exact S.nn
  · rw [eH]; exact S.mm
  · rw [eH]; exact S.bb
  · intro q q0 hq
    rw [eH, spH_other _ _ q0 hq]
    exact S.oth q q0 hq
  · rw [eH, hr]; exact spH_with _ _ p0
  · rw [eH, hr]; rfl
  · rw [eH]
    show drT (setS r.1.s p _) r.1.m + 1 = drT h.s h.m
    have h1 := drT_set r.1.s p (clS (keptY n y p) (spH r.1 p)) (k := r.1.m) (by omega)
    have h2 : drT r.1.s r.1.m = drT h.s h.m := by
      have : ∀ k, drT r.1.s k = drT h.s k := by
        intro k
        induction k with
        | zero => rfl
        | succ k ih =>
          simp only [drT]
          have := S.st (k : Int) (by omega)
          rw [show spH r.1 (k : Int) = r.1.s k from rfl, show spH h (k : Int) = h.s k from rfl] at this
          rw [ih, this]
      rw [this, S.mm]
    have h3 : (r.1.s p).st = 2 := hst2
    rw [if_pos h3] at h1
    have h4 : ¬ (clS (keptY n y p) (spH r.1 p)).st = 2 := by rcases cl_st (keptY n y p) (spH r.1 p) with h | h <;> rw [h] <;> decide
    rw [if_neg h4] at h1
    omega
  · rw [eH, eW, us_with p0 pm, cl_us _ _ (.inr hst2)]
    have := S.sum
    omega
/-- Swept so often, no page is dirty. -/
theorem al_form {h : Hp} (hF : formB h = true) (hw : h.wf) (n : Nat) (y : Nat → Int) : ∀ i, formB (alA h n y i).1 = true ∧ (alA h n y i).1.wf ∧ (alA h n y i).1.n = h.n ∧ (alA h n y i).1.m = h.m ∧ (alA h n y i).1.b = h.b ∧ drH (alA h n y i).1 = drH h - i ∧ usH (alA h n y i).1 + (alA h n y i).2 = usH h ∧ 0 ≤ (alA h n y i).2
  | 0 => ⟨hF, hw, rfl, rfl, rfl, by simp [alA], by simp [alA], by simp [alA]⟩
  | i + 1 => by
    obtain ⟨a1, a2, a3, a4, a5, a6, a7, a8⟩ := al_form hF hw n y i
    have e1 : alA h n y (i + 1) = (onH (alA h n y i).1 n y, (alA h n y i).2 + onW (alA h n y i).1) := rfl
    rw [e1]
    cases e : onP (alA h n y i).1 with
    | some p =>
      have O := ond a1 a2 n y e
      refine ⟨O.form, O.wf, O.nn.trans a3, O.mm.trans a4, O.bb.trans a5, ?_, ?_, ?_⟩
      · have := O.less
        show drH (onH (alA h n y i).1 n y) = _
        omega
      · have := O.sum
        show usH (onH (alA h n y i).1 n y) + ((alA h n y i).2 + onW (alA h n y i).1) = _
        omega
      · have := O.pos
        show 0 ≤ (alA h n y i).2 + onW (alA h n y i).1
        omega
    | none =>
      have h1 : onH (alA h n y i).1 n y = (alA h n y i).1 := by unfold onH; rw [e]
      have h2 : onW (alA h n y i).1 = 0 := by unfold onW; rw [e]
      rw [h1, h2]
      have h0 := dr_zero (on_none e)
      refine ⟨a1, a2, a3, a4, a5, ?_, by show usH (alA h n y i).1 + ((alA h n y i).2 + 0) = _; omega, by show 0 ≤ (alA h n y i).2 + 0; omega⟩
      have h3 : drH (alA h n y i).1 = 0 := h0
      show drH (alA h n y i).1 = drH h - (i + 1)
      omega
theorem dr_le (s : Nat → Sp) : ∀ k, drT s k ≤ k
  | 0 => Nat.le_refl _
  | k + 1 => by
    simp only [drT]
    have := dr_le s k
    split <;> omega
/-! Objects, one page swept: of heaps where objects lie in blocks that are used. -/
def UsB (h : Hp) : Prop := ∀ a, obB h a = true → usedB h a = true
/-- The page of a closed span has no used block. -/
theorem whole_free {h : Hp} (hF : formB h = true) (hw : h.wf) {b : Int} (hc : countW (spH h (b / 32)).fr = blW (spH h (b / 32)).cl) : usedB h b = false := by
  unfold usedB
  cases ef : fiB h b with
  | false => rfl
  | true =>
    obtain ⟨p0, p1, -, hst, -, i0, i1, -⟩ := fi_spec hF ef
    have hm := wf_mask hw p0 p1
    rcases right_iff.1 (form_at hF p0 p1) with ⟨h0, -⟩ | ⟨-, c0, c1, hs⟩
    · omega
    · have hwhole := (count_whole hm hs).1 hc
      have hb := bl_bound (spH h (b / 32)).cl
      rw [hwhole, has_whole _ i0 (by omega)]
      simp [i1]
theorem fi_congr {g h : Hp} {b : Int} (hm : g.m = h.m) (hc : 0 ≤ b / 32 → (spH g (b / 32)).cl = (spH h (b / 32)).cl ∧ ((spH g (b / 32)).st = 0 ↔ (spH h (b / 32)).st = 0)) : fiB g b = fiB h b := by
  unfold fiB
  by_cases b0 : 0 ≤ b
  · obtain ⟨h1, h2⟩ := hc (by omega)
    rw [h1, hm]
    have : ((spH g (b / 32)).st == 0) = ((spH h (b / 32)).st == 0) := by
      rw [Bool.eq_iff_iff, beq_iff_eq, beq_iff_eq]
      exact h2
    rw [this]
  · rw [show inI (32 * g.m) b = false from inI_no (by omega), show inI (32 * h.m) b = false from inI_no (by omega)]
    rfl
theorem on_ob {h : Hp} (hF : formB h = true) (hw : h.wf) (hu : UsB h) (n : Nat) (y : Nat → Int) {p : Nat} (e : onP h = some p) (b : Int) :
    obB (onH h n y) b = (obB h b && !(decide (b / 32 = p) && whB h b)) ∧ (obB (onH h n y) b = true → woH (onH h n y) b = woH h b ∧ usedB (onH h n y) b = true ∧ (spH (onH h n y) (b / 32)).cl = (spH h (b / 32)).cl ∧ ∀ k : Int, 0 ≤ k → k < szW (spH h (b / 32)).cl → (onH h n y).z (b + k).toNat = h.z (b + k).toNat) := by
  obtain ⟨hp, hst, -⟩ := on_some e
  have S := swp hF hw hp 32 (Nat.le_refl _)
  have O := ond hF hw n y e
  generalize hr : swA h p 32 = r at S
  have hz : (onH h n y).z = r.1.z := by rw [O.z, hr]
  have hmine : spH (onH h n y) p = clS (keptY n y p) (spH r.1 p) := by rw [O.mine, hr]
  have hst2 : (spH r.1 p).st = 2 := by rw [S.st _ (by omega)]; exact hst
  have hus0 : ∀ b, obB r.1 b = true → usedB r.1 b = true := fun b hb => by
    rw [S.ob, Bool.and_eq_true] at hb
    rw [S.used, hu b hb.1, hb.2]
    rfl
  have hwo : fiB h b = true → goB h p 32 b = false → woH r.1 b = woH h b := fun hb hg => by
    have := S.word b hb hg 0 (Int.le_refl _) (by have := block_in hF hb; omega)
    simpa [woH] using this
  by_cases hbp : b / 32 = p
  · have hgo : goB h p 32 b = (whB h b && usedB h b) := by
      unfold goB
      rw [decide_eq_true (show 32 * (p : Int) ≤ b ∧ b < 32 * p + (32 : Nat) by omega)]
      rfl
    have hgw : goB h p 32 b = whB h b := by
      rw [hgo]
      cases hwh : whB h b with
      | false => rfl
      | true =>
        have : obB h b = true := by
          simp only [whB, Bool.and_eq_true] at hwh
          exact hwh.1
        rw [hu b this]
        rfl
    have ho0 : obB r.1 b = (obB h b && !whB h b) := by rw [S.ob, hgw]
    rw [decide_eq_true hbp, Bool.true_and]
    by_cases hc : countW (spH r.1 p).fr = blW (spH r.1 p).cl ∧ keptY n y p = false
    · have hsp : spH (onH h n y) p = ⟨0, 0, 0⟩ := by rw [hmine]; unfold clS; rw [if_pos hc]
      have hfi : fiB (onH h n y) b = false := by
        unfold fiB
        rw [hbp, hsp]
        simp
      have hno : obB (onH h n y) b = false := by unfold obB; rw [hfi]; rfl
      have hno0 : obB r.1 b = false := by
        cases ho : obB r.1 b with
        | false => rfl
        | true =>
          have h1 := hus0 b ho
          rw [whole_free S.form S.wf (by rw [hbp]; exact hc.1)] at h1
          cases h1
      refine ⟨by rw [hno, ← ho0, hno0], fun h1 => ?_⟩
      rw [hno] at h1
      cases h1
    · have hsp : spH (onH h n y) p = ⟨1, (spH r.1 p).cl, (spH r.1 p).fr⟩ := by rw [hmine]; unfold clS; rw [if_neg hc]
      have hfi : fiB (onH h n y) b = fiB r.1 b := by
        refine fi_congr (O.mm.trans S.mm.symm) fun _ => ?_
        rw [hbp, hsp, hst2]
        exact ⟨rfl, by simp⟩
      have hwz : woH (onH h n y) b = woH r.1 b := by unfold woH; rw [hz]
      have hob : obB (onH h n y) b = obB r.1 b := by unfold obB; rw [hfi, hwz]
      refine ⟨by rw [hob, ho0], fun h1 => ?_⟩
      rw [hob] at h1
      have h2 := h1
      rw [ho0, Bool.and_eq_true] at h2
      have hgn : goB h p 32 b = false := by rw [hgw]; simpa using h2.2
      refine ⟨?_, ?_, by rw [hbp, hsp]; exact S.cl _ (by omega), fun k k0 k1 => by rw [hz]; exact S.word b (ob_fi h2.1) hgn k k0 k1⟩
      · rw [hwz]
        exact hwo (ob_fi h2.1) hgn
      · have h3 := hus0 b h1
        unfold usedB at h3 ⊢
        rw [hfi, hbp, hsp]
        rw [hbp] at h3
        exact h3
  · have hgo : goB h p 32 b = false := by
      unfold goB
      rw [decide_eq_false (show ¬ (32 * (p : Int) ≤ b ∧ b < 32 * p + (32 : Nat)) by omega)]
      rfl
    rw [decide_eq_false hbp, Bool.false_and, Bool.not_false, Bool.and_true]
    have hsp : 0 ≤ b / 32 → spH (onH h n y) (b / 32) = spH h (b / 32) := fun q0 => O.oth _ q0 hbp
    have hfi : fiB (onH h n y) b = fiB h b := fi_congr O.mm fun q0 => by rw [hsp q0]; exact ⟨rfl, Iff.rfl⟩
    have hwz : fiB h b = true → woH (onH h n y) b = woH h b := fun hb => by
      rw [← hwo hb hgo]; unfold woH; rw [hz]
    have hob : obB (onH h n y) b = obB h b := by
      unfold obB
      rw [hfi]
      cases hb : fiB h b with
      | false => rfl
      | true => rw [hwz hb]
    refine ⟨hob, fun h1 => ?_⟩
    rw [hob] at h1
    have hb := ob_fi h1
    have q0 : 0 ≤ b / 32 := (fi_spec hF hb).1
    refine ⟨hwz hb, ?_, by rw [hsp q0], fun k k0 k1 => by rw [hz]; exact S.word b hb hgo k k0 k1⟩
    have h3 := hu b h1
    unfold usedB at h3 ⊢
    rw [hfi, hsp q0]
    exact h3
theorem on_us {h : Hp} (hF : formB h = true) (hw : h.wf) (hu : UsB h) (n : Nat) (y : Nat → Int) : UsB (onH h n y) := fun b hb => by
  cases e : onP h with
  | some p => exact ((on_ob hF hw hu n y e b).2 hb).2.1
  | none =>
    have h1 : onH h n y = h := by unfold onH; rw [e]
    rw [h1] at hb ⊢
    exact hu b hb
/-- Where All stands: pages that are dirty are as they were; an object is there, if it was, but white ones of pages that are dirty no more. -/
structure AlAt (n : Nat) (y : Nat → Int) (h g : Hp) : Prop where
  form : formB g = true
  wf : g.wf
  us : UsB g
  mm : g.m = h.m
  bb : g.b = h.b
  dirty : ∀ q : Nat, q < h.m → (g.s q).st = 2 → g.s q = h.s q
  clean : ∀ q : Nat, q < h.m → ¬ (h.s q).st = 2 → g.s q = h.s q
  ob : ∀ b, obB g b = (obB h b && !(whB h b && (decide ((spH h (b / 32)).st = 2) && decide (¬ (spH g (b / 32)).st = 2))))
  word : ∀ b, obB g b = true → woH g b = woH h b
  cl : ∀ b, obB g b = true → (spH g (b / 32)).cl = (spH h (b / 32)).cl
  words : ∀ b, obB g b = true → ∀ k : Int, 0 ≤ k → k < szW (spH h (b / 32)).cl → g.z (b + k).toNat = h.z (b + k).toNat
  shut : ∀ q : Nat, q < h.m → (h.s q).st = 2 → ¬ (g.s q).st = 2 → (g.s q = ⟨0, 0, 0⟩ ∧ keptY n y q = false) ∨ ((g.s q).st = 1 ∧ (keptY n y q = true ∨ ¬ countW (g.s q).fr = blW (g.s q).cl))
theorem al_start {h : Hp} (hF : formB h = true) (hw : h.wf) (hu : UsB h) (n : Nat) (y : Nat → Int) : AlAt n y h h :=
  ⟨hF, hw, hu, rfl, rfl, fun _ _ _ => rfl, fun _ _ _ => rfl, fun b => by by_cases e : (spH h (b / 32)).st = 2 <;> simp [e], fun _ _ => rfl, fun _ _ => rfl, fun _ _ _ _ _ => rfl, fun _ _ h1 h2 => absurd h1 h2⟩
theorem fi_pos {h : Hp} {b : Int} (e : fiB h b = true) : 0 ≤ b / 32 := by
  simp only [fiB, Bool.and_eq_true] at e
  have := of_inI e.1
  omega
theorem al_next {h g : Hp} {n : Nat} {y : Nat → Int} (A : AlAt n y h g) : AlAt n y h (onH g n y) := by
  cases e : onP g with
  | none =>
    have h1 : onH g n y = g := by unfold onH; rw [e]
    rw [h1]
    exact A
  | some p =>
    obtain ⟨hp, hst, -⟩ := on_some e
    have O := ond A.form A.wf n y e
    have hob := on_ob A.form A.wf A.us n y e
    have hpst : ¬ (spH (onH g n y) p).st = 2 := by
      rw [O.mine]
      rcases cl_st (keptY n y p) (spH (swA g p 32).1 p) with h | h <;> rw [h] <;> decide
    have hsp : ∀ q : Nat, ¬ q = p → (onH g n y).s q = g.s q := fun q hq => by
      have := O.oth (q : Int) (by omega) (by omega)
      simpa [spH] using this
    have hpm : p < h.m := by have := A.mm; omega
    have hpd : g.s p = h.s p := A.dirty p hpm hst
    have hps : (h.s p).st = 2 := by rw [← hpd]; exact hst
    refine ⟨O.form, O.wf, on_us A.form A.wf A.us n y, O.mm.trans A.mm, O.bb.trans A.bb, fun q hq h2 => ?_, fun q hq h2 => ?_, fun b => ?_, fun b hb => ?_, fun b hb => ?_, fun b hb k k0 k1 => ?_, fun q hq h2 hn => ?_⟩
    · by_cases hqp : q = p
      · subst hqp
        exact absurd (by simpa [spH] using h2) hpst
      · rw [hsp q hqp] at h2 ⊢
        exact A.dirty q hq h2
    · by_cases hqp : q = p
      · subst hqp
        exact absurd hps h2
      · rw [hsp q hqp]
        exact A.clean q hq h2
    · have hbs := (hob b).1
      rw [hbs]
      by_cases hbp : b / 32 = p
      · have hg2 : (spH g (b / 32)).st = 2 := by rw [hbp]; simpa [spH] using hst
        have hh2 : (spH h (b / 32)).st = 2 := by rw [hbp]; simpa [spH] using hps
        have hob0 : obB g b = obB h b := by rw [A.ob]; simp [hg2]
        have hwh : whB g b = whB h b := by
          unfold whB blB obC
          rw [hob0, A.bb]
          cases ho : obB h b with
          | false => rfl
          | true => rw [A.word b (by rw [hob0]; exact ho)]
        have hn2 : ¬ (spH (onH g n y) (b / 32)).st = 2 := by rw [hbp]; exact hpst
        rw [hob0, hwh, hbp]
        rw [hbp] at hh2 hn2
        simp [hh2, hn2]
      · rw [A.ob]
        by_cases hb0 : 0 ≤ b / 32
        · rw [O.oth _ hb0 hbp]
          simp [hbp]
        · have : obB h b = false := by
            cases ho : obB h b with
            | false => rfl
            | true => exact absurd (fi_pos (ob_fi ho)) hb0
          simp [this]
    · obtain ⟨h1, -⟩ := (hob b).2 hb
      rw [h1]
      refine A.word b ?_
      rw [(hob b).1, Bool.and_eq_true] at hb
      exact hb.1
    · obtain ⟨-, -, h1, -⟩ := (hob b).2 hb
      rw [h1]
      refine A.cl b ?_
      rw [(hob b).1, Bool.and_eq_true] at hb
      exact hb.1
    · obtain ⟨-, -, -, h1⟩ := (hob b).2 hb
      have hb0 : obB g b = true := by
        rw [(hob b).1, Bool.and_eq_true] at hb
        exact hb.1
      rw [h1 k k0 (by rw [A.cl b hb0]; exact k1)]
      exact A.words b hb0 k k0 k1
    · by_cases hqp : q = p
      · subst hqp
        have hm := O.mine
        generalize swA g q 32 = r at hm
        generalize spH r.1 q = sp at hm
        have hm' : (onH g n y).s q = clS (keptY n y q) sp := by simpa [spH] using hm
        rw [hm']
        unfold clS
        split
        · rename_i hc
          exact .inl ⟨rfl, hc.2⟩
        · rename_i hc
          refine .inr ⟨rfl, ?_⟩
          cases hk : keptY n y q with
          | true => exact .inl rfl
          | false => exact .inr fun h1 => hc ⟨h1, hk⟩
      · rw [hsp q hqp] at hn ⊢
        exact A.shut q hq h2 hn
theorem al_at {h : Hp} (hF : formB h = true) (hw : h.wf) (hu : UsB h) (n : Nat) (y : Nat → Int) : ∀ i, AlAt n y h (alA h n y i).1
  | 0 => al_start hF hw hu n y
  | i + 1 => al_next (al_at hF hw hu n y i)
end Go.Proofs.YtjoepiopigmmnaaDoor
