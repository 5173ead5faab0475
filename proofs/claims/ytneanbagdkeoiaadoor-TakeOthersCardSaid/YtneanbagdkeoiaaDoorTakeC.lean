/- What the code of take does, as data: plain lemmas (chapter 11). -/
import Derived.Test.YtneanbagdkeoiaaDoorTakeFn
import Derived.Test.YtneanbagdkeoiaaDoorQueueQ
namespace Go.Proofs.YtneanbagdkeoiaaDoor
set_option linter.unusedSimpArgs false
set_option linter.unusedVariables false

/-- Is there such a page, in use, of that class? -/
def isO (h : Hp) (g c : Int) : Bool := inI h.m g && (!((spH h g).st == 0) && (spH h g).cl == c)
theorem isO_iff {h : Hp} {g c : Int} : isO h g c = true ↔ 0 ≤ g ∧ g < h.m ∧ ¬ (spH h g).st = 0 ∧ (spH h g).cl = c := by
  simp [isO, inI, and_assoc]
/-- How often a number is there, and whether it is. -/
theorem cnt_nought {y : Nat → Int} {x : Int} : ∀ {j : Nat}, hasY y x j = false → cntY y x j = 0
  | 0, _ => rfl
  | j + 1, h => by
    unfold hasY at h
    simp only [Bool.or_eq_false_iff, decide_eq_false_iff_not] at h
    unfold cntY
    rw [cnt_nought h.1, if_neg h.2]; rfl
theorem cnt_step (y : Nat → Int) (x : Int) (j : Nat) : cntY y x j ≤ cntY y x (j + 1) := by
  show cntY y x j ≤ cntY y x j + (if y j = x then 1 else 0)
  split <;> omega
theorem cnt_mono {y : Nat → Int} {x : Int} {i : Nat} : ∀ {j : Nat}, i ≤ j → cntY y x i ≤ cntY y x j
  | 0, h => by obtain rfl : i = 0 := by omega
               exact Int.le_refl _
  | j + 1, h => by
    by_cases e : i = j + 1
    · subst e; exact Int.le_refl _
    · exact Int.le_trans (cnt_mono (by omega : i ≤ j)) (cnt_step y x j)
theorem cnt_some {y : Nat → Int} {x : Int} : ∀ {j : Nat}, hasY y x j = true → 1 ≤ cntY y x j
  | 0, h => by cases h
  | j + 1, h => by
    unfold hasY at h
    simp only [Bool.or_eq_true, decide_eq_true_eq] at h
    unfold cntY
    have := (cntY_bound y x j).1
    rcases h with h | h
    · have := cnt_some h
      split <;> omega
    · rw [if_pos h]; omega
/-- A number that is met a second time is there more than once. -/
theorem cnt_twice {y : Nat → Int} {j n : Nat} (h : hasY y (y j) j = true) (hj : j < n) : 2 ≤ cntY y (y j) n := by
  have h1 := cnt_some h
  have h2 := cntY_hit (x := y j) (rfl : y j = y j)
  have h3 := cnt_mono (y := y) (x := y j) (show j + 1 ≤ n by omega)
  omega
/-- Where none is met a second time, each is there once. -/
theorem cnt_one {y : Nat → Int} : ∀ {n : Nat}, (∀ i, i < n → ¬ y i = -1 → hasY y (y i) i = false) → ∀ {i}, i < n → ¬ y i = -1 → cntY y (y i) n = 1
  | 0, _, i, hi, _ => by omega
  | n + 1, h, i, hi, hne => by
    by_cases e : i = n
    · subst e
      rw [cntY_hit rfl, cnt_nought (h i hi hne)]; rfl
    · have ih := cnt_one (fun k hk => h k (by omega)) (show i < n by omega) hne
      by_cases e2 : y n = y i
      · have := h n (by omega) (by rw [e2]; exact hne)
        rw [e2, hasY_hit rfl (by omega)] at this
        cases this
      · rw [cntY_miss e2, ih]
/-- What the walk over the caches has met. -/
def metOk (h : Hp) (y : Nat → Int) (j : Nat) : Prop := y j = -1 ∨ (isO h (y j) (j % 4 : Nat) = true ∧ hasY y (y j) j = false)
theorem met_right {h : Hp} {n : Nat} {y : Nat → Int} (hall : ∀ j, j < n * 4 → metOk h y j) : rightY h n y = true := by
  refine rightY_iff.2 fun j hj => ?_
  rcases hall j hj with e | ⟨e, -⟩
  · exact .inl e
  · obtain ⟨a, b, c, d⟩ := isO_iff.1 e
    refine .inr ⟨a, b, c, d, cnt_one (fun i hi hne => ?_) hj (by omega)⟩
    rcases hall i hi with e' | ⟨-, e'⟩
    · exact absurd e' hne
    · exact e'
theorem met_not {h : Hp} {n : Nat} {y : Nat → Int} {j : Nat} (hj : j < n * 4) (hne : ¬ y j = -1) (hb : isO h (y j) (j % 4 : Nat) = false ∨ hasY y (y j) j = true) : rightY h n y = false := by
  refine rightY_not hj fun ho => ?_
  rcases ho with e | ⟨a, b, c, d, e⟩
  · exact hne e
  · rcases hb with hb | hb
    · rw [isO_iff.2 ⟨a, b, c, d⟩] at hb; cases hb
    · have := cnt_twice hb hj; omega
/-- The pages met so far, a row of Bools. -/
def metV (m : Nat) (y : Nat → Int) (j : Nat) : List Value := (List.range m).map fun (g : Nat) => .bool (hasY y (g : Int) j)
theorem metV_len (m : Nat) (y : Nat → Int) (j : Nat) : (metV m y j).length = m := by simp [metV]
theorem metV_get {m : Nat} {y : Nat → Int} {j g : Nat} (hg : g < m) : (metV m y j)[g]? = some (.bool (hasY y g j)) := by simp [metV, hg]
theorem metV_nought (m : Nat) (y : Nat → Int) : List.replicate m (Value.bool false) = metV m y 0 := by
  refine List.ext_getElem (by simp [metV]) fun i h1 h2 => ?_
  simp [metV, hasY]
theorem metV_skip {m : Nat} {y : Nat → Int} {j : Nat} (h : y j = -1) : metV m y (j + 1) = metV m y j := by
  unfold metV
  refine List.map_congr_left fun g _ => ?_
  have : ¬ (-1 : Int) = g := by omega
  simp [hasY, h, this]
theorem metV_set {m : Nat} {y : Nat → Int} {j : Nat} (h0 : 0 ≤ y j) (h1 : y j < m) : (metV m y j).set (y j).toNat (.bool true) = metV m y (j + 1) := by
  refine List.ext_getElem (by simp [metV]) fun i h2 h3 => ?_
  rw [List.getElem_set]
  by_cases e : (y j).toNat = i
  · rw [if_pos e]
    have : y j = i := by omega
    simp [metV, hasY, this]
  · rw [if_neg e]
    have : ¬ y j = i := by omega
    simp [metV, hasY, this]
theorem find_same {α : Type} {f g : α → Bool} : ∀ {l : List α}, (∀ a ∈ l, f a = g a) → l.find? f = l.find? g
  | [], _ => rfl
  | a :: l, h => by simp only [List.find?_cons, h a (List.mem_cons_self ..), find_same fun b hb => h b (List.mem_cons_of_mem _ hb)]
/-- The pages below a place that will do. -/
def filP (P : Nat → Bool) (i : Nat) : List Int := ((List.range i).filter P).map fun (g : Nat) => (g : Int)
theorem filP_yes {P : Nat → Bool} {i : Nat} (h : P i = true) : filP P (i + 1) = filP P i ++ [(i : Int)] := by
  simp [filP, List.range_succ, h]
theorem filP_no {P : Nat → Bool} {i : Nat} (h : P i = false) : filP P (i + 1) = filP P i := by
  simp [filP, List.range_succ, h]
theorem filP_mem {P : Nat → Bool} {m : Nat} {x : Int} : x ∈ filP P m ↔ ∃ g : Nat, g < m ∧ P g = true ∧ (g : Int) = x := by
  simp only [filP, List.mem_map, List.mem_filter, List.mem_range, and_assoc]
theorem filP_len (P : Nat → Bool) (m : Nat) : (filP P m).length ≤ m := by
  have := List.length_filter_le P (List.range m)
  simpa [filP] using this
theorem fil_none {P : Nat → Bool} {m : Nat} (hp : ([] : List Int).Perm (filP P m)) : (List.range m).find? P = none := by
  refine List.find?_eq_none.2 fun g hg hP => ?_
  have := hp.symm.subset (filP_mem.2 ⟨g, List.mem_range.1 hg, by simpa using hP, rfl⟩)
  cases this
theorem at_mem {R : List Int} (h : 0 < R.length) : atL R 0 ∈ R := by
  rw [at_get h]; exact List.getElem_mem h
theorem fil_some {P : Nat → Bool} {m : Nat} {R : List Int} (hp : R.Perm (filP P m)) (hh : HeapL R) (h0 : 0 < R.length) : ∃ g : Nat, g < m ∧ (List.range m).find? P = some g ∧ atL R 0 = (g : Int) := by
  obtain ⟨g, hg, hP, e⟩ := filP_mem.1 (hp.subset (at_mem h0))
  refine ⟨g, hg, find_hit hg (fun j hj => ?_) hP, e.symm⟩
  cases hPj : P j with
  | false => rfl
  | true =>
    obtain ⟨k, hk, e2⟩ := List.getElem_of_mem (hp.symm.subset (filP_mem.2 ⟨j, by omega, hPj, rfl⟩))
    have := hh.least k hk
    rw [at_get hk, e2] at this
    omega
/-- Has a page room, of that class? -/
def roB (h : Hp) (g c : Int) : Bool := isO h g c && ((spH h g).st == 1 && !fullB (spH h g).st (spH h g).fr)
theorem open_full {st fr : Int} (hm : Mask fr) : ((st == 1) && !fullB st fr) = (decide (st = 1) && decide (0 < countW fr)) := by
  by_cases h : st = 1
  · subst h
    have h1 := count_zero hm
    have h3 : 0 ≤ countW fr := (cntTo_bound (hasB fr) 32).1
    by_cases e : fr = 0
    · have := h1.2 e
      simp [fullB, useB, e, h1.2]
      rw [e] at this; omega
    · have : ¬ countW fr = 0 := fun x => e (h1.1 x)
      have : 0 < countW fr := by omega
      simp [fullB, useB, e, this]
  · simp [h]
theorem roB_open {h : Hp} (hw : h.wf) {g : Int} (g0 : 0 ≤ g) (g1 : g < h.m) {c : Int} : roB h g c = (decide ((spH h g).cl = c) && openY (spH h g)) := by
  have hm := wf_mask hw g0 g1
  unfold roB
  rw [open_full hm]
  unfold openY
  by_cases h1 : (spH h g).st = 1
  · by_cases h2 : (spH h g).cl = c
    · have : isO h g c = true := isO_iff.2 ⟨g0, g1, by omega, h2⟩
      rw [this, h1, h2]; simp
    · have : isO h g c = false := by
        cases e : isO h g c with
        | false => rfl
        | true => exact absurd (isO_iff.1 e).2.2.2 h2
      rw [this]; simp [h2]
  · simp [h1]
/-- The page found: the code's way. -/
theorem page_code {h : Hp} (hw : h.wf) {n : Nat} {y : Nat → Int} {m c : Nat} (hr : rightY h n y = true) (hm : m < n) (hc : c < 4) :
    pageY h n y m c = if roB h (y (m * 4 + c)) c = true then some (y (m * 4 + c)).toNat
      else ((List.range h.m).find? fun (p : Nat) => roB h (p : Int) c && !keptY n y p).or ((List.range h.m).find? fun (p : Nat) => (spH h (p : Int)).st == 0) := by
  have hj : m * 4 + c < n * 4 := by omega
  have e1 : (0 ≤ y (m * 4 + c) ∧ openY (spH h (y (m * 4 + c))) = true) ↔ roB h (y (m * 4 + c)) c = true := by
    constructor
    · rintro ⟨h0, h1⟩
      rw [roB_open hw h0 (right_in hr hj), h1]
      have := (right_use hr hj h0).2.1
      rw [show (m * 4 + c) % 4 = c by omega] at this
      simp [this]
    · intro h0
      have h1 : isO h (y (m * 4 + c)) c = true := by unfold roB at h0; simp only [Bool.and_eq_true] at h0; exact h0.1
      obtain ⟨a, b, -⟩ := isO_iff.1 h1
      refine ⟨a, ?_⟩
      rw [roB_open hw a b, Bool.and_eq_true] at h0
      exact h0.2
  have e2 : (List.range h.m).find? (roomY h n y c) = (List.range h.m).find? fun (p : Nat) => roB h (p : Int) c && !keptY n y p := by
    refine find_same fun p hp => ?_
    have hp := List.mem_range.1 hp
    rw [roB_open hw (by omega) (by omega)]
    rfl
  have e3 : ((List.range h.m).find? fun p => decide ((h.s p).st = 0)) = ((List.range h.m).find? fun (p : Nat) => (spH h (p : Int)).st == 0) := by
    refine find_same fun p hp => ?_
    have hp := List.mem_range.1 hp
    show decide ((h.s p).st = 0) = ((h.s (p : Int).toNat).st == 0)
    rw [Int.toNat_natCast]
    simp [BEq.beq]
  unfold pageY
  rw [e2, e3]
  by_cases h0 : roB h (y (m * 4 + c)) c = true
  · rw [if_pos h0, if_pos (e1.2 h0)]
  · rw [if_neg h0, if_neg (fun x => h0 (e1.1 x))]
end Go.Proofs.YtneanbagdkeoiaaDoor
