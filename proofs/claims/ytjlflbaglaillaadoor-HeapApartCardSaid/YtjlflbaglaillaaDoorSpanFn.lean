/- Spans as data: what chapter 6 says of them, plain lemmas. -/
import Derived.Test.YtjlflbaglaillaaDoorClass
import Derived.Test.YtjlflbaglaillaaDoorBitsFn
namespace Go.Proofs.YtjlflbaglaillaaDoor
set_option linter.unusedSimpArgs false
set_option linter.unusedVariables false
open Go.ChangeShapes Go.WideShapes Go.ChangeAt Go.RowKit

def useB (st : Int) : Bool := decide (st = 1) || decide (st = 2)
def clB (cl : Int) : Bool := decide (0 ≤ cl) && decide (cl < 4)
/-- No bit from the class's blocks on. -/
def smallB (cl fr : Int) : Bool := decide (fr < 2 ^ (blW cl).toNat)
def rightB (st cl fr : Int) : Bool := if st = 0 then decide (cl = 0) && decide (fr = 0) else useB st && (clB cl && smallB cl fr)
def takeB (st fr : Int) : Bool := decide (st = 1) && leastB fr
def takeI (st fr : Int) : Int := if takeB st fr = true then leastW fr else 0
def takeF (st fr : Int) : Int := if takeB st fr = true then woutW fr (leastW fr) else fr
def giveB (st cl fr i : Int) : Bool := useB st && (decide (0 ≤ i) && (decide (i < blW cl) && !hasB fr i))
def giveF (st cl fr i : Int) : Int := if giveB st cl fr i = true then withW fr i else fr
def fullB (st fr : Int) : Bool := useB st && (fr == 0)
def emptyB (st cl fr : Int) : Bool := useB st && (fr == wholeW (blW cl))
def usedN (st cl fr : Int) : Int := if useB st = true then blW cl - countW fr else 0

theorem bl_bound (c : Int) : 0 ≤ blW c ∧ blW c ≤ 16 := by have := cl_cases c; omega
theorem use_iff (st : Int) : useB st = true ↔ st = 1 ∨ st = 2 := by simp [useB]
theorem small_iff {cl fr : Int} (h : Mask fr) : smallB cl fr = true ↔ ∀ i, blW cl ≤ i → i < 32 → hasB fr i = false := by
  have hb := bl_bound cl
  have e : ((2 : Int) ^ (blW cl).toNat) = ((2 ^ (blW cl).toNat : Nat) : Int) := by simp
  simp only [smallB, decide_eq_true_eq]
  rw [e]
  have hc := toNat_cast h
  constructor
  · intro hlt i h0 h1
    unfold hasB
    rw [inB_yes (by omega) h1, Bool.true_and]
    refine Nat.testBit_lt_two_pow (Nat.lt_of_lt_of_le (show fr.toNat < 2 ^ (blW cl).toNat by omega) ?_)
    exact Nat.pow_le_pow_right (by decide) (by omega)
  · intro hall
    have : fr.toNat < 2 ^ (blW cl).toNat := by
      refine Nat.lt_pow_two_of_testBit _ fun i hi => ?_
      by_cases h1 : i < 32
      · have := hall i (by omega) (by omega)
        unfold hasB at this
        rw [inB_yes (by omega) (by omega), Bool.true_and] at this
        simpa using this
      · exact lt_testBit (by have := h.2; omega) (by omega)
    omega
theorem right_iff {st cl fr : Int} : rightB st cl fr = true ↔ (st = 0 ∧ cl = 0 ∧ fr = 0) ∨ ((st = 1 ∨ st = 2) ∧ 0 ≤ cl ∧ cl < 4 ∧ smallB cl fr = true) := by
  unfold rightB
  split
  · rename_i h
    subst h
    simp
  · rename_i h
    simp [useB, clB, h, and_assoc]
theorem right_out {st cl fr : Int} (h : rightB st cl fr = true) (hm : Mask fr) {i : Int} (hi : ¬ (0 ≤ i ∧ i < blW cl)) : hasB fr i = false := by
  by_cases h32 : 0 ≤ i ∧ i < 32
  · rcases right_iff.1 h with ⟨-, -, rfl⟩ | ⟨-, -, -, hs⟩
    · exact has_zero i
    · exact (small_iff hm).1 hs i (by omega) h32.2
  · exact has_out h32
theorem right_mask_new (cl : Int) (h : 0 ≤ cl) (h' : cl < 4) : rightB 1 cl (wholeW (blW cl)) = true := by
  refine right_iff.2 (.inr ⟨.inl rfl, h, h', (small_iff (mask_whole _)).2 fun i h0 h1 => ?_⟩)
  have := bl_bound cl
  rw [has_whole _ (by omega) h1]
  simp; omega

/-! ### Counts. -/
theorem cntTo_flip {f g : Int → Bool} {i : Nat} (h0 : f i = false) (h1 : g i = true) (h : ∀ j : Nat, j ≠ i → f j = g j) : ∀ {k : Nat}, i < k → cntTo g k = cntTo f k + 1
  | 0, hk => by omega
  | k + 1, hk => by
    simp only [cntTo]
    by_cases e : i = k
    · subst e
      rw [h0, h1, cntTo_congr (f := f) (g := g) fun j hj => h j (by omega)]
      simp
    · rw [cntTo_flip h0 h1 h (k := k) (by omega), h k (by omega)]
      omega
theorem cntTo_full {f : Int → Bool} : ∀ {k : Nat}, (∀ i : Nat, i < k → f i = true) → cntTo f k = k
  | 0, _ => rfl
  | k + 1, h => by
    simp only [cntTo]
    rw [cntTo_full (k := k) fun i hi => h i (by omega), h k (by omega)]
    simp
theorem cntTo_less {f : Int → Bool} {i : Nat} (h : f i = false) : ∀ {k : Nat}, i < k → cntTo f k < k
  | 0, hk => by omega
  | k + 1, hk => by
    simp only [cntTo]
    by_cases e : i = k
    · subst e; rw [h]; have := (cntTo_bound f i).2; simp; omega
    · have := cntTo_less h (k := k) (by omega)
      split <;> omega
theorem count_with {m i : Int} (h0 : 0 ≤ i) (h1 : i < 32) (h : hasB m i = false) : countW (withW m i) = countW m + 1 := by
  unfold countW
  refine cntTo_flip (i := i.toNat) ?_ ?_ ?_ (by omega)
  · rw [show ((i.toNat : Nat) : Int) = i by omega]; exact h
  · rw [show ((i.toNat : Nat) : Int) = i by omega, has_with, inB_yes h0 h1]; simp
  · intro j hj
    rw [has_with]
    have : ¬ ((j : Int) = i) := by omega
    simp [this]
theorem count_wout {m i : Int} (hm : Mask m) (h0 : 0 ≤ i) (h1 : i < 32) (h : hasB m i = true) : countW m = countW (woutW m i) + 1 := by
  unfold countW
  refine cntTo_flip (i := i.toNat) ?_ ?_ ?_ (by omega)
  · rw [show ((i.toNat : Nat) : Int) = i by omega, has_wout _ _ hm, inB_yes h0 h1]; simp
  · rw [show ((i.toNat : Nat) : Int) = i by omega]; exact h
  · intro j hj
    rw [has_wout _ _ hm]
    have : ¬ ((j : Int) = i) := by omega
    simp [this]
theorem count_zero {m : Int} (hm : Mask m) : countW m = 0 ↔ m = 0 := by
  constructor
  · intro h
    refine none_of hm fun j h0 h1 => ?_
    cases e : hasB m j with
    | false => rfl
    | true =>
      have := cntTo_pos (f := hasB m) (k := 32) (i := j.toNat) (by omega) (by rw [show ((j.toNat : Nat) : Int) = j by omega]; exact e)
      unfold countW at h
      omega
  · rintro rfl; decide +kernel
/-- Bits below n alone: how many there are. -/
theorem count_below {m : Int} {n : Nat} (hn : n ≤ 32) (h : ∀ i : Int, n ≤ i → i < 32 → hasB m i = false) : countW m = cntTo (hasB m) n := by
  unfold countW
  rw [show 32 = n + (32 - n) by omega, cntTo_add, cntTo_zero (f := fun i => hasB m (n + i)), Int.add_zero]
  intro i hi
  exact h _ (by omega) (by omega)
theorem count_le {cl fr : Int} (hm : Mask fr) (hs : smallB cl fr = true) : 0 ≤ countW fr ∧ countW fr ≤ blW cl := by
  have hb := bl_bound cl
  rw [count_below (n := (blW cl).toNat) (by omega) fun i h0 h1 => (small_iff hm).1 hs i (by omega) h1]
  have := cntTo_bound (hasB fr) (blW cl).toNat
  omega
theorem count_whole {cl fr : Int} (hm : Mask fr) (hs : smallB cl fr = true) : countW fr = blW cl ↔ fr = wholeW (blW cl) := by
  have hb := bl_bound cl
  have hsm := (small_iff hm).1 hs
  rw [count_below (n := (blW cl).toNat) (by omega) fun i h0 h1 => hsm i (by omega) h1]
  constructor
  · intro h
    refine mask_ext hm (mask_whole _) fun i h0 h1 => ?_
    rw [has_whole _ h0 h1]
    by_cases e : i < blW cl
    · rw [decide_eq_true e]
      cases e' : hasB fr i with
      | true => rfl
      | false =>
        have := cntTo_less (f := hasB fr) (i := i.toNat) (by rw [show ((i.toNat : Nat) : Int) = i by omega]; exact e') (k := (blW cl).toNat) (by omega)
        omega
    · rw [decide_eq_false e, hsm i (by omega) h1]
  · rintro rfl
    rw [cntTo_full]
    · omega
    · intro i hi
      rw [has_whole _ (by omega) (by omega)]
      simp; omega

/-! ### Taking and giving. -/
theorem take_spec {st cl fr : Int} (h : rightB st cl fr = true) (hm : Mask fr) (ht : takeB st fr = true) :
    st = 1 ∧ 0 ≤ cl ∧ cl < 4 ∧ 0 ≤ leastW fr ∧ leastW fr < blW cl ∧ hasB fr (leastW fr) = true ∧ (∀ i, i < leastW fr → hasB fr i = false) ∧ rightB st cl (woutW fr (leastW fr)) = true := by
  simp only [takeB, Bool.and_eq_true, decide_eq_true_eq] at ht
  obtain ⟨rfl, hl⟩ := ht
  have h0 : fr ≠ 0 := by simpa [leastB] using hl
  obtain ⟨a, b, c, d⟩ := least_spec hm h0
  rcases right_iff.1 h with ⟨e, -⟩ | ⟨-, c0, c1, hs⟩
  · omega
  · have hlt : leastW fr < blW cl := by
      rcases Int.lt_or_le (leastW fr) (blW cl) with h' | h'
      · exact h'
      · rw [(small_iff hm).1 hs _ h' b] at c; cases c
    refine ⟨rfl, c0, c1, a, hlt, c, d, right_iff.2 (.inr ⟨.inl rfl, c0, c1, (small_iff (mask_wout _ _)).2 fun i i0 i1 => ?_⟩)⟩
    rw [has_wout _ _ hm, (small_iff hm).1 hs i i0 i1]; rfl
theorem give_spec {st cl fr i : Int} (h : rightB st cl fr = true) (hm : Mask fr) (hg : giveB st cl fr i = true) :
    (st = 1 ∨ st = 2) ∧ 0 ≤ cl ∧ cl < 4 ∧ 0 ≤ i ∧ i < blW cl ∧ i < 32 ∧ hasB fr i = false ∧ rightB st cl (withW fr i) = true := by
  simp only [giveB, Bool.and_eq_true, decide_eq_true_eq, Bool.not_eq_true'] at hg
  obtain ⟨hu, i0, i1, hno⟩ := hg
  have hb := bl_bound cl
  rcases right_iff.1 h with ⟨rfl, -⟩ | ⟨hst, c0, c1, hs⟩
  · simp [useB] at hu
  · refine ⟨hst, c0, c1, i0, i1, by omega, hno, right_iff.2 (.inr ⟨hst, c0, c1, (small_iff (mask_with hm)).2 fun j j0 j1 => ?_⟩)⟩
    rw [has_with, (small_iff hm).1 hs j j0 j1]
    have : ¬ j = i := by omega
    simp [this]
theorem mask_take {st fr : Int} (hm : Mask fr) : Mask (takeF st fr) := by
  unfold takeF; split
  · exact mask_wout _ _
  · exact hm
theorem mask_give {st cl fr i : Int} (hm : Mask fr) : Mask (giveF st cl fr i) := by
  unfold giveF; split
  · exact mask_with hm
  · exact hm
theorem right_take {st cl fr : Int} (h : rightB st cl fr = true) (hm : Mask fr) : rightB st cl (takeF st fr) = true := by
  unfold takeF; split
  · rename_i ht; exact (take_spec h hm ht).2.2.2.2.2.2.2
  · exact h
theorem right_give {st cl fr i : Int} (h : rightB st cl fr = true) (hm : Mask fr) : rightB st cl (giveF st cl fr i) = true := by
  unfold giveF; split
  · rename_i hg; exact (give_spec h hm hg).2.2.2.2.2.2.2
  · exact h
/-- What is taken and given back is as it was. -/
theorem give_back {st cl fr : Int} (h : rightB st cl fr = true) (hm : Mask fr) (ht : takeB st fr = true) :
    giveB st cl (woutW fr (leastW fr)) (leastW fr) = true ∧ withW (woutW fr (leastW fr)) (leastW fr) = fr ∧ countW fr = countW (woutW fr (leastW fr)) + 1 := by
  obtain ⟨rfl, c0, c1, l0, l1, l2, l3, -⟩ := take_spec h hm ht
  have hb := bl_bound cl
  refine ⟨?_, ?_, count_wout hm l0 (by omega) l2⟩
  · simp [giveB, useB, l0, l1, has_wout _ _ hm, inB_yes l0 (show leastW fr < 32 by omega)]
  · refine mask_ext (mask_with (mask_wout _ _)) hm fun i i0 i1 => ?_
    rw [has_with, has_wout _ _ hm, inB_yes l0 (by omega)]
    by_cases e : i = leastW fr
    · subst e; simp [l2]
    · simp [e]
theorem has_give {st cl fr i j : Int} (hb : 0 ≤ blW cl ∧ blW cl ≤ 16) : hasB (giveF st cl fr i) j = (hasB fr j || (giveB st cl fr i && decide (j = i))) := by
  unfold giveF
  cases hg : giveB st cl fr i with
  | false => simp
  | true =>
    have hg' := hg
    simp only [giveB, Bool.and_eq_true, decide_eq_true_eq] at hg'
    rw [if_pos rfl, has_with, inB_yes (by omega) (by omega)]
/-- Whatever the order in which two unlike blocks are given. -/
theorem give_give {st cl fr : Int} (hm : Mask fr) {a b : Int} (h : ¬ a = b) :
    giveB st cl (giveF st cl fr b) a = giveB st cl fr a ∧ giveB st cl (giveF st cl fr a) b = giveB st cl fr b ∧ giveF st cl (giveF st cl fr a) b = giveF st cl (giveF st cl fr b) a := by
  have hb := bl_bound cl
  have e1 : ∀ a b : Int, ¬ a = b → giveB st cl (giveF st cl fr b) a = giveB st cl fr a := by
    intro a b h
    unfold giveB
    rw [has_give hb]
    simp [h]
  refine ⟨e1 a b h, e1 b a (fun e => h e.symm), ?_⟩
  refine mask_ext (mask_give (mask_give hm)) (mask_give (mask_give hm)) fun i i0 i1 => ?_
  rw [has_give hb, has_give hb, has_give hb, has_give hb, e1 a b h, e1 b a (fun e => h e.symm)]
  cases hasB fr i <;> cases giveB st cl fr a <;> cases giveB st cl fr b <;> simp
  exact Bool.or_comm _ _

/-! ### From the new span on. -/
/-- The mask of lo, lo+1, .. hi-1. -/
def midM (lo hi : Int) : Int := ofF fun j => decide (lo ≤ j) && decide (j < hi)
theorem mask_mid (lo hi : Int) : Mask (midM lo hi) := mask_of _
theorem has_mid (lo hi : Int) {j : Int} (h0 : 0 ≤ j) (h1 : j < 32) : hasB (midM lo hi) j = (decide (lo ≤ j) && decide (j < hi)) := has_of _ h0 h1
theorem mid_new (n : Int) (h : 0 ≤ n) (h' : n ≤ 32) : midM 0 n = wholeW n := of_eq (mask_whole n) fun i i0 i1 => by
  rw [has_whole n i0 i1]
  simp [i0]
theorem mid_take {lo hi : Int} (h0 : 0 ≤ lo) (h1 : lo < hi) (h2 : hi ≤ 32) : leastB (midM lo hi) = true ∧ leastW (midM lo hi) = lo ∧ woutW (midM lo hi) lo = midM (lo + 1) hi := by
  obtain ⟨a, b⟩ := least_of (m := midM lo hi) (i := lo) (mask_mid _ _) (by rw [has_mid _ _ h0 (by omega)]; simp [h1]) fun j hj => by
    by_cases h : 0 ≤ j ∧ j < 32
    · rw [has_mid _ _ h.1 h.2]; simp; omega
    · exact has_out h
  refine ⟨by simp [leastB, a], b, mask_ext (mask_wout _ _) (mask_mid _ _) fun i i0 i1 => ?_⟩
  rw [has_wout _ _ (mask_mid _ _), has_mid _ _ i0 i1, has_mid _ _ i0 i1, inB_yes h0 (by omega)]
  by_cases e : i = lo
  · subst e; simp; omega
  · have : decide (lo ≤ i) = decide (lo + 1 ≤ i) := by rw [decide_eq_decide]; omega
    simp [e, this]
theorem mid_none (n : Int) : midM n n = 0 := none_of (mask_mid _ _) fun j h0 h1 => by
  rw [has_mid _ _ h0 h1]; simp
theorem mid_count {lo hi : Int} (h0 : 0 ≤ lo) (h1 : lo ≤ hi) (h2 : hi ≤ 32) : countW (midM lo hi) = hi - lo := by
  have key : ∀ k : Nat, ∀ lo : Int, 0 ≤ lo → lo ≤ hi → hi - lo = k → countW (midM lo hi) = k := by
    intro k
    induction k with
    | zero =>
      intro lo h0 h1 e
      obtain rfl : lo = hi := by omega
      rw [mid_none]
      exact (count_zero ⟨by decide, by decide⟩).2 rfl
    | succ k ih =>
      intro lo h0 h1 e
      rw [count_wout (mask_mid _ _) h0 (by omega) (i := lo) (by rw [has_mid _ _ h0 (by omega)]; simp only [Bool.and_eq_true, decide_eq_true_eq]; omega), (mid_take h0 (by omega) h2).2.2, ih (lo + 1) (by omega) (by omega) (by omega)]
      omega
  have := key (hi - lo).toNat lo h0 h1 (by omega)
  omega
end Go.Proofs.YtjlflbaglaillaaDoor
