/- Spans as data: what chapter 6 says of them, plain lemmas. -/
import Derived.Test.YtonjnedlnfdanaaDoorClass
import Derived.Test.YtonjnedlnfdanaaDoorBits
import Derived.Test.YtonjnedlnfdanaaDoorBase
import Derived.Deep.Slices
import Derived.Lib.SmallJoins
namespace Go.Proofs.YtonjnedlnfdanaaDoor
set_option linter.unusedSimpArgs false
set_option linter.unusedVariables false
open Go.ChangeShapes Go.WideShapes Go.ChangeAt Go.RowKit

def useB (st : Int) : Bool := decide (st = 1) || decide (st = 2)
def clB (cl : Int) : Bool := decide (0 ≤ cl) && decide (cl < 4)
/-- No bit from the class's blocks on. -/
def smallB (cl fr : Int) : Bool := decide (fr < 2 ^ (blW cl).toNat)
def rightB (st cl fr : Int) : Bool := if st = 0 then decide (cl = 0) && decide (fr = 0) else useB st && (clB cl && smallB cl fr)
def takeB (st fr : Int) : Bool := decide (st = 1) && leastB fr
def takeI (st fr : Int) : Int := if takeB st fr = true then leastW fr else 0
def takeF (st fr : Int) : Int := if takeB st fr = true then woutW fr (leastW fr) else fr
def giveB (st cl fr i : Int) : Bool := useB st && (decide (0 ≤ i) && (decide (i < blW cl) && !hasB fr i))
def giveF (st cl fr i : Int) : Int := if giveB st cl fr i = true then withW fr i else fr
def fullB (st fr : Int) : Bool := useB st && (fr == 0)
def emptyB (st cl fr : Int) : Bool := useB st && (fr == wholeW (blW cl))
def usedN (st cl fr : Int) : Int := if useB st = true then blW cl - countW fr else 0

theorem bl_bound (c : Int) : 0 ≤ blW c ∧ blW c ≤ 16 := by have := cl_cases c; omega
theorem use_iff (st : Int) : useB st = true ↔ st = 1 ∨ st = 2 := by simp [useB]
theorem small_iff {cl fr : Int} (h : Mask fr) : smallB cl fr = true ↔ ∀ i, blW cl ≤ i → i < 32 → hasB fr i = false := by
  have hb := bl_bound cl
  have e : ((2 : Int) ^ (blW cl).toNat) = ((2 ^ (blW cl).toNat : Nat) : Int) := by simp
  simp only [smallB, decide_eq_true_eq]
  rw [e]
  have hc := toNat_cast h
  constructor
  · intro hlt i h0 h1
    unfold hasB
    rw [inB_yes (by omega) h1, Bool.true_and]
    refine Nat.testBit_lt_two_pow (Nat.lt_of_lt_of_le (show fr.toNat < 2 ^ (blW cl).toNat by omega) ?_)
    exact Nat.pow_le_pow_right (by decide) (by omega)
  · intro hall
    have : fr.toNat < 2 ^ (blW cl).toNat := by
      refine Nat.lt_pow_two_of_testBit _ fun i hi => ?_
      by_cases h1 : i < 32
      · have := hall i (by omega) (by omega)
        unfold hasB at this
        rw [inB_yes (by omega) (by omega), Bool.true_and] at this
        simpa using this
      · exact lt_testBit (by have := h.2; omega) (by omega)
    omega
theorem right_iff {st cl fr : Int} : rightB st cl fr = true ↔ (st = 0 ∧ cl = 0 ∧ fr = 0) ∨ ((st = 1 ∨ st = 2) ∧ 0 ≤ cl ∧ cl < 4 ∧ smallB cl fr = true) := by
  unfold rightB
  split
  · rename_i h
    subst h
    simp
  · rename_i h
    simp [useB, clB, h, and_assoc]
theorem right_out {st cl fr : Int} (h : rightB st cl fr = true) (hm : Mask fr) {i : Int} (hi : ¬ (0 ≤ i ∧ i < blW cl)) : hasB fr i = false := by
  by_cases h32 : 0 ≤ i ∧ i < 32
  · rcases right_iff.1 h with ⟨-, -, rfl⟩ | ⟨-, -, -, hs⟩
    · exact has_zero i
    · exact (small_iff hm).1 hs i (by omega) h32.2
  · exact has_out h32
theorem right_mask_new (cl : Int) (h : 0 ≤ cl) (h' : cl < 4) : rightB 1 cl (wholeW (blW cl)) = true := by
  refine right_iff.2 (.inr ⟨.inl rfl, h, h', (small_iff (mask_whole _)).2 fun i h0 h1 => ?_⟩)
  have := bl_bound cl
  rw [has_whole _ (by omega) h1]
  simp; omega

/-! ### Counts. -/
theorem cntTo_flip {f g : Int → Bool} {i : Nat} (h0 : f i = false) (h1 : g i = true) (h : ∀ j : Nat, j ≠ i → f j = g j) : ∀ {k : Nat}, i < k → cntTo g k = cntTo f k + 1
  | 0, hk => by omega
  | k + 1, hk => by
    simp only [cntTo]
    by_cases e : i = k
    · subst e
      rw [h0, h1, cntTo_congr (f := f) (g := g) fun j hj => h j (by omega)]
      simp
    · rw [cntTo_flip h0 h1 h (k := k) (by omega), h k (by omega)]
      omega
theorem cntTo_full {f : Int → Bool} : ∀ {k : Nat}, (∀ i : Nat, i < k → f i = true) → cntTo f k = k
  | 0, _ => rfl
  | k + 1, h => by
    simp only [cntTo]
    rw [cntTo_full (k := k) fun i hi => h i (by omega), h k (by omega)]
    simp
theorem cntTo_less {f : Int → Bool} {i : Nat} (h : f i = false) : ∀ {k : Nat}, i < k → cntTo f k < k
  | 0, hk => by omega
  | k + 1, hk => by
    simp only [cntTo]
    by_cases e : i = k
    · subst e; rw [h]; have := (cntTo_bound f i).2; simp; omega
    · have := cntTo_less h (k := k) (by omega)
      split <;> omega
theorem count_with {m i : Int} (h0 : 0 ≤ i) (h1 : i < 32) (h : hasB m i = false) : countW (withW m i) = countW m + 1 := by
  unfold countW
  refine cntTo_flip (i := i.toNat) ?_ ?_ ?_ (by omega)
  · rw [show ((i.toNat : Nat) : Int) = i by omega]; exact h
  · rw [show ((i.toNat : Nat) : Int) = i by omega, has_with, inB_yes h0 h1]; simp
  · intro j hj
    rw [has_with]
    have : ¬ ((j : Int) = i) := by omega
    simp [this]
theorem count_wout {m i : Int} (hm : Mask m) (h0 : 0 ≤ i) (h1 : i < 32) (h : hasB m i = true) : countW m = countW (woutW m i) + 1 := by
  unfold countW
  refine cntTo_flip (i := i.toNat) ?_ ?_ ?_ (by omega)
  · rw [show ((i.toNat : Nat) : Int) = i by omega, has_wout _ _ hm, inB_yes h0 h1]; simp
  · rw [show ((i.toNat : Nat) : Int) = i by omega]; exact h
  · intro j hj
    rw [has_wout _ _ hm]
    have : ¬ ((j : Int) = i) := by omega
    simp [this]
theorem count_zero {m : Int} (hm : Mask m) : countW m = 0 ↔ m = 0 := by
  constructor
  · intro h
    refine none_of hm fun j h0 h1 => ?_
    cases e : hasB m j with
    | false => rfl
    | true =>
      have := cntTo_pos (f := hasB m) (k := 32) (i := j.toNat) (by omega) (by rw [show ((j.toNat : Nat) : Int) = j by omega]; exact e)
      unfold countW at h
      omega
  · rintro rfl; decide +kernel
/-- Bits below n alone: how many there are. -/
theorem count_below {m : Int} {n : Nat} (hn : n ≤ 32) (h : ∀ i : Int, n ≤ i → i < 32 → hasB m i = false) : countW m = cntTo (hasB m) n := by
  unfold countW
  rw [show 32 = n + (32 - n) by omega, cntTo_add, cntTo_zero (f := fun i => hasB m (n + i)), Int.add_zero]
  intro i hi
  exact h _ (by omega) (by omega)
theorem count_le {cl fr : Int} (hm : Mask fr) (hs : smallB cl fr = true) : 0 ≤ countW fr ∧ countW fr ≤ blW cl := by
  have hb := bl_bound cl
  rw [count_below (n := (blW cl).toNat) (by omega) fun i h0 h1 => (small_iff hm).1 hs i (by omega) h1]
  have := cntTo_bound (hasB fr) (blW cl).toNat
  omega
theorem count_whole {cl fr : Int} (hm : Mask fr) (hs : smallB cl fr = true) : countW fr = blW cl ↔ fr = wholeW (blW cl) := by
  have hb := bl_bound cl
  have hsm := (small_iff hm).1 hs
  rw [count_below (n := (blW cl).toNat) (by omega) fun i h0 h1 => hsm i (by omega) h1]
  constructor
  · intro h
    refine mask_ext hm (mask_whole _) fun i h0 h1 => ?_
    rw [has_whole _ h0 h1]
    by_cases e : i < blW cl
    · rw [decide_eq_true e]
      cases e' : hasB fr i with
      | true => rfl
      | false =>
        have := cntTo_less (f := hasB fr) (i := i.toNat) (by rw [show ((i.toNat : Nat) : Int) = i by omega]; exact e') (k := (blW cl).toNat) (by omega)
        omega
    · rw [decide_eq_false e, hsm i (by omega) h1]
  · rintro rfl
    rw [cntTo_full]
    · omega
    · intro i hi
      rw [has_whole _ (by omega) (by omega)]
      simp; omega

/-! ### Taking and giving. -/
theorem take_spec {st cl fr : Int} (h : rightB st cl fr = true) (hm : Mask fr) (ht : takeB st fr = true) :
    st = 1 ∧ 0 ≤ cl ∧ cl < 4 ∧ 0 ≤ leastW fr ∧ leastW fr < blW cl ∧ hasB fr (leastW fr) = true ∧ (∀ i, i < leastW fr → hasB fr i = false) ∧ rightB st cl (woutW fr (leastW fr)) = true := by
  simp only [takeB, Bool.and_eq_true, decide_eq_true_eq] at ht
  obtain ⟨rfl, hl⟩ := ht
  have h0 : fr ≠ 0 := by simpa [leastB] using hl
  obtain ⟨a, b, c, d⟩ := least_spec hm h0
  rcases right_iff.1 h with ⟨e, -⟩ | ⟨-, c0, c1, hs⟩
  · omega
  · have hlt : leastW fr < blW cl := by
      rcases Int.lt_or_le (leastW fr) (blW cl) with h' | h'
      · exact h'
      · rw [(small_iff hm).1 hs _ h' b] at c; cases c
    refine ⟨rfl, c0, c1, a, hlt, c, d, right_iff.2 (.inr ⟨.inl rfl, c0, c1, (small_iff (mask_wout _ _)).2 fun i i0 i1 => ?_⟩)⟩
    rw [has_wout _ _ hm, (small_iff hm).1 hs i i0 i1]; rfl
theorem give_spec {st cl fr i : Int} (h : rightB st cl fr = true) (hm : Mask fr) (hg : giveB st cl fr i = true) :
    (st = 1 ∨ st = 2) ∧ 0 ≤ cl ∧ cl < 4 ∧ 0 ≤ i ∧ i < blW cl ∧ i < 32 ∧ hasB fr i = false ∧ rightB st cl (withW fr i) = true := by
  simp only [giveB, Bool.and_eq_true, decide_eq_true_eq, Bool.not_eq_true'] at hg
  obtain ⟨hu, i0, i1, hno⟩ := hg
  have hb := bl_bound cl
  rcases right_iff.1 h with ⟨rfl, -⟩ | ⟨hst, c0, c1, hs⟩
  · simp [useB] at hu
  · refine ⟨hst, c0, c1, i0, i1, by omega, hno, right_iff.2 (.inr ⟨hst, c0, c1, (small_iff (mask_with hm)).2 fun j j0 j1 => ?_⟩)⟩
    rw [has_with, (small_iff hm).1 hs j j0 j1]
    have : ¬ j = i := by omega
    simp [this]
theorem mask_take {st fr : Int} (hm : Mask fr) : Mask (takeF st fr) := by
  unfold takeF; split
  · exact mask_wout _ _
  · exact hm
theorem mask_give {st cl fr i : Int} (hm : Mask fr) : Mask (giveF st cl fr i) := by
  unfold giveF; split
  · exact mask_with hm
  · exact hm
theorem right_take {st cl fr : Int} (h : rightB st cl fr = true) (hm : Mask fr) : rightB st cl (takeF st fr) = true := by
  unfold takeF; split
  · rename_i ht; exact (take_spec h hm ht).2.2.2.2.2.2.2
  · exact h
theorem right_give {st cl fr i : Int} (h : rightB st cl fr = true) (hm : Mask fr) : rightB st cl (giveF st cl fr i) = true := by
  unfold giveF; split
  · rename_i hg; exact (give_spec h hm hg).2.2.2.2.2.2.2
  · exact h
/-- What is taken and given back is as it was. -/
theorem give_back {st cl fr : Int} (h : rightB st cl fr = true) (hm : Mask fr) (ht : takeB st fr = true) :
    giveB st cl (woutW fr (leastW fr)) (leastW fr) = true ∧ withW (woutW fr (leastW fr)) (leastW fr) = fr ∧ countW fr = countW (woutW fr (leastW fr)) + 1 := by
  obtain ⟨rfl, c0, c1, l0, l1, l2, l3, -⟩ := take_spec h hm ht
  have hb := bl_bound cl
  refine ⟨?_, ?_, count_wout hm l0 (by omega) l2⟩
  · simp [giveB, useB, l0, l1, has_wout _ _ hm, inB_yes l0 (show leastW fr < 32 by omega)]
  · refine mask_ext (mask_with (mask_wout _ _)) hm fun i i0 i1 => ?_
    rw [has_with, has_wout _ _ hm, inB_yes l0 (by omega)]
    by_cases e : i = leastW fr
    · subst e; simp [l2]
    · simp [e]
theorem has_give {st cl fr i j : Int} (hb : 0 ≤ blW cl ∧ blW cl ≤ 16) : hasB (giveF st cl fr i) j = (hasB fr j || (giveB st cl fr i && decide (j = i))) := by
  unfold giveF
  cases hg : giveB st cl fr i with
  | false => simp
  | true =>
    have hg' := hg
    simp only [giveB, Bool.and_eq_true, decide_eq_true_eq] at hg'
    rw [if_pos rfl, has_with, inB_yes (by omega) (by omega)]
/-- Whatever the order in which two unlike blocks are given. -/
theorem give_give {st cl fr : Int} (hm : Mask fr) {a b : Int} (h : ¬ a = b) :
    giveB st cl (giveF st cl fr b) a = giveB st cl fr a ∧ giveB st cl (giveF st cl fr a) b = giveB st cl fr b ∧ giveF st cl (giveF st cl fr a) b = giveF st cl (giveF st cl fr b) a := by
  have hb := bl_bound cl
  have e1 : ∀ a b : Int, ¬ a = b → giveB st cl (giveF st cl fr b) a = giveB st cl fr a := by
    intro a b h
    unfold giveB
    rw [has_give hb]
    simp [h]
  refine ⟨e1 a b h, e1 b a (fun e => h e.symm), ?_⟩
  refine mask_ext (mask_give (mask_give hm)) (mask_give (mask_give hm)) fun i i0 i1 => ?_
  rw [has_give hb, has_give hb, has_give hb, has_give hb, e1 a b h, e1 b a (fun e => h e.symm)]
  cases hasB fr i <;> cases giveB st cl fr a <;> cases giveB st cl fr b <;> simp
  exact Bool.or_comm _ _

/-! ### From the new span on. -/
/-- The mask of lo, lo+1, .. hi-1. -/
def midM (lo hi : Int) : Int := ofF fun j => decide (lo ≤ j) && decide (j < hi)
theorem mask_mid (lo hi : Int) : Mask (midM lo hi) := mask_of _
theorem has_mid (lo hi : Int) {j : Int} (h0 : 0 ≤ j) (h1 : j < 32) : hasB (midM lo hi) j = (decide (lo ≤ j) && decide (j < hi)) := has_of _ h0 h1
theorem mid_new (n : Int) (h : 0 ≤ n) (h' : n ≤ 32) : midM 0 n = wholeW n := of_eq (mask_whole n) fun i i0 i1 => by
  rw [has_whole n i0 i1]
  simp [i0]
theorem mid_take {lo hi : Int} (h0 : 0 ≤ lo) (h1 : lo < hi) (h2 : hi ≤ 32) : leastB (midM lo hi) = true ∧ leastW (midM lo hi) = lo ∧ woutW (midM lo hi) lo = midM (lo + 1) hi := by
  obtain ⟨a, b⟩ := least_of (m := midM lo hi) (i := lo) (mask_mid _ _) (by rw [has_mid _ _ h0 (by omega)]; simp [h1]) fun j hj => by
    by_cases h : 0 ≤ j ∧ j < 32
    · rw [has_mid _ _ h.1 h.2]; simp; omega
    · exact has_out h
  refine ⟨by simp [leastB, a], b, mask_ext (mask_wout _ _) (mask_mid _ _) fun i i0 i1 => ?_⟩
  rw [has_wout _ _ (mask_mid _ _), has_mid _ _ i0 i1, has_mid _ _ i0 i1, inB_yes h0 (by omega)]
  by_cases e : i = lo
  · subst e; simp; omega
  · have : decide (lo ≤ i) = decide (lo + 1 ≤ i) := by rw [decide_eq_decide]; omega
    simp [e, this]
theorem mid_none (n : Int) : midM n n = 0 := none_of (mask_mid _ _) fun j h0 h1 => by
  rw [has_mid _ _ h0 h1]; simp
theorem mid_count {lo hi : Int} (h0 : 0 ≤ lo) (h1 : lo ≤ hi) (h2 : hi ≤ 32) : countW (midM lo hi) = hi - lo := by
  have key : ∀ k : Nat, ∀ lo : Int, 0 ≤ lo → lo ≤ hi → hi - lo = k → countW (midM lo hi) = k := by
    intro k
    induction k with
    | zero =>
      intro lo h0 h1 e
      obtain rfl : lo = hi := by omega
      rw [mid_none]
      exact (count_zero ⟨by decide, by decide⟩).2 rfl
    | succ k ih =>
      intro lo h0 h1 e
      rw [count_wout (mask_mid _ _) h0 (by omega) (i := lo) (by rw [has_mid _ _ h0 (by omega)]; simp only [Bool.and_eq_true, decide_eq_true_eq]; omega), (mid_take h0 (by omega) h2).2.2, ih (lo + 1) (by omega) (by omega) (by omega)]
      omega
  have := key (hi - lo).toNat lo h0 h1 (by omega)
  omega
end Go.Proofs.YtonjnedlnfdanaaDoor
/-! api.Span and api.Heap by value, slices of spans: what a walk reads of them. -/
namespace Go.Proofs.YtonjnedlnfdanaaDoor
set_option linter.unusedSimpArgs false
set_option linter.unusedVariables false
open Go.ChangeShapes Go.WideShapes Go.ChangeAt Go.RowKit Go.Joins

/-- A span's data. -/
structure Sp where
  st : Int
  cl : Int
  fr : Int
def Sp.val (s : Sp) : Value := .agg #[.int .i64 s.st, .int .i64 s.cl, .int .u32 s.fr]
instance : Inhabited Sp := ⟨⟨0, 0, 0⟩⟩
/-- What Go's types say of them. -/
def Sp.wf (s : Sp) : Prop := (-9223372036854775808 ≤ s.st ∧ s.st ≤ 9223372036854775807) ∧ (-9223372036854775808 ≤ s.cl ∧ s.cl ≤ 9223372036854775807) ∧ (0 ≤ s.fr ∧ s.fr < 4294967296)
/-- A slice's n spans. -/
def Spans (W : World) (p : Option Addr) (n : Nat) (s : Nat → Sp) : Prop :=
  ∀ i, i < n → (∃ b off, p = some ⟨b, off, none⟩ ∧ b < W.heap.size ∧ W.cell? ⟨b, off + i * 3, none⟩ = some (.int .i64 (s i).st) ∧ W.cell? ⟨b, off + i * 3 + 1, none⟩ = some (.int .i64 (s i).cl) ∧ W.cell? ⟨b, off + i * 3 + 2, none⟩ = some (.int .u32 (s i).fr)) ∧ (s i).wf
theorem Spans.below {W W' : World} {p : Option Addr} {n : Nat} {s : Nat → Sp} (h : Spans W p n s) (hb : Below W.heap.size W W') : Spans W' p n s := fun i hi => by
  obtain ⟨⟨b, off, e, hlt, h0, h1, h2⟩, hw⟩ := h i hi
  exact ⟨⟨b, off, e, Nat.lt_of_lt_of_le hlt hb.size, by rw [hb.cell (p := ⟨b, _, none⟩) hlt]; exact h0, by rw [hb.cell (p := ⟨b, _, none⟩) hlt]; exact h1, by rw [hb.cell (p := ⟨b, _, none⟩) hlt]; exact h2⟩, hw⟩
theorem Spans.congr {W : World} {p : Option Addr} {n : Nat} {s s' : Nat → Sp} (h : Spans W p n s) (e : ∀ i, i < n → s i = s' i) : Spans W p n s' := fun i hi => by rw [← e i hi]; exact h i hi
theorem Spans.wf {W : World} {p : Option Addr} {n : Nat} {s : Nat → Sp} (h : Spans W p n s) : ∀ i, i < n → (s i).wf := fun i hi => (h i hi).2

theorem no_spot {W : World} {b off : Nat} {sp : Option Nat} {v : Value} (h : W.cell? ⟨b, off, sp⟩ = some v) : sp = none := by
  cases sp with
  | none => rfl
  | some s => unfold World.cell? at h; split at h <;> simp at h
theorem add_zero_self (a : Addr) : a.add 0 = a := rfl
theorem add_off (b off j : Nat) : (⟨b, off, none⟩ : Addr).add j = ⟨b, off + j, none⟩ := by unfold Addr.add; split <;> simp_all

section
variable {H : Type} {enc : TypeId × Value → H} {P : Program} {W : World} {base : Nat}

theorem trod_i64 {t : TypeId} {fuel : Nat} {v : Value} {y : DataW H × List MemPlace} (hu : P.underlying t = some (.int .i64)) (h : DataW.trod enc P W 0 (fun _ => true) true fuel t [v] = some y) : ∃ a : Int, v = .int .i64 a ∧ -9223372036854775808 ≤ a ∧ a ≤ 9223372036854775807 := by
  obtain ⟨a, e, -, wa⟩ := DataW.trod_int hu h
  simp at e
  exact ⟨a, e, wf_i64 wa⟩
theorem trod_u32 {t : TypeId} {fuel : Nat} {v : Value} {y : DataW H × List MemPlace} (hu : P.underlying t = some (.int .u32)) (h : DataW.trod enc P W 0 (fun _ => true) true fuel t [v] = some y) : ∃ a : Int, v = .int .u32 a ∧ 0 ≤ a ∧ a < 4294967296 := by
  obtain ⟨a, e, -, wa⟩ := DataW.trod_int hu h
  simp at e
  exact ⟨a, e, wf_u32 wa⟩
theorem trod_boolean {t : TypeId} {fuel : Nat} {v : Value} {y : DataW H × List MemPlace} (hu : P.underlying t = some .bool) (h : DataW.trod enc P W 0 (fun _ => true) true fuel t [v] = some y) : ∃ a : Bool, v = .bool a := by
  obtain ⟨a, e, -⟩ := DataW.trod_bool hu h
  simp at e
  exact ⟨a, e⟩

/-- A span by value, opened. -/
theorem open_span {t : TypeId} {f0 f1 f2 : Field} {v : Value} {d : DataW H} {p : List MemPlace}
    (hs : P.underlying t = some (.struct #[f0, f1, f2])) (hone : Go.Deep.oneCellFields P #[f0, f1, f2] = true) (hC : P.cellsOf t = 3)
    (hu0 : P.underlying f0.type = some (.int .i64)) (hu1 : P.underlying f1.type = some (.int .i64)) (hu2 : P.underlying f2.type = some (.int .u32))
    (hok : Value.okWide P W .any base t v) (h : DataW.Trod enc P W 0 (fun _ => true) true t v d p) : ∃ s : Sp, v = s.val ∧ s.wf := by
  obtain ⟨v0, v1, v2, y0, y1, y2, m, rfl, -, -, hy0, hy1, hy2⟩ := open_agg3 hs hone hC hok h
  obtain ⟨a, rfl, ha⟩ := trod_i64 hu0 hy0
  obtain ⟨b, rfl, hb⟩ := trod_i64 hu1 hy1
  obtain ⟨c, rfl, hc⟩ := trod_u32 hu2 hy2
  exact ⟨⟨a, b, c⟩, rfl, ha, hb, hc⟩

/-- A slice of integers, of cells. -/
theorem trod_slice_ints {t e : TypeId} {k : IntKind} {fuel : Nat} {v : Value} {y : DataW H × List MemPlace} (ht : P.underlying t = some (.slice e)) (he : P.underlying e = some (.int k)) (hc : P.cellsOf e = 1)
    (hf : DataW.trod enc P W 0 (fun _ => true) true fuel t [v] = some y) :
    ∃ (p : Option Addr) (n cap : Nat) (z : Nat → Int), v = .slice p n cap ∧ n ≤ maxLen ∧ Ints k W p n z ∧ (p = none → n = 0 ∧ cap = 0) ∧ n ≤ cap ∧ cap ≤ maxLen := by
  rcases open_ints ht he hc hf with ⟨hcs, -⟩ | ⟨a, len, cap', zs, hcs, -, hl, hm, hz, -, hcell, hwz⟩
  · simp at hcs
    subst hcs
    exact ⟨none, 0, 0, fun _ => 0, rfl, by decide, fun i hi => by omega, fun _ => ⟨rfl, rfl⟩, Nat.le_refl _, by decide⟩
  · simp at hcs
    subst hcs
    simp only [if_true] at hz
    refine ⟨some a, len, cap', fun i => zs.getD i 0, rfl, by omega, fun i hi => ?_, fun h => (by cases h), hl, hm⟩
    have h0 := hcell 0 (by omega)
    have hi' := hcell i (by omega)
    obtain ⟨b, off, sp⟩ := a
    rw [add_zero_self] at h0
    obtain rfl := no_spot h0
    rw [add_off] at hi'
    exact ⟨⟨b, off, rfl, World.block_lt_of_cell? W _ hi', hi'⟩, hwz _ (by
      have hlt : i < zs.length := by omega
      show zs.getD i 0 ∈ zs
      simp [List.getD, hlt])⟩
/-- A slice of spans, of cells. -/
theorem trod_slice_spans {t e : TypeId} {f0 f1 f2 : Field} {fuel : Nat} {v : Value} {y : DataW H × List MemPlace} (ht : P.underlying t = some (.slice e)) (he : P.underlying e = some (.struct #[f0, f1, f2])) (hc : P.cellsOf e = 3)
    (hone : Go.Deep.oneCellFields P #[f0, f1, f2] = true) (hu0 : P.underlying f0.type = some (.int .i64)) (hu1 : P.underlying f1.type = some (.int .i64)) (hu2 : P.underlying f2.type = some (.int .u32))
    (hf : DataW.trod enc P W 0 (fun _ => true) true fuel t [v] = some y) :
    ∃ (p : Option Addr) (n cap : Nat) (s : Nat → Sp), v = .slice p n cap ∧ n ≤ maxLen ∧ Spans W p n s ∧ (p = none → n = 0 ∧ cap = 0) ∧ n ≤ cap ∧ cap ≤ maxLen := by
  rcases Go.Deep.open_slice ht hf with ⟨hcs, -⟩ | ⟨a, len, cap, m, nf, D, Pl, hcs, -, hl, hm, hmm, -, hx⟩
  · simp at hcs
    subst hcs
    exact ⟨none, 0, 0, fun _ => ⟨0, 0, 0⟩, rfl, by decide, fun i hi => by omega, fun _ => ⟨rfl, rfl⟩, Nat.le_refl _, by decide⟩
  · simp at hcs
    subst hcs
    simp only [if_true] at hmm
    rw [hc] at hx
    have each : ∀ i, i < len → ∃ q : Sp, q.wf ∧ W.cell? (a.add (i * 3)) = some (.int .i64 q.st) ∧ W.cell? (a.add (i * 3 + 1)) = some (.int .i64 q.cl) ∧ W.cell? (a.add (i * 3 + 2)) = some (.int .u32 q.fr) := by
      intro i hi
      obtain ⟨cs', h1, h2⟩ := hx i (by omega)
      obtain ⟨-, hlen, hcell⟩ := World.cells?_some h1
      obtain ⟨xs, k, -, -, -, hxl, hfl⟩ := DataW.trod_struct he h2
      match xs, hxl, cs', hlen with
      | [y0, y1, y2], _, [v0, v1, v2], _ =>
        have g0 := hfl 0 f0 rfl
        have g1 := hfl 1 f1 rfl
        have g2 := hfl 2 f2 rfl
        obtain ⟨o0, k0⟩ := Go.Deep.hone_of hone 0 f0 rfl
        obtain ⟨o1, k1⟩ := Go.Deep.hone_of hone 1 f1 rfl
        obtain ⟨o2, k2⟩ := Go.Deep.hone_of hone 2 f2 rfl
        simp [o0, k0] at g0
        simp [o1, k1] at g1
        simp [o2, k2] at g2
        obtain ⟨a0, rfl, ha⟩ := trod_i64 hu0 g0
        obtain ⟨b0, rfl, hb⟩ := trod_i64 hu1 g1
        obtain ⟨c0, rfl, hc⟩ := trod_u32 hu2 g2
        have e0 := hcell 0 (by omega)
        have e1 := hcell 1 (by omega)
        have e2 := hcell 2 (by omega)
        rw [Go.Deep.add_add] at e0 e1 e2
        exact ⟨⟨a0, b0, c0⟩, ⟨ha, hb, hc⟩, by simpa using e0, by simpa using e1, by simpa using e2⟩
    obtain ⟨q, hq⟩ := Go.Deep.choose_lt (α := Sp) (h := each)
    refine ⟨some a, len, cap, q, rfl, by omega, fun i hi => ?_, fun h => (by cases h), hl, hm⟩
    obtain ⟨hw, h0, h1, h2⟩ := hq i hi
    obtain ⟨b, off, sp⟩ := a
    have hz := (hq 0 (by omega)).2.1
    rw [Nat.zero_mul, add_zero_self] at hz
    obtain rfl := no_spot hz
    rw [add_off] at h0 h1 h2
    exact ⟨⟨b, off, rfl, World.block_lt_of_cell? W _ h0, h0, by rw [← Nat.add_assoc] at h1; exact h1, by rw [← Nat.add_assoc] at h2; exact h2⟩, hw⟩

end

/-- A span in a variable of the call's own (its block). -/
def SpBox (b : Nat) (st cl fr : Int) (W : World) : Prop := b < W.heap.size ∧ W.cell? ⟨b, 0, none⟩ = some (.int .i64 st) ∧ W.cell? ⟨b, 1, none⟩ = some (.int .i64 cl) ∧ W.cell? ⟨b, 2, none⟩ = some (.int .u32 fr) ∧ W.frozen? ⟨b, 0, none⟩ = false ∧ W.frozen? ⟨b, 1, none⟩ = false ∧ W.frozen? ⟨b, 2, none⟩ = false
theorem SpBox.below {b : Nat} {st cl fr : Int} {W W' : World} (h : SpBox b st cl fr W) (hb : Below W.heap.size W W') : SpBox b st cl fr W' := by
  obtain ⟨h0, h1, h2, h3, h4, h5, h6⟩ := h
  refine ⟨Nat.lt_of_lt_of_le h0 hb.size, ?_, ?_, ?_, ?_, ?_, ?_⟩
  · rw [hb.cell (p := ⟨b, _, none⟩) h0]; exact h1
  · rw [hb.cell (p := ⟨b, _, none⟩) h0]; exact h2
  · rw [hb.cell (p := ⟨b, _, none⟩) h0]; exact h3
  · rw [hb.frozen (p := ⟨b, _, none⟩) h0]; exact h4
  · rw [hb.frozen (p := ⟨b, _, none⟩) h0]; exact h5
  · rw [hb.frozen (p := ⟨b, _, none⟩) h0]; exact h6
theorem SpBox.new (W : World) (st cl fr : Int) (t : TypeId) : SpBox W.heap.size st cl fr (W.alloc (.cells #[.int .i64 st, .int .i64 cl, .int .u32 fr] t)) := by
  refine ⟨by simp, ?_, ?_, ?_, ?_, ?_, ?_⟩ <;> simp [go_sem]
theorem SpBox.store {b : Nat} {st cl fr : Int} {W : World} (h : SpBox b st cl fr W) (st' cl' fr' : Int) : SpBox b st' cl' fr' (((W.setCell ⟨b, 0, none⟩ (.int .i64 st')).setCell ⟨b, 1, none⟩ (.int .i64 cl')).setCell ⟨b, 2, none⟩ (.int .u32 fr')) := by
  obtain ⟨h0, h1, h2, h3, h4, h5, h6⟩ := h
  refine ⟨by simpa [World.setCell] using h0, ?_, ?_, ?_, ?_, ?_, ?_⟩ <;> simp [go_sem, *]
/-- Three cells in a variable of the call's own (its block): a heap, say. -/
def Box3 (b : Nat) (x y z : Value) (W : World) : Prop := b < W.heap.size ∧ W.cell? ⟨b, 0, none⟩ = some x ∧ W.cell? ⟨b, 1, none⟩ = some y ∧ W.cell? ⟨b, 2, none⟩ = some z ∧ W.frozen? ⟨b, 0, none⟩ = false ∧ W.frozen? ⟨b, 1, none⟩ = false ∧ W.frozen? ⟨b, 2, none⟩ = false
theorem Box3.below {b : Nat} {x y z : Value} {W W' : World} (h : Box3 b x y z W) (hb : Below W.heap.size W W') : Box3 b x y z W' := by
  obtain ⟨h0, h1, h2, h3, h4, h5, h6⟩ := h
  refine ⟨Nat.lt_of_lt_of_le h0 hb.size, ?_, ?_, ?_, ?_, ?_, ?_⟩
  · rw [hb.cell (p := ⟨b, _, none⟩) h0]; exact h1
  · rw [hb.cell (p := ⟨b, _, none⟩) h0]; exact h2
  · rw [hb.cell (p := ⟨b, _, none⟩) h0]; exact h3
  · rw [hb.frozen (p := ⟨b, _, none⟩) h0]; exact h4
  · rw [hb.frozen (p := ⟨b, _, none⟩) h0]; exact h5
  · rw [hb.frozen (p := ⟨b, _, none⟩) h0]; exact h6
theorem Box3.new (W : World) (x y z : Value) (t : TypeId) : Box3 W.heap.size x y z (W.alloc (.cells #[x, y, z] t)) := by
  refine ⟨by simp, ?_, ?_, ?_, ?_, ?_, ?_⟩ <;> simp [go_sem]
theorem Box3.store0 {b : Nat} {x y z : Value} {W : World} (h : Box3 b x y z W) (x' : Value) : Box3 b x' y z (W.setCell ⟨b, 0, none⟩ x') := by
  obtain ⟨h0, h1, h2, h3, h4, h5, h6⟩ := h
  refine ⟨by simpa [World.setCell] using h0, ?_, ?_, ?_, ?_, ?_, ?_⟩ <;> simp [go_sem, *]
theorem Box3.store1 {b : Nat} {x y z : Value} {W : World} (h : Box3 b x y z W) (y' : Value) : Box3 b x y' z (W.setCell ⟨b, 1, none⟩ y') := by
  obtain ⟨h0, h1, h2, h3, h4, h5, h6⟩ := h
  refine ⟨by simpa [World.setCell] using h0, ?_, ?_, ?_, ?_, ?_, ?_⟩ <;> simp [go_sem, *]
theorem Box3.store2 {b : Nat} {x y z : Value} {W : World} (h : Box3 b x y z W) (z' : Value) : Box3 b x y z' (W.setCell ⟨b, 2, none⟩ z') := by
  obtain ⟨h0, h1, h2, h3, h4, h5, h6⟩ := h
  refine ⟨by simpa [World.setCell] using h0, ?_, ?_, ?_, ?_, ?_, ?_⟩ <;> simp [go_sem, *]
theorem Box3.other {b : Nat} {x y z : Value} {W : World} (h : Box3 b x y z W) {g : Nat} (hg : ¬ g = b) (o : Nat) (u : Value) : Box3 b x y z (W.setCell ⟨g, o, none⟩ u) := by
  obtain ⟨h0, h1, h2, h3, h4, h5, h6⟩ := h
  have e : (W.setCell ⟨g, o, none⟩ u).heap[b]? = W.heap[b]? := Below.heap_setCell W _ u b (fun h => hg h.symm)
  refine ⟨by simpa [World.setCell] using h0, ?_, ?_, ?_, ?_, ?_, ?_⟩
  · rw [World.cell?_of_block (w := W) (a := ⟨b, _, none⟩) e]; exact h1
  · rw [World.cell?_of_block (w := W) (a := ⟨b, _, none⟩) e]; exact h2
  · rw [World.cell?_of_block (w := W) (a := ⟨b, _, none⟩) e]; exact h3
  · rw [World.frozen?_of_block (w := W) (a := ⟨b, _, none⟩) e]; exact h4
  · rw [World.frozen?_of_block (w := W) (a := ⟨b, _, none⟩) e]; exact h5
  · rw [World.frozen?_of_block (w := W) (a := ⟨b, _, none⟩) e]; exact h6
/-- n Bools in a block. -/
def Bools (n b : Nat) (f : Nat → Bool) (W : World) : Prop := b < W.heap.size ∧ ∀ j, j < n → W.cell? ⟨b, j, none⟩ = some (.bool (f j)) ∧ W.frozen? ⟨b, j, none⟩ = false
theorem Bools.new (W : World) (n : Nat) (t : TypeId) : Bools n W.heap.size (fun _ => false) (W.alloc (.cells (Array.replicate n (.bool false)) t)) :=
  ⟨by simp, fun j hj => ⟨by simp [go_sem, hj], by simp [go_sem]⟩⟩
theorem Bools.below {n b : Nat} {f : Nat → Bool} {W W' : World} (h : Bools n b f W) (hb : Below W.heap.size W W') : Bools n b f W' :=
  ⟨Nat.lt_of_lt_of_le h.1 hb.size, fun j hj => by rw [hb.cell (p := ⟨b, j, none⟩) h.1, hb.frozen (p := ⟨b, j, none⟩) h.1]; exact h.2 j hj⟩
theorem Bools.other {n b : Nat} {f : Nat → Bool} {W : World} (h : Bools n b f W) {g : Nat} (hg : ¬ g = b) (o : Nat) (u : Value) : Bools n b f (W.setCell ⟨g, o, none⟩ u) :=
  ⟨by simpa [World.setCell] using h.1, fun j hj => by
    have e : (W.setCell ⟨g, o, none⟩ u).heap[b]? = W.heap[b]? := Below.heap_setCell W _ u b (fun h => hg h.symm)
    rw [World.cell?_of_block (w := W) (a := ⟨b, j, none⟩) e, World.frozen?_of_block (w := W) (a := ⟨b, j, none⟩) e]; exact h.2 j hj⟩
theorem Bools.set {n b : Nat} {f g : Nat → Bool} {W : World} {i : Nat} {v : Bool} (h : Bools n b f W) (hi : i < n) (e : ∀ j, j < n → g j = if j = i then v else f j) : Bools n b g (W.setCell ⟨b, i, none⟩ (.bool v)) :=
  ⟨by simpa [World.setCell] using h.1, fun j hj => by
    have h1 := h.2 j hj
    have h2 := h.2 i hi
    constructor
    · rw [e j hj]
      by_cases hji : j = i
      · subst hji; simp [go_sem, *]
      · simp [go_sem, *]
    · simp [go_sem, *]⟩
theorem SpBox.other {b : Nat} {st cl fr : Int} {W : World} (h : SpBox b st cl fr W) {g : Nat} (hg : ¬ g = b) (o : Nat) (u : Value) : SpBox b st cl fr (W.setCell ⟨g, o, none⟩ u) := by
  obtain ⟨h0, h1, h2, h3, h4, h5, h6⟩ := h
  have e : (W.setCell ⟨g, o, none⟩ u).heap[b]? = W.heap[b]? := Below.heap_setCell W _ u b (fun h => hg h.symm)
  refine ⟨by simpa [World.setCell] using h0, ?_, ?_, ?_, ?_, ?_, ?_⟩
  · rw [World.cell?_of_block (w := W) (a := ⟨b, _, none⟩) e]; exact h1
  · rw [World.cell?_of_block (w := W) (a := ⟨b, _, none⟩) e]; exact h2
  · rw [World.cell?_of_block (w := W) (a := ⟨b, _, none⟩) e]; exact h3
  · rw [World.frozen?_of_block (w := W) (a := ⟨b, _, none⟩) e]; exact h4
  · rw [World.frozen?_of_block (w := W) (a := ⟨b, _, none⟩) e]; exact h5
  · rw [World.frozen?_of_block (w := W) (a := ⟨b, _, none⟩) e]; exact h6

section
variable {H : Type} {enc : TypeId × Value → H} {P : Program} {W : World} {base : Nat}
/-- A heap's data. -/
structure Hp where
  n : Nat
  z : Nat → Int
  m : Nat
  s : Nat → Sp
  b : Bool
/-- What a heap's two slices read as. -/
structure HpAt (W : World) (p : Option Addr) (c : Nat) (q : Option Addr) (d : Nat) (h : Hp) : Prop where
  ints : Ints .u64 W p h.n h.z
  spans : Spans W q h.m h.s
  nle : h.n ≤ maxLen
  mle : h.m ≤ maxLen
  pnil : p = none → h.n = 0 ∧ c = 0
  qnil : q = none → h.m = 0 ∧ d = 0
  ncap : h.n ≤ c ∧ c ≤ maxLen
  mcap : h.m ≤ d ∧ d ≤ maxLen
theorem HpAt.below {W W' : World} {p : Option Addr} {c : Nat} {q : Option Addr} {d : Nat} {h : Hp} (hh : HpAt W p c q d h) (hb : Below W.heap.size W W') : HpAt W' p c q d h :=
  ⟨hh.ints.below hb, hh.spans.below hb, hh.nle, hh.mle, hh.pnil, hh.qnil, hh.ncap, hh.mcap⟩
theorem open_heap {t e1 e2 : TypeId} {f0 f1 f2 g0 g1 g2 : Field} {v : Value} {d : DataW H} {p : List MemPlace}
    (hs : P.underlying t = some (.struct #[f0, f1, f2])) (hone : Go.Deep.oneCellFields P #[f0, f1, f2] = true) (hC : P.cellsOf t = 3)
    (hu0 : P.underlying f0.type = some (.slice e1)) (he1 : P.underlying e1 = some (.int .u64)) (hc1 : P.cellsOf e1 = 1)
    (hu1 : P.underlying f1.type = some (.slice e2)) (he2 : P.underlying e2 = some (.struct #[g0, g1, g2])) (hc2 : P.cellsOf e2 = 3)
    (hone2 : Go.Deep.oneCellFields P #[g0, g1, g2] = true) (hg0 : P.underlying g0.type = some (.int .i64)) (hg1 : P.underlying g1.type = some (.int .i64)) (hg2 : P.underlying g2.type = some (.int .u32))
    (hu2 : P.underlying f2.type = some .bool)
    (hok : Value.okWide P W .any base t v) (h : DataW.Trod enc P W 0 (fun _ => true) true t v d p) : ∃ (x : Hp) (p : Option Addr) (c : Nat) (q : Option Addr) (d : Nat), v = .agg #[.slice p x.n c, .slice q x.m d, .bool x.b] ∧ HpAt W p c q d x := by
  obtain ⟨v0, v1, v2, y0, y1, y2, m, rfl, -, -, hy0, hy1, hy2⟩ := open_agg3 hs hone hC hok h
  obtain ⟨p, n, c, z, rfl, hn, hz, hp, hpc⟩ := trod_slice_ints hu0 he1 hc1 hy0
  obtain ⟨q, k, d, s, rfl, hk, hs', hq, hqc⟩ := trod_slice_spans hu1 he2 hc2 hone2 hg0 hg1 hg2 hy1
  obtain ⟨b, rfl⟩ := trod_boolean hu2 hy2
  exact ⟨⟨n, z, k, s, b⟩, p, c, q, d, rfl, hz, hs', hn, hk, hp, hq, hpc, hqc⟩
end
end Go.Proofs.YtonjnedlnfdanaaDoor
/-! Two masks and the operations on bits: |, &, &^ as sets; and what they say of a span's blocks. -/
namespace Go.Proofs.YtonjnedlnfdanaaDoor
set_option linter.unusedSimpArgs false
set_option linter.unusedVariables false
open Go.ChangeShapes Go.WideShapes Go.ChangeAt Go.RowKit

theorem mask_nat {m : Int} (h : Mask m) : m.toNat < 2 ^ 32 := by have := h.1; have := h.2; omega
def orM (a b : Int) : Int := ((a.toNat ||| b.toNat : Nat) : Int)
def andM (a b : Int) : Int := ((a.toNat &&& b.toNat : Nat) : Int)
def anotM (a b : Int) : Int := ((BitVec.ofNat 32 a.toNat &&& ~~~ BitVec.ofNat 32 b.toNat).toNat : Int)
theorem bits_or {a b : Int} (ha : Mask a) (hb : Mask b) : bits .or .u32 a b = orM a b := by
  have e : bits .or .u32 (a.toNat : Int) (b.toNat : Int) = orM a b := by
    show IntKind.u32.wrap ((BitVec.ofInt 32 (a.toNat : Int) ||| BitVec.ofInt 32 (b.toNat : Int)).toNat : Int) = _
    have h1 : (a.toNat ||| b.toNat) < 2 ^ 32 := Nat.or_lt_two_pow (mask_nat ha) (mask_nat hb)
    have h2 := mask_nat ha
    have h3 := mask_nat hb
    rw [BitVec.toNat_or, ofInt32 _ (by omega), ofInt32 _ (by omega), IntKind.wrap_u32]
    unfold orM
    omega
  rw [toNat_cast ha, toNat_cast hb] at e
  exact e
theorem bits_and {a b : Int} (ha : Mask a) (hb : Mask b) : bits .and .u32 a b = andM a b := by
  have e : bits .and .u32 (a.toNat : Int) (b.toNat : Int) = andM a b := by
    show IntKind.u32.wrap ((BitVec.ofInt 32 (a.toNat : Int) &&& BitVec.ofInt 32 (b.toNat : Int)).toNat : Int) = _
    have h1 : (a.toNat &&& b.toNat) < 2 ^ 32 := Nat.and_lt_two_pow _ (mask_nat hb)
    have h2 := mask_nat ha
    have h3 := mask_nat hb
    rw [BitVec.toNat_and, ofInt32 _ (by omega), ofInt32 _ (by omega), IntKind.wrap_u32]
    unfold andM
    omega
  rw [toNat_cast ha, toNat_cast hb] at e
  exact e
theorem bits_andNot {a b : Int} (ha : Mask a) (hb : Mask b) : bits .andNot .u32 a b = anotM a b := by
  have e : bits .andNot .u32 (a.toNat : Int) (b.toNat : Int) = anotM a b := by
    show IntKind.u32.wrap ((BitVec.ofInt 32 (a.toNat : Int) &&& ~~~ BitVec.ofInt 32 (b.toNat : Int)).toNat : Int) = _
    have h1 : (BitVec.ofNat 32 a.toNat &&& ~~~ BitVec.ofNat 32 b.toNat).toNat < 2 ^ 32 := BitVec.isLt _
    unfold anotM
    rw [BitVec.ofInt_natCast, BitVec.ofInt_natCast, IntKind.wrap_u32]
    omega
  rw [toNat_cast ha, toNat_cast hb] at e
  exact e
theorem mask_or {a b : Int} (ha : Mask a) (hb : Mask b) : Mask (orM a b) := by
  have h1 : (a.toNat ||| b.toNat) < 2 ^ 32 := Nat.or_lt_two_pow (mask_nat ha) (mask_nat hb)
  unfold Mask orM; omega
theorem mask_and {a b : Int} (hb : Mask b) : Mask (andM a b) := by
  have h1 : (a.toNat &&& b.toNat) < 2 ^ 32 := Nat.and_lt_two_pow _ (mask_nat hb)
  unfold Mask andM; omega
theorem mask_anot (a b : Int) : Mask (anotM a b) := by
  have h1 : (BitVec.ofNat 32 a.toNat &&& ~~~ BitVec.ofNat 32 b.toNat).toNat < 2 ^ 32 := BitVec.isLt _
  unfold Mask anotM; omega
theorem has_or (a b i : Int) : hasB (orM a b) i = (hasB a i || hasB b i) := by
  unfold hasB orM
  cases inB i <;> simp [Nat.testBit_or]
theorem has_and (a b i : Int) : hasB (andM a b) i = (hasB a i && hasB b i) := by
  unfold hasB andM
  cases inB i <;> simp [Nat.testBit_and]
theorem has_anot {a : Int} (b i : Int) (ha : Mask a) : hasB (anotM a b) i = (hasB a i && !hasB b i) := by
  unfold hasB anotM
  cases hi : inB i with
  | false => simp
  | true =>
    have h0 := (inB_iff i).1 hi
    simp only [Int.toNat_natCast, Bool.true_and]
    rw [← BitVec.getLsbD, BitVec.getLsbD_and, BitVec.getLsbD_not, BitVec.getLsbD_ofNat, BitVec.getLsbD_ofNat]
    have : i.toNat < 32 := by omega
    simp [this]

/-- No bit from the class's blocks on: the ways to ask. -/
theorem small_or {cl fr : Int} (hm : Mask fr) : (orM fr (wholeW (blW cl)) == wholeW (blW cl)) = smallB cl fr := by
  have hb := bl_bound cl
  have hw := mask_whole (blW cl)
  have : orM fr (wholeW (blW cl)) = wholeW (blW cl) ↔ smallB cl fr = true := by
    rw [small_iff hm]
    constructor
    · intro h i i0 i1
      have := has_or fr (wholeW (blW cl)) i
      rw [h, has_whole _ (by omega) i1, decide_eq_false (by omega)] at this
      simpa using this.symm
    · intro h
      refine mask_ext (mask_or hm hw) hw fun i i0 i1 => ?_
      rw [has_or, has_whole _ i0 i1]
      by_cases e : i < blW cl
      · simp [e]
      · rw [h i (by omega) i1]; simp
  cases h : smallB cl fr with
  | true => rw [this.2 h]; simp
  | false =>
    have : ¬ orM fr (wholeW (blW cl)) = wholeW (blW cl) := fun e => by rw [this.1 e] at h; cases h
    simpa using this
theorem small_anot {cl fr : Int} (hm : Mask fr) : (anotM fr (wholeW (blW cl)) == 0) = smallB cl fr := by
  have hb := bl_bound cl
  have : anotM fr (wholeW (blW cl)) = 0 ↔ smallB cl fr = true := by
    rw [small_iff hm]
    constructor
    · intro h i i0 i1
      have := has_anot (wholeW (blW cl)) i hm
      rw [h, has_whole _ (by omega) i1, decide_eq_false (by omega), has_zero] at this
      simpa using this.symm
    · intro h
      refine none_of (mask_anot _ _) fun i i0 i1 => ?_
      rw [has_anot _ _ hm, has_whole _ i0 i1]
      by_cases e : i < blW cl
      · simp [e]
      · rw [h i (by omega) i1]; simp
  cases h : smallB cl fr with
  | true => rw [this.2 h]; simp
  | false =>
    have : ¬ anotM fr (wholeW (blW cl)) = 0 := fun e => by rw [this.1 e] at h; cases h
    simpa using this
theorem small_and {cl fr : Int} (hm : Mask fr) : (andM fr (wholeW (blW cl)) == fr) = smallB cl fr := by
  have hb := bl_bound cl
  have hw := mask_whole (blW cl)
  have : andM fr (wholeW (blW cl)) = fr ↔ smallB cl fr = true := by
    rw [small_iff hm]
    constructor
    · intro h i i0 i1
      have := has_and fr (wholeW (blW cl)) i
      rw [h, has_whole _ (by omega) i1, decide_eq_false (by omega)] at this
      simpa using this
    · intro h
      refine mask_ext (mask_and hw) hm fun i i0 i1 => ?_
      rw [has_and, has_whole _ i0 i1]
      by_cases e : i < blW cl
      · simp [e]
      · rw [h i (by omega) i1]; simp
  cases h : smallB cl fr with
  | true => rw [this.2 h]; simp
  | false =>
    have : ¬ andM fr (wholeW (blW cl)) = fr := fun e => by rw [this.1 e] at h; cases h
    simpa using this
theorem small_le {cl fr : Int} : decide (fr ≤ wholeW (blW cl)) = smallB cl fr := by
  unfold smallB
  rcases cl_cases cl with ⟨-, -, h, -⟩ | ⟨-, -, h, -⟩ | ⟨-, -, h, -⟩ | ⟨-, -, h, -⟩ | ⟨-, -, h, -⟩
  all_goals
    rw [h, decide_eq_decide]
    simp [wholeW]
    omega
end Go.Proofs.YtonjnedlnfdanaaDoor
/-! Rows of spans that a call makes: what it owns, read as data. -/
namespace Go.Proofs.YtonjnedlnfdanaaDoor
set_option linter.unusedSimpArgs false
set_option linter.unusedVariables false
open Go.ChangeShapes Go.WideShapes Go.ChangeAt Go.RowKit Go.Joins

def Sp.vals (s : Sp) : List Value := [.int .i64 s.st, .int .i64 s.cl, .int .u32 s.fr]
/-- The cells of n spans. -/
def spVals (n : Nat) (s : Nat → Sp) : List Value := (List.range n).flatMap fun i => (s i).vals
theorem spVals_snoc (n : Nat) (s : Nat → Sp) : spVals n s ++ (s n).vals = spVals (n + 1) s := by simp [spVals, List.range_succ]
theorem spVals_length (n : Nat) (s : Nat → Sp) : (spVals n s).length = n * 3 := by
  induction n with
  | zero => rfl
  | succ n ih => rw [← spVals_snoc, List.length_append, ih]; simp [Sp.vals]; omega
theorem spVals_get (s : Nat → Sp) : ∀ {n i : Nat}, i < n → (spVals n s)[i * 3]? = some (.int .i64 (s i).st) ∧ (spVals n s)[i * 3 + 1]? = some (.int .i64 (s i).cl) ∧ (spVals n s)[i * 3 + 2]? = some (.int .u32 (s i).fr)
  | 0, i, h => by omega
  | n + 1, i, h => by
    rw [← spVals_snoc]
    have hl := spVals_length n s
    by_cases e : i = n
    · subst e
      refine ⟨?_, ?_, ?_⟩
      · rw [List.getElem?_append_right (by omega), hl]; simp [Sp.vals]
      · rw [List.getElem?_append_right (by omega), hl, show i * 3 + 1 - i * 3 = 1 by omega]; rfl
      · rw [List.getElem?_append_right (by omega), hl, show i * 3 + 2 - i * 3 = 2 by omega]; rfl
    · have ih := spVals_get s (n := n) (i := i) (by omega)
      refine ⟨?_, ?_, ?_⟩
      · rw [List.getElem?_append_left (by omega)]; exact ih.1
      · rw [List.getElem?_append_left (by omega)]; exact ih.2.1
      · rw [List.getElem?_append_left (by omega)]; exact ih.2.2
theorem spVals_congr {n : Nat} {s t : Nat → Sp} (h : ∀ i, i < n → s i = t i) : spVals n s = spVals n t := by
  induction n with
  | zero => rfl
  | succ n ih => rw [← spVals_snoc, ← spVals_snoc, ih fun i hi => h i (by omega), h n (by omega)]
theorem vals_oneCell (s : Sp) : ∀ u ∈ s.vals, u.oneCell' = true := by
  intro u hu
  simp [Sp.vals] at hu
  rcases hu with rfl | rfl | rfl <;> rfl
/-- What a call owns, as spans. -/
theorem spans_owned {w : World} {base : Nat} {e : TypeId} {p : Option Addr} {n cap : Nat} {s : Nat → Sp} (h : w.ownsRow base e 3 (.slice p n cap) n (spVals n s)) (hw : ∀ i, i < n → (s i).wf) : Spans w p n s := by
  intro i hi
  refine ⟨?_, hw i hi⟩
  rcases h.2 with ⟨-, h0⟩ | ⟨g, cap', cur, hv, hb, hg, hn, hm, hs, ht⟩
  · omega
  · have e0 : p = some ⟨g, 0, none⟩ := by injection hv
    subst e0
    have hlt : g < w.heap.size := by
      rcases Nat.lt_or_ge g w.heap.size with h' | h'
      · exact h'
      · rw [Array.getElem?_eq_none h'] at hg; cases hg
    obtain ⟨a0, a1, a2⟩ := spVals_get s hi
    rw [← ht] at a0 a1 a2
    rw [List.getElem?_take, if_pos (by omega)] at a0 a1 a2
    refine ⟨g, 0, rfl, hlt, ?_, ?_, ?_⟩
    · rw [Nat.zero_add, cell_of_row w g _ cur e (0, 0) hg]; simpa using a0
    · rw [Nat.zero_add, cell_of_row w g _ cur e (0, 0) hg]; simpa using a1
    · rw [Nat.zero_add, cell_of_row w g _ cur e (0, 0) hg]; simpa using a2
/-- What stays behind a write into another row. -/
theorem grown_heap {w w' : World} {row : Option Nat} (hg : w.grownBy w' row) {b : Nat} (hl : b < w.heap.size) (hne : row ≠ some b) : w'.heap[b]? = w.heap[b]? := hg.block b hl (fun e => hne e.symm)
theorem Box3.grown {b : Nat} {x y z : Value} {w w' : World} {row : Option Nat} (h : Box3 b x y z w) (hg : w.grownBy w' row) (hne : row ≠ some b) : Box3 b x y z w' := by
  obtain ⟨h0, h1, h2, h3, h4, h5, h6⟩ := h
  have e := grown_heap hg h0 hne
  refine ⟨Nat.lt_of_lt_of_le h0 hg.size, ?_, ?_, ?_, ?_, ?_, ?_⟩
  · rw [World.cell?_of_block (w := w) (a := ⟨b, _, none⟩) e]; exact h1
  · rw [World.cell?_of_block (w := w) (a := ⟨b, _, none⟩) e]; exact h2
  · rw [World.cell?_of_block (w := w) (a := ⟨b, _, none⟩) e]; exact h3
  · rw [World.frozen?_of_block (w := w) (a := ⟨b, _, none⟩) e]; exact h4
  · rw [World.frozen?_of_block (w := w) (a := ⟨b, _, none⟩) e]; exact h5
  · rw [World.frozen?_of_block (w := w) (a := ⟨b, _, none⟩) e]; exact h6
theorem SpBox.grown {b : Nat} {st cl fr : Int} {w w' : World} {row : Option Nat} (h : SpBox b st cl fr w) (hg : w.grownBy w' row) (hne : row ≠ some b) : SpBox b st cl fr w' := Box3.grown (x := .int .i64 st) (y := .int .i64 cl) (z := .int .u32 fr) h hg hne
theorem three_new (w : World) (a b c : Value) (t : TypeId) : ∀ j u, [a, b, c][j]? = some u → (w.alloc (.cells #[a, b, c] t)).cell? ((⟨w.heap.size, 0, none⟩ : Addr).add j) = some u := by
  intro j u hj
  match j, hj with
  | 0, hj => simp at hj; subst hj; simp [Addr.add]
  | 1, hj => simp at hj; subst hj; simp [Addr.add]
  | 2, hj => simp at hj; subst hj; simp [Addr.add]
theorem Box3.stores {b : Nat} {x y z : Value} {W : World} (h : Box3 b x y z W) (x' y' z' : Value) : Box3 b x' y' z' (((W.setCell ⟨b, 0, none⟩ x').setCell ⟨b, 1, none⟩ y').setCell ⟨b, 2, none⟩ z') := ((h.store0 x').store1 y').store2 z'
theorem Box3.others {b : Nat} {x y z : Value} {W : World} (h : Box3 b x y z W) {g : Nat} (hg : ¬ g = b) (x' y' z' : Value) : Box3 b x y z (((W.setCell ⟨g, 0, none⟩ x').setCell ⟨g, 1, none⟩ y').setCell ⟨g, 2, none⟩ z') := ((h.other hg 0 x').other hg 1 y').other hg 2 z'
theorem below_stores {W w1 : World} {n : Nat} (hb : Below n W w1) {g : Nat} (hg : n ≤ g) (x y z : Value) : Below n W (((w1.setCell ⟨g, 0, none⟩ x).setCell ⟨g, 1, none⟩ y).setCell ⟨g, 2, none⟩ z) := ((hb.setCell hg x).setCell hg y).setCell hg z
end Go.Proofs.YtonjnedlnfdanaaDoor
