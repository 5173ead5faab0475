/- Two masks and the operations on bits: |, &, &^ as sets; and what they say of a span's blocks. -/
import Derived.Test.YtjlflbaglaillaaDoorSpanFn
namespace Go.Proofs.YtjlflbaglaillaaDoor
set_option linter.unusedSimpArgs false
set_option linter.unusedVariables false
open Go.ChangeShapes Go.WideShapes Go.ChangeAt Go.RowKit

theorem mask_nat {m : Int} (h : Mask m) : m.toNat < 2 ^ 32 := by have := h.1; have := h.2; omega
def orM (a b : Int) : Int := ((a.toNat ||| b.toNat : Nat) : Int)
def andM (a b : Int) : Int := ((a.toNat &&& b.toNat : Nat) : Int)
def anotM (a b : Int) : Int := ((BitVec.ofNat 32 a.toNat &&& ~~~ BitVec.ofNat 32 b.toNat).toNat : Int)
theorem bits_or {a b : Int} (ha : Mask a) (hb : Mask b) : bits .or .u32 a b = orM a b := by
  have e : bits .or .u32 (a.toNat : Int) (b.toNat : Int) = orM a b := by
    show IntKind.u32.wrap ((BitVec.ofInt 32 (a.toNat : Int) ||| BitVec.ofInt 32 (b.toNat : Int)).toNat : Int) = _
    have h1 : (a.toNat ||| b.toNat) < 2 ^ 32 := Nat.or_lt_two_pow (mask_nat ha) (mask_nat hb)
    have h2 := mask_nat ha
    have h3 := mask_nat hb
    rw [BitVec.toNat_or, ofInt32 _ (by omega), ofInt32 _ (by omega), IntKind.wrap_u32]
    unfold orM
    omega
  rw [toNat_cast ha, toNat_cast hb] at e
  exact e
theorem bits_and {a b : Int} (ha : Mask a) (hb : Mask b) : bits .and .u32 a b = andM a b := by
  have e : bits .and .u32 (a.toNat : Int) (b.toNat : Int) = andM a b := by
    show IntKind.u32.wrap ((BitVec.ofInt 32 (a.toNat : Int) &&& BitVec.ofInt 32 (b.toNat : Int)).toNat : Int) = _
    have h1 : (a.toNat &&& b.toNat) < 2 ^ 32 := Nat.and_lt_two_pow _ (mask_nat hb)
    have h2 := mask_nat ha
    have h3 := mask_nat hb
    rw [BitVec.toNat_and, ofInt32 _ (by omega), ofInt32 _ (by omega), IntKind.wrap_u32]
    unfold andM
    omega
  rw [toNat_cast ha, toNat_cast hb] at e
  exact e
theorem bits_andNot {a b : Int} (ha : Mask a) (hb : Mask b) : bits .andNot .u32 a b = anotM a b := by
  have e : bits .andNot .u32 (a.toNat : Int) (b.toNat : Int) = anotM a b := by
    show IntKind.u32.wrap ((BitVec.ofInt 32 (a.toNat : Int) &&& ~~~ BitVec.ofInt 32 (b.toNat : Int)).toNat : Int) = _
    have h1 : (BitVec.ofNat 32 a.toNat &&& ~~~ BitVec.ofNat 32 b.toNat).toNat < 2 ^ 32 := BitVec.isLt _
    unfold anotM
    rw [BitVec.ofInt_natCast, BitVec.ofInt_natCast, IntKind.wrap_u32]
    omega
  rw [toNat_cast ha, toNat_cast hb] at e
  exact e
theorem mask_or {a b : Int} (ha : Mask a) (hb : Mask b) : Mask (orM a b) := by
  have h1 : (a.toNat ||| b.toNat) < 2 ^ 32 := Nat.or_lt_two_pow (mask_nat ha) (mask_nat hb)
  unfold Mask orM; omega
theorem mask_and {a b : Int} (hb : Mask b) : Mask (andM a b) := by
  have h1 : (a.toNat &&& b.toNat) < 2 ^ 32 := Nat.and_lt_two_pow _ (mask_nat hb)
  unfold Mask andM; omega
theorem mask_anot (a b : Int) : Mask (anotM a b) := by
  have h1 : (BitVec.ofNat 32 a.toNat &&& ~~~ BitVec.ofNat 32 b.toNat).toNat < 2 ^ 32 := BitVec.isLt _
  unfold Mask anotM; omega
theorem has_or (a b i : Int) : hasB (orM a b) i = (hasB a i || hasB b i) := by
  unfold hasB orM
  cases inB i <;> simp [Nat.testBit_or]
theorem has_and (a b i : Int) : hasB (andM a b) i = (hasB a i && hasB b i) := by
  unfold hasB andM
  cases inB i <;> simp [Nat.testBit_and]
theorem has_anot {a : Int} (b i : Int) (ha : Mask a) : hasB (anotM a b) i = (hasB a i && !hasB b i) := by
  unfold hasB anotM
  cases hi : inB i with
  | false => simp
  | true =>
    have h0 := (inB_iff i).1 hi
    simp only [Int.toNat_natCast, Bool.true_and]
    rw [← BitVec.getLsbD, BitVec.getLsbD_and, BitVec.getLsbD_not, BitVec.getLsbD_ofNat, BitVec.getLsbD_ofNat]
    have : i.toNat < 32 := by omega
    simp [this]

/-- No bit from the class's blocks on: the ways to ask. -/
theorem small_or {cl fr : Int} (hm : Mask fr) : (orM fr (wholeW (blW cl)) == wholeW (blW cl)) = smallB cl fr := by
  have hb := bl_bound cl
  have hw := mask_whole (blW cl)
  have : orM fr (wholeW (blW cl)) = wholeW (blW cl) ↔ smallB cl fr = true := by
    rw [small_iff hm]
    constructor
    · intro h i i0 i1
      have := has_or fr (wholeW (blW cl)) i
      rw [h, has_whole _ (by omega) i1, decide_eq_false (by omega)] at this
      simpa using this.symm
    · intro h
      refine mask_ext (mask_or hm hw) hw fun i i0 i1 => ?_
      rw [has_or, has_whole _ i0 i1]
      by_cases e : i < blW cl
      · simp [e]
      · rw [h i (by omega) i1]; simp
  cases h : smallB cl fr with
  | true => rw [this.2 h]; simp
  | false =>
    have : ¬ orM fr (wholeW (blW cl)) = wholeW (blW cl) := fun e => by rw [this.1 e] at h; cases h
    simpa using this
theorem small_anot {cl fr : Int} (hm : Mask fr) : (anotM fr (wholeW (blW cl)) == 0) = smallB cl fr := by
  have hb := bl_bound cl
  have : anotM fr (wholeW (blW cl)) = 0 ↔ smallB cl fr = true := by
    rw [small_iff hm]
    constructor
    · intro h i i0 i1
      have := has_anot (wholeW (blW cl)) i hm
      rw [h, has_whole _ (by omega) i1, decide_eq_false (by omega), has_zero] at this
      simpa using this.symm
    · intro h
      refine none_of (mask_anot _ _) fun i i0 i1 => ?_
      rw [has_anot _ _ hm, has_whole _ i0 i1]
      by_cases e : i < blW cl
      · simp [e]
      · rw [h i (by omega) i1]; simp
  cases h : smallB cl fr with
  | true => rw [this.2 h]; simp
  | false =>
    have : ¬ anotM fr (wholeW (blW cl)) = 0 := fun e => by rw [this.1 e] at h; cases h
    simpa using this
theorem small_and {cl fr : Int} (hm : Mask fr) : (andM fr (wholeW (blW cl)) == fr) = smallB cl fr := by
  have hb := bl_bound cl
  have hw := mask_whole (blW cl)
  have : andM fr (wholeW (blW cl)) = fr ↔ smallB cl fr = true := by
    rw [small_iff hm]
    constructor
    · intro h i i0 i1
      have := has_and fr (wholeW (blW cl)) i
      rw [h, has_whole _ (by omega) i1, decide_eq_false (by omega)] at this
      simpa using this
    · intro h
      refine mask_ext (mask_and hw) hm fun i i0 i1 => ?_
      rw [has_and, has_whole _ i0 i1]
      by_cases e : i < blW cl
      · simp [e]
      · rw [h i (by omega) i1]; simp
  cases h : smallB cl fr with
  | true => rw [this.2 h]; simp
  | false =>
    have : ¬ andM fr (wholeW (blW cl)) = fr := fun e => by rw [this.1 e] at h; cases h
    simpa using this
theorem small_le {cl fr : Int} : decide (fr ≤ wholeW (blW cl)) = smallB cl fr := by
  unfold smallB
  rcases cl_cases cl with ⟨-, -, h, -⟩ | ⟨-, -, h, -⟩ | ⟨-, -, h, -⟩ | ⟨-, -, h, -⟩ | ⟨-, -, h, -⟩
  all_goals
    rw [h, decide_eq_decide]
    simp [wholeW]
    omega
end Go.Proofs.YtjlflbaglaillaaDoor
