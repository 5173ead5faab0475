/- Spans as data: what chapter 6 says of them, plain lemmas. -/
import Derived.Test.YtmbgodncagjncaaDoorB03
import Derived.Test.YtmbgodncagjncaaDoorB04
import Derived.Test.YtmbgodncagjncaaDoorB01
import Derived.Deep.Slices
import Derived.Lib.SmallJoins
namespace Go.Proofs.YtmbgodncagjncaaDoor
set_option linter.unusedSimpArgs false
set_option linter.unusedVariables false
open Go.ChangeShapes Go.WideShapes Go.ChangeAt Go.RowKit

def useB (st : Int) : Bool := decide (st = 1) || decide (st = 2)
def clB (cl : Int) : Bool := decide (0 ≤ cl) && decide (cl < 4)
/-- No bit from the class's blocks on. -/
def smallB (cl fr : Int) : Bool := decide (fr < 2 ^ (blW cl).toNat)
def rightB (st cl fr : Int) : Bool := if st = 0 then decide (cl = 0) && decide (fr = 0) else useB st && (clB cl && smallB cl fr)
def giveB (st cl fr i : Int) : Bool := useB st && (decide (0 ≤ i) && (decide (i < blW cl) && !hasB fr i))
def giveF (st cl fr i : Int) : Int := if giveB st cl fr i = true then withW fr i else fr
def usedN (st cl fr : Int) : Int := if useB st = true then blW cl - countW fr else 0

theorem bl_bound (c : Int) : 0 ≤ blW c ∧ blW c ≤ 16 := by have := cl_cases c; omega
theorem use_iff (st : Int) : useB st = true ↔ st = 1 ∨ st = 2 := by simp [useB]
theorem small_iff {cl fr : Int} (h : Mask fr) : smallB cl fr = true ↔ ∀ i, blW cl ≤ i → i < 32 → hasB fr i = false := by
  have hb := bl_bound cl
  have e : ((2 : Int) ^ (blW cl).toNat) = ((2 ^ (blW cl).toNat : Nat) : Int) := by simp
  simp only [smallB, decide_eq_true_eq]
  rw [e]
  have hc := toNat_cast h
  constructor
  · intro hlt i h0 h1
    unfold hasB
    rw [inB_yes (by omega) h1, Bool.true_and]
    refine Nat.testBit_lt_two_pow (Nat.lt_of_lt_of_le (show fr.toNat < 2 ^ (blW cl).toNat by omega) ?_)
    exact Nat.pow_le_pow_right (by decide) (by omega)
  · intro hall
    have : fr.toNat < 2 ^ (blW cl).toNat := by
      refine Nat.lt_pow_two_of_testBit _ fun i hi => ?_
      by_cases h1 : i < 32
      · have := hall i (by omega) (by omega)
        unfold hasB at this
        rw [inB_yes (by omega) (by omega), Bool.true_and] at this
        simpa using this
      · exact lt_testBit (by have := h.2; omega) (by omega)
    omega
theorem right_iff {st cl fr : Int} : rightB st cl fr = true ↔ (st = 0 ∧ cl = 0 ∧ fr = 0) ∨ ((st = 1 ∨ st = 2) ∧ 0 ≤ cl ∧ cl < 4 ∧ smallB cl fr = true) := by
  unfold rightB
  split
  · rename_i h
    subst h
    simp
  · rename_i h
    simp [useB, clB, h, and_assoc]
theorem right_mask_new (cl : Int) (h : 0 ≤ cl) (h' : cl < 4) : rightB 1 cl (wholeW (blW cl)) = true := by
  refine right_iff.2 (.inr ⟨.inl rfl, h, h', (small_iff (mask_whole _)).2 fun i h0 h1 => ?_⟩)
  have := bl_bound cl
  rw [has_whole _ (by omega) h1]
  simp; omega

/-! ### Counts. -/
theorem cntTo_flip {f g : Int → Bool} {i : Nat} (h0 : f i = false) (h1 : g i = true) (h : ∀ j : Nat, j ≠ i → f j = g j) : ∀ {k : Nat}, i < k → cntTo g k = cntTo f k + 1
  | 0, hk => by omega
  | k + 1, hk => by
    simp only [cntTo]
    by_cases e : i = k
    · subst e
      rw [h0, h1, cntTo_congr (f := f) (g := g) fun j hj => h j (by omega)]
      simp
    · rw [cntTo_flip h0 h1 h (k := k) (by omega), h k (by omega)]
      omega
theorem cntTo_full {f : Int → Bool} : ∀ {k : Nat}, (∀ i : Nat, i < k → f i = true) → cntTo f k = k
  | 0, _ => rfl
  | k + 1, h => by
    simp only [cntTo]
    rw [cntTo_full (k := k) fun i hi => h i (by omega), h k (by omega)]
    simp
theorem cntTo_less {f : Int → Bool} {i : Nat} (h : f i = false) : ∀ {k : Nat}, i < k → cntTo f k < k
  | 0, hk => by omega
  | k + 1, hk => by
    simp only [cntTo]
    by_cases e : i = k
    · subst e; rw [h]; have := (cntTo_bound f i).2; simp; omega
    · have := cntTo_less h (k := k) (by omega)
      split <;> omega
theorem count_with {m i : Int} (h0 : 0 ≤ i) (h1 : i < 32) (h : hasB m i = false) : countW (withW m i) = countW m + 1 := by
  unfold countW
  refine cntTo_flip (i := i.toNat) ?_ ?_ ?_ (by omega)
  · rw [show ((i.toNat : Nat) : Int) = i by omega]; exact h
  · rw [show ((i.toNat : Nat) : Int) = i by omega, has_with, inB_yes h0 h1]; simp
  · intro j hj
    rw [has_with]
    have : ¬ ((j : Int) = i) := by omega
    simp [this]
/-- Bits below n alone: how many there are. -/
theorem count_below {m : Int} {n : Nat} (hn : n ≤ 32) (h : ∀ i : Int, n ≤ i → i < 32 → hasB m i = false) : countW m = cntTo (hasB m) n := by
  unfold countW
  rw [show 32 = n + (32 - n) by omega, cntTo_add, cntTo_zero (f := fun i => hasB m (n + i)), Int.add_zero]
  intro i hi
  exact h _ (by omega) (by omega)
theorem count_whole {cl fr : Int} (hm : Mask fr) (hs : smallB cl fr = true) : countW fr = blW cl ↔ fr = wholeW (blW cl) := by
  have hb := bl_bound cl
  have hsm := (small_iff hm).1 hs
  rw [count_below (n := (blW cl).toNat) (by omega) fun i h0 h1 => hsm i (by omega) h1]
  constructor
  · intro h
    refine mask_ext hm (mask_whole _) fun i h0 h1 => ?_
    rw [has_whole _ h0 h1]
    by_cases e : i < blW cl
    · rw [decide_eq_true e]
      cases e' : hasB fr i with
      | true => rfl
      | false =>
        have := cntTo_less (f := hasB fr) (i := i.toNat) (by rw [show ((i.toNat : Nat) : Int) = i by omega]; exact e') (k := (blW cl).toNat) (by omega)
        omega
    · rw [decide_eq_false e, hsm i (by omega) h1]
  · rintro rfl
    rw [cntTo_full]
    · omega
    · intro i hi
      rw [has_whole _ (by omega) (by omega)]
      simp; omega

/-! ### Taking and giving. -/
theorem give_spec {st cl fr i : Int} (h : rightB st cl fr = true) (hm : Mask fr) (hg : giveB st cl fr i = true) :
    (st = 1 ∨ st = 2) ∧ 0 ≤ cl ∧ cl < 4 ∧ 0 ≤ i ∧ i < blW cl ∧ i < 32 ∧ hasB fr i = false ∧ rightB st cl (withW fr i) = true := by
  simp only [giveB, Bool.and_eq_true, decide_eq_true_eq, Bool.not_eq_true'] at hg
  obtain ⟨hu, i0, i1, hno⟩ := hg
  have hb := bl_bound cl
  rcases right_iff.1 h with ⟨rfl, -⟩ | ⟨hst, c0, c1, hs⟩
  · simp [useB] at hu
  · refine ⟨hst, c0, c1, i0, i1, by omega, hno, right_iff.2 (.inr ⟨hst, c0, c1, (small_iff (mask_with hm)).2 fun j j0 j1 => ?_⟩)⟩
    rw [has_with, (small_iff hm).1 hs j j0 j1]
    have : ¬ j = i := by omega
    simp [this]
theorem right_give {st cl fr i : Int} (h : rightB st cl fr = true) (hm : Mask fr) : rightB st cl (giveF st cl fr i) = true := by
  unfold giveF; split
  · rename_i hg; exact (give_spec h hm hg).2.2.2.2.2.2.2
  · exact h
/-! ### From the new span on. -/
end Go.Proofs.YtmbgodncagjncaaDoor
/-! api.Span and api.Heap by value, slices of spans: what a walk reads of them. -/
namespace Go.Proofs.YtmbgodncagjncaaDoor
set_option linter.unusedSimpArgs false
set_option linter.unusedVariables false
open Go.ChangeShapes Go.WideShapes Go.ChangeAt Go.RowKit Go.Joins

/-- A span's data. -/
structure Sp where
  st : Int
  cl : Int
  fr : Int
def Sp.val (s : Sp) : Value := .agg #[.int .i64 s.st, .int .i64 s.cl, .int .u32 s.fr]
instance : Inhabited Sp := ⟨⟨0, 0, 0⟩⟩
/-- What Go's types say of them. -/
def Sp.wf (s : Sp) : Prop := (-9223372036854775808 ≤ s.st ∧ s.st ≤ 9223372036854775807) ∧ (-9223372036854775808 ≤ s.cl ∧ s.cl ≤ 9223372036854775807) ∧ (0 ≤ s.fr ∧ s.fr < 4294967296)
/-- A slice's n spans. -/
def Spans (W : World) (p : Option Addr) (n : Nat) (s : Nat → Sp) : Prop :=
  ∀ i, i < n → (∃ b off, p = some ⟨b, off, none⟩ ∧ b < W.heap.size ∧ W.cell? ⟨b, off + i * 3, none⟩ = some (.int .i64 (s i).st) ∧ W.cell? ⟨b, off + i * 3 + 1, none⟩ = some (.int .i64 (s i).cl) ∧ W.cell? ⟨b, off + i * 3 + 2, none⟩ = some (.int .u32 (s i).fr)) ∧ (s i).wf
theorem Spans.below {W W' : World} {p : Option Addr} {n : Nat} {s : Nat → Sp} (h : Spans W p n s) (hb : Below W.heap.size W W') : Spans W' p n s := fun i hi => by
  obtain ⟨⟨b, off, e, hlt, h0, h1, h2⟩, hw⟩ := h i hi
  exact ⟨⟨b, off, e, Nat.lt_of_lt_of_le hlt hb.size, by rw [hb.cell (p := ⟨b, _, none⟩) hlt]; exact h0, by rw [hb.cell (p := ⟨b, _, none⟩) hlt]; exact h1, by rw [hb.cell (p := ⟨b, _, none⟩) hlt]; exact h2⟩, hw⟩
theorem Spans.congr {W : World} {p : Option Addr} {n : Nat} {s s' : Nat → Sp} (h : Spans W p n s) (e : ∀ i, i < n → s i = s' i) : Spans W p n s' := fun i hi => by rw [← e i hi]; exact h i hi
theorem Spans.wf {W : World} {p : Option Addr} {n : Nat} {s : Nat → Sp} (h : Spans W p n s) : ∀ i, i < n → (s i).wf := fun i hi => (h i hi).2

theorem no_spot {W : World} {b off : Nat} {sp : Option Nat} {v : Value} (h : W.cell? ⟨b, off, sp⟩ = some v) : sp = none := by
  cases sp with
  | none => rfl
  | some s => unfold World.cell? at h; split at h <;> simp at h
theorem add_zero_self (a : Addr) : a.add 0 = a := rfl
theorem add_off (b off j : Nat) : (⟨b, off, none⟩ : Addr).add j = ⟨b, off + j, none⟩ := by unfold Addr.add; split <;> simp_all

section
variable {H : Type} {enc : TypeId × Value → H} {P : Program} {W : World} {base : Nat}

theorem trod_i64 {t : TypeId} {fuel : Nat} {v : Value} {y : DataW H × List MemPlace} (hu : P.underlying t = some (.int .i64)) (h : DataW.trod enc P W 0 (fun _ => true) true fuel t [v] = some y) : ∃ a : Int, v = .int .i64 a ∧ -9223372036854775808 ≤ a ∧ a ≤ 9223372036854775807 := by
  obtain ⟨a, e, -, wa⟩ := DataW.trod_int hu h
  simp at e
  exact ⟨a, e, wf_i64 wa⟩
theorem trod_u32 {t : TypeId} {fuel : Nat} {v : Value} {y : DataW H × List MemPlace} (hu : P.underlying t = some (.int .u32)) (h : DataW.trod enc P W 0 (fun _ => true) true fuel t [v] = some y) : ∃ a : Int, v = .int .u32 a ∧ 0 ≤ a ∧ a < 4294967296 := by
  obtain ⟨a, e, -, wa⟩ := DataW.trod_int hu h
  simp at e
  exact ⟨a, e, wf_u32 wa⟩
theorem trod_boolean {t : TypeId} {fuel : Nat} {v : Value} {y : DataW H × List MemPlace} (hu : P.underlying t = some .bool) (h : DataW.trod enc P W 0 (fun _ => true) true fuel t [v] = some y) : ∃ a : Bool, v = .bool a := by
  obtain ⟨a, e, -⟩ := DataW.trod_bool hu h
  simp at e
  exact ⟨a, e⟩

/-- A slice of integers, of cells. -/
theorem trod_slice_ints {t e : TypeId} {k : IntKind} {fuel : Nat} {v : Value} {y : DataW H × List MemPlace} (ht : P.underlying t = some (.slice e)) (he : P.underlying e = some (.int k)) (hc : P.cellsOf e = 1)
    (hf : DataW.trod enc P W 0 (fun _ => true) true fuel t [v] = some y) :
    ∃ (p : Option Addr) (n cap : Nat) (z : Nat → Int), v = .slice p n cap ∧ n ≤ maxLen ∧ Ints k W p n z ∧ (p = none → n = 0 ∧ cap = 0) ∧ n ≤ cap ∧ cap ≤ maxLen := by
  rcases open_ints ht he hc hf with ⟨hcs, -⟩ | ⟨a, len, cap', zs, hcs, -, hl, hm, hz, -, hcell, hwz⟩
  · simp at hcs
    subst hcs
    exact ⟨none, 0, 0, fun _ => 0, rfl, by decide, fun i hi => by omega, fun _ => ⟨rfl, rfl⟩, Nat.le_refl _, by decide⟩
  · simp at hcs
    subst hcs
    simp only [if_true] at hz
    refine ⟨some a, len, cap', fun i => zs.getD i 0, rfl, by omega, fun i hi => ?_, fun h => (by cases h), hl, hm⟩
    have h0 := hcell 0 (by omega)
    have hi' := hcell i (by omega)
    obtain ⟨b, off, sp⟩ := a
    rw [add_zero_self] at h0
    obtain rfl := no_spot h0
    rw [add_off] at hi'
    exact ⟨⟨b, off, rfl, World.block_lt_of_cell? W _ hi', hi'⟩, hwz _ (by
      have hlt : i < zs.length := by omega
      show zs.getD i 0 ∈ zs
      simp [List.getD, hlt])⟩
/-- A slice of spans, of cells. -/
theorem trod_slice_spans {t e : TypeId} {f0 f1 f2 : Field} {fuel : Nat} {v : Value} {y : DataW H × List MemPlace} (ht : P.underlying t = some (.slice e)) (he : P.underlying e = some (.struct #[f0, f1, f2])) (hc : P.cellsOf e = 3)
    (hone : Go.Deep.oneCellFields P #[f0, f1, f2] = true) (hu0 : P.underlying f0.type = some (.int .i64)) (hu1 : P.underlying f1.type = some (.int .i64)) (hu2 : P.underlying f2.type = some (.int .u32))
    (hf : DataW.trod enc P W 0 (fun _ => true) true fuel t [v] = some y) :
    ∃ (p : Option Addr) (n cap : Nat) (s : Nat → Sp), v = .slice p n cap ∧ n ≤ maxLen ∧ Spans W p n s ∧ (p = none → n = 0 ∧ cap = 0) ∧ n ≤ cap ∧ cap ≤ maxLen := by
  rcases Go.Deep.open_slice ht hf with ⟨hcs, -⟩ | ⟨a, len, cap, m, nf, D, Pl, hcs, -, hl, hm, hmm, -, hx⟩
  · simp at hcs
    subst hcs
    exact ⟨none, 0, 0, fun _ => ⟨0, 0, 0⟩, rfl, by decide, fun i hi => by omega, fun _ => ⟨rfl, rfl⟩, Nat.le_refl _, by decide⟩
  · simp at hcs
    subst hcs
    simp only [if_true] at hmm
    rw [hc] at hx
    have each : ∀ i, i < len → ∃ q : Sp, q.wf ∧ W.cell? (a.add (i * 3)) = some (.int .i64 q.st) ∧ W.cell? (a.add (i * 3 + 1)) = some (.int .i64 q.cl) ∧ W.cell? (a.add (i * 3 + 2)) = some (.int .u32 q.fr) := by
      intro i hi
      obtain ⟨cs', h1, h2⟩ := hx i (by omega)
      obtain ⟨-, hlen, hcell⟩ := World.cells?_some h1
      obtain ⟨xs, k, -, -, -, hxl, hfl⟩ := DataW.trod_struct he h2
      match xs, hxl, cs', hlen with
      | [y0, y1, y2], _, [v0, v1, v2], _ =>
        have g0 := hfl 0 f0 rfl
        have g1 := hfl 1 f1 rfl
        have g2 := hfl 2 f2 rfl
        obtain ⟨o0, k0⟩ := Go.Deep.hone_of hone 0 f0 rfl
        obtain ⟨o1, k1⟩ := Go.Deep.hone_of hone 1 f1 rfl
        obtain ⟨o2, k2⟩ := Go.Deep.hone_of hone 2 f2 rfl
        simp [o0, k0] at g0
        simp [o1, k1] at g1
        simp [o2, k2] at g2
        obtain ⟨a0, rfl, ha⟩ := trod_i64 hu0 g0
        obtain ⟨b0, rfl, hb⟩ := trod_i64 hu1 g1
        obtain ⟨c0, rfl, hc⟩ := trod_u32 hu2 g2
        have e0 := hcell 0 (by omega)
        have e1 := hcell 1 (by omega)
        have e2 := hcell 2 (by omega)
        rw [Go.Deep.add_add] at e0 e1 e2
        exact ⟨⟨a0, b0, c0⟩, ⟨ha, hb, hc⟩, by simpa using e0, by simpa using e1, by simpa using e2⟩
    obtain ⟨q, hq⟩ := Go.Deep.choose_lt (α := Sp) (h := each)
    refine ⟨some a, len, cap, q, rfl, by omega, fun i hi => ?_, fun h => (by cases h), hl, hm⟩
    obtain ⟨hw, h0, h1, h2⟩ := hq i hi
    obtain ⟨b, off, sp⟩ := a
    have hz := (hq 0 (by omega)).2.1
    rw [Nat.zero_mul, add_zero_self] at hz
    obtain rfl := no_spot hz
    rw [add_off] at h0 h1 h2
    exact ⟨⟨b, off, rfl, World.block_lt_of_cell? W _ h0, h0, by rw [← Nat.add_assoc] at h1; exact h1, by rw [← Nat.add_assoc] at h2; exact h2⟩, hw⟩

end

/-- A span in a variable of the call's own (its block). -/
def SpBox (b : Nat) (st cl fr : Int) (W : World) : Prop := b < W.heap.size ∧ W.cell? ⟨b, 0, none⟩ = some (.int .i64 st) ∧ W.cell? ⟨b, 1, none⟩ = some (.int .i64 cl) ∧ W.cell? ⟨b, 2, none⟩ = some (.int .u32 fr) ∧ W.frozen? ⟨b, 0, none⟩ = false ∧ W.frozen? ⟨b, 1, none⟩ = false ∧ W.frozen? ⟨b, 2, none⟩ = false
theorem SpBox.below {b : Nat} {st cl fr : Int} {W W' : World} (h : SpBox b st cl fr W) (hb : Below W.heap.size W W') : SpBox b st cl fr W' := by
  obtain ⟨h0, h1, h2, h3, h4, h5, h6⟩ := h
  refine ⟨Nat.lt_of_lt_of_le h0 hb.size, ?_, ?_, ?_, ?_, ?_, ?_⟩
  · rw [hb.cell (p := ⟨b, _, none⟩) h0]; exact h1
  · rw [hb.cell (p := ⟨b, _, none⟩) h0]; exact h2
  · rw [hb.cell (p := ⟨b, _, none⟩) h0]; exact h3
  · rw [hb.frozen (p := ⟨b, _, none⟩) h0]; exact h4
  · rw [hb.frozen (p := ⟨b, _, none⟩) h0]; exact h5
  · rw [hb.frozen (p := ⟨b, _, none⟩) h0]; exact h6
theorem SpBox.new (W : World) (st cl fr : Int) (t : TypeId) : SpBox W.heap.size st cl fr (W.alloc (.cells #[.int .i64 st, .int .i64 cl, .int .u32 fr] t)) := by
  refine ⟨by simp, ?_, ?_, ?_, ?_, ?_, ?_⟩ <;> simp [go_sem]
theorem SpBox.store {b : Nat} {st cl fr : Int} {W : World} (h : SpBox b st cl fr W) (st' cl' fr' : Int) : SpBox b st' cl' fr' (((W.setCell ⟨b, 0, none⟩ (.int .i64 st')).setCell ⟨b, 1, none⟩ (.int .i64 cl')).setCell ⟨b, 2, none⟩ (.int .u32 fr')) := by
  obtain ⟨h0, h1, h2, h3, h4, h5, h6⟩ := h
  refine ⟨by simpa [World.setCell] using h0, ?_, ?_, ?_, ?_, ?_, ?_⟩ <;> simp [go_sem, *]
/-- Three cells in a variable of the call's own (its block): a heap, say. -/
def Box3 (b : Nat) (x y z : Value) (W : World) : Prop := b < W.heap.size ∧ W.cell? ⟨b, 0, none⟩ = some x ∧ W.cell? ⟨b, 1, none⟩ = some y ∧ W.cell? ⟨b, 2, none⟩ = some z ∧ W.frozen? ⟨b, 0, none⟩ = false ∧ W.frozen? ⟨b, 1, none⟩ = false ∧ W.frozen? ⟨b, 2, none⟩ = false
theorem Box3.below {b : Nat} {x y z : Value} {W W' : World} (h : Box3 b x y z W) (hb : Below W.heap.size W W') : Box3 b x y z W' := by
  obtain ⟨h0, h1, h2, h3, h4, h5, h6⟩ := h
  refine ⟨Nat.lt_of_lt_of_le h0 hb.size, ?_, ?_, ?_, ?_, ?_, ?_⟩
  · rw [hb.cell (p := ⟨b, _, none⟩) h0]; exact h1
  · rw [hb.cell (p := ⟨b, _, none⟩) h0]; exact h2
  · rw [hb.cell (p := ⟨b, _, none⟩) h0]; exact h3
  · rw [hb.frozen (p := ⟨b, _, none⟩) h0]; exact h4
  · rw [hb.frozen (p := ⟨b, _, none⟩) h0]; exact h5
  · rw [hb.frozen (p := ⟨b, _, none⟩) h0]; exact h6
theorem Box3.new (W : World) (x y z : Value) (t : TypeId) : Box3 W.heap.size x y z (W.alloc (.cells #[x, y, z] t)) := by
  refine ⟨by simp, ?_, ?_, ?_, ?_, ?_, ?_⟩ <;> simp [go_sem]
theorem Box3.store0 {b : Nat} {x y z : Value} {W : World} (h : Box3 b x y z W) (x' : Value) : Box3 b x' y z (W.setCell ⟨b, 0, none⟩ x') := by
  obtain ⟨h0, h1, h2, h3, h4, h5, h6⟩ := h
  refine ⟨by simpa [World.setCell] using h0, ?_, ?_, ?_, ?_, ?_, ?_⟩ <;> simp [go_sem, *]
theorem Box3.store1 {b : Nat} {x y z : Value} {W : World} (h : Box3 b x y z W) (y' : Value) : Box3 b x y' z (W.setCell ⟨b, 1, none⟩ y') := by
  obtain ⟨h0, h1, h2, h3, h4, h5, h6⟩ := h
  refine ⟨by simpa [World.setCell] using h0, ?_, ?_, ?_, ?_, ?_, ?_⟩ <;> simp [go_sem, *]
theorem Box3.store2 {b : Nat} {x y z : Value} {W : World} (h : Box3 b x y z W) (z' : Value) : Box3 b x y z' (W.setCell ⟨b, 2, none⟩ z') := by
  obtain ⟨h0, h1, h2, h3, h4, h5, h6⟩ := h
  refine ⟨by simpa [World.setCell] using h0, ?_, ?_, ?_, ?_, ?_, ?_⟩ <;> simp [go_sem, *]
theorem Box3.other {b : Nat} {x y z : Value} {W : World} (h : Box3 b x y z W) {g : Nat} (hg : ¬ g = b) (o : Nat) (u : Value) : Box3 b x y z (W.setCell ⟨g, o, none⟩ u) := by
  obtain ⟨h0, h1, h2, h3, h4, h5, h6⟩ := h
  have e : (W.setCell ⟨g, o, none⟩ u).heap[b]? = W.heap[b]? := Below.heap_setCell W _ u b (fun h => hg h.symm)
  refine ⟨by simpa [World.setCell] using h0, ?_, ?_, ?_, ?_, ?_, ?_⟩
  · rw [World.cell?_of_block (w := W) (a := ⟨b, _, none⟩) e]; exact h1
  · rw [World.cell?_of_block (w := W) (a := ⟨b, _, none⟩) e]; exact h2
  · rw [World.cell?_of_block (w := W) (a := ⟨b, _, none⟩) e]; exact h3
  · rw [World.frozen?_of_block (w := W) (a := ⟨b, _, none⟩) e]; exact h4
  · rw [World.frozen?_of_block (w := W) (a := ⟨b, _, none⟩) e]; exact h5
  · rw [World.frozen?_of_block (w := W) (a := ⟨b, _, none⟩) e]; exact h6
/-- n Bools in a block. -/
def Bools (n b : Nat) (f : Nat → Bool) (W : World) : Prop := b < W.heap.size ∧ ∀ j, j < n → W.cell? ⟨b, j, none⟩ = some (.bool (f j)) ∧ W.frozen? ⟨b, j, none⟩ = false
theorem Bools.new (W : World) (n : Nat) (t : TypeId) : Bools n W.heap.size (fun _ => false) (W.alloc (.cells (Array.replicate n (.bool false)) t)) :=
  ⟨by simp, fun j hj => ⟨by simp [go_sem, hj], by simp [go_sem]⟩⟩
theorem Bools.below {n b : Nat} {f : Nat → Bool} {W W' : World} (h : Bools n b f W) (hb : Below W.heap.size W W') : Bools n b f W' :=
  ⟨Nat.lt_of_lt_of_le h.1 hb.size, fun j hj => by rw [hb.cell (p := ⟨b, j, none⟩) h.1, hb.frozen (p := ⟨b, j, none⟩) h.1]; exact h.2 j hj⟩
theorem Bools.other {n b : Nat} {f : Nat → Bool} {W : World} (h : Bools n b f W) {g : Nat} (hg : ¬ g = b) (o : Nat) (u : Value) : Bools n b f (W.setCell ⟨g, o, none⟩ u) :=
  ⟨by simpa [World.setCell] using h.1, fun j hj => by
    have e : (W.setCell ⟨g, o, none⟩ u).heap[b]? = W.heap[b]? := Below.heap_setCell W _ u b (fun h => hg h.symm)
    rw [World.cell?_of_block (w := W) (a := ⟨b, j, none⟩) e, World.frozen?_of_block (w := W) (a := ⟨b, j, none⟩) e]; exact h.2 j hj⟩
theorem Bools.set {n b : Nat} {f g : Nat → Bool} {W : World} {i : Nat} {v : Bool} (h : Bools n b f W) (hi : i < n) (e : ∀ j, j < n → g j = if j = i then v else f j) : Bools n b g (W.setCell ⟨b, i, none⟩ (.bool v)) :=
  ⟨by simpa [World.setCell] using h.1, fun j hj => by
    have h1 := h.2 j hj
    have h2 := h.2 i hi
    constructor
    · rw [e j hj]
      by_cases hji : j = i
      · subst hji; simp [go_sem, *]
      · simp [go_sem, *]
    · simp [go_sem, *]⟩
theorem SpBox.other {b : Nat} {st cl fr : Int} {W : World} (h : SpBox b st cl fr W) {g : Nat} (hg : ¬ g = b) (o : Nat) (u : Value) : SpBox b st cl fr (W.setCell ⟨g, o, none⟩ u) := by
  obtain ⟨h0, h1, h2, h3, h4, h5, h6⟩ := h
  have e : (W.setCell ⟨g, o, none⟩ u).heap[b]? = W.heap[b]? := Below.heap_setCell W _ u b (fun h => hg h.symm)
  refine ⟨by simpa [World.setCell] using h0, ?_, ?_, ?_, ?_, ?_, ?_⟩
  · rw [World.cell?_of_block (w := W) (a := ⟨b, _, none⟩) e]; exact h1
  · rw [World.cell?_of_block (w := W) (a := ⟨b, _, none⟩) e]; exact h2
  · rw [World.cell?_of_block (w := W) (a := ⟨b, _, none⟩) e]; exact h3
  · rw [World.frozen?_of_block (w := W) (a := ⟨b, _, none⟩) e]; exact h4
  · rw [World.frozen?_of_block (w := W) (a := ⟨b, _, none⟩) e]; exact h5
  · rw [World.frozen?_of_block (w := W) (a := ⟨b, _, none⟩) e]; exact h6

section
variable {H : Type} {enc : TypeId × Value → H} {P : Program} {W : World} {base : Nat}
/-- A heap's data. -/
structure Hp where
  n : Nat
  z : Nat → Int
  m : Nat
  s : Nat → Sp
  b : Bool
/-- What a heap's two slices read as. -/
structure HpAt (W : World) (p : Option Addr) (c : Nat) (q : Option Addr) (d : Nat) (h : Hp) : Prop where
  ints : Ints .u64 W p h.n h.z
  spans : Spans W q h.m h.s
  nle : h.n ≤ maxLen
  mle : h.m ≤ maxLen
  pnil : p = none → h.n = 0 ∧ c = 0
  qnil : q = none → h.m = 0 ∧ d = 0
  ncap : h.n ≤ c ∧ c ≤ maxLen
  mcap : h.m ≤ d ∧ d ≤ maxLen
theorem HpAt.below {W W' : World} {p : Option Addr} {c : Nat} {q : Option Addr} {d : Nat} {h : Hp} (hh : HpAt W p c q d h) (hb : Below W.heap.size W W') : HpAt W' p c q d h :=
  ⟨hh.ints.below hb, hh.spans.below hb, hh.nle, hh.mle, hh.pnil, hh.qnil, hh.ncap, hh.mcap⟩
theorem open_heap {t e1 e2 : TypeId} {f0 f1 f2 g0 g1 g2 : Field} {v : Value} {d : DataW H} {p : List MemPlace}
    (hs : P.underlying t = some (.struct #[f0, f1, f2])) (hone : Go.Deep.oneCellFields P #[f0, f1, f2] = true) (hC : P.cellsOf t = 3)
    (hu0 : P.underlying f0.type = some (.slice e1)) (he1 : P.underlying e1 = some (.int .u64)) (hc1 : P.cellsOf e1 = 1)
    (hu1 : P.underlying f1.type = some (.slice e2)) (he2 : P.underlying e2 = some (.struct #[g0, g1, g2])) (hc2 : P.cellsOf e2 = 3)
    (hone2 : Go.Deep.oneCellFields P #[g0, g1, g2] = true) (hg0 : P.underlying g0.type = some (.int .i64)) (hg1 : P.underlying g1.type = some (.int .i64)) (hg2 : P.underlying g2.type = some (.int .u32))
    (hu2 : P.underlying f2.type = some .bool)
    (hok : Value.okWide P W .any base t v) (h : DataW.Trod enc P W 0 (fun _ => true) true t v d p) : ∃ (x : Hp) (p : Option Addr) (c : Nat) (q : Option Addr) (d : Nat), v = .agg #[.slice p x.n c, .slice q x.m d, .bool x.b] ∧ HpAt W p c q d x := by
  obtain ⟨v0, v1, v2, y0, y1, y2, m, rfl, -, -, hy0, hy1, hy2⟩ := open_agg3 hs hone hC hok h
  obtain ⟨p, n, c, z, rfl, hn, hz, hp, hpc⟩ := trod_slice_ints hu0 he1 hc1 hy0
  obtain ⟨q, k, d, s, rfl, hk, hs', hq, hqc⟩ := trod_slice_spans hu1 he2 hc2 hone2 hg0 hg1 hg2 hy1
  obtain ⟨b, rfl⟩ := trod_boolean hu2 hy2
  exact ⟨⟨n, z, k, s, b⟩, p, c, q, d, rfl, hz, hs', hn, hk, hp, hq, hpc, hqc⟩
end
end Go.Proofs.YtmbgodncagjncaaDoor
/-! Two masks and the operations on bits: |, &, &^ as sets; and what they say of a span's blocks. -/
namespace Go.Proofs.YtmbgodncagjncaaDoor
set_option linter.unusedSimpArgs false
set_option linter.unusedVariables false
open Go.ChangeShapes Go.WideShapes Go.ChangeAt Go.RowKit

end Go.Proofs.YtmbgodncagjncaaDoor
/-! Rows of spans that a call makes: what it owns, read as data. -/
namespace Go.Proofs.YtmbgodncagjncaaDoor
set_option linter.unusedSimpArgs false
set_option linter.unusedVariables false
open Go.ChangeShapes Go.WideShapes Go.ChangeAt Go.RowKit Go.Joins

def Sp.vals (s : Sp) : List Value := [.int .i64 s.st, .int .i64 s.cl, .int .u32 s.fr]
/-- The cells of n spans. -/
def spVals (n : Nat) (s : Nat → Sp) : List Value := (List.range n).flatMap fun i => (s i).vals
theorem spVals_snoc (n : Nat) (s : Nat → Sp) : spVals n s ++ (s n).vals = spVals (n + 1) s := by simp [spVals, List.range_succ]
theorem spVals_length (n : Nat) (s : Nat → Sp) : (spVals n s).length = n * 3 := by
  induction n with
  | zero => rfl
  | succ n ih => rw [← spVals_snoc, List.length_append, ih]; simp [Sp.vals]; omega
theorem spVals_get (s : Nat → Sp) : ∀ {n i : Nat}, i < n → (spVals n s)[i * 3]? = some (.int .i64 (s i).st) ∧ (spVals n s)[i * 3 + 1]? = some (.int .i64 (s i).cl) ∧ (spVals n s)[i * 3 + 2]? = some (.int .u32 (s i).fr)
  | 0, i, h => by omega
  | n + 1, i, h => by
    rw [← spVals_snoc]
    have hl := spVals_length n s
    by_cases e : i = n
    · subst e
      refine ⟨?_, ?_, ?_⟩
      · rw [List.getElem?_append_right (by omega), hl]; simp [Sp.vals]
      · rw [List.getElem?_append_right (by omega), hl, show i * 3 + 1 - i * 3 = 1 by omega]; rfl
      · rw [List.getElem?_append_right (by omega), hl, show i * 3 + 2 - i * 3 = 2 by omega]; rfl
    · have ih := spVals_get s (n := n) (i := i) (by omega)
      refine ⟨?_, ?_, ?_⟩
      · rw [List.getElem?_append_left (by omega)]; exact ih.1
      · rw [List.getElem?_append_left (by omega)]; exact ih.2.1
      · rw [List.getElem?_append_left (by omega)]; exact ih.2.2
theorem spVals_congr {n : Nat} {s t : Nat → Sp} (h : ∀ i, i < n → s i = t i) : spVals n s = spVals n t := by
  induction n with
  | zero => rfl
  | succ n ih => rw [← spVals_snoc, ← spVals_snoc, ih fun i hi => h i (by omega), h n (by omega)]
theorem vals_oneCell (s : Sp) : ∀ u ∈ s.vals, u.oneCell' = true := by
  intro u hu
  simp [Sp.vals] at hu
  rcases hu with rfl | rfl | rfl <;> rfl
/-- What a call owns, as spans. -/
theorem spans_owned {w : World} {base : Nat} {e : TypeId} {p : Option Addr} {n cap : Nat} {s : Nat → Sp} (h : w.ownsRow base e 3 (.slice p n cap) n (spVals n s)) (hw : ∀ i, i < n → (s i).wf) : Spans w p n s := by
  intro i hi
  refine ⟨?_, hw i hi⟩
  rcases h.2 with ⟨-, h0⟩ | ⟨g, cap', cur, hv, hb, hg, hn, hm, hs, ht⟩
  · omega
  · have e0 : p = some ⟨g, 0, none⟩ := by injection hv
    subst e0
    have hlt : g < w.heap.size := by
      rcases Nat.lt_or_ge g w.heap.size with h' | h'
      · exact h'
      · rw [Array.getElem?_eq_none h'] at hg; cases hg
    obtain ⟨a0, a1, a2⟩ := spVals_get s hi
    rw [← ht] at a0 a1 a2
    rw [List.getElem?_take, if_pos (by omega)] at a0 a1 a2
    refine ⟨g, 0, rfl, hlt, ?_, ?_, ?_⟩
    · rw [Nat.zero_add, cell_of_row w g _ cur e (0, 0) hg]; simpa using a0
    · rw [Nat.zero_add, cell_of_row w g _ cur e (0, 0) hg]; simpa using a1
    · rw [Nat.zero_add, cell_of_row w g _ cur e (0, 0) hg]; simpa using a2
/-- What stays behind a write into another row. -/
theorem grown_heap {w w' : World} {row : Option Nat} (hg : w.grownBy w' row) {b : Nat} (hl : b < w.heap.size) (hne : row ≠ some b) : w'.heap[b]? = w.heap[b]? := hg.block b hl (fun e => hne e.symm)
theorem Box3.grown {b : Nat} {x y z : Value} {w w' : World} {row : Option Nat} (h : Box3 b x y z w) (hg : w.grownBy w' row) (hne : row ≠ some b) : Box3 b x y z w' := by
  obtain ⟨h0, h1, h2, h3, h4, h5, h6⟩ := h
  have e := grown_heap hg h0 hne
  refine ⟨Nat.lt_of_lt_of_le h0 hg.size, ?_, ?_, ?_, ?_, ?_, ?_⟩
  · rw [World.cell?_of_block (w := w) (a := ⟨b, _, none⟩) e]; exact h1
  · rw [World.cell?_of_block (w := w) (a := ⟨b, _, none⟩) e]; exact h2
  · rw [World.cell?_of_block (w := w) (a := ⟨b, _, none⟩) e]; exact h3
  · rw [World.frozen?_of_block (w := w) (a := ⟨b, _, none⟩) e]; exact h4
  · rw [World.frozen?_of_block (w := w) (a := ⟨b, _, none⟩) e]; exact h5
  · rw [World.frozen?_of_block (w := w) (a := ⟨b, _, none⟩) e]; exact h6
theorem SpBox.grown {b : Nat} {st cl fr : Int} {w w' : World} {row : Option Nat} (h : SpBox b st cl fr w) (hg : w.grownBy w' row) (hne : row ≠ some b) : SpBox b st cl fr w' := Box3.grown (x := .int .i64 st) (y := .int .i64 cl) (z := .int .u32 fr) h hg hne
theorem Box3.stores {b : Nat} {x y z : Value} {W : World} (h : Box3 b x y z W) (x' y' z' : Value) : Box3 b x' y' z' (((W.setCell ⟨b, 0, none⟩ x').setCell ⟨b, 1, none⟩ y').setCell ⟨b, 2, none⟩ z') := ((h.store0 x').store1 y').store2 z'
theorem Box3.others {b : Nat} {x y z : Value} {W : World} (h : Box3 b x y z W) {g : Nat} (hg : ¬ g = b) (x' y' z' : Value) : Box3 b x y z (((W.setCell ⟨g, 0, none⟩ x').setCell ⟨g, 1, none⟩ y').setCell ⟨g, 2, none⟩ z') := ((h.other hg 0 x').other hg 1 y').other hg 2 z'
theorem below_stores {W w1 : World} {n : Nat} (hb : Below n W w1) {g : Nat} (hg : n ≤ g) (x y z : Value) : Below n W (((w1.setCell ⟨g, 0, none⟩ x).setCell ⟨g, 1, none⟩ y).setCell ⟨g, 2, none⟩ z) := ((hb.setCell hg x).setCell hg y).setCell hg z
end Go.Proofs.YtmbgodncagjncaaDoor
