import Derived.Test.YtkehankfnkjnlaaGreatDoorV02
import Derived.Deep.Slices
namespace Go.Proofs.YtkehankfnkjnlaaGreatDoor
set_option linter.unusedSimpArgs false
set_option linter.unusedVariables false
set_option maxHeartbeats 16000000
set_option maxRecDepth 20000
open Go.ChangeAt Go.ChangeShapes Go.Joins Go.RowKit Go.WideShapes
def useB (st : Int) : Bool := decide (st = 1) || decide (st = 2)
def clB (cl : Int) : Bool := decide (0 ≤ cl) && decide (cl < 4)
def smallB (cl fr : Int) : Bool := decide (fr < 2 ^ (blW cl).toNat)
def rightB (st cl fr : Int) : Bool := if st = 0 then decide (cl = 0) && decide (fr = 0) else useB st && (clB cl && smallB cl fr)
def takeB (st fr : Int) : Bool := decide (st = 1) && leastB fr
def giveB (st cl fr i : Int) : Bool := useB st && (decide (0 ≤ i) && (decide (i < blW cl) && !hasB fr i))
def giveF (st cl fr i : Int) : Int := if giveB st cl fr i = true then withW fr i else fr
def emptyB (st cl fr : Int) : Bool := useB st && (fr == wholeW (blW cl))
def usedN (st cl fr : Int) : Int := if useB st = true then blW cl - countW fr else 0
theorem zbc (c : Int) : 0 ≤ blW c ∧ blW c ≤ 16 := by have := zaq c; omega
theorem zg2 (st : Int) : useB st = true ↔ st = 1 ∨ st = 2 := by simp [useB]
theorem zbk {cl fr : Int} (h : Mask fr) : smallB cl fr = true ↔ ∀ i, blW cl ≤ i → i < 32 → hasB fr i = false := by
 have hb := zbc cl
 have e : ((2 : Int) ^ (blW cl).toNat) = ((2 ^ (blW cl).toNat : Nat) : Int) := by simp
 simp only [smallB, decide_eq_true_eq]
 rw [e]
 have hc := zcc h
 constructor
 ·intro hlt i h0 h1
  unfold hasB
  rw [zbz (by omega) h1, Bool.true_and]
  refine Nat.testBit_lt_two_pow (Nat.lt_of_lt_of_le (show fr.toNat < 2 ^ (blW cl).toNat by omega) ?_)
  exact Nat.pow_le_pow_right (by decide) (by omega)
 ·intro hall
  have : fr.toNat < 2 ^ (blW cl).toNat := by
   refine Nat.lt_pow_two_of_testBit _ fun i hi => ?_
   by_cases h1 : i < 32
   ·have := hall i (by omega) (by omega)
    unfold hasB at this
    rw [zbz (by omega) (by omega), Bool.true_and] at this
    simpa using this
   ·exact zd2 (by have := h.2; omega) (by omega)
  omega
theorem zaz {st cl fr : Int} : rightB st cl fr = true ↔ (st = 0 ∧ cl = 0 ∧ fr = 0) ∨ ((st = 1 ∨ st = 2) ∧ 0 ≤ cl ∧ cl < 4 ∧ smallB cl fr = true) := by
 unfold rightB
 split
 ·rename_i h
  subst h
  simp
 ·rename_i h
  simp [useB, clB, h, and_assoc]
theorem zib {f g : Int → Bool} {i : Nat} (h0 : f i = false) (h1 : g i = true) (h : ∀ j : Nat, j ≠ i → f j = g j) : ∀ {k : Nat}, i < k → cntTo g k = cntTo f k + 1
 | 0, hk => by omega
 | k + 1, hk => by
  simp only [cntTo]
  by_cases e : i = k
  ·subst e
   rw [h0, h1, zet (f := f) (g := g) fun j hj => h j (by omega)]
   simp
  ·rw [zib h0 h1 h (k := k) (by omega), h k (by omega)]
   omega
theorem zia {f : Int → Bool} : ∀ {k : Nat}, (∀ i : Nat, i < k → f i = true) → cntTo f k = k
 | 0, _ => rfl
 | k + 1, h => by
  simp only [cntTo]
  rw [zia (k := k) fun i hi => h i (by omega), h k (by omega)]
  simp
theorem zhu {f : Int → Bool} {i : Nat} (h : f i = false) : ∀ {k : Nat}, i < k → cntTo f k < k
 | 0, hk => by omega
 | k + 1, hk => by
  simp only [cntTo]
  by_cases e : i = k
  ·subst e; rw [h]; have := (zcj f i).2; simp; omega
  ·have := zhu h (k := k) (by omega)
   split <;> omega
theorem zos {m i : Int} (h0 : 0 ≤ i) (h1 : i < 32) (h : hasB m i = false) : countW (withW m i) = countW m + 1 := by
 unfold countW
 refine zib (i := i.toNat) ?_ ?_ ?_ (by omega)
 ·rw [show ((i.toNat : Nat) : Int) = i by omega]; exact h
 ·rw [show ((i.toNat : Nat) : Int) = i by omega, zd6, zbz h0 h1]; simp
 ·intro j hj
  rw [zd6]
  have : ¬ ((j : Int) = i) := by omega
  simp [this]
theorem zhh {m : Int} {n : Nat} (hn : n ≤ 32) (h : ∀ i : Int, n ≤ i → i < 32 → hasB m i = false) : countW m = cntTo (hasB m) n := by
 unfold countW
 rw [show 32 = n + (32 - n) by omega, zdi, zh2 (f := fun i => hasB m (n + i)), Int.add_zero]
 intro i hi
 exact h _ (by omega) (by omega)
theorem zjb {cl fr : Int} (hm : Mask fr) (hs : smallB cl fr = true) : 0 ≤ countW fr ∧ countW fr ≤ blW cl := by
 have hb := zbc cl
 rw [zhh (n := (blW cl).toNat) (by omega) fun i h0 h1 => (zbk hm).1 hs i (by omega) h1]
 have := zcj (hasB fr) (blW cl).toNat
 omega
theorem zmd {cl fr : Int} (hm : Mask fr) (hs : smallB cl fr = true) : countW fr = blW cl ↔ fr = wholeW (blW cl) := by
 have hb := zbc cl
 have hsm := (zbk hm).1 hs
 rw [zhh (n := (blW cl).toNat) (by omega) fun i h0 h1 => hsm i (by omega) h1]
 constructor
 ·intro h
  refine zga hm (zd1 _) fun i h0 h1 => ?_
  rw [zci _ h0 h1]
  by_cases e : i < blW cl
  ·rw [decide_eq_true e]
   cases e' : hasB fr i with
   | true => rfl
   | false =>
    have := zhu (f := hasB fr) (i := i.toNat) (by rw [show ((i.toNat : Nat) : Int) = i by omega]; exact e') (k := (blW cl).toNat) (by omega)
    omega
  ·rw [decide_eq_false e, hsm i (by omega) h1]
 ·rintro rfl
  rw [zia]
  ·omega
  ·intro i hi
   rw [zci _ (by omega) (by omega)]
   simp; omega
theorem ztt {st cl fr : Int} (h : rightB st cl fr = true) (hm : Mask fr) (ht : takeB st fr = true) :
  st = 1 ∧ 0 ≤ cl ∧ cl < 4 ∧ 0 ≤ leastW fr ∧ leastW fr < blW cl ∧ hasB fr (leastW fr) = true ∧ (∀ i, i < leastW fr → hasB fr i = false) ∧ rightB st cl (woutW fr (leastW fr)) = true := by
 simp only [takeB, Bool.and_eq_true, decide_eq_true_eq] at ht
 obtain ⟨rfl, hl⟩ := ht
 have h0 : fr ≠ 0 := by simpa [leastB] using hl
 obtain ⟨a, b, c, d⟩ := zob hm h0
 rcases zaz.1 h with ⟨e, -⟩ | ⟨-, c0, c1, hs⟩
 ·omega
 ·have hlt : leastW fr < blW cl := by
   rcases Int.lt_or_le (leastW fr) (blW cl) with h' | h'
   ·exact h'
   ·rw [(zbk hm).1 hs _ h' b] at c; cases c
  refine ⟨rfl, c0, c1, a, hlt, c, d, zaz.2 (.inr ⟨.inl rfl, c0, c1, (zbk (zrd _ _)).2 fun i i0 i1 => ?_⟩)⟩
  rw [zvx _ _ hm, (zbk hm).1 hs i i0 i1]; rfl
theorem zkh {st cl fr i : Int} (h : rightB st cl fr = true) (hm : Mask fr) (hg : giveB st cl fr i = true) :
  (st = 1 ∨ st = 2) ∧ 0 ≤ cl ∧ cl < 4 ∧ 0 ≤ i ∧ i < blW cl ∧ i < 32 ∧ hasB fr i = false ∧ rightB st cl (withW fr i) = true := by
 simp only [giveB, Bool.and_eq_true, decide_eq_true_eq, Bool.not_eq_true'] at hg
 obtain ⟨hu, i0, i1, hno⟩ := hg
 have hb := zbc cl
 rcases zaz.1 h with ⟨rfl, -⟩ | ⟨hst, c0, c1, hs⟩
 ·simp [useB] at hu
 ·refine ⟨hst, c0, c1, i0, i1, by omega, hno, zaz.2 (.inr ⟨hst, c0, c1, (zbk (zfd hm)).2 fun j j0 j1 => ?_⟩)⟩
  rw [zd6, (zbk hm).1 hs j j0 j1]
  have : ¬ j = i := by omega
  simp [this]
theorem zpi {st cl fr i : Int} (h : rightB st cl fr = true) (hm : Mask fr) : rightB st cl (giveF st cl fr i) = true := by
 unfold giveF; split
 ·rename_i hg; exact (zkh h hm hg).2.2.2.2.2.2.2
 ·exact h
structure Sp where
 st : Int
 cl : Int
 fr : Int
instance : Inhabited Sp := ⟨⟨0, 0, 0⟩⟩
def Sp.wf (s : Sp) : Prop := (-9223372036854775808 ≤ s.st ∧ s.st ≤ 9223372036854775807) ∧ (-9223372036854775808 ≤ s.cl ∧ s.cl ≤ 9223372036854775807) ∧ (0 ≤ s.fr ∧ s.fr < 4294967296)
def Spans (W : World) (p : Option Addr) (n : Nat) (s : Nat → Sp) : Prop :=
 ∀ i, i < n → (∃ b off, p = some ⟨b, off, none⟩ ∧ b < W.heap.size ∧ W.cell? ⟨b, off + i * 3, none⟩ = some (.int .i64 (s i).st) ∧ W.cell? ⟨b, off + i * 3 + 1, none⟩ = some (.int .i64 (s i).cl) ∧ W.cell? ⟨b, off + i * 3 + 2, none⟩ = some (.int .u32 (s i).fr)) ∧ (s i).wf
theorem Spans.below {W W' : World} {p : Option Addr} {n : Nat} {s : Nat → Sp} (h : Spans W p n s) (hb : Below W.heap.size W W') : Spans W' p n s := fun i hi => by
 obtain ⟨⟨b, off, e, hlt, h0, h1, h2⟩, hw⟩ := h i hi
 exact ⟨⟨b, off, e, Nat.lt_of_lt_of_le hlt hb.size, by rw [hb.cell (p := ⟨b, _, none⟩) hlt]; exact h0, by rw [hb.cell (p := ⟨b, _, none⟩) hlt]; exact h1, by rw [hb.cell (p := ⟨b, _, none⟩) hlt]; exact h2⟩, hw⟩
theorem Spans.wf {W : World} {p : Option Addr} {n : Nat} {s : Nat → Sp} (h : Spans W p n s) : ∀ i, i < n → (s i).wf := fun i hi => (h i hi).2
theorem ziy {W : World} {b off : Nat} {sp : Option Nat} {v : Value} (h : W.cell? ⟨b, off, sp⟩ = some v) : sp = none := by
 cases sp with
 | none => rfl
 | some s => unfold World.cell? at h; split at h <;> simp at h
theorem zca (a : Addr) : a.add 0 = a := rfl
theorem zdj (b off j : Nat) : (⟨b, off, none⟩ : Addr).add j = ⟨b, off + j, none⟩ := by unfold Addr.add; split <;> simp_all
section
variable {H : Type} {enc : TypeId × Value → H} {P : Program} {W : World} {base : Nat}
theorem zm5 {t : TypeId} {fuel : Nat} {v : Value} {y : DataW H × List MemPlace} (hu : P.underlying t = some (.int .i64)) (h : DataW.trod enc P W 0 (fun _ => true) true fuel t [v] = some y) : ∃ a : Int, v = .int .i64 a ∧ -9223372036854775808 ≤ a ∧ a ≤ 9223372036854775807 := by
 obtain ⟨a, e, -, wa⟩ := DataW.trod_int hu h
 simp at e
 exact ⟨a, e, zbp wa⟩
theorem zvb {t : TypeId} {fuel : Nat} {v : Value} {y : DataW H × List MemPlace} (hu : P.underlying t = some (.int .u32)) (h : DataW.trod enc P W 0 (fun _ => true) true fuel t [v] = some y) : ∃ a : Int, v = .int .u32 a ∧ 0 ≤ a ∧ a < 4294967296 := by
 obtain ⟨a, e, -, wa⟩ := DataW.trod_int hu h
 simp at e
 exact ⟨a, e, wf_u32 wa⟩
theorem zfv {t : TypeId} {fuel : Nat} {v : Value} {y : DataW H × List MemPlace} (hu : P.underlying t = some .bool) (h : DataW.trod enc P W 0 (fun _ => true) true fuel t [v] = some y) : ∃ a : Bool, v = .bool a := by
 obtain ⟨a, e, -⟩ := DataW.trod_bool hu h
 simp at e
 exact ⟨a, e⟩
theorem zds {t e : TypeId} {k : IntKind} {fuel : Nat} {v : Value} {y : DataW H × List MemPlace} (ht : P.underlying t = some (.slice e)) (he : P.underlying e = some (.int k)) (hc : P.cellsOf e = 1)
  (hf : DataW.trod enc P W 0 (fun _ => true) true fuel t [v] = some y) :
  ∃ (p : Option Addr) (n cap : Nat) (z : Nat → Int), v = .slice p n cap ∧ n ≤ maxLen ∧ Ints k W p n z ∧ (p = none → n = 0 ∧ cap = 0) ∧ n ≤ cap ∧ cap ≤ maxLen := by
 rcases open_ints ht he hc hf with ⟨hcs, -⟩ | ⟨a, len, cap', zs, hcs, -, hl, hm, hz, -, hcell, hwz⟩
 ·simp at hcs
  subst hcs
  exact ⟨none, 0, 0, fun _ => 0, rfl, by decide, fun i hi => by omega, fun _ => ⟨rfl, rfl⟩, Nat.le_refl _, by decide⟩
 ·simp at hcs
  subst hcs
  simp only [if_true] at hz
  refine ⟨some a, len, cap', fun i => zs.getD i 0, rfl, by omega, fun i hi => ?_, fun h => (by cases h), hl, hm⟩
  have h0 := hcell 0 (by omega)
  have hi' := hcell i (by omega)
  obtain ⟨b, off, sp⟩ := a
  rw [zca] at h0
  obtain rfl := ziy h0
  rw [zdj] at hi'
  exact ⟨⟨b, off, rfl, World.block_lt_of_cell? W _ hi', hi'⟩, hwz _ (by
   have hlt : i < zs.length := by omega
   show zs.getD i 0 ∈ zs
   simp [List.getD, hlt])⟩
theorem zf2 {t e : TypeId} {f0 f1 f2 : Field} {fuel : Nat} {v : Value} {y : DataW H × List MemPlace} (ht : P.underlying t = some (.slice e)) (he : P.underlying e = some (.struct #[f0, f1, f2])) (hc : P.cellsOf e = 3)
  (hone : Go.Deep.oneCellFields P #[f0, f1, f2] = true) (hu0 : P.underlying f0.type = some (.int .i64)) (hu1 : P.underlying f1.type = some (.int .i64)) (hu2 : P.underlying f2.type = some (.int .u32))
  (hf : DataW.trod enc P W 0 (fun _ => true) true fuel t [v] = some y) :
  ∃ (p : Option Addr) (n cap : Nat) (s : Nat → Sp), v = .slice p n cap ∧ n ≤ maxLen ∧ Spans W p n s ∧ (p = none → n = 0 ∧ cap = 0) ∧ n ≤ cap ∧ cap ≤ maxLen := by
 rcases Go.Deep.open_slice ht hf with ⟨hcs, -⟩ | ⟨a, len, cap, m, nf, D, Pl, hcs, -, hl, hm, hmm, -, hx⟩
 ·simp at hcs
  subst hcs
  exact ⟨none, 0, 0, fun _ => ⟨0, 0, 0⟩, rfl, by decide, fun i hi => by omega, fun _ => ⟨rfl, rfl⟩, Nat.le_refl _, by decide⟩
 ·simp at hcs
  subst hcs
  simp only [if_true] at hmm
  rw [hc] at hx
  have each : ∀ i, i < len → ∃ q : Sp, q.wf ∧ W.cell? (a.add (i * 3)) = some (.int .i64 q.st) ∧ W.cell? (a.add (i * 3 + 1)) = some (.int .i64 q.cl) ∧ W.cell? (a.add (i * 3 + 2)) = some (.int .u32 q.fr) := by
   intro i hi
   obtain ⟨cs', h1, h2⟩ := hx i (by omega)
   obtain ⟨-, hlen, hcell⟩ := World.cells?_some h1
   obtain ⟨xs, k, -, -, -, hxl, hfl⟩ := DataW.trod_struct he h2
   match xs, hxl, cs', hlen with
   | [y0, y1, y2], _, [v0, v1, v2], _ =>
    have g0 := hfl 0 f0 rfl
    have g1 := hfl 1 f1 rfl
    have g2 := hfl 2 f2 rfl
    obtain ⟨o0, k0⟩ := Go.Deep.hone_of hone 0 f0 rfl
    obtain ⟨o1, k1⟩ := Go.Deep.hone_of hone 1 f1 rfl
    obtain ⟨o2, k2⟩ := Go.Deep.hone_of hone 2 f2 rfl
    simp [o0, k0] at g0
    simp [o1, k1] at g1
    simp [o2, k2] at g2
    obtain ⟨a0, rfl, ha⟩ := zm5 hu0 g0
    obtain ⟨b0, rfl, hb⟩ := zm5 hu1 g1
    obtain ⟨c0, rfl, hc⟩ := zvb hu2 g2
    have e0 := hcell 0 (by omega)
    have e1 := hcell 1 (by omega)
    have e2 := hcell 2 (by omega)
    rw [Go.Deep.add_add] at e0 e1 e2
    exact ⟨⟨a0, b0, c0⟩, ⟨ha, hb, hc⟩, by simpa using e0, by simpa using e1, by simpa using e2⟩
  obtain ⟨q, hq⟩ := Go.Deep.choose_lt (α := Sp) (h := each)
  refine ⟨some a, len, cap, q, rfl, by omega, fun i hi => ?_, fun h => (by cases h), hl, hm⟩
  obtain ⟨hw, h0, h1, h2⟩ := hq i hi
  obtain ⟨b, off, sp⟩ := a
  have hz := (hq 0 (by omega)).2.1
  rw [Nat.zero_mul, zca] at hz
  obtain rfl := ziy hz
  rw [zdj] at h0 h1 h2
  exact ⟨⟨b, off, rfl, World.block_lt_of_cell? W _ h0, h0, by rw [← Nat.add_assoc] at h1; exact h1, by rw [← Nat.add_assoc] at h2; exact h2⟩, hw⟩
end
def SpBox (b : Nat) (st cl fr : Int) (W : World) : Prop := b < W.heap.size ∧ W.cell? ⟨b, 0, none⟩ = some (.int .i64 st) ∧ W.cell? ⟨b, 1, none⟩ = some (.int .i64 cl) ∧ W.cell? ⟨b, 2, none⟩ = some (.int .u32 fr) ∧ W.frozen? ⟨b, 0, none⟩ = false ∧ W.frozen? ⟨b, 1, none⟩ = false ∧ W.frozen? ⟨b, 2, none⟩ = false
theorem SpBox.below {b : Nat} {st cl fr : Int} {W W' : World} (h : SpBox b st cl fr W) (hb : Below W.heap.size W W') : SpBox b st cl fr W' := by
 obtain ⟨h0, h1, h2, h3, h4, h5, h6⟩ := h
 refine ⟨Nat.lt_of_lt_of_le h0 hb.size, ?_, ?_, ?_, ?_, ?_, ?_⟩
 ·rw [hb.cell (p := ⟨b, _, none⟩) h0]; exact h1
 ·rw [hb.cell (p := ⟨b, _, none⟩) h0]; exact h2
 ·rw [hb.cell (p := ⟨b, _, none⟩) h0]; exact h3
 ·rw [hb.frozen (p := ⟨b, _, none⟩) h0]; exact h4
 ·rw [hb.frozen (p := ⟨b, _, none⟩) h0]; exact h5
 ·rw [hb.frozen (p := ⟨b, _, none⟩) h0]; exact h6
theorem SpBox.new (W : World) (st cl fr : Int) (t : TypeId) : SpBox W.heap.size st cl fr (W.alloc (.cells #[.int .i64 st, .int .i64 cl, .int .u32 fr] t)) := by
 refine ⟨by simp, ?_, ?_, ?_, ?_, ?_, ?_⟩ <;> simp [go_sem]
theorem SpBox.store {b : Nat} {st cl fr : Int} {W : World} (h : SpBox b st cl fr W) (st' cl' fr' : Int) : SpBox b st' cl' fr' (((W.setCell ⟨b, 0, none⟩ (.int .i64 st')).setCell ⟨b, 1, none⟩ (.int .i64 cl')).setCell ⟨b, 2, none⟩ (.int .u32 fr')) := by
 obtain ⟨h0, h1, h2, h3, h4, h5, h6⟩ := h
 refine ⟨by simpa [World.setCell] using h0, ?_, ?_, ?_, ?_, ?_, ?_⟩ <;> simp [go_sem, *]
def Box3 (b : Nat) (x y z : Value) (W : World) : Prop := b < W.heap.size ∧ W.cell? ⟨b, 0, none⟩ = some x ∧ W.cell? ⟨b, 1, none⟩ = some y ∧ W.cell? ⟨b, 2, none⟩ = some z ∧ W.frozen? ⟨b, 0, none⟩ = false ∧ W.frozen? ⟨b, 1, none⟩ = false ∧ W.frozen? ⟨b, 2, none⟩ = false
theorem Box3.below {b : Nat} {x y z : Value} {W W' : World} (h : Box3 b x y z W) (hb : Below W.heap.size W W') : Box3 b x y z W' := by
 obtain ⟨h0, h1, h2, h3, h4, h5, h6⟩ := h
 refine ⟨Nat.lt_of_lt_of_le h0 hb.size, ?_, ?_, ?_, ?_, ?_, ?_⟩
 ·rw [hb.cell (p := ⟨b, _, none⟩) h0]; exact h1
 ·rw [hb.cell (p := ⟨b, _, none⟩) h0]; exact h2
 ·rw [hb.cell (p := ⟨b, _, none⟩) h0]; exact h3
 ·rw [hb.frozen (p := ⟨b, _, none⟩) h0]; exact h4
 ·rw [hb.frozen (p := ⟨b, _, none⟩) h0]; exact h5
 ·rw [hb.frozen (p := ⟨b, _, none⟩) h0]; exact h6
theorem Box3.new (W : World) (x y z : Value) (t : TypeId) : Box3 W.heap.size x y z (W.alloc (.cells #[x, y, z] t)) := by
 refine ⟨by simp, ?_, ?_, ?_, ?_, ?_, ?_⟩ <;> simp [go_sem]
theorem Box3.store0 {b : Nat} {x y z : Value} {W : World} (h : Box3 b x y z W) (x' : Value) : Box3 b x' y z (W.setCell ⟨b, 0, none⟩ x') := by
 obtain ⟨h0, h1, h2, h3, h4, h5, h6⟩ := h
 refine ⟨by simpa [World.setCell] using h0, ?_, ?_, ?_, ?_, ?_, ?_⟩ <;> simp [go_sem, *]
theorem Box3.store1 {b : Nat} {x y z : Value} {W : World} (h : Box3 b x y z W) (y' : Value) : Box3 b x y' z (W.setCell ⟨b, 1, none⟩ y') := by
 obtain ⟨h0, h1, h2, h3, h4, h5, h6⟩ := h
 refine ⟨by simpa [World.setCell] using h0, ?_, ?_, ?_, ?_, ?_, ?_⟩ <;> simp [go_sem, *]
theorem Box3.store2 {b : Nat} {x y z : Value} {W : World} (h : Box3 b x y z W) (z' : Value) : Box3 b x y z' (W.setCell ⟨b, 2, none⟩ z') := by
 obtain ⟨h0, h1, h2, h3, h4, h5, h6⟩ := h
 refine ⟨by simpa [World.setCell] using h0, ?_, ?_, ?_, ?_, ?_, ?_⟩ <;> simp [go_sem, *]
theorem Box3.other {b : Nat} {x y z : Value} {W : World} (h : Box3 b x y z W) {g : Nat} (hg : ¬ g = b) (o : Nat) (u : Value) : Box3 b x y z (W.setCell ⟨g, o, none⟩ u) := by
 obtain ⟨h0, h1, h2, h3, h4, h5, h6⟩ := h
 have e : (W.setCell ⟨g, o, none⟩ u).heap[b]? = W.heap[b]? := Below.heap_setCell W _ u b (fun h => hg h.symm)
 refine ⟨by simpa [World.setCell] using h0, ?_, ?_, ?_, ?_, ?_, ?_⟩
 ·rw [World.cell?_of_block (w := W) (a := ⟨b, _, none⟩) e]; exact h1
 ·rw [World.cell?_of_block (w := W) (a := ⟨b, _, none⟩) e]; exact h2
 ·rw [World.cell?_of_block (w := W) (a := ⟨b, _, none⟩) e]; exact h3
 ·rw [World.frozen?_of_block (w := W) (a := ⟨b, _, none⟩) e]; exact h4
 ·rw [World.frozen?_of_block (w := W) (a := ⟨b, _, none⟩) e]; exact h5
 ·rw [World.frozen?_of_block (w := W) (a := ⟨b, _, none⟩) e]; exact h6
def Bools (n b : Nat) (f : Nat → Bool) (W : World) : Prop := b < W.heap.size ∧ ∀ j, j < n → W.cell? ⟨b, j, none⟩ = some (.bool (f j)) ∧ W.frozen? ⟨b, j, none⟩ = false
section
variable {H : Type} {enc : TypeId × Value → H} {P : Program} {W : World} {base : Nat}
structure Hp where
 n : Nat
 z : Nat → Int
 m : Nat
 s : Nat → Sp
 b : Bool
structure HpAt (W : World) (p : Option Addr) (c : Nat) (q : Option Addr) (d : Nat) (h : Hp) : Prop where
 ints : Ints .u64 W p h.n h.z
 spans : Spans W q h.m h.s
 nle : h.n ≤ maxLen
 mle : h.m ≤ maxLen
 pnil : p = none → h.n = 0 ∧ c = 0
 qnil : q = none → h.m = 0 ∧ d = 0
 ncap : h.n ≤ c ∧ c ≤ maxLen
 mcap : h.m ≤ d ∧ d ≤ maxLen
theorem HpAt.below {W W' : World} {p : Option Addr} {c : Nat} {q : Option Addr} {d : Nat} {h : Hp} (hh : HpAt W p c q d h) (hb : Below W.heap.size W W') : HpAt W' p c q d h :=
 ⟨hh.ints.below hb, hh.spans.below hb, hh.nle, hh.mle, hh.pnil, hh.qnil, hh.ncap, hh.mcap⟩
end
theorem znp {m : Int} (h : Mask m) : m.toNat < 2 ^ 32 := by have := h.1; have := h.2; omega
def orM (a b : Int) : Int := ((a.toNat ||| b.toNat : Nat) : Int)
def anotM (a b : Int) : Int := ((BitVec.ofNat 32 a.toNat &&& ~~~ BitVec.ofNat 32 b.toNat).toNat : Int)
theorem zml {a b : Int} (ha : Mask a) (hb : Mask b) : bits .andNot .u32 a b = anotM a b := by
 have e : bits .andNot .u32 (a.toNat : Int) (b.toNat : Int) = anotM a b := by
  show IntKind.u32.wrap ((BitVec.ofInt 32 (a.toNat : Int) &&& ~~~ BitVec.ofInt 32 (b.toNat : Int)).toNat : Int) = _
  have h1 : (BitVec.ofNat 32 a.toNat &&& ~~~ BitVec.ofNat 32 b.toNat).toNat < 2 ^ 32 := BitVec.isLt _
  unfold anotM
  rw [BitVec.ofInt_natCast, BitVec.ofInt_natCast, IntKind.wrap_u32]
  omega
 rw [zcc ha, zcc hb] at e
 exact e
theorem zw6 {a b : Int} (ha : Mask a) (hb : Mask b) : Mask (orM a b) := by
 have h1 : (a.toNat ||| b.toNat) < 2 ^ 32 := Nat.or_lt_two_pow (znp ha) (znp hb)
 unfold Mask orM; omega
theorem zqg (a b : Int) : Mask (anotM a b) := by
 have h1 : (BitVec.ofNat 32 a.toNat &&& ~~~ BitVec.ofNat 32 b.toNat).toNat < 2 ^ 32 := BitVec.isLt _
 unfold Mask anotM; omega
theorem zwm (a b i : Int) : hasB (orM a b) i = (hasB a i || hasB b i) := by
 unfold hasB orM
 cases inB i <;> simp [Nat.testBit_or]
theorem zno {a : Int} (b i : Int) (ha : Mask a) : hasB (anotM a b) i = (hasB a i && !hasB b i) := by
 unfold hasB anotM
 cases hi : inB i with
 | false => simp
 | true =>
  have h0 := (zcw i).1 hi
  simp only [Int.toNat_natCast, Bool.true_and]
  rw [← BitVec.getLsbD, BitVec.getLsbD_and, BitVec.getLsbD_not, BitVec.getLsbD_ofNat, BitVec.getLsbD_ofNat]
  have : i.toNat < 32 := by omega
  simp [this]
theorem small_or {cl fr : Int} (hm : Mask fr) : (orM fr (wholeW (blW cl)) == wholeW (blW cl)) = smallB cl fr := by
 have hb := zbc cl
 have hw := zd1 (blW cl)
 have : orM fr (wholeW (blW cl)) = wholeW (blW cl) ↔ smallB cl fr = true := by
  rw [zbk hm]
  constructor
  ·intro h i i0 i1
   have := zwm fr (wholeW (blW cl)) i
   rw [h, zci _ (by omega) i1, decide_eq_false (by omega)] at this
   simpa using this.symm
  ·intro h
   refine zga (zw6 hm hw) hw fun i i0 i1 => ?_
   rw [zwm, zci _ i0 i1]
   by_cases e : i < blW cl
   ·simp [e]
   ·rw [h i (by omega) i1]; simp
 cases h : smallB cl fr with
 | true => rw [this.2 h]; simp
 | false =>
  have : ¬ orM fr (wholeW (blW cl)) = wholeW (blW cl) := fun e => by rw [this.1 e] at h; cases h
  simpa using this
theorem zqc {cl fr : Int} (hm : Mask fr) : (anotM fr (wholeW (blW cl)) == 0) = smallB cl fr := by
 have hb := zbc cl
 have : anotM fr (wholeW (blW cl)) = 0 ↔ smallB cl fr = true := by
  rw [zbk hm]
  constructor
  ·intro h i i0 i1
   have := zno (wholeW (blW cl)) i hm
   rw [h, zci _ (by omega) i1, decide_eq_false (by omega), zva] at this
   simpa using this.symm
  ·intro h
   refine zxd (zqg _ _) fun i i0 i1 => ?_
   rw [zno _ _ hm, zci _ i0 i1]
   by_cases e : i < blW cl
   ·simp [e]
   ·rw [h i (by omega) i1]; simp
 cases h : smallB cl fr with
 | true => rw [this.2 h]; simp
 | false =>
  have : ¬ anotM fr (wholeW (blW cl)) = 0 := fun e => by rw [this.1 e] at h; cases h
  simpa using this
def Sp.vals (s : Sp) : List Value := [.int .i64 s.st, .int .i64 s.cl, .int .u32 s.fr]
def spVals (n : Nat) (s : Nat → Sp) : List Value := (List.range n).flatMap fun i => (s i).vals
theorem zdd (n : Nat) (s : Nat → Sp) : spVals n s ++ (s n).vals = spVals (n + 1) s := by simp [spVals, List.range_succ]
theorem zam (n : Nat) (s : Nat → Sp) : (spVals n s).length = n * 3 := by
 induction n with
 | zero => rfl
 | succ n ih => rw [← zdd, List.length_append, ih]; simp [Sp.vals]; omega
theorem zb0 (s : Nat → Sp) : ∀ {n i : Nat}, i < n → (spVals n s)[i * 3]? = some (.int .i64 (s i).st) ∧ (spVals n s)[i * 3 + 1]? = some (.int .i64 (s i).cl) ∧ (spVals n s)[i * 3 + 2]? = some (.int .u32 (s i).fr)
 | 0, i, h => by omega
 | n + 1, i, h => by
  rw [← zdd]
  have hl := zam n s
  by_cases e : i = n
  ·subst e
   refine ⟨?_, ?_, ?_⟩
   ·rw [List.getElem?_append_right (by omega), hl]; simp [Sp.vals]
   ·rw [List.getElem?_append_right (by omega), hl, show i * 3 + 1 - i * 3 = 1 by omega]; rfl
   ·rw [List.getElem?_append_right (by omega), hl, show i * 3 + 2 - i * 3 = 2 by omega]; rfl
  ·have ih := zb0 s (n := n) (i := i) (by omega)
   refine ⟨?_, ?_, ?_⟩
   ·rw [List.getElem?_append_left (by omega)]; exact ih.1
   ·rw [List.getElem?_append_left (by omega)]; exact ih.2.1
   ·rw [List.getElem?_append_left (by omega)]; exact ih.2.2
theorem zjs {n : Nat} {s t : Nat → Sp} (h : ∀ i, i < n → s i = t i) : spVals n s = spVals n t := by
 induction n with
 | zero => rfl
 | succ n ih => rw [← zdd, ← zdd, ih fun i hi => h i (by omega), h n (by omega)]
theorem zk2 (s : Sp) : ∀ u ∈ s.vals, u.oneCell' = true := by
 intro u hu
 simp [Sp.vals] at hu
 rcases hu with rfl | rfl | rfl <;> rfl
theorem zl9 {w : World} {base : Nat} {e : TypeId} {p : Option Addr} {n cap : Nat} {s : Nat → Sp} (h : w.ownsRow base e 3 (.slice p n cap) n (spVals n s)) (hw : ∀ i, i < n → (s i).wf) : Spans w p n s := by
 intro i hi
 refine ⟨?_, hw i hi⟩
 rcases h.2 with ⟨-, h0⟩ | ⟨g, cap', cur, hv, hb, hg, hn, hm, hs, ht⟩
 ·omega
 ·have e0 : p = some ⟨g, 0, none⟩ := by injection hv
  subst e0
  have hlt : g < w.heap.size := by
   rcases Nat.lt_or_ge g w.heap.size with h' | h'
   ·exact h'
   ·rw [Array.getElem?_eq_none h'] at hg; cases hg
  obtain ⟨a0, a1, a2⟩ := zb0 s hi
  rw [← ht] at a0 a1 a2
  rw [List.getElem?_take, if_pos (by omega)] at a0 a1 a2
  refine ⟨g, 0, rfl, hlt, ?_, ?_, ?_⟩
  ·rw [Nat.zero_add, cell_of_row w g _ cur e (0, 0) hg]; simpa using a0
  ·rw [Nat.zero_add, cell_of_row w g _ cur e (0, 0) hg]; simpa using a1
  ·rw [Nat.zero_add, cell_of_row w g _ cur e (0, 0) hg]; simpa using a2
theorem zpw {w w' : World} {row : Option Nat} (hg : w.grownBy w' row) {b : Nat} (hl : b < w.heap.size) (hne : row ≠ some b) : w'.heap[b]? = w.heap[b]? := hg.block b hl (fun e => hne e.symm)
theorem Box3.grown {b : Nat} {x y z : Value} {w w' : World} {row : Option Nat} (h : Box3 b x y z w) (hg : w.grownBy w' row) (hne : row ≠ some b) : Box3 b x y z w' := by
 obtain ⟨h0, h1, h2, h3, h4, h5, h6⟩ := h
 have e := zpw hg h0 hne
 refine ⟨Nat.lt_of_lt_of_le h0 hg.size, ?_, ?_, ?_, ?_, ?_, ?_⟩
 ·rw [World.cell?_of_block (w := w) (a := ⟨b, _, none⟩) e]; exact h1
 ·rw [World.cell?_of_block (w := w) (a := ⟨b, _, none⟩) e]; exact h2
 ·rw [World.cell?_of_block (w := w) (a := ⟨b, _, none⟩) e]; exact h3
 ·rw [World.frozen?_of_block (w := w) (a := ⟨b, _, none⟩) e]; exact h4
 ·rw [World.frozen?_of_block (w := w) (a := ⟨b, _, none⟩) e]; exact h5
 ·rw [World.frozen?_of_block (w := w) (a := ⟨b, _, none⟩) e]; exact h6
theorem Box3.stores {b : Nat} {x y z : Value} {W : World} (h : Box3 b x y z W) (x' y' z' : Value) : Box3 b x' y' z' (((W.setCell ⟨b, 0, none⟩ x').setCell ⟨b, 1, none⟩ y').setCell ⟨b, 2, none⟩ z') := ((h.store0 x').store1 y').store2 z'
theorem Box3.others {b : Nat} {x y z : Value} {W : World} (h : Box3 b x y z W) {g : Nat} (hg : ¬ g = b) (x' y' z' : Value) : Box3 b x y z (((W.setCell ⟨g, 0, none⟩ x').setCell ⟨g, 1, none⟩ y').setCell ⟨g, 2, none⟩ z') := ((h.other hg 0 x').other hg 1 y').other hg 2 z'
theorem zav {W w1 : World} {n : Nat} (hb : Below n W w1) {g : Nat} (hg : n ≤ g) (x y z : Value) : Below n W (((w1.setCell ⟨g, 0, none⟩ x).setCell ⟨g, 1, none⟩ y).setCell ⟨g, 2, none⟩ z) := ((hb.setCell hg x).setCell hg y).setCell hg z
end Go.Proofs.YtkehankfnkjnlaaGreatDoor
