/- The awake test of layer 8's laws. -/
import Derived.Test.YtkjbefaaejlknaaDoorMade
import Derived.Test.YtkjbefaaejlknaaDoorObjIn
namespace Go.Proofs.YtkjbefaaejlknaaDoor
set_option linter.unusedSimpArgs false
set_option linter.unusedVariables false
open Go.ChangeShapes Go.WideShapes Go.ChangeAt Go.RowKit Go.Joins

def dd8 : Nat → Dd := fun i => if i = 0 then ⟨0, 1, 1⟩ else ⟨1, 1, 2⟩
def h8 : Hp := maH (newH 2) dd8 2
structure Aw8 (h : Hp) : Prop where
  form : formB h = true
  b : h.b = false
  e0 : seE h 32 1 2 32 = 0
  formA : formB (seH h 32 1 2 32) = true
  f0 : fdE (seH h 32 1 2 32) 32 1 = 0
  f1 : getK (fdX (seH h 32 1 2 32) 32 1) = 2
  f2 : getN (fdX (seH h 32 1 2 32) 32 1) = 32
  f3 : fdE (seH h 32 1 2 32) 32 2 = 4
  f4 : fdE (seH h 32 1 2 32) 36 0 = 1
  o0 : obB (seH h 32 1 2 32) 32 = true
  o1 : obN (seH h 32 1 2 32) 32 = 2
  o2 : obK (seH h 32 1 2 32) 32 = 1
  l0 : obL (seH h 32 1 2 32) (seH h 32 1 2 32).n = [32]
  r0 : rfH (seH h 32 1 2 32) 32 = [32]
  formF : formB (flipB (seH h 32 1 2 32)) = true
  b0 : blB (flipB (seH h 32 1 2 32)) 32 = false
  o3 : obB (flipB (seH h 32 1 2 32)) 32 = true
  formB' : formB (paH (flipB (seH h 32 1 2 32)) 32) = true
  b1 : blB (paH (flipB (seH h 32 1 2 32)) 32) 32 = true
  b2 : blB (paH (flipB (seH h 32 1 2 32)) 32) 36 = false
theorem aw8_facts : formB h8 = true ∧ h8.b = false ∧ seE h8 32 1 2 32 = 0 ∧ formB (seH h8 32 1 2 32) = true ∧ fdE (seH h8 32 1 2 32) 32 1 = 0 ∧ getK (fdX (seH h8 32 1 2 32) 32 1) = 2 ∧ getN (fdX (seH h8 32 1 2 32) 32 1) = 32 ∧
    fdE (seH h8 32 1 2 32) 32 2 = 4 ∧ fdE (seH h8 32 1 2 32) 36 0 = 1 ∧ obB (seH h8 32 1 2 32) 32 = true ∧ obN (seH h8 32 1 2 32) 32 = 2 ∧ obK (seH h8 32 1 2 32) 32 = 1 ∧ obL (seH h8 32 1 2 32) (seH h8 32 1 2 32).n = [32] ∧ rfH (seH h8 32 1 2 32) 32 = [32] ∧
    formB (flipB (seH h8 32 1 2 32)) = true ∧ blB (flipB (seH h8 32 1 2 32)) 32 = false ∧ obB (flipB (seH h8 32 1 2 32)) 32 = true ∧ formB (paH (flipB (seH h8 32 1 2 32)) 32) = true ∧ blB (paH (flipB (seH h8 32 1 2 32)) 32) 32 = true ∧ blB (paH (flipB (seH h8 32 1 2 32)) 32) 36 = false := by decide +kernel
theorem aw8 : Aw8 h8 := by
  obtain ⟨a0, a1, a2, a3, a4, a5, a6, a7, a8, a9, a10, a11, a12, a13, a14, a15, a16, a17, a18, a19⟩ := aw8_facts
  exact ⟨a0, a1, a2, a3, a4, a5, a6, a7, a8, a9, a10, a11, a12, a13, a14, a15, a16, a17, a18, a19⟩
theorem deeds8 (w : World) (t : TypeId) : Deeds (w.alloc (.cells #[.int .i64 0, .int .i64 1, .int .i64 1, .int .i64 1, .int .i64 1, .int .i64 2] t)) (some ⟨w.heap.size, 0, none⟩) 2 dd8 := by
  have hg := heap_alloc_new w (.cells #[.int .i64 0, .int .i64 1, .int .i64 1, .int .i64 1, .int .i64 1, .int .i64 2] t)
  intro i hi
  match i, hi with
  | 0, _ => exact ⟨⟨w.heap.size, 0, rfl, by simp, by rw [cell_of_row _ _ _ _ _ _ hg]; rfl, by rw [cell_of_row _ _ _ _ _ _ hg]; rfl, by rw [cell_of_row _ _ _ _ _ _ hg]; rfl⟩, by show (⟨0, 1, 1⟩ : Dd).wf; simp [Dd.wf, In64]⟩
  | 1, _ => exact ⟨⟨w.heap.size, 0, rfl, by simp, by rw [cell_of_row _ _ _ _ _ _ hg]; rfl, by rw [cell_of_row _ _ _ _ _ _ hg]; rfl, by rw [cell_of_row _ _ _ _ _ _ hg]; rfl⟩, by show (⟨1, 1, 2⟩ : Dd).wf; simp [Dd.wf, In64]⟩
theorem rmade8 (p : Option Addr) (cap : Nat) (w : World) (hin : Deeds w p 2 dd8) :
    Calls Tryd.prog 16 #[.int .i64 2, .slice p 2 cap] w fun e w' => ∃ p' c' q' d', e = .returned (.agg #[.slice p' 64 c', .slice q' 2 d', .bool false]) ∧ HpIn w' p' 64 c' q' 2 d' false h8 ∧ Below w.heap.size w w' := by
  refine Calls.mono (rmade_any 2 p 2 cap dd8 w (by decide) (by decide) hin (by decide)) ?_
  rintro e w' ⟨p', c', q', d', rfl, h1, -, -, -, hb⟩
  have e0 : (maH (newH (Int.toNat 2)) dd8 2).b = false := aw8.b
  rw [e0] at h1 ⊢
  exact ⟨p', c', q', d', rfl, h1, hb⟩
theorem one_ints (w : World) (x : Int) (t : TypeId) (hx : (Lit.int .i64 x).wf = true) : Ints .i64 (w.alloc (.cells #[.int .i64 x] t)) (some ⟨w.heap.size, 0, none⟩) 1 (fun _ => x) := fun i hi => by
  obtain rfl : i = 0 := by omega
  have hg := heap_alloc_new w (.cells #[.int .i64 x] t)
  exact ⟨⟨w.heap.size, 0, rfl, by simp, by rw [cell_of_row _ _ _ _ _ _ hg]; rfl⟩, hx⟩
theorem rints8_one {B : Nat} {x : Int} {p q : Option Addr} {c d : Nat} {w : World} (r : NumRow B [x] w p c) (hy : Ints .i64 w q 1 (fun _ => x)) :
    Calls Tryd.prog 18 #[.slice p 1 c, .slice q 1 d] w fun e w' => e = .returned (.bool true) ∧ Below w.heap.size w w' := by
  refine Calls.mono (rints8_any p q 1 c 1 d (fun i => [x][i]?.getD 0) (fun _ => x) w r.ints hy (by decide) (by decide)) ?_
  rintro e w' ⟨rfl, hb⟩
  refine ⟨?_, hb⟩
  have : sameZ 1 (fun i => [x][i]?.getD 0) 1 (fun _ => x) = true := by
    simp only [sameZ, decide_eq_true_eq]
    refine ⟨trivial, fun t ht => ?_⟩
    obtain rfl : t = 0 := by omega
    rfl
  rw [this]

set_option maxHeartbeats 8000000 in
set_option maxRecDepth 20000 in
theorem awake8_any (w : World) (hS : Sz w) :
    Calls Tryd.prog 5 #[] w fun e w' => e = .returned (.bool true) ∧ Below w.heap.size w w' := by
  have hS0 := hS
  have hF := aw8
  have hM := fun p cap W hin => rmade8 p cap W hin
  generalize h8 = h at *
  have hLi : ∀ BA W p c q d, BA < W.heap.size → Sz W → HpIn W p 64 c q 2 d false (seH h 32 1 2 32) → Calls Tryd.prog 12 #[.agg #[.slice p 64 c, .slice q 2 d, .bool false]] W fun e w' => ∃ pl cl, e = .returned (.slice pl 1 cl) ∧ NumRow (BA + 1) [32] w' pl cl ∧ Below W.heap.size W w' := fun BA W p c q d hlt s k => by
    have := olist_in s k hF.formA
    rw [hF.l0] at this
    refine Calls.mono this ?_
    rintro e w' ⟨pl, cl, rfl, hr, hb⟩
    exact ⟨pl, cl, rfl, ⟨hr.ints, fun b off sp e => by have := hr.new b off sp e; omega⟩, hb⟩
  have hRe : ∀ BA W p c q d, BA < W.heap.size → Sz W → HpIn W p 64 c q 2 d false (seH h 32 1 2 32) → Calls Tryd.prog 14 #[.agg #[.slice p 64 c, .slice q 2 d, .bool false], .int .i64 32] W fun e w' => ∃ pl cl, e = .returned (.slice pl 1 cl) ∧ NumRow (BA + 1) [32] w' pl cl ∧ Below W.heap.size W w' := fun BA W p c q d hlt s k => by
    have := orefs_in (a := 32) s k hF.formA
    rw [hF.r0] at this
    refine Calls.mono this ?_
    rintro e w' ⟨pl, cl, rfl, hr, hb⟩
    exact ⟨pl, cl, rfl, ⟨hr.ints, fun b off sp e => by have := hr.new b off sp e; omega⟩, hb⟩
  obtain ⟨F0, -, E0, FA, a4, a5, a6, a7, a8, a9, a10, a11, -, -, FF, b0, o3, FB, b1, b2⟩ := hF
  go_enter Tryd.func5, Tryd.ntmps5
  go_upto_region 3 with (first
    | (go_at_call 16; refine Calls.mono (hM _ _ _ (deeds8 _ _)) ?_; rintro e w' ⟨p0, c0, q0, d0, rfl, hh0, hb⟩; (first | replace hS := hS.below hb | replace hS := (hS.below (by go_grown)).below hb | skip); obtain ⟨hc, hf, hb, hz⟩ := bstep hb (w := w) (by go_grown); try simp only [World.size_alloc, World.size_setCell, World.size_drew] at hc hf hz)
    | (go_at_call 7; refine Calls.mono (oset_in (hS.below (by go_grown)) (hh0.below (by go_grown)) F0 (by decide)) ?_; rintro e w' ⟨p1, c1, q1, d1, rfl, hh1, -, hb⟩; (first | replace hS := hS.below hb | replace hS := (hS.below (by go_grown)).below hb | skip); (first | replace hh0 := hh0.below hb | replace hh0 := (hh0.below (by go_grown)).below hb | skip); obtain ⟨hc, hf, hb, hz⟩ := bstep hb (w := w) (by go_grown); try simp only [World.size_alloc, World.size_setCell, World.size_drew] at hc hf hz)
  )
  obtain ⟨w3, hw3⟩ : ∃ W, W = w'.alloc (.cells #[.slice p1 64 c1, .slice q1 2 d1, .bool false] 25) := ⟨_, rfl⟩
  have hB3 : Below w'.heap.size w' w3 := by rw [hw3]; exact (Below.refl _ _).alloc (Nat.le_refl _) _
  have gA : Box3 w'.heap.size (.slice p1 64 c1) (.slice q1 2 d1) (.bool false) w3 := by rw [hw3]; exact Box3.new _ _ _ _ _
  have hC := (hh1.lower FA).clear (g := w'.heap.size) (Nat.le_refl _)
  have hbW := bjoin hB3 hb
  have hwB : w.heap.size ≤ w'.heap.size := hb.size
  replace hS := hS.below hB3
  replace hh1 := hh1.below hB3
  rw [← hw3]
  clear hw3 hB3 hb hc hf hz hh0
  generalize w'.heap.size = BA at *
  obtain ⟨lA, x0, x1, x2, -, -, f2⟩ := id gA
  go_upto_region 4 with (first
    | (go_at_call 17; refine Calls.mono (ofield_in (hS.below (by go_grown)) (hh1.below (by go_grown)) FA) ?_; rintro e w' ⟨rfl, hb⟩; (first | replace hS := hS.below hb | replace hS := (hS.below (by go_grown)).below hb | skip); (first | replace hh1 := hh1.below hb | replace hh1 := (hh1.below (by go_grown)).below hb | skip); (first | replace gA := gA.below hb | replace gA := (gA.below (by go_grown)).below hb | skip); obtain ⟨hc, hf, hb, hz⟩ := bstep hb (w := w3) (by go_grown); try simp only [World.size_alloc, World.size_setCell, World.size_drew] at hc hf hz)
  )
  obtain ⟨w4, hw4⟩ : ∃ W, W = w'.alloc (.cells #[.int .i64 2, .int .i64 32] 27) := ⟨_, rfl⟩
  have hB4 : Below w'.heap.size w' w4 := by rw [hw4]; exact (Below.refl _ _).alloc (Nat.le_refl _) _
  have gV : Box2 w'.heap.size (.int .i64 2) (.int .i64 32) w4 := by rw [hw4]; exact Box2.new _ _ _ _
  have hvA : BA < w'.heap.size := gA.1
  have hbW := bjoin hB4 (bjoin hb hbW)
  replace hS := hS.below hB4
  replace hh1 := hh1.below hB4
  replace gA := gA.below hB4
  rw [← hw4]
  clear hw4 hB4 hb hc hf hz x0 x1 x2 f2 lA
  generalize w'.heap.size = BV at *
  obtain ⟨lA, x0, x1, x2, -, -, f2⟩ := id gA
  go_upto_region 7 with (first
    | (go_at_call 17; refine Calls.mono (ofield_in (hS.below (by go_grown)) (hh1.below (by go_grown)) FA) ?_; rintro e w' ⟨rfl, hb⟩; (first | replace hS := hS.below hb | replace hS := (hS.below (by go_grown)).below hb | skip); (first | replace hh1 := hh1.below hb | replace hh1 := (hh1.below (by go_grown)).below hb | skip); (first | replace gA := gA.below hb | replace gA := (gA.below (by go_grown)).below hb | skip); (first | replace gV := gV.below hb | replace gV := (gV.below (by go_grown)).below hb | skip); obtain ⟨hc, hf, hb, hz⟩ := bstep hb (w := w4) (by go_grown); try simp only [World.size_alloc, World.size_setCell, World.size_drew] at hc hf hz)
    | (go_at_call 13; refine Calls.mono (oget_in (hS.below (by go_grown)) (hh1.below (by go_grown)) FA) ?_; rintro e w' ⟨rfl, hb⟩; (first | replace hS := hS.below hb | replace hS := (hS.below (by go_grown)).below hb | skip); (first | replace hh1 := hh1.below hb | replace hh1 := (hh1.below (by go_grown)).below hb | skip); (first | replace gA := gA.below hb | replace gA := (gA.below (by go_grown)).below hb | skip); (first | replace gV := gV.below hb | replace gV := (gV.below (by go_grown)).below hb | skip); obtain ⟨hc, hf, hb, hz⟩ := bstep hb (w := w4) (by go_grown); try simp only [World.size_alloc, World.size_setCell, World.size_drew] at hc hf hz)
  )
  obtain ⟨w7, hw7⟩ : ∃ W, W = w'.alloc (.cells #[.bool true, .bool (obC (seH h 32 1 2 32) 32), .int .i64 1, .int .i64 2] 46) := ⟨_, rfl⟩
  have hB7 : Below w'.heap.size w' w7 := by rw [hw7]; exact (Below.refl _ _).alloc (Nat.le_refl _) _
  have gX : Box4 w'.heap.size (.bool true) (.bool (obC (seH h 32 1 2 32) 32)) (.int .i64 1) (.int .i64 2) w7 := by rw [hw7]; exact Box4.new _ _ _ _ _ _
  have hxA : BA < w'.heap.size := gA.1
  have hbW := bjoin hB7 (bjoin hb hbW)
  replace hS := hS.below hB7
  replace hh1 := hh1.below hB7
  replace gA := gA.below hB7
  replace gV := gV.below hB7
  rw [← hw7]
  clear hw7 hB7 hb hc hf hz x0 x1 x2 f2 lA
  generalize w'.heap.size = BX at *
  obtain ⟨lA, x0, x1, x2, -, -, f2⟩ := id gA
  go_upto_region 9 with (first
    | (go_at_call 12; refine Calls.mono (hLi BA _ _ _ _ _ gA.1 hS hh1) ?_; rintro e w' ⟨pl, cl, rfl, hrl, hb⟩; (first | replace hS := hS.below hb | replace hS := (hS.below (by go_grown)).below hb | skip); (first | replace hh1 := hh1.below hb | replace hh1 := (hh1.below (by go_grown)).below hb | skip); (first | replace gA := gA.below hb | replace gA := (gA.below (by go_grown)).below hb | skip); (first | replace gV := gV.below hb | replace gV := (gV.below (by go_grown)).below hb | skip); (first | replace gX := gX.below hb | replace gX := (gX.below (by go_grown)).below hb | skip); obtain ⟨hc, hf, hb, hz⟩ := bstep hb (w := w7) (by go_grown); try simp only [World.size_alloc, World.size_setCell, World.size_drew] at hc hf hz)
    | (go_at_call 14; refine Calls.mono (hRe BA _ _ _ _ _ gA.1 hS hh1) ?_; rintro e w' ⟨pm, cm, rfl, hrm, hb⟩; (first | replace hS := hS.below hb | replace hS := (hS.below (by go_grown)).below hb | skip); (first | replace hh1 := hh1.below hb | replace hh1 := (hh1.below (by go_grown)).below hb | skip); (first | replace gA := gA.below hb | replace gA := (gA.below (by go_grown)).below hb | skip); (first | replace gV := gV.below hb | replace gV := (gV.below (by go_grown)).below hb | skip); (first | replace gX := gX.below hb | replace gX := (gX.below (by go_grown)).below hb | skip); (first | replace hrl := hrl.below hb | replace hrl := (hrl.below (by go_grown)).below hb | skip); obtain ⟨hc, hf, hb, hz⟩ := bstep hb (w := w7) (by go_grown); try simp only [World.size_alloc, World.size_setCell, World.size_drew] at hc hf hz)
  )
  replace hbW := bjoin hb hbW
  clear hb hc hf hz x0 x1 x2 f2 lA
  generalize w' = w9 at *
  obtain ⟨lA, x0, x1, x2, -, -, f2⟩ := id gA
  go_upto_region 10 with fail
  obtain ⟨wA, hwA⟩ : ∃ W, W = w9.setCell ⟨BA, 2, none⟩ (.bool true) := ⟨_, rfl⟩
  have hh2 : HpIn wA p1 64 c1 q1 2 d1 true (flipB (seH h 32 1 2 32)) := by rw [hwA]; exact (hh1.setCell hC _ _).flip
  have gA2 : Box3 BA (.slice p1 64 c1) (.slice q1 2 d1) (.bool true) wA := by rw [hwA]; exact gA.store2 _
  have gV2 : Box2 BV (.int .i64 2) (.int .i64 32) wA := by rw [hwA]; exact gV.other (by omega) _ _
  have gX2 : Box4 BX (.bool true) (.bool (obC (seH h 32 1 2 32) 32)) (.int .i64 1) (.int .i64 2) wA := by rw [hwA]; exact gX.of_block (Below.heap_setCell _ _ _ _ (by show BX ≠ BA; omega)) (by simp [World.setCell])
  have hrl2 : NumRow (BA + 1) [32] wA pl cl := by rw [hwA]; exact hrl.setCell (Nat.lt_succ_self _) _ _
  have hrm2 : NumRow (BA + 1) [32] wA pm cm := by rw [hwA]; exact hrm.setCell (Nat.lt_succ_self _) _ _
  have hbA : Below w.heap.size w wA := by rw [hwA]; exact hbW.setCell hwB _
  have hSA := hS0.below hbA
  rw [← hwA]
  clear hwA x0 x1 x2 f2 lA hrl hrm gA gV gX hh1 hS hbW
  obtain ⟨lA, x0, x1, x2, -, -, -⟩ := id gA2
  go_upto_region 11 with (first
    | (go_at_call 8; refine Calls.mono (opaint_in hSA hh2 FF) ?_; rintro e w' ⟨p3, c3, q3, d3, rfl, hh3, -, hb⟩; (first | replace hSA := hSA.below hb | replace hSA := (hSA.below (by go_grown)).below hb | skip); (first | replace hh2 := hh2.below hb | replace hh2 := (hh2.below (by go_grown)).below hb | skip); (first | replace gA2 := gA2.below hb | replace gA2 := (gA2.below (by go_grown)).below hb | skip); (first | replace gV2 := gV2.below hb | replace gV2 := (gV2.below (by go_grown)).below hb | skip); (first | replace gX2 := gX2.below hb | replace gX2 := (gX2.below (by go_grown)).below hb | skip); (first | replace hrl2 := hrl2.below hb | replace hrl2 := (hrl2.below (by go_grown)).below hb | skip); (first | replace hrm2 := hrm2.below hb | replace hrm2 := (hrm2.below (by go_grown)).below hb | skip); obtain ⟨hc, hf, hb, hz⟩ := bstep hb (w := wA) (by go_grown); try simp only [World.size_alloc, World.size_setCell, World.size_drew] at hc hf hz)
  )
  obtain ⟨wB, hwB'⟩ : ∃ W, W = w'.alloc (.cells #[.slice p3 64 c3, .slice q3 2 d3, .bool true] 25) := ⟨_, rfl⟩
  have hBB : Below w'.heap.size w' wB := by rw [hwB']; exact (Below.refl _ _).alloc (Nat.le_refl _) _
  have gB : Box3 w'.heap.size (.slice p3 64 c3) (.slice q3 2 d3) (.bool true) wB := by rw [hwB']; exact Box3.new _ _ _ _ _
  have hbW := bjoin hBB (bjoin hb hbA)
  replace hSA := hSA.below hBB
  replace hh2 := hh2.below hBB
  replace hh3 := hh3.below hBB
  replace gA2 := gA2.below hBB
  replace gV2 := gV2.below hBB
  replace gX2 := gX2.of_block (hBB.block _ gX2.lt) hBB.size
  replace hrl2 := hrl2.below hBB
  replace hrm2 := hrm2.below hBB
  rw [← hwB']
  clear hwB' hBB hb hc hf hz x0 x1 x2 lA
  generalize w'.heap.size = BB at *
  obtain ⟨lA, x0, x1, x2, -, -, -⟩ := gA2
  obtain ⟨lB, y0, y1, y2, -, -, -⟩ := gB
  obtain ⟨lV, v0, v1⟩ := gV2
  obtain ⟨lX, z0, z1, z2, z3, -, -, -, -⟩ := gX2
  go_wp2_with (first
    | (go_at_call 18; refine Calls.mono (rints8_one (NumRow.below (by assumption) (by go_grown)) (one_ints _ _ _ (by decide))) ?_; rintro e w' ⟨rfl, hb⟩; obtain ⟨hc, hf, hb, hz⟩ := bstep hb (w := wB) (by go_grown); try simp only [World.size_alloc, World.size_setCell, World.size_drew] at hc hf hz)
    | (go_at_call 19; refine Calls.mono (oblack_in (hSA.below (by go_grown)) (HpIn.below (by assumption) (by go_grown)) (by assumption)) ?_; rintro e w' ⟨rfl, hb⟩; obtain ⟨hc, hf, hb, hz⟩ := bstep hb (w := wB) (by go_grown); try simp only [World.size_alloc, World.size_setCell, World.size_drew] at hc hf hz)
  )
  go_returns
  exact ⟨ret_bool (by simp), bjoin hb hbW⟩
end Go.Proofs.YtkjbefaaejlknaaDoor
