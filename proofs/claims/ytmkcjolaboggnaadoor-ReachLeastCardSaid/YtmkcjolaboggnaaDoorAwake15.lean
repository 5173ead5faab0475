/- The awake test of layer 15's laws. -/
import Derived.Test.YtmkcjolaboggnaaDoorReach
import Derived.Test.YtmkcjolaboggnaaDoorLinked
import Derived.Test.YtmkcjolaboggnaaDoorMade
namespace Go.Proofs.YtmkcjolaboggnaaDoor
set_option linter.unusedSimpArgs false
set_option linter.unusedVariables false
open Go.ChangeShapes Go.WideShapes Go.ChangeAt Go.RowKit Go.Joins

def dd15 : Nat → Dd := fun i => if i = 0 then ⟨0, 0, 0⟩ else ⟨1, 0, 1⟩
def lk15 : Nat → Lk := fun i => if i = 0 then ⟨0, 0, 2, 1⟩ else if i = 1 then ⟨1, 0, 2, 0⟩ else ⟨2, 0, 2, 0⟩
def g15 : Hp := maH (newH 1) dd15 4
def h15 : Hp := lkH g15 lk15 3
theorem made15_facts : formB g15 = true ∧ g15.b = false ∧ g15.n = 32 ∧ g15.m = 1 := by decide +kernel
theorem linked15_facts : formB h15 = true ∧ h15.n = 32 ∧ obL h15 32 = [0, 2, 4] ∧ rfH h15 0 = [2] ∧ rfH h15 2 = [0] ∧ rfH h15 4 = [0] ∧ obB h15 99 = false ∧ obB h15 0 = true ∧ obB h15 2 = true ∧ obB h15 4 = true ∧ wdL h15 [0, 0, 2, 99] = 4 ∧ (bkL h15).length = 3 := by decide +kernel
theorem rc15_a : rcL h15 [0, 99] = [0, 2] := by
  obtain ⟨-, en, eL, r0, r2, r4, o99, o0, o2, o4, -, -⟩ := linked15_facts
  have h0 : Rch h15 [0, 99] 0 := .root (by simp) o0
  have h2 : Rch h15 [0, 99] 2 := h0.step (by rw [r0]; simp) o2
  have h4 : ¬ Rch h15 [0, 99] 4 := fun hr => by
    have := hr (fun x => x = 0 ∨ x = 2) (fun x hx ho => by
      simp at hx
      rcases hx with rfl | rfl
      · exact .inl rfl
      · rw [o99] at ho; cases ho) (fun x y hx hy _ => by
      rcases hx with rfl | rfl
      · rw [r0] at hy; simp at hy; exact .inr hy
      · rw [r2] at hy; simp at hy; exact .inl hy)
    omega
  unfold rcL
  rw [en, eL]
  simp [h0, h2, h4]
theorem rc15_b : rcL h15 [4] = [0, 2, 4] := by
  obtain ⟨-, en, eL, r0, r2, r4, o99, o0, o2, o4, -, -⟩ := linked15_facts
  have h4 : Rch h15 [4] 4 := .root (by simp) o4
  have h0 : Rch h15 [4] 0 := h4.step (by rw [r4]; simp) o0
  have h2 : Rch h15 [4] 2 := h0.step (by rw [r0]; simp) o2
  unfold rcL
  rw [en, eL]
  simp [h0, h2, h4]
theorem deeds15 (w : World) (t : TypeId) : Deeds (w.alloc (.cells #[.int .i64 0, .int .i64 0, .int .i64 0, .int .i64 1, .int .i64 0, .int .i64 1, .int .i64 1, .int .i64 0, .int .i64 1, .int .i64 1, .int .i64 0, .int .i64 1] t)) (some ⟨w.heap.size, 0, none⟩) 4 dd15 := by
  have hg := heap_alloc_new w (.cells #[.int .i64 0, .int .i64 0, .int .i64 0, .int .i64 1, .int .i64 0, .int .i64 1, .int .i64 1, .int .i64 0, .int .i64 1, .int .i64 1, .int .i64 0, .int .i64 1] t)
  intro i hi
  match i, hi with
  | 0, _ => exact ⟨⟨w.heap.size, 0, rfl, by simp, by rw [cell_of_row _ _ _ _ _ _ hg]; rfl, by rw [cell_of_row _ _ _ _ _ _ hg]; rfl, by rw [cell_of_row _ _ _ _ _ _ hg]; rfl⟩, by show (⟨0, 0, 0⟩ : Dd).wf; simp [Dd.wf, In64]⟩
  | 1, _ => exact ⟨⟨w.heap.size, 0, rfl, by simp, by rw [cell_of_row _ _ _ _ _ _ hg]; rfl, by rw [cell_of_row _ _ _ _ _ _ hg]; rfl, by rw [cell_of_row _ _ _ _ _ _ hg]; rfl⟩, by show (⟨1, 0, 1⟩ : Dd).wf; simp [Dd.wf, In64]⟩
  | 2, _ => exact ⟨⟨w.heap.size, 0, rfl, by simp, by rw [cell_of_row _ _ _ _ _ _ hg]; rfl, by rw [cell_of_row _ _ _ _ _ _ hg]; rfl, by rw [cell_of_row _ _ _ _ _ _ hg]; rfl⟩, by show (⟨1, 0, 1⟩ : Dd).wf; simp [Dd.wf, In64]⟩
  | 3, _ => exact ⟨⟨w.heap.size, 0, rfl, by simp, by rw [cell_of_row _ _ _ _ _ _ hg]; rfl, by rw [cell_of_row _ _ _ _ _ _ hg]; rfl, by rw [cell_of_row _ _ _ _ _ _ hg]; rfl⟩, by show (⟨1, 0, 1⟩ : Dd).wf; simp [Dd.wf, In64]⟩
theorem links15 (w : World) (t : TypeId) : Links (w.alloc (.cells #[.int .i64 0, .int .i64 0, .int .i64 2, .int .i64 1, .int .i64 1, .int .i64 0, .int .i64 2, .int .i64 0, .int .i64 2, .int .i64 0, .int .i64 2, .int .i64 0] t)) (some ⟨w.heap.size, 0, none⟩) 3 lk15 := by
  have hg := heap_alloc_new w (.cells #[.int .i64 0, .int .i64 0, .int .i64 2, .int .i64 1, .int .i64 1, .int .i64 0, .int .i64 2, .int .i64 0, .int .i64 2, .int .i64 0, .int .i64 2, .int .i64 0] t)
  intro i hi
  match i, hi with
  | 0, _ => exact ⟨⟨w.heap.size, 0, rfl, by simp, by rw [cell_of_row _ _ _ _ _ _ hg]; rfl, by rw [cell_of_row _ _ _ _ _ _ hg]; rfl, by rw [cell_of_row _ _ _ _ _ _ hg]; rfl, by rw [cell_of_row _ _ _ _ _ _ hg]; rfl⟩, by show (⟨0, 0, 2, 1⟩ : Lk).wf; simp [Lk.wf, In64]⟩
  | 1, _ => exact ⟨⟨w.heap.size, 0, rfl, by simp, by rw [cell_of_row _ _ _ _ _ _ hg]; rfl, by rw [cell_of_row _ _ _ _ _ _ hg]; rfl, by rw [cell_of_row _ _ _ _ _ _ hg]; rfl, by rw [cell_of_row _ _ _ _ _ _ hg]; rfl⟩, by show (⟨1, 0, 2, 0⟩ : Lk).wf; simp [Lk.wf, In64]⟩
  | 2, _ => exact ⟨⟨w.heap.size, 0, rfl, by simp, by rw [cell_of_row _ _ _ _ _ _ hg]; rfl, by rw [cell_of_row _ _ _ _ _ _ hg]; rfl, by rw [cell_of_row _ _ _ _ _ _ hg]; rfl, by rw [cell_of_row _ _ _ _ _ _ hg]; rfl⟩, by show (⟨2, 0, 2, 0⟩ : Lk).wf; simp [Lk.wf, In64]⟩
theorem rmade15 (p : Option Addr) (cap : Nat) (w : World) (hin : Deeds w p 4 dd15) :
    Calls Tryd.prog 20 #[.int .i64 1, .slice p 4 cap] w fun e w' => ∃ p' c' q' d', e = .returned (.agg #[.slice p' 32 c', .slice q' 1 d', .bool false]) ∧ HpIn w' p' 32 c' q' 1 d' false g15 ∧ Below w.heap.size w w' := by
  refine Calls.mono (rmade_any 1 p 4 cap dd15 w (by decide) (by decide) hin (by decide)) ?_
  rintro e w' ⟨p', c', q', d', rfl, h1, -, -, -, hb⟩
  have e0 : (maH (newH (Int.toNat 1)) dd15 4).b = false := made15_facts.2.1
  rw [e0] at h1 ⊢
  exact ⟨p', c', q', d', rfl, h1, hb⟩
theorem rlinked15 (p : Option Addr) (c : Nat) (q : Option Addr) (d : Nat) (pl : Option Addr) (cl : Nat) (w : World) (hh : HpIn w p 32 c q 1 d false g15) (hl : Links w pl 3 lk15) :
    Calls Tryd.prog 21 #[.agg #[.slice p 32 c, .slice q 1 d, .bool false], .slice pl 3 cl] w fun e w' => ∃ p' c' q' d', e = .returned (.agg #[.slice p' 32 c', .slice q' 1 d', .bool false]) ∧ HpIn w' p' 32 c' q' 1 d' false h15 ∧ Below w.heap.size w w' := by
  obtain ⟨en, em, eb, hat⟩ := hh
  have := rlinked_any p c q d g15 pl 3 cl lk15 w hat made15_facts.1 hl (by decide)
  rw [← en, ← em, ← eb] at this
  exact this
set_option maxHeartbeats 4000000 in
theorem small15_any (w : World) :
    Calls Tryd.prog 10 #[] w fun e w' => ∃ p' c' q' d', e = .returned (.agg #[.slice p' 32 c', .slice q' 1 d', .bool false]) ∧ HpIn w' p' 32 c' q' 1 d' false h15 ∧ Below w.heap.size w w' := by
  obtain ⟨w0, hw0⟩ : ∃ w0, w0 = w.alloc (.cells #[.slice none 0 0, .slice none 0 0, .bool false] 25) := ⟨_, rfl⟩
  have gR : TBox 25 w.heap.size #[.slice none 0 0, .slice none 0 0, .bool false] w0 := by rw [hw0]; exact TBox.new _ _ _
  have hb0 : Below w.heap.size w w0 := by rw [hw0]; exact (Below.refl _ _).alloc (Nat.le_refl _) _
  have hM := fun p cap W hin => rmade15 p cap W hin
  have hL := fun p c q d pl cl W hh hl => rlinked15 p c q d pl cl W hh hl
  generalize g15 = g at *
  generalize h15 = h at *
  go_enter Tryd.func10, Tryd.ntmps10
  go_upto_region 1 with fail
  rw [← hw0]
  clear hw0
  go_upto_region 2 with (first
    | (go_at_call 20; refine Calls.mono (hM _ _ _ (deeds15 _ _)) ?_; rintro e w1 ⟨p0, c0, q0, d0, rfl, hh0, hb1⟩)
  )
  have hb1' := bjoin hb1 ((Below.refl w0.heap.size w0).alloc (Nat.le_refl _) (.cells #[.int .i64 0, .int .i64 0, .int .i64 0, .int .i64 1, .int .i64 0, .int .i64 1, .int .i64 1, .int .i64 0, .int .i64 1, .int .i64 1, .int .i64 0, .int .i64 1] 58))
  obtain ⟨w2, hw2⟩ : ∃ W, W = w1.alloc (.cells #[.slice p0 32 c0, .slice q0 1 d0, .bool false] 25) := ⟨_, rfl⟩
  have gH : TBox 25 w1.heap.size #[.slice p0 32 c0, .slice q0 1 d0, .bool false] w2 := by rw [hw2]; exact TBox.new _ _ _
  have hb2 : Below w1.heap.size w1 w2 := by rw [hw2]; exact (Below.refl _ _).alloc (Nat.le_refl _) _
  rw [← hw2]
  clear hw2 hb1
  have hb12 := bjoin hb2 hb1'
  replace gR := gR.below hb12
  replace hb0 := bjoin hb12 hb0
  replace hh0 := hh0.below hb2
  clear hb12 hb1' hb2 hM
  generalize w1.heap.size = BH at *
  have lH := gH.lt
  have x0 := gH.cell 0
  have x1 := gH.cell 1
  have x2 := gH.cell 2
  simp only [List.getElem?_toArray, List.getElem?_cons_zero, List.getElem?_cons_succ] at x0 x1 x2
  have lR := gR.lt
  have z0 := gR.cell 0
  have z1 := gR.cell 1
  have z2 := gR.cell 2
  have f0 := gR.frozen 0
  have f1 := gR.frozen 1
  have f2 := gR.frozen 2
  simp only [List.getElem?_toArray, List.getElem?_cons_zero, List.getElem?_cons_succ] at z0 z1 z2
  go_wp2_with (first
    | (go_at_call 21; refine Calls.mono (hL _ _ _ _ _ _ _ (hh0.below ((Below.refl _ _).alloc (Nat.le_refl _) _)) (links15 _ _)) ?_; rintro e w' ⟨p1, c1, q1, d1, rfl, hh1, hb⟩; obtain ⟨hc, hf, hb, hz⟩ := bstep hb (w := w2) (by go_grown); try simp only [World.size_alloc, World.size_setCell, World.size_drew] at hc hf hz)
  )
  refine bodyPost_ret (by simp [results, Tryd.results10, go_sem, *]; try rfl) rfl ?_
  have gR2 := gR.below hb
  exact ⟨p1, c1, q1, d1, rfl, hh1.stores (shapeH_clear (shapeH_tbox gR2) hh1 (by decide) (by decide)) _ _ _, below_stores (bjoin hb hb0) (Nat.le_refl _) _ _ _⟩
/-- The values of the test. -/
def va15 : Nat → Vl := fun i => if i = 0 then ⟨0, 0⟩ else if i = 1 then ⟨2, 0⟩ else ⟨2, 99⟩
theorem vals15_a (w : World) (t : TypeId) : VAt (w.alloc (.cells #[.int .i64 0, .int .i64 0, .int .i64 2, .int .i64 0, .int .i64 2, .int .i64 99] t)) (some ⟨w.heap.size, 0, none⟩) 3 3 va15 := by
  have h := heap_alloc_new w (.cells #[.int .i64 0, .int .i64 0, .int .i64 2, .int .i64 0, .int .i64 2, .int .i64 99] t)
  refine ⟨fun i hi => ?_, by decide, fun e => (by cases e), Nat.le_refl _, by decide⟩
  match i, hi with
  | 0, _ => exact ⟨⟨w.heap.size, 0, rfl, by simp, by rw [cell_of_row _ _ _ _ _ _ h]; rfl, by rw [cell_of_row _ _ _ _ _ _ h]; rfl⟩, by decide, by decide⟩
  | 1, _ => exact ⟨⟨w.heap.size, 0, rfl, by simp, by rw [cell_of_row _ _ _ _ _ _ h]; rfl, by rw [cell_of_row _ _ _ _ _ _ h]; rfl⟩, by decide, by decide⟩
  | 2, _ => exact ⟨⟨w.heap.size, 0, rfl, by simp, by rw [cell_of_row _ _ _ _ _ _ h]; rfl, by rw [cell_of_row _ _ _ _ _ _ h]; rfl⟩, by decide, by decide⟩
theorem vals15_b (w : World) (t : TypeId) : VAt (w.alloc (.cells #[.int .i64 2, .int .i64 4] t)) (some ⟨w.heap.size, 0, none⟩) 1 1 (fun _ => ⟨2, 4⟩) := by
  have h := heap_alloc_new w (.cells #[.int .i64 2, .int .i64 4] t)
  refine ⟨fun i hi => ?_, by decide, fun e => (by cases e), Nat.le_refl _, by decide⟩
  match i, hi with
  | 0, _ => exact ⟨⟨w.heap.size, 0, rfl, by simp, by rw [cell_of_row _ _ _ _ _ _ h]; rfl, by rw [cell_of_row _ _ _ _ _ _ h]; rfl⟩, by decide, by decide⟩
/-- A literal row of numbers. -/
theorem lit15 (w : World) (t : TypeId) (L : List Int) (hw : ∀ x ∈ L, (Lit.int .i64 x).wf = true) : Ints .i64 (w.alloc (.cells (L.map (Value.int .i64)).toArray t)) (some ⟨w.heap.size, 0, none⟩) L.length fun i => L[i]?.getD 0 := fun i hi => by
  have h := heap_alloc_new w (.cells (L.map (Value.int .i64)).toArray t)
  refine ⟨⟨w.heap.size, 0, rfl, by simp, ?_⟩, hw _ (by show L[i]?.getD 0 ∈ L; rw [List.getElem?_eq_getElem hi]; exact List.getElem_mem hi)⟩
  rw [cell_of_row _ _ _ _ _ _ h, Nat.zero_add]
  simp [List.getElem?_eq_getElem hi, hi]
set_option maxHeartbeats 8000000 in
set_option maxRecDepth 20000 in
theorem awake15_any (w : World) (hS : Sz w) : Calls Tryd.prog 4 #[] w fun e w' => e = .returned (.bool true) ∧ Below w.heap.size w w' := by
  obtain ⟨hF, en, -, -, -, -, -, -, -, -, ew, eb⟩ := linked15_facts
  have hA : ∀ W p c q d pv cv, Sz W → HpIn W p 32 c q 1 d false h15 → VAt W pv cv 3 va15 → Calls Tryd.prog 6 #[.agg #[.slice p 32 c, .slice q 1 d, .bool false], .slice pv 3 cv] W fun e w' => ∃ pl cl, e = .returned (.slice pl 2 cl) ∧ (Ints .i64 w' pl 2 fun i => ([0, 2] : List Int)[i]?.getD 0) ∧ Below W.heap.size W w' := fun W p c q d pv cv hS hh hv => by
    have := afrom_in hS hh hF hv (by decide)
    rw [show vrL va15 3 = [0, 99] from by decide, rc15_a] at this
    refine Calls.mono this ?_
    rintro e w' ⟨pl, cl, rfl, hR, hb⟩
    exact ⟨pl, cl, rfl, hR.ints, hb⟩
  have hB : ∀ W p c q d pv cv, Sz W → HpIn W p 32 c q 1 d false h15 → VAt W pv cv 1 (fun _ => ⟨2, 4⟩) → Calls Tryd.prog 6 #[.agg #[.slice p 32 c, .slice q 1 d, .bool false], .slice pv 1 cv] W fun e w' => ∃ pl cl, e = .returned (.slice pl 3 cl) ∧ (Ints .i64 w' pl 3 fun i => ([0, 2, 4] : List Int)[i]?.getD 0) ∧ Below W.heap.size W w' := fun W p c q d pv cv hS hh hv => by
    have := afrom_in hS hh hF hv (by decide)
    rw [show vrL (fun _ => (⟨2, 4⟩ : Vl)) 1 = [4] from by decide, rc15_b] at this
    refine Calls.mono this ?_
    rintro e w' ⟨pl, cl, rfl, hR, hb⟩
    exact ⟨pl, cl, rfl, hR.ints, hb⟩
  have hW : ∀ W p c q d pl cl, Sz W → HpIn W p 32 c q 1 d false h15 → (Ints .i64 W pl 4 fun i => ([0, 0, 2, 99] : List Int)[i]?.getD 0) → Calls Tryd.prog 9 #[.agg #[.slice p 32 c, .slice q 1 d, .bool false], .slice pl 4 cl] W fun e w' => e = .returned (.int .i64 4) ∧ Below W.heap.size W w' := fun W p c q d pl cl hS hh hv => by
    have := awords_in (cl := cl) (L := [0, 0, 2, 99]) hS hh hF hv (by decide)
    rwa [ew] at this
  have hK : ∀ W p c q d, Sz W → HpIn W p 32 c q 1 d false h15 → Calls Tryd.prog 11 #[.agg #[.slice p 32 c, .slice q 1 d, .bool false]] W fun e w' => ∃ pl cl, e = .returned (.slice pl 3 cl) ∧ Below W.heap.size W w' := fun W p c q d hS hh => by
    have := ablack_in hS hh hF
    rw [eb] at this
    refine Calls.mono this ?_
    rintro e w' ⟨pl, cl, rfl, -, hb⟩
    exact ⟨pl, cl, rfl, hb⟩
  have hSm := small15_any
  generalize h15 = h at *
  clear hF en ew eb
  go_enter Tryd.func4, Tryd.ntmps4
  go_upto_region 2 with (first
    | (go_at_call 10; refine Calls.mono (hSm _) ?_; rintro e w1 ⟨p0, c0, q0, d0, rfl, hh, hb1⟩)
  )
  obtain ⟨w2, hw2⟩ : ∃ W, W = w1.alloc (.cells #[.slice p0 32 c0, .slice q0 1 d0, .bool false] 25) := ⟨_, rfl⟩
  have gH : TBox 25 w1.heap.size #[.slice p0 32 c0, .slice q0 1 d0, .bool false] w2 := by rw [hw2]; exact TBox.new _ _ _
  have hb2 : Below w1.heap.size w1 w2 := by rw [hw2]; exact (Below.refl _ _).alloc (Nat.le_refl _) _
  rw [← hw2]
  replace hh := hh.below hb2
  have hb0 := bjoin hb2 hb1
  replace hS := hS.below hb0
  clear hw2 hb1 hb2 hSm
  generalize w1.heap.size = BH at *
  obtain ⟨lH, x0, x1, x2⟩ : BH < w2.heap.size ∧ w2.cell? ⟨BH, 0, none⟩ = some (.slice p0 32 c0) ∧ w2.cell? ⟨BH, 1, none⟩ = some (.slice q0 1 d0) ∧ w2.cell? ⟨BH, 2, none⟩ = some (.bool false) := ⟨gH.lt, gH.cell 0, gH.cell 1, gH.cell 2⟩
  go_upto_region 3 with (first
    | (go_at_call 6; refine Calls.mono (hA _ _ _ _ _ _ _ (hS.below (by go_grown)) (hh.below (by go_grown)) (vals15_a _ _)) ?_; rintro e w3 ⟨pa, ca, rfl, hI1, hb3⟩)
  )
  have hb23 := bjoin hb3 ((Below.refl w2.heap.size w2).alloc (Nat.le_refl _) (.cells #[.int .i64 0, .int .i64 0, .int .i64 2, .int .i64 0, .int .i64 2, .int .i64 99] 33))
  replace gH := gH.below hb23
  replace hh := hh.below hb23
  replace hS := hS.below hb23
  replace hb0 := bjoin hb23 hb0
  clear hb3 hb23 hA x0 x1 x2 lH
  obtain ⟨lH, x0, x1, x2⟩ : BH < w3.heap.size ∧ w3.cell? ⟨BH, 0, none⟩ = some (.slice p0 32 c0) ∧ w3.cell? ⟨BH, 1, none⟩ = some (.slice q0 1 d0) ∧ w3.cell? ⟨BH, 2, none⟩ = some (.bool false) := ⟨gH.lt, gH.cell 0, gH.cell 1, gH.cell 2⟩
  go_upto_region 4 with (first
    | (go_at_call 6; refine Calls.mono (hB _ _ _ _ _ _ _ (hS.below (by go_grown)) (hh.below (by go_grown)) (vals15_b _ _)) ?_; rintro e w4 ⟨pb, cb, rfl, hI2, hb3⟩)
  )
  have hb23 := bjoin hb3 ((Below.refl w3.heap.size w3).alloc (Nat.le_refl _) (.cells #[.int .i64 2, .int .i64 4] 33))
  replace gH := gH.below hb23
  replace hh := hh.below hb23
  replace hS := hS.below hb23
  replace hI1 := hI1.below hb23
  replace hb0 := bjoin hb23 hb0
  clear hb3 hb23 hB x0 x1 x2 lH
  obtain ⟨lH, x0, x1, x2⟩ : BH < w4.heap.size ∧ w4.cell? ⟨BH, 0, none⟩ = some (.slice p0 32 c0) ∧ w4.cell? ⟨BH, 1, none⟩ = some (.slice q0 1 d0) ∧ w4.cell? ⟨BH, 2, none⟩ = some (.bool false) := ⟨gH.lt, gH.cell 0, gH.cell 1, gH.cell 2⟩
  have hIs : ∀ (W : World) (pl pr : Option Addr) (cl cr n : Nat) (z : Nat → Int), n ≤ 10 → Ints .i64 W pl n z → Ints .i64 W pr n z → Calls Tryd.prog 8 #[.slice pl n cl, .slice pr n cr] W fun e w' => e = .returned (.bool true) ∧ Below W.heap.size W w' := fun W pl pr cl cr n z hn h1 h2 => by
    have := rintsG_any pl pr n cl n cr z z W h1 h2 (by simp only [maxLen]; omega) (by simp only [maxLen]; omega)
    rwa [sameI_self] at this
  clear gH
  go_wp2_with (first
    | (go_at_call 8; refine Calls.mono (hIs _ _ _ _ _ _ _ (by decide) (by first | exact hI1.below (by go_grown) | exact hI2.below (by go_grown)) (by first | exact lit15 _ _ [0, 2] (by decide) | exact lit15 _ _ [0, 2, 4] (by decide))) ?_; rintro e w5 ⟨rfl, hb⟩; obtain ⟨hc, hf, hb, hz⟩ := bstep hb (w := w4) (by go_grown); try simp only [World.size_alloc, World.size_setCell, World.size_drew] at hc hf hz)
    | (go_at_call 9; refine Calls.mono (hW _ _ _ _ _ _ _ (hS.below (by go_grown)) (hh.below (by go_grown)) (lit15 _ _ [0, 0, 2, 99] (by decide))) ?_; rintro e w' ⟨rfl, hb⟩; obtain ⟨hc, hf, hb, hz⟩ := bstep hb (w := w4) (by go_grown); try simp only [World.size_alloc, World.size_setCell, World.size_drew] at hc hf hz)
    | (go_at_call 11; refine Calls.mono (hK _ _ _ _ _ (hS.below (by go_grown)) (hh.below (by go_grown))) ?_; rintro e w' ⟨pk, ck, rfl, hb⟩; obtain ⟨hc, hf, hb, hz⟩ := bstep hb (w := w4) (by go_grown); try simp only [World.size_alloc, World.size_setCell, World.size_drew] at hc hf hz)
  )
  go_returns
  exact ⟨rfl, bjoin hb hb0⟩
end Go.Proofs.YtmkcjolaboggnaaDoor
