/- The awake test of layer 16's laws. -/
import Derived.Test.YtokbggokkjefhaaDoorShade
import Derived.Test.YtokbggokkjefhaaDoorApart8
import Derived.Test.YtokbggokkjefhaaDoorMade
namespace Go.Proofs.YtokbggokkjefhaaDoor
set_option linter.unusedSimpArgs false
set_option linter.unusedVariables false
open Go.ChangeShapes Go.WideShapes Go.ChangeAt Go.RowKit Go.Joins

def dd16 : Nat → Dd := fun i => if i = 0 then ⟨0, 0, 0⟩ else if i = 3 then ⟨5, 0, 0⟩ else ⟨1, 0, 1⟩
def h16 : Hp := maH (newH 1) dd16 4
def zz16 : Nat → Int := fun _ => 0
def va16 : Nat → Vl := fun i => if i = 0 then ⟨2, 0⟩ else ⟨2, 2⟩
def s16a : Sd := sdS 1 ⟨h16, 0, zz16, false⟩ ⟨2, 2⟩
def s16b : Sd := sdS 1 ⟨s16a.h, s16a.n, s16a.z, false⟩ ⟨2, 0⟩
def s16c : Sd := sdS 1 ⟨s16b.h, s16b.n, s16b.z, false⟩ ⟨2, 0⟩
def s16d : Sd := sdA 0 ⟨h16, 0, zz16, false⟩ va16 2
theorem made16_facts : formB h16 = true ∧ h16.b = true ∧ h16.n = 32 ∧ h16.m = 1 := by decide +kernel
theorem shade16_facts : s16a.n = 1 ∧ s16a.o = false ∧ s16a.z 0 = 2 ∧ bkL s16a.h = [2] ∧ s16b.n = 1 ∧ s16b.o = true ∧ s16b.z 0 = 2 ∧ (bkL s16b.h).length = 2 ∧ s16c.o = false ∧ s16d.o = true ∧ (bkL s16d.h).length = 2 := by decide +kernel
theorem form16 : formB s16a.h = true ∧ formB s16b.h = true ∧ formB s16d.h = true := by
  have h1 := (sd_form (r := 1) (s := ⟨h16, 0, zz16, false⟩) (v := ⟨2, 2⟩) made16_facts.1).1
  have h2 := (sd_form (r := 1) (s := ⟨s16a.h, s16a.n, s16a.z, false⟩) (v := ⟨2, 0⟩) h1).1
  exact ⟨h1, h2, (sdA_form (r := 0) (s := ⟨h16, 0, zz16, false⟩) made16_facts.1 va16 2).1⟩
theorem deeds16 (w : World) (t : TypeId) : Deeds (w.alloc (.cells #[.int .i64 0, .int .i64 0, .int .i64 0, .int .i64 1, .int .i64 0, .int .i64 1, .int .i64 1, .int .i64 0, .int .i64 1, .int .i64 5, .int .i64 0, .int .i64 0] t)) (some ⟨w.heap.size, 0, none⟩) 4 dd16 := by
  have hg := heap_alloc_new w (.cells #[.int .i64 0, .int .i64 0, .int .i64 0, .int .i64 1, .int .i64 0, .int .i64 1, .int .i64 1, .int .i64 0, .int .i64 1, .int .i64 5, .int .i64 0, .int .i64 0] t)
  intro i hi
  match i, hi with
  | 0, _ => exact ⟨⟨w.heap.size, 0, rfl, by simp, by rw [cell_of_row _ _ _ _ _ _ hg]; rfl, by rw [cell_of_row _ _ _ _ _ _ hg]; rfl, by rw [cell_of_row _ _ _ _ _ _ hg]; rfl⟩, by show (⟨0, 0, 0⟩ : Dd).wf; simp [Dd.wf, In64]⟩
  | 1, _ => exact ⟨⟨w.heap.size, 0, rfl, by simp, by rw [cell_of_row _ _ _ _ _ _ hg]; rfl, by rw [cell_of_row _ _ _ _ _ _ hg]; rfl, by rw [cell_of_row _ _ _ _ _ _ hg]; rfl⟩, by show (⟨1, 0, 1⟩ : Dd).wf; simp [Dd.wf, In64]⟩
  | 2, _ => exact ⟨⟨w.heap.size, 0, rfl, by simp, by rw [cell_of_row _ _ _ _ _ _ hg]; rfl, by rw [cell_of_row _ _ _ _ _ _ hg]; rfl, by rw [cell_of_row _ _ _ _ _ _ hg]; rfl⟩, by show (⟨1, 0, 1⟩ : Dd).wf; simp [Dd.wf, In64]⟩
  | 3, _ => exact ⟨⟨w.heap.size, 0, rfl, by simp, by rw [cell_of_row _ _ _ _ _ _ hg]; rfl, by rw [cell_of_row _ _ _ _ _ _ hg]; rfl, by rw [cell_of_row _ _ _ _ _ _ hg]; rfl⟩, by show (⟨5, 0, 0⟩ : Dd).wf; simp [Dd.wf, In64]⟩
theorem rmade16 (p : Option Addr) (cap : Nat) (w : World) (hin : Deeds w p 4 dd16) :
    Calls Tryd.prog 29 #[.int .i64 1, .slice p 4 cap] w fun e w' => ∃ p' c' q' d', e = .returned (.agg #[.slice p' 32 c', .slice q' 1 d', .bool true]) ∧ HpIn w' p' 32 c' q' 1 d' true h16 ∧ Below w.heap.size w w' := by
  refine Calls.mono (rmade_any 1 p 4 cap dd16 w (by decide) (by decide) hin (by decide)) ?_
  rintro e w' ⟨p', c', q', d', rfl, h1, -, -, -, hb⟩
  have e0 : (maH (newH (Int.toNat 1)) dd16 4).b = true := made16_facts.2.1
  rw [e0] at h1 ⊢
  exact ⟨p', c', q', d', rfl, h1, hb⟩
set_option maxHeartbeats 4000000 in
theorem small16_any (w : World) :
    Calls Tryd.prog 19 #[] w fun e w' => ∃ p' c' q' d', e = .returned (.agg #[.slice p' 32 c', .slice q' 1 d', .bool true]) ∧ HpIn w' p' 32 c' q' 1 d' true h16 ∧ Below w.heap.size w w' := by
  obtain ⟨w0, hw0⟩ : ∃ w0, w0 = w.alloc (.cells #[.slice none 0 0, .slice none 0 0, .bool false] 25) := ⟨_, rfl⟩
  have gR : TBox 25 w.heap.size #[.slice none 0 0, .slice none 0 0, .bool false] w0 := by rw [hw0]; exact TBox.new _ _ _
  have hb0 : Below w.heap.size w w0 := by rw [hw0]; exact (Below.refl _ _).alloc (Nat.le_refl _) _
  have hM := fun p cap W hin => rmade16 p cap W hin
  generalize h16 = g at *
  have lR := gR.lt
  have z0 := gR.cell 0
  have z1 := gR.cell 1
  have z2 := gR.cell 2
  have f0 := gR.frozen 0
  have f1 := gR.frozen 1
  have f2 := gR.frozen 2
  simp only [List.getElem?_toArray, List.getElem?_cons_zero, List.getElem?_cons_succ] at z0 z1 z2
  go_enter Tryd.func19, Tryd.ntmps19
  go_upto_region 1 with fail
  rw [← hw0]
  clear hw0
  go_wp2_with (first
    | (go_at_call 29; refine Calls.mono (hM _ _ _ (deeds16 _ _)) ?_; rintro e w1 ⟨p0, c0, q0, d0, rfl, hh0, hb⟩; obtain ⟨hc, hf, hb, hz⟩ := bstep hb (w := w0) (by go_grown); try simp only [World.size_alloc, World.size_setCell, World.size_drew] at hc hf hz)
  )
  refine bodyPost_ret (by simp [results, Tryd.results19, go_sem, *]; try rfl) rfl ?_
  have gR2 := gR.below hb
  exact ⟨p0, c0, q0, d0, rfl, hh0.stores (gR2.varH.clear hh0 (by decide) (by decide)) _ _ _, below_stores (bjoin hb hb0) (Nat.le_refl _) _ _ _⟩
theorem vals16 (w : World) (t : TypeId) : VAt (w.alloc (.cells #[.int .i64 2, .int .i64 0, .int .i64 2, .int .i64 2] t)) (some ⟨w.heap.size, 0, none⟩) 2 2 va16 := by
  have h := heap_alloc_new w (.cells #[.int .i64 2, .int .i64 0, .int .i64 2, .int .i64 2] t)
  refine ⟨fun i hi => ?_, by decide, fun e => (by cases e), Nat.le_refl _, by decide⟩
  match i, hi with
  | 0, _ => exact ⟨⟨w.heap.size, 0, rfl, by simp, by rw [cell_of_row _ _ _ _ _ _ h]; rfl, by rw [cell_of_row _ _ _ _ _ _ h]; rfl⟩, by decide, by decide⟩
  | 1, _ => exact ⟨⟨w.heap.size, 0, rfl, by simp, by rw [cell_of_row _ _ _ _ _ _ h]; rfl, by rw [cell_of_row _ _ _ _ _ _ h]; rfl⟩, by decide, by decide⟩
set_option maxHeartbeats 8000000 in
set_option maxRecDepth 20000 in
theorem awake16_any (w : World) (hS : Sz w) : Calls Tryd.prog 6 #[] w fun e w' => e = .returned (.bool true) ∧ Below w.heap.size w w' := by
  obtain ⟨fA, fB, fD⟩ := form16
  obtain ⟨f1, f2, f3, f4, f5, f6, f7, f8, f9, f10, f11⟩ := shade16_facts
  have hA : ∀ W p c q d, Sz W → HpIn W p 32 c q 1 d true h16 → Calls Tryd.prog 20 #[.agg #[.slice p 32 c, .slice q 1 d, .bool true], .agg #[.int .i64 1, .slice none 0 0], .agg #[.int .i64 2, .int .i64 2]] W fun e w' => ∃ p' c' q' d' pr' cr', e = .returned (.tuple #[.agg #[.slice p' 32 c', .slice q' 1 d', .bool true], .agg #[.int .i64 1, .slice pr' 1 cr'], .bool false]) ∧ HpIn w' p' 32 c' q' 1 d' true s16a.h ∧ GrAt w' pr' cr' 1 s16a.z ∧ RowE 0 3 1 pr' w' ∧ Below W.heap.size W w' := fun W p c q d hS hh => by
    have := shade_in 0 1 (v := ⟨2, 2⟩) (cr := 0) hS hh made16_facts.1 (gr_nil W zz16) (rowE_nil 0 _ _ W) (Nat.zero_le _) (by decide) (by decide) ⟨by decide, by decide⟩
    rw [show sdS 1 ⟨h16, 0, zz16, false⟩ ⟨2, 2⟩ = s16a from rfl, f1, f2] at this
    exact this
  have hB : ∀ W p c q d pr cr, Sz W → HpIn W p 32 c q 1 d true s16a.h → GrAt W pr cr 1 s16a.z → RowE 0 3 1 pr W → Calls Tryd.prog 20 #[.agg #[.slice p 32 c, .slice q 1 d, .bool true], .agg #[.int .i64 1, .slice pr 1 cr], .agg #[.int .i64 2, .int .i64 0]] W fun e w' => ∃ p' c' q' d' pr' cr', e = .returned (.tuple #[.agg #[.slice p' 32 c', .slice q' 1 d', .bool true], .agg #[.int .i64 1, .slice pr' 1 cr'], .bool true]) ∧ HpIn w' p' 32 c' q' 1 d' true s16b.h ∧ GrAt w' pr' cr' 1 s16b.z ∧ RowE 0 3 1 pr' w' ∧ Below W.heap.size W w' := fun W p c q d pr cr hS hh hg hR => by
    rw [← f1] at hg hR
    have := shade_in 0 1 (v := ⟨2, 0⟩) (cr := cr) hS hh fA hg hR (Nat.zero_le _) (by decide) (by decide) ⟨by decide, by decide⟩
    rw [show sdS 1 ⟨s16a.h, s16a.n, s16a.z, false⟩ ⟨2, 0⟩ = s16b from rfl, f5, f6, f1] at this
    exact this
  have hC : ∀ W p c q d pr cr, Sz W → HpIn W p 32 c q 1 d true s16b.h → GrAt W pr cr 1 s16b.z → RowE 0 3 1 pr W → Calls Tryd.prog 20 #[.agg #[.slice p 32 c, .slice q 1 d, .bool true], .agg #[.int .i64 1, .slice pr 1 cr], .agg #[.int .i64 2, .int .i64 0]] W fun e w' => ∃ p' c' q' d' pr' cr' n', e = .returned (.tuple #[.agg #[.slice p' 32 c', .slice q' 1 d', .bool true], .agg #[.int .i64 1, .slice pr' n' cr'], .bool false]) ∧ Below W.heap.size W w' := fun W p c q d pr cr hS hh hg hR => by
    rw [← f5] at hg hR
    have := shade_in 0 1 (v := ⟨2, 0⟩) (cr := cr) hS hh fB hg hR (Nat.zero_le _) (by decide) (by decide) ⟨by decide, by decide⟩
    rw [show sdS 1 ⟨s16b.h, s16b.n, s16b.z, false⟩ ⟨2, 0⟩ = s16c from rfl, f9, f5] at this
    refine Calls.mono this ?_
    rintro e w' ⟨p', c', q', d', pr', cr', rfl, -, -, -, hb⟩
    exact ⟨p', c', q', d', pr', cr', _, rfl, hb⟩
  have hD : ∀ W p c q d pv cv, Sz W → HpIn W p 32 c q 1 d true h16 → VAt W pv cv 2 va16 → Calls Tryd.prog 10 #[.agg #[.slice p 32 c, .slice q 1 d, .bool true], .agg #[.int .i64 0, .slice none 0 0], .slice pv 2 cv] W fun e w' => ∃ p' c' q' d' pr' cr' n', e = .returned (.tuple #[.agg #[.slice p' 32 c', .slice q' 1 d', .bool true], .agg #[.int .i64 0, .slice pr' n' cr'], .bool true]) ∧ HpIn w' p' 32 c' q' 1 d' true s16d.h ∧ Below W.heap.size W w' := fun W p c q d pv cv hS hh hv => by
    have := shall_in 0 0 (cr := 0) hS hh made16_facts.1 (gr_nil W zz16) (rowE_nil 0 _ _ W) (Nat.zero_le _) (by decide) (by decide) hv (by decide)
    rw [show sdA 0 ⟨h16, 0, zz16, false⟩ va16 2 = s16d from rfl, f10] at this
    refine Calls.mono this ?_
    rintro e w' ⟨p', c', q', d', pr', cr', rfl, h1, -, -, hb⟩
    exact ⟨p', c', q', d', pr', cr', _, rfl, h1, hb⟩
  have hK : ∀ (W : World) (p : Option Addr) (c : Nat) (q : Option Addr) (d : Nat) (g : Hp) (L : List Int) (k : Nat), HpIn W p 32 c q 1 d true g → formB g = true → bkL g = L → L.length = k → Calls Tryd.prog 21 #[.agg #[.slice p 32 c, .slice q 1 d, .bool true]] W fun e w' => ∃ pl cl, e = .returned (.slice pl k cl) ∧ (Ints .i64 w' pl k fun i => L[i]?.getD 0) ∧ Below W.heap.size W w' := fun W p c q d g L k ⟨en, em, eb, hat⟩ hF e1 e2 => by
    have := rblk15_any p c q d g W hat hF
    rw [← en, ← em, ← eb, e1, e2] at this
    refine Calls.mono this ?_
    rintro e w' ⟨pl, cl, rfl, hR, hb⟩
    have hI := hR.ints
    rw [e2] at hI
    exact ⟨pl, cl, rfl, hI, hb⟩
  have hz1 : ∀ i, i < 1 → s16a.z i = 2 := fun i hi => by
    rw [show i = 0 by omega]
    exact f3
  have hz2 : ∀ i, i < 1 → s16b.z i = 2 := fun i hi => by
    rw [show i = 0 by omega]
    exact f7
  have hSm := small16_any
  generalize s16a.h = ha at *
  generalize s16b.h = hb' at *
  generalize s16d.h = hd at *
  generalize s16a.z = za at *
  generalize s16b.z = zb at *
  generalize h16 = h at *
  clear f1 f2 f3 f5 f6 f7 f9 f10
  have fA' : Hid (formB ha = true) := fA
  have fB' : Hid (formB hb' = true) := fB
  have fD' : Hid (formB hd = true) := fD
  have f4' : Hid (bkL ha = [2]) := f4
  have f8' : Hid ((bkL hb').length = 2) := f8
  have f11' : Hid ((bkL hd).length = 2) := f11
  clear fA fB fD f4 f8 f11
  go_enter Tryd.func6, Tryd.ntmps6
  go_upto_region 2 with (first
    | (go_at_call 19; refine Calls.mono (hSm _) ?_; rintro e w1 ⟨p0, c0, q0, d0, rfl, hh, hb1⟩)
  )
  obtain ⟨w2, hw2⟩ : ∃ W, W = w1.alloc (.cells #[.slice p0 32 c0, .slice q0 1 d0, .bool true] 25) := ⟨_, rfl⟩
  have gH : TBox 25 w1.heap.size #[.slice p0 32 c0, .slice q0 1 d0, .bool true] w2 := by rw [hw2]; exact TBox.new _ _ _
  have hb2 : Below w1.heap.size w1 w2 := by rw [hw2]; exact (Below.refl _ _).alloc (Nat.le_refl _) _
  rw [← hw2]
  replace hh := hh.below hb2
  have hb0 := bjoin hb2 hb1
  replace hS := hS.below hb0
  clear hw2 hb1 hb2 hSm
  generalize w1.heap.size = BH at *
  obtain ⟨lH, x0, x1, x2⟩ : BH < w2.heap.size ∧ w2.cell? ⟨BH, 0, none⟩ = some (.slice p0 32 c0) ∧ w2.cell? ⟨BH, 1, none⟩ = some (.slice q0 1 d0) ∧ w2.cell? ⟨BH, 2, none⟩ = some (.bool true) := ⟨gH.lt, gH.cell 0, gH.cell 1, gH.cell 2⟩
  go_upto_region 3 with (first
    | (go_at_call 20; refine Calls.mono (hA _ _ _ _ _ hS hh) ?_; rintro e w3 ⟨p1, c1, q1, d1, pr1, cr1, rfl, hhA, hgA, hRA, hb3⟩)
  )
  obtain ⟨w4, hw⟩ : ∃ W, W = (w3.alloc (.cells #[.slice p1 32 c1, .slice q1 1 d1, .bool true] 25)).alloc (.cells #[.int .i64 1, .slice pr1 1 cr1] 28) := ⟨_, rfl⟩
  obtain ⟨gA, gA', hbn⟩ := tbox_two hw
  rw [← hw]
  have hb4 := bjoin hbn hb3
  replace gH := gH.below hb4
  replace hh := hh.below hb4
  replace hS := hS.below hb4
  replace hb0 := bjoin hb4 hb0
  replace hhA := hhA.below hbn
  replace hgA := hgA.below hbn
  replace hRA := hRA.below hbn
  clear hw hbn hb3 hb4 hA x0 x1 x2 lH
  generalize w3.heap.size = B1 at *
  obtain ⟨lA, a0, a1, a2⟩ : B1 < w4.heap.size ∧ w4.cell? ⟨B1, 0, none⟩ = some (.slice p1 32 c1) ∧ w4.cell? ⟨B1, 1, none⟩ = some (.slice q1 1 d1) ∧ w4.cell? ⟨B1, 2, none⟩ = some (.bool true) := ⟨gA.lt, gA.cell 0, gA.cell 1, gA.cell 2⟩
  obtain ⟨lA', a3, a4⟩ : B1 + 1 < w4.heap.size ∧ w4.cell? ⟨B1 + 1, 0, none⟩ = some (.int .i64 1) ∧ w4.cell? ⟨B1 + 1, 1, none⟩ = some (.slice pr1 1 cr1) := ⟨gA'.lt, gA'.cell 0, gA'.cell 1⟩
  go_upto_region 4 with (first
    | (go_at_call 20; refine Calls.mono (hB _ _ _ _ _ _ _ hS hhA hgA hRA) ?_; rintro e w5 ⟨p2, c2, q2, d2, pr2, cr2, rfl, hhB, hgB, hRB, hb3⟩)
  )
  obtain ⟨w6, hw⟩ : ∃ W, W = (w5.alloc (.cells #[.slice p2 32 c2, .slice q2 1 d2, .bool true] 25)).alloc (.cells #[.int .i64 1, .slice pr2 1 cr2] 28) := ⟨_, rfl⟩
  obtain ⟨gB, gB', hbn⟩ := tbox_two hw
  rw [← hw]
  have hb4 := bjoin hbn hb3
  replace gH := gH.below hb4
  replace gA := gA.below hb4
  replace gA' := gA'.below hb4
  replace hh := hh.below hb4
  replace hhA := hhA.below hb4
  replace hgA := hgA.below hb4
  replace hS := hS.below hb4
  replace hb0 := bjoin hb4 hb0
  replace hhB := hhB.below hbn
  replace hgB := hgB.below hbn
  replace hRB := hRB.below hbn
  clear hw hbn hb3 hb4 hB hRA a0 a1 a2 a3 a4 lA lA'
  generalize w5.heap.size = B2 at *
  obtain ⟨lB, b0, b1, b2⟩ : B2 < w6.heap.size ∧ w6.cell? ⟨B2, 0, none⟩ = some (.slice p2 32 c2) ∧ w6.cell? ⟨B2, 1, none⟩ = some (.slice q2 1 d2) ∧ w6.cell? ⟨B2, 2, none⟩ = some (.bool true) := ⟨gB.lt, gB.cell 0, gB.cell 1, gB.cell 2⟩
  obtain ⟨lB', b3, b4⟩ : B2 + 1 < w6.heap.size ∧ w6.cell? ⟨B2 + 1, 0, none⟩ = some (.int .i64 1) ∧ w6.cell? ⟨B2 + 1, 1, none⟩ = some (.slice pr2 1 cr2) := ⟨gB'.lt, gB'.cell 0, gB'.cell 1⟩
  go_upto_region 5 with (first
    | (go_at_call 20; refine Calls.mono (hC _ _ _ _ _ _ _ hS hhB hgB hRB) ?_; rintro e w7 ⟨p3, c3, q3, d3, pr3, cr3, n3, rfl, hb3⟩)
  )
  obtain ⟨w8, hw⟩ : ∃ W, W = (w7.alloc (.cells #[.slice p3 32 c3, .slice q3 1 d3, .bool true] 25)).alloc (.cells #[.int .i64 1, .slice pr3 n3 cr3] 28) := ⟨_, rfl⟩
  obtain ⟨-, -, hbn⟩ := tbox_two hw
  rw [← hw]
  have hb4 := bjoin hbn hb3
  replace gH := gH.below hb4
  replace gA := gA.below hb4
  replace gA' := gA'.below hb4
  replace gB := gB.below hb4
  replace gB' := gB'.below hb4
  replace hh := hh.below hb4
  replace hhA := hhA.below hb4
  replace hgA := hgA.below hb4
  replace hhB := hhB.below hb4
  replace hgB := hgB.below hb4
  replace hS := hS.below hb4
  replace hb0 := bjoin hb4 hb0
  clear hw hbn hb3 hb4 hC hRB b0 b1 b2 b3 b4 lB lB'
  generalize w7.heap.size = B3 at *
  obtain ⟨lH, x0, x1, x2⟩ : BH < w8.heap.size ∧ w8.cell? ⟨BH, 0, none⟩ = some (.slice p0 32 c0) ∧ w8.cell? ⟨BH, 1, none⟩ = some (.slice q0 1 d0) ∧ w8.cell? ⟨BH, 2, none⟩ = some (.bool true) := ⟨gH.lt, gH.cell 0, gH.cell 1, gH.cell 2⟩
  go_upto_region 6 with (first
    | (go_at_call 10; refine Calls.mono (hD _ _ _ _ _ _ _ (hS.below ((Below.refl _ _).alloc (Nat.le_refl _) _)) (hh.below ((Below.refl _ _).alloc (Nat.le_refl _) _)) (vals16 _ _)) ?_; rintro e w9 ⟨p4, c4, q4, d4, pr4, cr4, n4, rfl, hhD, hb3⟩)
  )
  obtain ⟨w10, hw⟩ : ∃ W, W = (w9.alloc (.cells #[.slice p4 32 c4, .slice q4 1 d4, .bool true] 25)).alloc (.cells #[.int .i64 0, .slice pr4 n4 cr4] 28) := ⟨_, rfl⟩
  obtain ⟨gD, -, hbn⟩ := tbox_two hw
  rw [← hw]
  have hb4 := bjoin hbn (bjoin hb3 ((Below.refl w8.heap.size w8).alloc (Nat.le_refl _) (.cells #[.int .i64 2, .int .i64 0, .int .i64 2, .int .i64 2] 38)))
  replace gA := gA.below hb4
  replace gA' := gA'.below hb4
  replace gB := gB.below hb4
  replace gB' := gB'.below hb4
  replace hhA := hhA.below hb4
  replace hgA := hgA.below hb4
  replace hhB := hhB.below hb4
  replace hgB := hgB.below hb4
  replace hb0 := bjoin hb4 hb0
  replace hhD := hhD.below hbn
  clear hw hbn hb3 hb4 hD hS hh gH x0 x1 x2 lH
  generalize w9.heap.size = B4 at *
  obtain ⟨lA, a0, a1, a2⟩ : B1 < w10.heap.size ∧ w10.cell? ⟨B1, 0, none⟩ = some (.slice p1 32 c1) ∧ w10.cell? ⟨B1, 1, none⟩ = some (.slice q1 1 d1) ∧ w10.cell? ⟨B1, 2, none⟩ = some (.bool true) := ⟨gA.lt, gA.cell 0, gA.cell 1, gA.cell 2⟩
  obtain ⟨lA', a3, a4⟩ : B1 + 1 < w10.heap.size ∧ w10.cell? ⟨B1 + 1, 0, none⟩ = some (.int .i64 1) ∧ w10.cell? ⟨B1 + 1, 1, none⟩ = some (.slice pr1 1 cr1) := ⟨gA'.lt, gA'.cell 0, gA'.cell 1⟩
  obtain ⟨lB, b0, b1, b2⟩ : B2 < w10.heap.size ∧ w10.cell? ⟨B2, 0, none⟩ = some (.slice p2 32 c2) ∧ w10.cell? ⟨B2, 1, none⟩ = some (.slice q2 1 d2) ∧ w10.cell? ⟨B2, 2, none⟩ = some (.bool true) := ⟨gB.lt, gB.cell 0, gB.cell 1, gB.cell 2⟩
  obtain ⟨lB', b3, b4⟩ : B2 + 1 < w10.heap.size ∧ w10.cell? ⟨B2 + 1, 0, none⟩ = some (.int .i64 1) ∧ w10.cell? ⟨B2 + 1, 1, none⟩ = some (.slice pr2 1 cr2) := ⟨gB'.lt, gB'.cell 0, gB'.cell 1⟩
  obtain ⟨lD, e0, e1, e2⟩ : B4 < w10.heap.size ∧ w10.cell? ⟨B4, 0, none⟩ = some (.slice p4 32 c4) ∧ w10.cell? ⟨B4, 1, none⟩ = some (.slice q4 1 d4) ∧ w10.cell? ⟨B4, 2, none⟩ = some (.bool true) := ⟨gD.lt, gD.cell 0, gD.cell 1, gD.cell 2⟩
  clear gA gA' gB gB' gD
  have hSame : ∀ (W : World) (p q : Option Addr) (c d : Nat) (z y : Nat → Int), GrAt W p c 1 z → GrAt W q d 1 y → (∀ i, i < 1 → z i = 2) → (∀ i, i < 1 → y i = 2) → Calls Tryd.prog 18 #[.agg #[.int .i64 1, .slice p 1 c], .agg #[.int .i64 1, .slice q 1 d]] W fun e w' => e = .returned (.bool true) ∧ Below W.heap.size W w' := fun W p q c d z y h1 h2 e1 e2 => by
    have := rgsame_any 1 1 p q 1 c 1 d z y W h1 h2
    rwa [show sameG 1 1 z 1 1 y = true from by simp [sameG, sameI, e1 0 (by omega), e2 0 (by omega)]] at this
  have hIs : ∀ (W : World) (pl pr : Option Addr) (cl cr : Nat), (Ints .i64 W pl 1 fun i => ([2] : List Int)[i]?.getD 0) → (Ints .i64 W pr 1 fun i => ([2] : List Int)[i]?.getD 0) → Calls Tryd.prog 12 #[.slice pl 1 cl, .slice pr 1 cr] W fun e w' => e = .returned (.bool true) ∧ Below W.heap.size W w' := fun W pl pr cl cr h1 h2 => by
    have := rintsG_any pl pr 1 cl 1 cr _ _ W h1 h2 (by decide) (by decide)
    rwa [sameI_self] at this
  have hlit : ∀ W : World, GrAt (W.alloc (.cells #[.int .i64 2] 3)) (some ⟨W.heap.size, 0, none⟩) 1 1 fun _ => 2 := fun W => by
    refine ⟨fun i hi => ?_, by decide, (fun e => by cases e), Nat.le_refl _, by decide⟩
    have h := heap_alloc_new W (.cells #[.int .i64 2] 3)
    rw [show i = 0 by omega]
    exact ⟨⟨W.heap.size, 0, rfl, by simp, by rw [cell_of_row _ _ _ _ _ _ h]; rfl⟩, by decide⟩
  have hlit2 : ∀ W : World, Ints .i64 (W.alloc (.cells #[.int .i64 2] 3)) (some ⟨W.heap.size, 0, none⟩) 1 fun i => ([2] : List Int)[i]?.getD 0 := fun W i hi => by
    have := (hlit W).ints i hi
    rw [show i = 0 by omega] at this ⊢
    exact this
  go_wp2_with (first
    | (go_at_call 18; refine Calls.mono (hSame _ _ _ _ _ _ _ (by first | exact hgA.below (by go_grown) | exact hgB.below (by go_grown)) (by first | exact hlit _ | exact hgA.below (by go_grown)) (by first | exact hz1 | exact hz2) (by first | exact fun _ _ => rfl | exact hz1)) ?_; rintro e w' ⟨rfl, hb⟩; obtain ⟨hc, hf, hb, hz⟩ := bstep hb (w := w10) (by go_grown); try simp only [World.size_alloc, World.size_setCell, World.size_drew] at hc hf hz)
    | (go_at_call 21; refine Calls.mono (hK _ _ _ _ _ _ _ _ (by first | exact hhB.below (by go_grown) | exact hhD.below (by go_grown) | exact hhA.below (by go_grown)) (by first | exact fB'.out | exact fD'.out | exact fA'.out) (by first | exact f4'.out | rfl) (by first | exact f8'.out | exact f11'.out | rfl)) ?_; rintro e w' ⟨pl, cl, rfl, hI, hb⟩; obtain ⟨hc, hf, hb, hz⟩ := bstep hb (w := w10) (by go_grown); try simp only [World.size_alloc, World.size_setCell, World.size_drew] at hc hf hz)
    | (go_at_call 12; refine Calls.mono (hIs _ _ _ _ _ (hI.below ((Below.refl _ _).alloc (Nat.le_refl _) _)) (hlit2 _)) ?_; rintro e w' ⟨rfl, hb⟩; obtain ⟨hc, hf, hb, hz⟩ := bstep hb (w := w10) (by go_grown); try simp only [World.size_alloc, World.size_setCell, World.size_drew] at hc hf hz)
  )
  go_returns
  exact ⟨rfl, bjoin (by go_grown) hb0⟩
end Go.Proofs.YtokbggokkjefhaaDoor
