/- The awake test of layer 17's laws. -/
import Derived.Test.YtiofeebiejkajaaDoorB49
import Derived.Test.YtiofeebiejkajaaDoorB44
import Derived.Test.YtiofeebiejkajaaDoorB50
import Derived.Test.YtiofeebiejkajaaDoorB19
namespace Go.Proofs.YtiofeebiejkajaaDoor
set_option linter.unusedSimpArgs false
set_option linter.unusedVariables false
open Go.ChangeShapes Go.WideShapes Go.ChangeAt Go.RowKit Go.Joins

def dd17 : Nat → Dd := fun i => if i = 0 then ⟨0, 0, 0⟩ else if i = 1 then ⟨1, 0, 0⟩ else ⟨5, 0, 0⟩
def h17 : Hp := maH (newH 1) dd17 3
def m17 : Mk := newM 1 1 (fun i => ([2] : List Int)[i]?.getD 0) 1 fun _ => ⟨2, 0⟩
theorem made17_facts : formB h17 = true ∧ h17.b = true ∧ h17.n = 32 ∧ h17.m = 1 := by decide +kernel
theorem step17_one : (stM h17 m17).2.2 = false ∧ blB (stM h17 m17).1 0 = true ∧ (stM h17 m17).2.1.g.n = 1 ∧ (stM h17 m17).2.1.g.z 0 = 0 ∧ formB (stM h17 m17).1 = true ∧ (stM h17 m17).2.1.nr ≤ 10 ∧ (stM h17 m17).2.1.nb ≤ 10 := by decide +kernel
theorem step17_two : (stM (stM h17 m17).1 (stM h17 m17).2.1).2.2 = false ∧ (stM (stM h17 m17).1 (stM h17 m17).2.1).2.1.g.n = 0 ∧ (stM (stM h17 m17).1 (stM h17 m17).2.1).2.1.ob = -1 ∧ formB (stM (stM h17 m17).1 (stM h17 m17).2.1).1 = true ∧ (stM (stM h17 m17).1 (stM h17 m17).2.1).2.1.nr ≤ 10 ∧ (stM (stM h17 m17).1 (stM h17 m17).2.1).2.1.nb ≤ 10 := by decide +kernel
theorem step17_three : (stM (stM (stM h17 m17).1 (stM h17 m17).2.1).1 (stM (stM h17 m17).1 (stM h17 m17).2.1).2.1).2.2 = true := by decide +kernel
theorem note17 : blB (noM h17 m17 0 ⟨2, 0⟩).1 0 = true ∧ (noM h17 m17 0 ⟨2, 0⟩).2.nb = 1 ∧ ((noM h17 m17 0 ⟨2, 0⟩).2.b 0).n = 1 ∧ ((noM h17 m17 0 ⟨2, 0⟩).2.b 0).z 0 = 0 ∧ formB (noM h17 m17 0 ⟨2, 0⟩).1 = true := by decide +kernel
def z17 : Mk := ⟨⟨0, 0, fun _ => 0⟩, 0, fun _ => ⟨0, 0, fun _ => 0⟩, 0, fun _ => ⟨0, 0⟩, 0, 0, 0, false⟩
theorem right17_no : rtD h17 z17 = false := by decide +kernel
theorem right17_yes : rightM h17 m17 := new_right (by decide) (by decide) fun i hi => by
  match i, hi with
  | 0, _ => show (0 : Int) ≤ 2 ∧ (2 : Int) ≤ 16; decide
theorem right17_one : rightM (stM h17 m17).1 (stM h17 m17).2.1 := (st_step made17_facts.1 right17_yes step17_one.1).2
theorem right17_two : rightM (stM (stM h17 m17).1 (stM h17 m17).2.1).1 (stM (stM h17 m17).1 (stM h17 m17).2.1).2.1 := (st_step step17_one.2.2.2.2.1 right17_one step17_two.1).2
theorem deeds17 (w : World) (t : TypeId) : Deeds (w.alloc (.cells #[.int .i64 0, .int .i64 0, .int .i64 0, .int .i64 1, .int .i64 0, .int .i64 0, .int .i64 5, .int .i64 0, .int .i64 0] t)) (some ⟨w.heap.size, 0, none⟩) 3 dd17 := by
  have hg := heap_alloc_new w (.cells #[.int .i64 0, .int .i64 0, .int .i64 0, .int .i64 1, .int .i64 0, .int .i64 0, .int .i64 5, .int .i64 0, .int .i64 0] t)
  intro i hi
  match i, hi with
  | 0, _ => exact ⟨⟨w.heap.size, 0, rfl, by simp, by rw [cell_of_row _ _ _ _ _ _ hg]; rfl, by rw [cell_of_row _ _ _ _ _ _ hg]; rfl, by rw [cell_of_row _ _ _ _ _ _ hg]; rfl⟩, by show (⟨0, 0, 0⟩ : Dd).wf; simp [Dd.wf, In64]⟩
  | 1, _ => exact ⟨⟨w.heap.size, 0, rfl, by simp, by rw [cell_of_row _ _ _ _ _ _ hg]; rfl, by rw [cell_of_row _ _ _ _ _ _ hg]; rfl, by rw [cell_of_row _ _ _ _ _ _ hg]; rfl⟩, by show (⟨1, 0, 0⟩ : Dd).wf; simp [Dd.wf, In64]⟩
  | 2, _ => exact ⟨⟨w.heap.size, 0, rfl, by simp, by rw [cell_of_row _ _ _ _ _ _ hg]; rfl, by rw [cell_of_row _ _ _ _ _ _ hg]; rfl, by rw [cell_of_row _ _ _ _ _ _ hg]; rfl⟩, by show (⟨5, 0, 0⟩ : Dd).wf; simp [Dd.wf, In64]⟩
theorem rmade17 (p : Option Addr) (cap : Nat) (w : World) (hin : Deeds w p 3 dd17) :
    Calls Tryd.prog 47 #[.int .i64 1, .slice p 3 cap] w fun e w' => ∃ p' c' q' d', e = .returned (.agg #[.slice p' 32 c', .slice q' 1 d', .bool true]) ∧ HpIn w' p' 32 c' q' 1 d' true h17 ∧ Below w.heap.size w w' := by
  refine Calls.mono (rmade_any 1 p 3 cap dd17 w (by decide) (by decide) hin (by decide)) ?_
  rintro e w' ⟨p', c', q', d', rfl, h1, -, -, -, hb⟩
  have e0 : (maH (newH (Int.toNat 1)) dd17 3).b = true := made17_facts.2.1
  rw [e0] at h1 ⊢
  exact ⟨p', c', q', d', rfl, h1, hb⟩
set_option maxHeartbeats 4000000 in
theorem small17_any (w : World) :
    Calls Tryd.prog 25 #[] w fun e w' => ∃ p' c' q' d', e = .returned (.agg #[.slice p' 32 c', .slice q' 1 d', .bool true]) ∧ HpIn w' p' 32 c' q' 1 d' true h17 ∧ Below w.heap.size w w' := by
  obtain ⟨w0, hw0⟩ : ∃ w0, w0 = w.alloc (.cells #[.slice none 0 0, .slice none 0 0, .bool false] 25) := ⟨_, rfl⟩
  have gR : TBox 25 w.heap.size #[.slice none 0 0, .slice none 0 0, .bool false] w0 := by rw [hw0]; exact TBox.new _ _ _
  have hb0 : Below w.heap.size w w0 := by rw [hw0]; exact (Below.refl _ _).alloc (Nat.le_refl _) _
  have hM := fun p cap W hin => rmade17 p cap W hin
  generalize h17 = g at *
  have lR := gR.lt
  have z0 := gR.cell 0
  have z1 := gR.cell 1
  have z2 := gR.cell 2
  have f0 := gR.frozen 0
  have f1 := gR.frozen 1
  have f2 := gR.frozen 2
  simp only [List.getElem?_toArray, List.getElem?_cons_zero, List.getElem?_cons_succ] at z0 z1 z2
  go_enter Tryd.func25, Tryd.ntmps25
  go_upto_region 1 with fail
  rw [← hw0]
  clear hw0
  go_wp2_with (first
    | (go_at_call 47; refine Calls.mono (hM _ _ _ (deeds17 _ _)) ?_; rintro e w' ⟨p1, c1, q1, d1, rfl, hh1, hb⟩; obtain ⟨hc, hf, hb, hz⟩ := bstep hb (w := w0) (by go_grown); try simp only [World.size_alloc, World.size_setCell, World.size_drew] at hc hf hz)
  )
  refine bodyPost_ret (by simp [results, Tryd.results25, go_sem, *]; try rfl) rfl ?_
  have gR2 := gR.below hb
  exact ⟨p1, c1, q1, d1, rfl, hpIn_puts (gR2.varH.clear hh1 (by decide) (by decide)) [.slice p1 32 c1, .slice q1 1 d1, .bool true] 0 hh1, below_stores (bjoin hb hb0) (Nat.le_refl _) _ _ _⟩
theorem val17 (w : World) (t : TypeId) : VAt (w.alloc (.cells #[.int .i64 2, .int .i64 0] t)) (some ⟨w.heap.size, 0, none⟩) 1 1 (fun _ => ⟨2, 0⟩) := by
  have h := heap_alloc_new w (.cells #[.int .i64 2, .int .i64 0] t)
  refine ⟨fun i hi => ?_, by decide, fun e => (by cases e), Nat.le_refl _, by decide⟩
  match i, hi with
  | 0, _ => exact ⟨⟨w.heap.size, 0, rfl, by simp, by rw [cell_of_row _ _ _ _ _ _ h]; rfl, by rw [cell_of_row _ _ _ _ _ _ h]; rfl⟩, by decide, by decide⟩
theorem ints17 (w : World) (t : TypeId) (x : Int) (hx : (Lit.int .i64 x).wf = true) : Ints .i64 (w.alloc (.cells #[.int .i64 x] t)) (some ⟨w.heap.size, 0, none⟩) 1 fun i => ([x] : List Int)[i]?.getD 0 := fun i hi => by
  have h := heap_alloc_new w (.cells #[.int .i64 x] t)
  match i, hi with
  | 0, _ => exact ⟨⟨w.heap.size, 0, rfl, by simp, by rw [cell_of_row _ _ _ _ _ _ h]; rfl⟩, hx⟩
set_option maxHeartbeats 16000000 in
set_option maxRecDepth 20000 in
theorem awake17_any (w : World) (hS : Sz w) : Calls Tryd.prog 7 #[] w fun e w' => e = .returned (.bool true) ∧ Below w.heap.size w w' := by
  obtain ⟨s1d, s1b, s1n, s1z, s1F, s1r, s1k⟩ := step17_one
  obtain ⟨s2d, s2n, s2o, s2F, s2r, s2k⟩ := step17_two
  have s3d := step17_three
  obtain ⟨nb0, nb1, nb2, nb3, nF⟩ := note17
  have t1b : Hid (blB (stM h17 m17).1 0 = true) := s1b
  have t1n : Hid ((stM h17 m17).2.1.g.n = 1) := s1n
  have t1z : Hid ((stM h17 m17).2.1.g.z 0 = 0) := s1z
  have t2n : Hid ((stM (stM h17 m17).1 (stM h17 m17).2.1).2.1.g.n = 0) := s2n
  have t2o : Hid ((stM (stM h17 m17).1 (stM h17 m17).2.1).2.1.ob = -1) := s2o
  clear s1b s1n s1z s2n s2o
  have R0 := right17_yes
  have R1 := right17_one
  have R2 := right17_two
  have hF0 := made17_facts.1
  have hNw : ∀ W, Below w.heap.size w W → Calls Tryd.prog 20 #[.int .i64 1, .slice (some ⟨W.heap.size, 0, none⟩) 1 1, .slice (some ⟨W.heap.size + 1, 0, none⟩) 1 1] ((W.alloc (.cells #[.int .i64 2] 3)).alloc (.cells #[.int .i64 2, .int .i64 0] 38)) fun e w' => ∃ pg cg pb cb pr cr, e = .returned (.tuple #[.agg #[.int .i64 1, .slice pg 0 cg, .slice pb 1 cb, .slice pr 1 cr, .int .i64 (-1), .int .i64 0, .int .i64 (-1), .bool false], .bool true]) ∧
      MAtE w.heap.size w' m17 pg cg pb cb pr cr ∧ Below ((W.alloc (.cells #[.int .i64 2] 3)).alloc (.cells #[.int .i64 2, .int .i64 0] 38)).heap.size ((W.alloc (.cells #[.int .i64 2] 3)).alloc (.cells #[.int .i64 2, .int .i64 0] 38)) w' := fun W hW => by
    have hWs := hW.size
    have h1 := ints17 W 3 2 (by decide)
    have h2 := val17 (W.alloc (.cells #[.int .i64 2] 3)) 38
    rw [World.size_alloc] at h2
    exact mnew_any w.heap.size 1 (by rw [World.size_alloc, World.size_alloc]; omega) (h1.below ((Below.refl _ _).alloc (Nat.le_refl _) _)) (by decide) h2 (by decide) ⟨by decide, by decide⟩ fun i hi => by
      match i, hi with
      | 0, _ => show (0 : Int) ≤ 2 ∧ (2 : Int) ≤ 16; decide
  have hNo : ∀ W, Calls Tryd.prog 20 #[.int .i64 17, .slice none 0 0, .slice none 0 0] W fun e w' => e = .returned (.tuple #[.agg #[.int .i64 0, .slice none 0 0, .slice none 0 0, .slice none 0 0, .int .i64 0, .int .i64 0, .int .i64 0, .bool false], .bool false]) ∧ Below W.heap.size W w' := fun W => mnew_no 17 (by decide) (by decide) (by decide)
  have hSm := small17_any
  have c1 : ∀ W p c q d pg cg pb cb pr cr, Below w.heap.size w W → HpIn W p 32 c q 1 d true h17 → MAtE w.heap.size W m17 pg cg pb cb pr cr → Calls Tryd.prog 13 #[.agg #[.slice p 32 c, .slice q 1 d, .bool true], .agg #[.int .i64 1, .slice pg 0 cg, .slice pb 1 cb, .slice pr 1 cr, .int .i64 (-1), .int .i64 0, .int .i64 (-1), .bool false]] W fun e w' => ∃ p' c' q' d' pg' cg' pb' cb' pr' cr', e = .returned (.tuple #[.agg #[.slice p' 32 c', .slice q' 1 d', .bool true], .agg #[.int .i64 (stM h17 m17).2.1.g.r, .slice pg' (stM h17 m17).2.1.g.n cg', .slice pb' (stM h17 m17).2.1.nb cb', .slice pr' (stM h17 m17).2.1.nr cr', .int .i64 (stM h17 m17).2.1.ob, .int .i64 (stM h17 m17).2.1.fi, .int .i64 (stM h17 m17).2.1.cu, .bool (stM h17 m17).2.1.ov], .bool false]) ∧ HpIn w' p' 32 c' q' 1 d' true (stM h17 m17).1 ∧ MAtE w.heap.size w' (stM h17 m17).2.1 pg' cg' pb' cb' pr' cr' ∧ Below W.heap.size W w' := fun W p c q d pg cg pb cb pr cr hW hh hM => by
    have := mstep_in w.heap.size (hS.below hW) hh hF0 hM hW.size R0 (by decide) (by decide)
    rw [s1d] at this
    exact this
  generalize (stM h17 m17).1 = A1 at *
  generalize (stM h17 m17).2.1 = B1 at *
  have c2 : ∀ W p c q d pg cg pb cb pr cr, Below w.heap.size w W → HpIn W p 32 c q 1 d true A1 → MAtE w.heap.size W B1 pg cg pb cb pr cr → Calls Tryd.prog 13 #[.agg #[.slice p 32 c, .slice q 1 d, .bool true], .agg #[.int .i64 B1.g.r, .slice pg B1.g.n cg, .slice pb B1.nb cb, .slice pr B1.nr cr, .int .i64 B1.ob, .int .i64 B1.fi, .int .i64 B1.cu, .bool B1.ov]] W fun e w' => ∃ p' c' q' d' pg' cg' pb' cb' pr' cr', e = .returned (.tuple #[.agg #[.slice p' 32 c', .slice q' 1 d', .bool true], .agg #[.int .i64 (stM A1 B1).2.1.g.r, .slice pg' (stM A1 B1).2.1.g.n cg', .slice pb' (stM A1 B1).2.1.nb cb', .slice pr' (stM A1 B1).2.1.nr cr', .int .i64 (stM A1 B1).2.1.ob, .int .i64 (stM A1 B1).2.1.fi, .int .i64 (stM A1 B1).2.1.cu, .bool (stM A1 B1).2.1.ov], .bool false]) ∧ HpIn w' p' 32 c' q' 1 d' true (stM A1 B1).1 ∧ MAtE w.heap.size w' (stM A1 B1).2.1 pg' cg' pb' cb' pr' cr' ∧ Below W.heap.size W w' := fun W p c q d pg cg pb cb pr cr hW hh hM => by
    have := mstep_in w.heap.size (hS.below hW) hh s1F hM hW.size R1 (by omega) (by omega)
    rw [s2d] at this
    exact this
  generalize (stM A1 B1).1 = A2 at *
  generalize (stM A1 B1).2.1 = B2 at *
  have c3 : ∀ W p c q d pg cg pb cb pr cr, Below w.heap.size w W → HpIn W p 32 c q 1 d true A2 → MAtE w.heap.size W B2 pg cg pb cb pr cr → Calls Tryd.prog 13 #[.agg #[.slice p 32 c, .slice q 1 d, .bool true], .agg #[.int .i64 B2.g.r, .slice pg B2.g.n cg, .slice pb B2.nb cb, .slice pr B2.nr cr, .int .i64 B2.ob, .int .i64 B2.fi, .int .i64 B2.cu, .bool B2.ov]] W fun e w' => ∃ p' c' q' d' pg' cg' pb' cb' pr' cr', e = .returned (.tuple #[.agg #[.slice p' 32 c', .slice q' 1 d', .bool true], .agg #[.int .i64 (stM A2 B2).2.1.g.r, .slice pg' (stM A2 B2).2.1.g.n cg', .slice pb' (stM A2 B2).2.1.nb cb', .slice pr' (stM A2 B2).2.1.nr cr', .int .i64 (stM A2 B2).2.1.ob, .int .i64 (stM A2 B2).2.1.fi, .int .i64 (stM A2 B2).2.1.cu, .bool (stM A2 B2).2.1.ov], .bool true]) ∧ HpIn w' p' 32 c' q' 1 d' true (stM A2 B2).1 ∧ MAtE w.heap.size w' (stM A2 B2).2.1 pg' cg' pb' cb' pr' cr' ∧ Below W.heap.size W w' := fun W p c q d pg cg pb cb pr cr hW hh hM => by
    have := mstep_in w.heap.size (hS.below hW) hh s2F hM hW.size R2 (by omega) (by omega)
    rw [s3d] at this
    exact this
  generalize (stM A2 B2).1 = A3 at *
  generalize (stM A2 B2).2.1 = B3 at *
  clear s1d s2d s3d s1r s1k s2r s2k R1 R2 s2F
  have s1F' : Hid (formB A1 = true) := s1F
  have hF0' : Hid (formB h17 = true) := hF0
  have m0 : Hid (blB (noM h17 m17 0 ⟨2, 0⟩).1 0 = true) := nb0
  have m1 : Hid ((noM h17 m17 0 ⟨2, 0⟩).2.nb = 1) := nb1
  have m2 : Hid (((noM h17 m17 0 ⟨2, 0⟩).2.b 0).n = 1) := nb2
  have m3 : Hid (((noM h17 m17 0 ⟨2, 0⟩).2.b 0).z 0 = 0) := nb3
  have m4 : Hid (formB (noM h17 m17 0 ⟨2, 0⟩).1 = true) := nF
  clear nb0 nb1 nb2 nb3 nF s1F hF0
  go_enter Tryd.func7, Tryd.ntmps7
  go_upto_region 2 with (first
    | (go_at_call 25; refine Calls.mono (hSm _) ?_; rintro e w1 ⟨p, c, q, d, rfl, hh, hb1⟩)
  )
  obtain ⟨w2, hw2⟩ : ∃ W, W = w1.alloc (.cells #[.slice p 32 c, .slice q 1 d, .bool true] 25) := ⟨_, rfl⟩
  have gH : TBox 25 w1.heap.size #[.slice p 32 c, .slice q 1 d, .bool true] w2 := by rw [hw2]; exact TBox.new _ _ _
  have hb2 : Below w1.heap.size w1 w2 := by rw [hw2]; exact (Below.refl _ _).alloc (Nat.le_refl _) _
  rw [← hw2]
  clear hw2 hSm
  replace hh := hh.below hb2
  have hbW := bjoin hb2 hb1
  clear hb1 hb2
  generalize w1.heap.size = BH at *
  have hN2 := hNw _ hbW
  clear hNw
  go_upto_region 3 with (first
    | (go_at_call 20; refine Calls.mono hN2 ?_; rintro e wN ⟨pg, cg, pb, cb, pr, cr, rfl, hM, hbN⟩)
  )
  obtain ⟨w3, hw3⟩ : ∃ W, W = wN.alloc (.cells #[.int .i64 1, .slice pg 0 cg, .slice pb 1 cb, .slice pr 1 cr, .int .i64 (-1), .int .i64 0, .int .i64 (-1), .bool false] 32) := ⟨_, rfl⟩
  have gM : TBox 32 wN.heap.size #[.int .i64 1, .slice pg 0 cg, .slice pb 1 cb, .slice pr 1 cr, .int .i64 (-1), .int .i64 0, .int .i64 (-1), .bool false] w3 := by rw [hw3]; exact TBox.new _ _ _
  have hb3 : Below wN.heap.size wN w3 := by rw [hw3]; exact (Below.refl _ _).alloc (Nat.le_refl _) _
  rw [← hw3]
  clear hw3 hN2
  have hb23 : Below w2.heap.size w2 w3 := bjoin hb3 (bjoin hbN (((Below.refl _ _).alloc (Nat.le_refl _) _).alloc (by rw [World.size_alloc]; omega) _))
  replace gH := gH.below hb23
  replace hh := hh.below hb23
  replace hM := hM.below hb3
  replace hbW := bjoin hb23 hbW
  clear hb23 hb3 hbN
  generalize wN.heap.size = BM at *
  go_upto_region 4 with (first
    | (go_at_call 20; refine Calls.mono (hNo _) ?_; rintro e wN ⟨rfl, hbN⟩)
  )
  obtain ⟨w4, hw4⟩ : ∃ W, W = wN.alloc (.cells #[.int .i64 0, .slice none 0 0, .slice none 0 0, .slice none 0 0, .int .i64 0, .int .i64 0, .int .i64 0, .bool false] 32) := ⟨_, rfl⟩
  have hb4 : Below wN.heap.size wN w4 := by rw [hw4]; exact (Below.refl _ _).alloc (Nat.le_refl _) _
  rw [← hw4]
  clear hw4 hNo
  have hb34 := bjoin hb4 hbN
  replace gH := gH.below hb34
  replace gM := gM.below hb34
  replace hh := hh.below hb34
  replace hM := hM.below hb34
  replace hbW := bjoin hb34 hbW
  clear hb34 hb4 hbN
  obtain ⟨l0, x0, x1, x2⟩ : BH < w4.heap.size ∧ w4.cell? ⟨BH, 0, none⟩ = some (.slice p 32 c) ∧ w4.cell? ⟨BH, 1, none⟩ = some (.slice q 1 d) ∧ w4.cell? ⟨BH, 2, none⟩ = some (.bool true) := ⟨gH.lt, gH.cell 0, gH.cell 1, gH.cell 2⟩
  obtain ⟨l8, y0, y1, y2, y3, y4, y5, y6, y7⟩ := mk_cells gM
  have hSt := c1 _ _ _ _ _ _ _ _ _ _ _ hbW hh hM
  clear c1
  go_upto_region 5 with (first
    | (go_at_call 13; refine Calls.mono (hSt) ?_; rintro e w' ⟨p1, c1, q1, d1, pg1, cg1, pb1, cb1, pr1, cr1, rfl, hh1, hM1, hb⟩; obtain ⟨hc, hf, hb, hz⟩ := bstep hb (w := w4) (by go_grown); try simp only [World.size_alloc, World.size_setCell, World.size_drew] at hc hf hz)
  )
  obtain ⟨w5, hw⟩ : ∃ W, W = (w'.alloc (.cells #[.slice p1 32 c1, .slice q1 1 d1, .bool true] 25)).alloc (.cells #[.int .i64 B1.g.r, .slice pg1 B1.g.n cg1, .slice pb1 B1.nb cb1, .slice pr1 B1.nr cr1, .int .i64 B1.ob, .int .i64 B1.fi, .int .i64 B1.cu, .bool B1.ov] 32) := ⟨_, rfl⟩
  obtain ⟨gH1, gM1, hbn⟩ := tbox_two hw
  rw [← hw]
  clear hw
  have hbs := bjoin hbn hb
  replace gH := gH.below hbs
  replace gM := gM.below hbs
  replace hh := hh.below hbs
  replace hM := hM.below hbs
  replace hh1 := hh1.below hbn
  replace hM1 := hM1.below hbn
  replace hbW := bjoin hbs hbW
  clear hbs hbn hb hc hf hz hSt l0 x0 x1 x2 l8 y0 y1 y2 y3 y4 y5 y6 y7
  generalize w'.heap.size = BB1 at *
  obtain ⟨l0, x0, x1, x2⟩ : BB1 < w5.heap.size ∧ w5.cell? ⟨BB1, 0, none⟩ = some (.slice p1 32 c1) ∧ w5.cell? ⟨BB1, 1, none⟩ = some (.slice q1 1 d1) ∧ w5.cell? ⟨BB1, 2, none⟩ = some (.bool true) := ⟨gH1.lt, gH1.cell 0, gH1.cell 1, gH1.cell 2⟩
  obtain ⟨l8, y0, y1, y2, y3, y4, y5, y6, y7⟩ := mk_cells gM1
  have hSt := c2 _ _ _ _ _ _ _ _ _ _ _ hbW hh1 hM1
  clear c2
  go_upto_region 6 with (first
    | (go_at_call 13; refine Calls.mono (hSt) ?_; rintro e w' ⟨p2, c2, q2, d2, pg2, cg2, pb2, cb2, pr2, cr2, rfl, hh2, hM2, hb⟩; obtain ⟨hc, hf, hb, hz⟩ := bstep hb (w := w5) (by go_grown); try simp only [World.size_alloc, World.size_setCell, World.size_drew] at hc hf hz)
  )
  obtain ⟨w6, hw⟩ : ∃ W, W = (w'.alloc (.cells #[.slice p2 32 c2, .slice q2 1 d2, .bool true] 25)).alloc (.cells #[.int .i64 B2.g.r, .slice pg2 B2.g.n cg2, .slice pb2 B2.nb cb2, .slice pr2 B2.nr cr2, .int .i64 B2.ob, .int .i64 B2.fi, .int .i64 B2.cu, .bool B2.ov] 32) := ⟨_, rfl⟩
  obtain ⟨gH2, gM2, hbn⟩ := tbox_two hw
  rw [← hw]
  clear hw
  have hbs := bjoin hbn hb
  replace gH := gH.below hbs
  replace gM := gM.below hbs
  replace hh := hh.below hbs
  replace hM := hM.below hbs
  replace gH1 := gH1.below hbs
  replace gM1 := gM1.below hbs
  replace hh1 := hh1.below hbs
  replace hM1 := hM1.below hbs
  replace hh2 := hh2.below hbn
  replace hM2 := hM2.below hbn
  replace hbW := bjoin hbs hbW
  clear hbs hbn hb hc hf hz hSt l0 x0 x1 x2 l8 y0 y1 y2 y3 y4 y5 y6 y7
  generalize w'.heap.size = BB2 at *
  obtain ⟨l0, x0, x1, x2⟩ : BB2 < w6.heap.size ∧ w6.cell? ⟨BB2, 0, none⟩ = some (.slice p2 32 c2) ∧ w6.cell? ⟨BB2, 1, none⟩ = some (.slice q2 1 d2) ∧ w6.cell? ⟨BB2, 2, none⟩ = some (.bool true) := ⟨gH2.lt, gH2.cell 0, gH2.cell 1, gH2.cell 2⟩
  obtain ⟨l8, y0, y1, y2, y3, y4, y5, y6, y7⟩ := mk_cells gM2
  have hSt := c3 _ _ _ _ _ _ _ _ _ _ _ hbW hh2 hM2
  clear c3
  go_upto_region 7 with (first
    | (go_at_call 13; refine Calls.mono (hSt) ?_; rintro e w' ⟨p3, c3, q3, d3, pg3, cg3, pb3, cb3, pr3, cr3, rfl, hh3, hM3, hb⟩; obtain ⟨hc, hf, hb, hz⟩ := bstep hb (w := w6) (by go_grown); try simp only [World.size_alloc, World.size_setCell, World.size_drew] at hc hf hz)
  )
  obtain ⟨w7, hw⟩ : ∃ W, W = (w'.alloc (.cells #[.slice p3 32 c3, .slice q3 1 d3, .bool true] 25)).alloc (.cells #[.int .i64 B3.g.r, .slice pg3 B3.g.n cg3, .slice pb3 B3.nb cb3, .slice pr3 B3.nr cr3, .int .i64 B3.ob, .int .i64 B3.fi, .int .i64 B3.cu, .bool B3.ov] 32) := ⟨_, rfl⟩
  obtain ⟨gH3, gM3, hbn⟩ := tbox_two hw
  rw [← hw]
  clear hw
  have hbs := bjoin hbn hb
  replace gH := gH.below hbs
  replace gM := gM.below hbs
  replace hh := hh.below hbs
  replace hM := hM.below hbs
  replace gH1 := gH1.below hbs
  replace gM1 := gM1.below hbs
  replace hh1 := hh1.below hbs
  replace hM1 := hM1.below hbs
  replace gH2 := gH2.below hbs
  replace gM2 := gM2.below hbs
  replace hh2 := hh2.below hbs
  replace hM2 := hM2.below hbs
  replace hh3 := hh3.below hbn
  replace hM3 := hM3.below hbn
  replace hbW := bjoin hbs hbW
  clear hbs hbn hb hc hf hz hSt l0 x0 x1 x2 l8 y0 y1 y2 y3 y4 y5 y6 y7
  generalize w'.heap.size = BB3 at *
  clear gH3 gM3 hh3 hM3 gH2 hh2
  obtain ⟨l0, x0, x1, x2⟩ : BH < w7.heap.size ∧ w7.cell? ⟨BH, 0, none⟩ = some (.slice p 32 c) ∧ w7.cell? ⟨BH, 1, none⟩ = some (.slice q 1 d) ∧ w7.cell? ⟨BH, 2, none⟩ = some (.bool true) := ⟨gH.lt, gH.cell 0, gH.cell 1, gH.cell 2⟩
  obtain ⟨l8, y0, y1, y2, y3, y4, y5, y6, y7⟩ := mk_cells gM
  obtain ⟨k0, a0, a1, a2⟩ : BB1 < w7.heap.size ∧ w7.cell? ⟨BB1, 0, none⟩ = some (.slice p1 32 c1) ∧ w7.cell? ⟨BB1, 1, none⟩ = some (.slice q1 1 d1) ∧ w7.cell? ⟨BB1, 2, none⟩ = some (.bool true) := ⟨gH1.lt, gH1.cell 0, gH1.cell 1, gH1.cell 2⟩
  obtain ⟨k8, b0, b1, b2, b3, b4, b5, b6, b7⟩ := mk_cells gM1
  obtain ⟨j8, d0', d1', d2', d3', d4', d5', d6', d7'⟩ := mk_cells gM2
  have hNt : Calls Tryd.prog 21 #[.agg #[.slice p 32 c, .slice q 1 d, .bool true], .agg #[.int .i64 1, .slice pg 0 cg, .slice pb 1 cb, .slice pr 1 cr, .int .i64 (-1), .int .i64 0, .int .i64 (-1), .bool false], .int .i64 0, .agg #[.int .i64 2, .int .i64 0]] w7 fun e w' => ∃ p' c' q' d' pg' cg' pb' cb' pr' cr', e = .returned (.tuple #[.agg #[.slice p' 32 c', .slice q' 1 d', .bool true], .agg #[.int .i64 (noM h17 m17 0 ⟨2, 0⟩).2.g.r, .slice pg' (noM h17 m17 0 ⟨2, 0⟩).2.g.n cg', .slice pb' (noM h17 m17 0 ⟨2, 0⟩).2.nb cb', .slice pr' (noM h17 m17 0 ⟨2, 0⟩).2.nr cr', .int .i64 (noM h17 m17 0 ⟨2, 0⟩).2.ob, .int .i64 (noM h17 m17 0 ⟨2, 0⟩).2.fi, .int .i64 (noM h17 m17 0 ⟨2, 0⟩).2.cu, .bool (noM h17 m17 0 ⟨2, 0⟩).2.ov]]) ∧
      HpIn w' p' 32 c' q' 1 d' true (noM h17 m17 0 ⟨2, 0⟩).1 ∧ MAtE w.heap.size w' (noM h17 m17 0 ⟨2, 0⟩).2 pg' cg' pb' cb' pr' cr' ∧ Below w7.heap.size w7 w' :=
    mnote_in (i := 0) (v := ⟨2, 0⟩) w.heap.size (hS.below hbW) hh hF0'.out hM hbW.size R0 (by decide) ⟨by decide, by decide⟩ (by decide) (by decide)
  generalize (noM h17 m17 0 ⟨2, 0⟩).1 = EE at *
  generalize (noM h17 m17 0 ⟨2, 0⟩).2 = FF at *
  go_upto_region 10 with (first
    | (go_at_call 21; refine Calls.mono (hNt) ?_; rintro e w' ⟨p4, c4, q4, d4, pg4, cg4, pb4, cb4, pr4, cr4, rfl, hh4, hM4, hb⟩; obtain ⟨hc, hf, hb, hz⟩ := bstep hb (w := w7) (by go_grown); try simp only [World.size_alloc, World.size_setCell, World.size_drew] at hc hf hz)
  )
  obtain ⟨w8, hw⟩ : ∃ W, W = (w'.alloc (.cells #[.slice p4 32 c4, .slice q4 1 d4, .bool true] 25)).alloc (.cells #[.int .i64 FF.g.r, .slice pg4 FF.g.n cg4, .slice pb4 FF.nb cb4, .slice pr4 FF.nr cr4, .int .i64 FF.ob, .int .i64 FF.fi, .int .i64 FF.cu, .bool FF.ov] 32) := ⟨_, rfl⟩
  obtain ⟨gE, gF, hbn⟩ := tbox_two hw
  rw [← hw]
  clear hw
  have hbs := bjoin hbn hb
  replace gH := gH.below hbs
  replace gM := gM.below hbs
  replace hh := hh.below hbs
  replace hM := hM.below hbs
  replace gH1 := gH1.below hbs
  replace gM1 := gM1.below hbs
  replace hh1 := hh1.below hbs
  replace hM1 := hM1.below hbs
  replace gM2 := gM2.below hbs
  replace hM2 := hM2.below hbs
  replace hh4 := hh4.below hbn
  replace hM4 := hM4.below hbn
  replace hbW := bjoin hbs hbW
  clear hbs hbn hb hc hf hz hNt l0 x0 x1 x2 l8 y0 y1 y2 y3 y4 y5 y6 y7 k0 a0 a1 a2 k8 b0 b1 b2 b3 b4 b5 b6 b7 j8 d0' d1' d2' d3' d4' d5' d6' d7'
  generalize w'.heap.size = BE at *
  have hBk : ∀ W (p : Option Addr) c (q : Option Addr) d, (∃ X, HpIn W p 32 c q 1 d true X ∧ formB X = true ∧ blB X 0 = true) → Calls Tryd.prog 26 #[.agg #[.slice p 32 c, .slice q 1 d, .bool true], .int .i64 0] W fun e w' => e = .returned (.bool true) ∧ Below W.heap.size W w' := fun W p c q d ⟨X, hX, f1, f2⟩ => by
    obtain ⟨e1, e2, e3, ha⟩ := hX
    have := rblack8_any p c q d X 0 W ha f1
    rwa [f2, ← e1, ← e2, ← e3] at this
  have hIs : ∀ W (pp : Option Addr) n cc q, (∃ z, Ints .i64 W pp n z ∧ n = 1 ∧ z 0 = 0) → (Ints .i64 W q 1 fun i => ([0] : List Int)[i]?.getD 0) → Calls Tryd.prog 15 #[.slice pp n cc, .slice q 1 1] W fun e w' => e = .returned (.bool true) ∧ Below W.heap.size W w' := fun W pp n cc q ⟨z, hz, e1, e2⟩ hq => by
    have := rintsG_any pp q n cc 1 1 z (fun i => ([0] : List Int)[i]?.getD 0) W hz hq (by rw [e1]; decide) (by decide)
    have e : sameI n z 1 (fun i => ([0] : List Int)[i]?.getD 0) = true := by
      subst e1
      simp only [sameI, decide_eq_true_eq]
      exact ⟨trivial, fun i hi => by obtain rfl : i = 0 := by omega
                                     exact e2⟩
    rwa [e] at this
  obtain ⟨bf, of, qf, df, rfl, hlf, v0, v1, hgf, -⟩ := hM4.b.plain.gy (show 0 < FF.nb by rw [m1.out]; decide)
  have hR1 : ∀ W, Below w8.heap.size w8 W → Calls Tryd.prog 27 #[.agg #[.slice p 32 c, .slice q 1 d, .bool true], .agg #[.int .i64 1, .slice pg 0 cg, .slice pb 1 cb, .slice pr 1 cr, .int .i64 (-1), .int .i64 0, .int .i64 (-1), .bool false]] W fun e w' => e = .returned (.bool true) ∧ Below W.heap.size W w' := fun W hW =>
    mright_in (m := m17) (hS.below (bjoin hW hbW)) (hh.below hW) hF0'.out (hM.below hW) (by decide) (show In64 1 ∧ In64 (-1) ∧ In64 0 ∧ In64 (-1) by simp [In64]) ⟨fun _ => R0, fun _ => rfl⟩
  have hz17 : ∀ W, MAtE w.heap.size W z17 none 0 none 0 none 0 := fun W => ⟨gr_nil W _, rowE_nil _ _ _ _, rat_nil W _, rowE_nil _ _ _ _, va_nil W _, rowE_nil _ _ _ _⟩
  have hR2 : ∀ W, Below w8.heap.size w8 W → Calls Tryd.prog 27 #[.agg #[.slice p 32 c, .slice q 1 d, .bool true], .agg #[.int .i64 0, .slice none 0 0, .slice none 0 0, .slice none 0 0, .int .i64 0, .int .i64 0, .int .i64 0, .bool false]] W fun e w' => e = .returned (.bool false) ∧ Below W.heap.size W w' := fun W hW =>
    mright_in (m := z17) (hS.below (bjoin hW hbW)) (hh.below hW) hF0'.out (hz17 W) (by decide) (show In64 0 ∧ In64 0 ∧ In64 0 ∧ In64 0 by simp [In64]) ⟨fun h => (by cases h), fun h => by have := rtD_iff.2 h; rw [right17_no] at this; cases this⟩
  have hRt : ∀ W v B, Below w8.heap.size w8 W → ((v = .agg #[.int .i64 1, .slice pg 0 cg, .slice pb 1 cb, .slice pr 1 cr, .int .i64 (-1), .int .i64 0, .int .i64 (-1), .bool false] ∧ B = true) ∨ (v = .agg #[.int .i64 0, .slice none 0 0, .slice none 0 0, .slice none 0 0, .int .i64 0, .int .i64 0, .int .i64 0, .bool false] ∧ B = false)) → Calls Tryd.prog 27 #[.agg #[.slice p 32 c, .slice q 1 d, .bool true], v] W fun e w' => e = .returned (.bool B) ∧ Below W.heap.size W w' := fun W v B hW h => by
    rcases h with ⟨rfl, rfl⟩ | ⟨rfl, rfl⟩
    · exact hR1 W hW
    · exact hR2 W hW
  obtain ⟨l0, x0, x1, x2⟩ : BH < w8.heap.size ∧ w8.cell? ⟨BH, 0, none⟩ = some (.slice p 32 c) ∧ w8.cell? ⟨BH, 1, none⟩ = some (.slice q 1 d) ∧ w8.cell? ⟨BH, 2, none⟩ = some (.bool true) := ⟨gH.lt, gH.cell 0, gH.cell 1, gH.cell 2⟩
  obtain ⟨l8, y0, y1, y2, y3, y4, y5, y6, y7⟩ := mk_cells gM
  obtain ⟨k0, a0, a1, a2⟩ : BB1 < w8.heap.size ∧ w8.cell? ⟨BB1, 0, none⟩ = some (.slice p1 32 c1) ∧ w8.cell? ⟨BB1, 1, none⟩ = some (.slice q1 1 d1) ∧ w8.cell? ⟨BB1, 2, none⟩ = some (.bool true) := ⟨gH1.lt, gH1.cell 0, gH1.cell 1, gH1.cell 2⟩
  obtain ⟨k8, b0, b1, b2, b3, b4, b5, b6, b7⟩ := mk_cells gM1
  obtain ⟨j8, d0', d1', d2', d3', d4', d5', d6', d7'⟩ := mk_cells gM2
  obtain ⟨i0, e0, e1, e2⟩ : BE < w8.heap.size ∧ w8.cell? ⟨BE, 0, none⟩ = some (.slice p4 32 c4) ∧ w8.cell? ⟨BE, 1, none⟩ = some (.slice q4 1 d4) ∧ w8.cell? ⟨BE, 2, none⟩ = some (.bool true) := ⟨gE.lt, gE.cell 0, gE.cell 1, gE.cell 2⟩
  obtain ⟨i8, g0, g1, g2, g3, g4, g5, g6, g7⟩ := mk_cells gF
  have q1' : ((B2.g.n : Int) == 0) = true := by rw [t2n.out]; rfl
  have q2' : (B2.ob == -1) = true := by rw [t2o.out]; rfl
  have q3' : ((FF.nb : Int) == 1) = true := by rw [m1.out]; rfl
  have q4' : 0 < FF.nb := by rw [m1.out]; decide
  have hg1 := hM1.g
  clear gH gM hh hM gH1 gM1 hM1 gM2 hM2 gE gF hM4 R0 hz17 hR1 hR2
  go_wp2_with (first
    | (go_at_call 26; refine Calls.mono (hBk _ _ _ _ _ (by first | exact ⟨_, hh1.below (by go_grown), s1F'.out, t1b.out⟩ | exact ⟨_, hh4.below (by go_grown), m4.out, m0.out⟩)) ?_; rintro e w' ⟨rfl, hb⟩; obtain ⟨hc, hf, hb, hz⟩ := bstep hb (w := w8) (by go_grown); try simp only [World.size_alloc, World.size_setCell, World.size_drew] at hc hf hz)
    | (go_at_call 15; refine Calls.mono (hIs _ _ _ _ _ (by first | exact ⟨_, (hg1.below (by go_grown)).ints, t1n.out, t1z.out⟩ | exact ⟨_, (hgf.below (by go_grown)).ints, m2.out, m3.out⟩) (ints17 _ _ 0 (by decide))) ?_; rintro e w' ⟨rfl, hb⟩; obtain ⟨hc, hf, hb, hz⟩ := bstep hb (w := w8) (by go_grown); try simp only [World.size_alloc, World.size_setCell, World.size_drew] at hc hf hz)
    | (go_at_call 27; refine Calls.mono (hRt _ _ _ (by go_grown) (by first | exact .inl ⟨rfl, rfl⟩ | exact .inr ⟨rfl, rfl⟩)) ?_; rintro e w' ⟨rfl, hb⟩; obtain ⟨hc, hf, hb, hz⟩ := bstep hb (w := w8) (by go_grown); try simp only [World.size_alloc, World.size_setCell, World.size_drew] at hc hf hz)
  )
  go_returns
  exact ⟨rfl, bjoin hb hbW⟩
end Go.Proofs.YtiofeebiejkajaaDoor
