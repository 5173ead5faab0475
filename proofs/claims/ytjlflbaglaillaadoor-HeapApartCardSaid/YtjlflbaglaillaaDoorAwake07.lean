/- The awake test of layer 7's laws. -/
import Derived.Test.YtjlflbaglaillaaDoorHeapNow
namespace Go.Proofs.YtjlflbaglaillaaDoor
set_option linter.unusedSimpArgs false
set_option linter.unusedVariables false
open Go.ChangeShapes Go.WideShapes Go.ChangeAt Go.RowKit Go.Joins

theorem awake_facts : formB (nuH 2) = true ∧ nuE 2 = 0 ∧ nuE 0 = 1 ∧ opB (nuH 2) 1 3 = true ∧ formB (opH (nuH 2) 1 3) = true ∧ laA (opH (nuH 2) 1 3) 1 9 = 32 ∧ laB (opH (nuH 2) 1 3) 1 9 = true ∧ laB (opH (nuH 2) 1 3) 1 16 = false ∧
    formB (laH (opH (nuH 2) 1 3) 1 9) = true ∧ fiP (laH (opH (nuH 2) 1 3) 1 9) 32 = 1 ∧ fiI (laH (opH (nuH 2) 1 3) 1 9) 32 = 0 ∧ fiB (laH (opH (nuH 2) 1 3) 1 9) 32 = true ∧
    frB (laH (opH (nuH 2) 1 3) 1 9) 32 = true ∧ formB (frH (laH (opH (nuH 2) 1 3) 1 9) 32) = true ∧ loB (laH (opH (nuH 2) 1 3) 1 9) 1 = false ∧ loB (frH (laH (opH (nuH 2) 1 3) 1 9) 32) 1 = true ∧
    sameH (loH (frH (laH (opH (nuH 2) 1 3) 1 9) 32) 1) (nuH 2) = true ∧ usH (laH (opH (nuH 2) 1 3) 1 9) = 16 ∧ formB (nuH 0) = false ∧ (laH (opH (nuH 2) 1 3) 1 9).z 32 = hputW true false 3 9 ∧ (nuH 2).n = 64 ∧ (nuH 2).m = 2 ∧ (nuH 2).b = false ∧
    hmayB true false 3 9 = true ∧ (laH (opH (nuH 2) 1 3) 1 9).n = 64 := by decide +kernel
theorem form_nil : formB ⟨0, fun _ => 0, 0, fun _ => ⟨0, 0, 0⟩, false⟩ = false := by decide +kernel
set_option maxHeartbeats 8000000 in
set_option maxRecDepth 20000 in
theorem awake_any (w : World) (hS : Sz w) (hT : Tab w) :
    Calls Tryd.prog 9 #[] w fun e w' => e = .returned (.bool true) ∧ Below w.heap.size w w' := by
  obtain ⟨F0, E0, E1, B0, F1, A1, B1, B2, F2, X0, X1, X2, B3, F3, B4, B5, S0, U0, -, Z0, n0, m0, b0, M0, n1⟩ := awake_facts
  have hN := form_nil
  have hZ : Hid ((laH (opH (nuH 2) 1 3) 1 9).z 32 = hputW true false 3 9 ∧ (laH (opH (nuH 2) 1 3) 1 9).n = 64) := ⟨Z0, n1⟩
  have hW : Hid ((nuH 2).n = 64 ∧ (nuH 2).m = 2 ∧ (nuH 2).b = false) := ⟨n0, m0, b0⟩
  clear Z0 n0 m0 b0 n1
  go_enter Tryd.func9, Tryd.ntmps9
  go_upto_region 4 with (first
    | (go_at_call 10; refine Calls.mono (hnew_in 2 (hS.below (by go_grown)) (hT.below (by go_grown))) ?_; rintro e w' ⟨p0, n0, c0, q0, m0, d0, b0, rfl, hh0, -, -, hb⟩; (first | replace hS := hS.below hb | replace hS := (hS.below (by go_grown)).below hb | skip); (first | replace hT := hT.below hb | replace hT := (hT.below (by go_grown)).below hb | skip); obtain ⟨hc, hf, hb, hz⟩ := bstep hb (w := w) (by go_grown); try simp only [World.size_alloc, World.size_setCell, World.size_drew] at hc hf hz)
    | (go_at_call 19; refine Calls.mono (hopen_in (hS.below (by go_grown)) (hT.below (by go_grown)) (hh0.below (by go_grown)) F0) ?_; rintro e w' ⟨p1, c1, q1, d1, rfl, hh1, -, hb⟩; (first | replace hS := hS.below hb | replace hS := (hS.below (by go_grown)).below hb | skip); (first | replace hT := hT.below hb | replace hT := (hT.below (by go_grown)).below hb | skip); (first | replace hh0 := hh0.below hb | replace hh0 := (hh0.below (by go_grown)).below hb | skip); obtain ⟨hc, hf, hb, hz⟩ := bstep hb (w := w) (by go_grown); try simp only [World.size_alloc, World.size_setCell, World.size_drew] at hc hf hz)
    | (go_at_call 25; refine Calls.mono (hlay_in (hS.below (by go_grown)) (hT.below (by go_grown)) (hh1.below (by go_grown)) F1) ?_; rintro e w' ⟨p2, c2, q2, d2, rfl, hh2, -, hb⟩; (first | replace hS := hS.below hb | replace hS := (hS.below (by go_grown)).below hb | skip); (first | replace hT := hT.below hb | replace hT := (hT.below (by go_grown)).below hb | skip); (first | replace hh0 := hh0.below hb | replace hh0 := (hh0.below (by go_grown)).below hb | skip); (first | replace hh1 := hh1.below hb | replace hh1 := (hh1.below (by go_grown)).below hb | skip); obtain ⟨hc, hf, hb, hz⟩ := bstep hb (w := w) (by go_grown); try simp only [World.size_alloc, World.size_setCell, World.size_drew] at hc hf hz)
  )
  go_upto_region 8 with (first
    | (go_at_call 25; refine Calls.mono (hlay_in (hS.below (by go_grown)) (hT.below (by go_grown)) (hh1.below (by go_grown)) F1) ?_; rintro e w' ⟨p3, c3, q3, d3, rfl, -, -, hb⟩; (first | replace hS := hS.below hb | replace hS := (hS.below (by go_grown)).below hb | skip); (first | replace hT := hT.below hb | replace hT := (hT.below (by go_grown)).below hb | skip); (first | replace hh0 := hh0.below hb | replace hh0 := (hh0.below (by go_grown)).below hb | skip); (first | replace hh2 := hh2.below hb | replace hh2 := (hh2.below (by go_grown)).below hb | skip); obtain ⟨hc, hf, hb, hz⟩ := bstep hb (w := w) (by go_grown); try simp only [World.size_alloc, World.size_setCell, World.size_drew] at hc hf hz)
    | (go_at_call 15; refine Calls.mono (hfind_in (hS.below (by go_grown)) (hT.below (by go_grown)) (hh2.below (by go_grown)) F2) ?_; rintro e w' ⟨rfl, hb⟩; (first | replace hS := hS.below hb | replace hS := (hS.below (by go_grown)).below hb | skip); (first | replace hT := hT.below hb | replace hT := (hT.below (by go_grown)).below hb | skip); (first | replace hh0 := hh0.below hb | replace hh0 := (hh0.below (by go_grown)).below hb | skip); (first | replace hh2 := hh2.below hb | replace hh2 := (hh2.below (by go_grown)).below hb | skip); obtain ⟨hc, hf, hb, hz⟩ := bstep hb (w := w) (by go_grown); try simp only [World.size_alloc, World.size_setCell, World.size_drew] at hc hf hz)
    | (go_at_call 23; refine Calls.mono (hfree_in (hS.below (by go_grown)) (hT.below (by go_grown)) (hh2.below (by go_grown)) F2) ?_; rintro e w' ⟨p4, c4, q4, d4, rfl, hh4, -, hb⟩; (first | replace hS := hS.below hb | replace hS := (hS.below (by go_grown)).below hb | skip); (first | replace hT := hT.below hb | replace hT := (hT.below (by go_grown)).below hb | skip); (first | replace hh0 := hh0.below hb | replace hh0 := (hh0.below (by go_grown)).below hb | skip); (first | replace hh2 := hh2.below hb | replace hh2 := (hh2.below (by go_grown)).below hb | skip); obtain ⟨hc, hf, hb, hz⟩ := bstep hb (w := w) (by go_grown); try simp only [World.size_alloc, World.size_setCell, World.size_drew] at hc hf hz)
    | (go_at_call 21; refine Calls.mono (hclose_in (hS.below (by go_grown)) (hT.below (by go_grown)) (hh2.below (by go_grown)) F2) ?_; rintro e w' ⟨p5, c5, q5, d5, rfl, -, -, hb⟩; (first | replace hS := hS.below hb | replace hS := (hS.below (by go_grown)).below hb | skip); (first | replace hT := hT.below hb | replace hT := (hT.below (by go_grown)).below hb | skip); (first | replace hh0 := hh0.below hb | replace hh0 := (hh0.below (by go_grown)).below hb | skip); (first | replace hh2 := hh2.below hb | replace hh2 := (hh2.below (by go_grown)).below hb | skip); (first | replace hh4 := hh4.below hb | replace hh4 := (hh4.below (by go_grown)).below hb | skip); obtain ⟨hc, hf, hb, hz⟩ := bstep hb (w := w) (by go_grown); try simp only [World.size_alloc, World.size_setCell, World.size_drew] at hc hf hz)
  )
  go_upto_region 10 with (first
    | (go_at_call 21; refine Calls.mono (hclose_in (hS.below (by go_grown)) (hT.below (by go_grown)) (hh4.below (by go_grown)) F3) ?_; rintro e w' ⟨p6, c6, q6, d6, rfl, hh6, -, hb⟩; (first | replace hS := hS.below hb | replace hS := (hS.below (by go_grown)).below hb | skip); (first | replace hT := hT.below hb | replace hT := (hT.below (by go_grown)).below hb | skip); (first | replace hh0 := hh0.below hb | replace hh0 := (hh0.below (by go_grown)).below hb | skip); (first | replace hh2 := hh2.below hb | replace hh2 := (hh2.below (by go_grown)).below hb | skip); (first | replace hh4 := hh4.below hb | replace hh4 := (hh4.below (by go_grown)).below hb | skip); obtain ⟨hc, hf, hb, hz⟩ := bstep hb (w := w) (by go_grown); try simp only [World.size_alloc, World.size_setCell, World.size_drew] at hc hf hz)
    | (go_at_call 10; refine Calls.mono (hnew_in 0 (hS.below (by go_grown)) (hT.below (by go_grown))) ?_; rintro e w' ⟨p7, n7, c7, q7, m7, d7, b7, rfl, -, -, -, hb⟩; (first | replace hS := hS.below hb | replace hS := (hS.below (by go_grown)).below hb | skip); (first | replace hT := hT.below hb | replace hT := (hT.below (by go_grown)).below hb | skip); (first | replace hh0 := hh0.below hb | replace hh0 := (hh0.below (by go_grown)).below hb | skip); (first | replace hh2 := hh2.below hb | replace hh2 := (hh2.below (by go_grown)).below hb | skip); (first | replace hh6 := hh6.below hb | replace hh6 := (hh6.below (by go_grown)).below hb | skip); obtain ⟨hc, hf, hb, hz⟩ := bstep hb (w := w) (by go_grown); try simp only [World.size_alloc, World.size_setCell, World.size_drew] at hc hf hz)
  )
  have hbE := hb
  obtain rfl : n0 = 64 := hh2.n_eq.trans hZ.out.2
  obtain ⟨⟨bb, off, rfl, hlt, u0⟩, -⟩ := hh2.at'.ints 32 (by rw [hZ.out.2]; decide)
  rw [hZ.out.1] at u0
  obtain ⟨w9, hw9⟩ : ∃ w9, w9 = w'.alloc (.cells #[.slice p7 n7 c7, .slice q7 m7 d7, .bool b7] 25) := ⟨_, rfl⟩
  have hB9 : Below w'.heap.size w' w9 := by rw [hw9]; exact (Below.refl _ _).alloc (Nat.le_refl _) _
  replace hS := hS.below hB9
  replace hT := hT.below hB9
  replace hh0 := hh0.below hB9
  replace hh2 := hh2.below hB9
  replace hh6 := hh6.below hB9
  have hhN := nil_in w9
  have hbW := bjoin hB9 hbE
  obtain ⟨hc, hf, hb, hz⟩ := bstep hB9 hbE
  have u1 : w9.cell? ⟨bb, off + 32, none⟩ = _ := (hB9.cell (p := ⟨bb, off + 32, none⟩) hlt).trans u0
  have hl9 : bb < w9.heap.size := Nat.lt_of_lt_of_le hlt hB9.size
  have u1 : w9.cell? ⟨bb, off + 32, none⟩ = _ := (hB9.cell (p := ⟨bb, off + 32, none⟩) hlt).trans u0
  have hl9 : bb < w9.heap.size := Nat.lt_of_lt_of_le hlt hB9.size
  rw [← hw9]
  clear hw9
  refine wp_region_plus (by kernel_rfl) (by kernel_rfl) fun hpc => ?_
  repeat (first | go_big_quiet_step ((first | (go_at_call 11; exact quiet_plus (rsame_in (hh6.below (plus_below _ _)) (hh0.below (plus_below _ _)))) | (go_at_call 17; exact quiet_plus (hused_in (hS.below (plus_below _ _)) (hT.below (plus_below _ _)) (hh2.below (plus_below _ _)) F2)) | (go_at_call 13; exact quiet_plus (hform_in (hS.below (plus_below _ _)) (hT.below (plus_below _ _)) (HpIn.below (by assumption) (plus_below _ _)))) | (go_at_call 28; exact quiet_plus (rhput_any _ _ _ _ _ M0)))) | quiet_step ((first | (go_at_call 11; exact quiet_plus (rsame_in (hh6.below (plus_below _ _)) (hh0.below (plus_below _ _)))) | (go_at_call 17; exact quiet_plus (hused_in (hS.below (plus_below _ _)) (hT.below (plus_below _ _)) (hh2.below (plus_below _ _)) F2)) | (go_at_call 13; exact quiet_plus (hform_in (hS.below (plus_below _ _)) (hT.below (plus_below _ _)) (HpIn.below (by assumption) (plus_below _ _)))) | (go_at_call 28; exact quiet_plus (rhput_any _ _ _ _ _ M0)))))
  refine wpQuiet_nil ?_
  intro w' hbq
  clear hpc
  obtain ⟨hc, hf, hb, hz⟩ := bstep hbq (w := w9) (by go_grown)
  try simp only [World.size_alloc, World.size_setCell, World.size_drew] at hc hf hz
  go_wp2
  go_returns
  exact ⟨ret_bool (by simp), bjoin hb hbW⟩
end Go.Proofs.YtjlflbaglaillaaDoor
