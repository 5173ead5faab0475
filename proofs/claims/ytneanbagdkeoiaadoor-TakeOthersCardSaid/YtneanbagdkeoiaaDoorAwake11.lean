/- The awake test of layer 11's laws. -/
import Derived.Test.YtneanbagdkeoiaaDoorTake
namespace Go.Proofs.YtneanbagdkeoiaaDoor
set_option linter.unusedSimpArgs false
set_option linter.unusedVariables false
open Go.ChangeShapes Go.WideShapes Go.ChangeAt Go.RowKit Go.Joins

theorem awake11_facts : ∃ (h0 h1 h2 h3 : Hp) (y0 y1 y2 y3 : Nat → Int), newH 2 = h0 ∧ (fun _ : Nat => (-1 : Int)) = y0 ∧ formB h0 = true ∧ rightY h0 2 y0 = true ∧
    takeH h0 2 y0 0 1 = h1 ∧ takeY h0 2 y0 0 1 = y1 ∧ takeA h0 2 y0 0 1 = 0 ∧ (takeP h0 2 y0 0 1).isSome = true ∧ formB h1 = true ∧ rightY h1 2 y1 = true ∧
    takeH h1 2 y1 1 0 = h2 ∧ takeY h1 2 y1 1 0 = y2 ∧ takeA h1 2 y1 1 0 = 32 ∧ (takeP h1 2 y1 1 0).isSome = true ∧ formB h2 = true ∧ rightY h2 2 y2 = true ∧
    takeH h2 2 y2 0 9 = h2 ∧ takeY h2 2 y2 0 9 = y2 ∧ takeA h2 2 y2 0 9 = 0 ∧ (takeP h2 2 y2 0 9).isSome = false ∧
    takeH h2 2 y2 0 1 = h3 ∧ takeY h2 2 y2 0 1 = y3 ∧ takeA h2 2 y2 0 1 = 2 ∧ (takeP h2 2 y2 0 1).isSome = true ∧ formB h3 = true ∧ rightY h3 2 y3 = true ∧
    keptY 2 y3 1 = true ∧ keptY 2 y0 0 = false ∧ keptY 2 y0 (-1) = false ∧ y3 0 = 0 ∧ y3 4 = 1 ∧ rightY h0 2 y3 = false := by
  refine ⟨_, _, _, _, _, _, _, _, rfl, rfl, ?_, ?_, rfl, rfl, ?_, ?_, ?_, ?_, rfl, rfl, ?_, ?_, ?_, ?_, ?_, ?_, ?_, ?_, rfl, rfl, ?_, ?_, ?_, ?_, ?_, ?_, ?_, ?_, ?_, ?_⟩
  case refine_11 => exact (takeP_no (by decide +kernel)).1
  case refine_12 => exact (takeP_no (by decide +kernel)).2.2
  all_goals decide +kernel
theorem rplayed2 (w : World) :
    Calls Tryd.prog 22 #[.int .i64 2, .int .i64 2, .slice none 0 0] w fun e w' => ∃ p' c' q' d' pc cc, e = .returned (.tuple #[.agg #[.slice p' 64 c', .slice q' 2 d', .bool false], .slice pc 2 cc]) ∧
      HpOwn w' w.heap.size p' c' q' d' (newH 2) ∧ Ints .i64 w' pc (2 * 4) (fun _ => -1) ∧ (pc = none → 2 = 0 ∧ cc = 0) ∧ Below w.heap.size w w' := rplayed11_any 2 2 w (by decide) (by decide) (by decide)
set_option maxHeartbeats 16000000 in
set_option maxRecDepth 20000 in
theorem awake11_any (w : World) (hS : Sz w) (hT : Tab w) :
    Calls Tryd.prog 9 #[] w fun e w' => e = .returned (.bool true) ∧ Below w.heap.size w w' := by
  obtain ⟨h0, h1, h2, h3, y0, y1, y2, y3, e0, z0, f0, r0, e1, z1, a1, s1, f1, r1, e2, z2, a2, s2, f2, r2, e4, z4, a4, s4, e3, z3, a3, s3, f3, r3, k1, k2, k3, k4, k5, k6⟩ := awake11_facts
  have hP := rplayed2 w
  rw [e0, z0] at hP
  go_enter Tryd.func9, Tryd.ntmps9
  go_upto_region 2 with (first
    | (go_at_call 22; refine Calls.mono (hP) ?_; rintro e w' ⟨p0, c0, q0, d0, pc0, cc0, rfl, ho0, hi0, hn0, hb⟩; obtain ⟨hc, hf, hb, hz⟩ := bstep hb (w := w) (by go_grown); try simp only [World.size_alloc, World.size_setCell, World.size_drew] at hc hf hz)
  )
  obtain ⟨w1, hw1⟩ : ∃ W, W = w'.alloc (.cells #[.slice p0 64 c0, .slice q0 2 d0, .bool false] 25) := ⟨_, rfl⟩
  have hB1 : Below w'.heap.size w' w1 := by rw [hw1]; exact (Below.refl _ _).alloc (Nat.le_refl _) _
  have g0 : Box3 w'.heap.size (.slice p0 64 c0) (.slice q0 2 d0) (.bool false) w1 := by rw [hw1]; exact Box3.new _ _ _ _ _
  have hh0 : HpIn w1 p0 64 c0 q0 2 d0 false h0 := (show HpIn w' p0 64 c0 q0 2 d0 false h0 by rw [← e0] at ho0 ⊢; exact ho0.at.in).below hB1
  have hI0 := hi0.below hB1
  replace hS := hS.below (bjoin hB1 hb)
  replace hT := hT.below (bjoin hB1 hb)
  have hbW := bjoin hB1 hb
  rw [← hw1]
  clear hw1 hB1 hb hc hf hz ho0 hi0 hP e0 z0
  generalize w'.heap.size = B1 at *
  have hC := ttake_in (f := 1) (mm := 0) hS hT hh0 f0 hI0 hn0 (by decide) (by decide) r0
  rw [e1, z1, a1, s1] at hC
  obtain ⟨l0, u0, u1, u2, -, -, -⟩ := id g0
  go_upto_region 3 with (first
    | (go_at_call 18; refine Calls.mono (hC) ?_; rintro e w' ⟨p1, c1, q1, d1, pc1, cc1, rfl, t1, hb⟩; obtain ⟨hc, hf, hb, hz⟩ := bstep hb (w := w1) (by go_grown); try simp only [World.size_alloc, World.size_setCell, World.size_drew] at hc hf hz)
  )
  obtain ⟨w2, hw2⟩ : ∃ W, W = w'.alloc (.cells #[.slice p1 64 c1, .slice q1 2 d1, .bool false] 25) := ⟨_, rfl⟩
  have hB1 : Below w'.heap.size w' w2 := by rw [hw2]; exact (Below.refl _ _).alloc (Nat.le_refl _) _
  have hB2 := bjoin hB1 hb
  have g1 : Box3 w'.heap.size (.slice p1 64 c1) (.slice q1 2 d1) (.bool false) w2 := by rw [hw2]; exact Box3.new _ _ _ _ _
  have hh1 := t1.heap.below hB1
  have hI1 := t1.caches.below hB1
  have hn1 := t1.cnil
  replace hh0 := hh0.below hB2
  replace hI0 := hI0.below hB2
  replace g0 := g0.below hB2
  replace hS := hS.below hB2
  replace hT := hT.below hB2
  replace hbW := bjoin hB2 hbW
  rw [← hw2]
  clear hw2 hB1 hB2 hb hc hf hz hC u0 u1 u2 l0 t1 e1 z1 a1 s1
  generalize w'.heap.size = B2 at *
  have hC := ttake_in (f := 0) (mm := 1) hS hT hh1 f1 hI1 hn1 (by decide) (by decide) r1
  rw [e2, z2, a2, s2] at hC
  obtain ⟨l1, u0, u1, u2, -, -, -⟩ := id g1
  go_upto_region 4 with (first
    | (go_at_call 18; refine Calls.mono (hC) ?_; rintro e w' ⟨p2, c2, q2, d2, pc2, cc2, rfl, t2, hb⟩; obtain ⟨hc, hf, hb, hz⟩ := bstep hb (w := w2) (by go_grown); try simp only [World.size_alloc, World.size_setCell, World.size_drew] at hc hf hz)
  )
  obtain ⟨w3, hw3⟩ : ∃ W, W = w'.alloc (.cells #[.slice p2 64 c2, .slice q2 2 d2, .bool false] 25) := ⟨_, rfl⟩
  have hB1 : Below w'.heap.size w' w3 := by rw [hw3]; exact (Below.refl _ _).alloc (Nat.le_refl _) _
  have hB2 := bjoin hB1 hb
  have g2 : Box3 w'.heap.size (.slice p2 64 c2) (.slice q2 2 d2) (.bool false) w3 := by rw [hw3]; exact Box3.new _ _ _ _ _
  have hh2 := t2.heap.below hB1
  have hI2 := t2.caches.below hB1
  have hn2 := t2.cnil
  replace hh0 := hh0.below hB2
  replace hI0 := hI0.below hB2
  replace g0 := g0.below hB2
  replace g1 := g1.below hB2
  replace hh1 := hh1.below hB2
  replace hI1 := hI1.below hB2
  replace hS := hS.below hB2
  replace hT := hT.below hB2
  replace hbW := bjoin hB2 hbW
  rw [← hw3]
  clear hw3 hB1 hB2 hb hc hf hz hC u0 u1 u2 l1 t2 e2 z2 a2 s2
  generalize w'.heap.size = B3 at *
  have hC := ttake_in (f := 9) (mm := 0) hS hT hh2 f2 hI2 hn2 (by decide) (by decide) r2
  rw [e4, z4, a4, s4] at hC
  obtain ⟨l2, u0, u1, u2, -, -, -⟩ := id g2
  go_upto_region 5 with (first
    | (go_at_call 18; refine Calls.mono (hC) ?_; rintro e w' ⟨p3, c3, q3, d3, pc3, cc3, rfl, t3, hb⟩; obtain ⟨hc, hf, hb, hz⟩ := bstep hb (w := w3) (by go_grown); try simp only [World.size_alloc, World.size_setCell, World.size_drew] at hc hf hz)
  )
  obtain ⟨w4, hw4⟩ : ∃ W, W = w'.alloc (.cells #[.slice p3 64 c3, .slice q3 2 d3, .bool false] 25) := ⟨_, rfl⟩
  have hB1 : Below w'.heap.size w' w4 := by rw [hw4]; exact (Below.refl _ _).alloc (Nat.le_refl _) _
  have hB2 := bjoin hB1 hb
  have g3 : Box3 w'.heap.size (.slice p3 64 c3) (.slice q3 2 d3) (.bool false) w4 := by rw [hw4]; exact Box3.new _ _ _ _ _
  have hh3 := t3.heap.below hB1
  have hI3 := t3.caches.below hB1
  have hn3 := t3.cnil
  replace hh0 := hh0.below hB2
  replace hI0 := hI0.below hB2
  replace g0 := g0.below hB2
  replace hh2 := hh2.below hB2
  replace hI2 := hI2.below hB2
  replace g2 := g2.below hB2
  replace hS := hS.below hB2
  replace hT := hT.below hB2
  replace hbW := bjoin hB2 hbW
  rw [← hw4]
  clear hw4 hB1 hB2 hb hc hf hz hC u0 u1 u2 l2 t3 e4 z4 a4 s4
  generalize w'.heap.size = B4 at *
  have hC := ttake_in (f := 1) (mm := 0) hS hT hh2 f2 hI2 hn2 (by decide) (by decide) r2
  rw [e3, z3, a3, s3] at hC
  obtain ⟨l2, u0, u1, u2, -, -, -⟩ := id g2
  go_upto_region 6 with (first
    | (go_at_call 18; refine Calls.mono (hC) ?_; rintro e w' ⟨p4, c4, q4, d4, pc4, cc4, rfl, t4, hb⟩; obtain ⟨hc, hf, hb, hz⟩ := bstep hb (w := w4) (by go_grown); try simp only [World.size_alloc, World.size_setCell, World.size_drew] at hc hf hz)
  )
  obtain ⟨w5, hw5⟩ : ∃ W, W = w'.alloc (.cells #[.slice p4 64 c4, .slice q4 2 d4, .bool false] 25) := ⟨_, rfl⟩
  have hB1 : Below w'.heap.size w' w5 := by rw [hw5]; exact (Below.refl _ _).alloc (Nat.le_refl _) _
  have hB2 := bjoin hB1 hb
  have g4 : Box3 w'.heap.size (.slice p4 64 c4) (.slice q4 2 d4) (.bool false) w5 := by rw [hw5]; exact Box3.new _ _ _ _ _
  have hh4 := t4.heap.below hB1
  have hI4 := t4.caches.below hB1
  have hn4 := t4.cnil
  replace hh0 := hh0.below hB2
  replace hI0 := hI0.below hB2
  replace g0 := g0.below hB2
  replace hS := hS.below hB2
  replace hT := hT.below hB2
  replace hbW := bjoin hB2 hbW
  rw [← hw5]
  clear hw5 hB1 hB2 hb hc hf hz hC u0 u1 u2 l2 t4 e3 z3 a3 s3
  generalize w'.heap.size = B5 at *
  obtain ⟨l0, x0, x1, x2, -, -, -⟩ := id g0
  obtain ⟨l4, v0, v1, v2, -, -, -⟩ := id g4
  have j4 := hI4 0 (by decide)
  have j5 := hI4 4 (by decide)
  rw [k4] at j4
  rw [k5] at j5
  obtain ⟨⟨bb, oo, rfl, lb, b0⟩, -⟩ := j4
  obtain ⟨⟨bb', oo', eb, -, b4⟩, -⟩ := j5
  injection eb with eb
  injection eb with eb1 eb2
  subst eb1 eb2
  rw [Nat.add_zero] at b0
  clear hh1 hI1 g1 hh3 hI3 hn3 hh2 hI2 g2 g3 hb
  go_wp2_with (first
    | (go_at_call 11; refine Calls.mono (tright_in (by first | exact hh4.below (by go_grown) | exact hh0.below (by go_grown)) (by first | exact f3 | exact f0) (hI4.below (by go_grown)) (by decide)) ?_; (first | rw [r3] | rw [k6]); rintro e w' ⟨rfl, hb⟩; obtain ⟨hc, hf, hb, hz⟩ := bstep hb (w := w5) (by go_grown))
    | (go_at_call 13; refine Calls.mono (tkept_in (by first | exact hI4.below (by go_grown) | exact hI0.below (by go_grown)) (by decide)) ?_; (first | rw [k1] | rw [k2] | rw [k3]); rintro e w' ⟨rfl, hb⟩; obtain ⟨hc, hf, hb, hz⟩ := bstep hb (w := w5) (by go_grown))
  )
  go_returns
  exact ⟨rfl, bjoin hb hbW⟩
end Go.Proofs.YtneanbagdkeoiaaDoor
