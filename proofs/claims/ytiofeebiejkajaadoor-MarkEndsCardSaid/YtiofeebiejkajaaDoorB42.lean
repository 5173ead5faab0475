/- Contracts of the code's marking (chapter 17): the step 4, a root shaded. -/
import Derived.Test.YtiofeebiejkajaaDoorB41
namespace Go.Proofs.YtiofeebiejkajaaDoor
set_option linter.unusedSimpArgs false
set_option linter.unusedVariables false
open Go.ChangeShapes Go.WideShapes Go.ChangeAt Go.RowKit Go.Joins

/-- A row of values without its first. -/
theorem VAt.rest {W : World} {b off : Nat} {c n : Nat} {z : Nat → Vl} (h : VAt W (some ⟨b, off, none⟩) c n z) (h0 : 0 < n) : VAt W (some ⟨b, off + 2, none⟩) (c - 1) (n - 1) (fun i => z (i + 1)) :=
  ⟨fun i hi => by
    obtain ⟨⟨b1, o1, e, hl, h1, h2⟩, hw⟩ := h.row (i + 1) (by omega)
    injection e with e
    injection e with e1 e2
    subst e1 e2
    exact ⟨⟨b, off + 2, rfl, hl, by rw [show off + 2 + i * 2 = off + (i + 1) * 2 by omega]; exact h1, by rw [show off + 2 + i * 2 = off + (i + 1) * 2 by omega]; exact h2⟩, hw⟩, by have := h.nle; omega, (fun e => by cases e), (by have := h.ncap; omega)⟩
set_option maxHeartbeats 4000000 in
set_option maxRecDepth 20000 in
/-- The step 4, with no roots. -/
theorem mroot_no (N B n k : Nat) (b : Bool) (h : Hp) (m : Mk) (w : World) (hst : StV N B n k b h m w) (h0 : m.nr = 0) :
    Calls Tryd.prog 33 #[.pointer (some ⟨B, 0, none⟩)] w fun e w' => e = .returned (.bool false) ∧ Below w.heap.size w w' := by
  obtain ⟨p, c, q, d, pg, cg, pb, cb, pr, cr, g0, hh, hM⟩ := hst
  obtain ⟨hlB, -, -, -, x3, -, -, -, -, -, -, -⟩ := st_cells g0
  rw [h0] at x3
  clear g0 hh hM h0
  go_enter Tryd.func33, Tryd.ntmps33
  go_wp2
  go_returns
  exact ⟨rfl, Below.refl _ _⟩
set_option maxHeartbeats 8000000 in
set_option maxRecDepth 20000 in
/-- .. with one. -/
theorem mroot_yes (N B n k : Nat) (b : Bool) (h : Hp) (m : Mk) (w : World) (hS : Sz w) (hSB : ¬ 0 = B) (hN : N ≤ B) (hst : StV N B n k b h m w) (hF : formB h = true) (h0 : 0 < m.nr) (hnr : m.nr ≤ 1000000) (hr : m.g.r ≤ 1000000) (h1 : m.g.n ≤ 1000000) :
    Calls Tryd.prog 33 #[.pointer (some ⟨B, 0, none⟩)] w fun e w' => e = .returned (.bool true) ∧ StV N B n k b (shM h m.g (m.ro 0)).h
      { m with g := (shM h m.g (m.ro 0)).gy m.g.r, ov := m.ov || (shM h m.g (m.ro 0)).o, nr := m.nr - 1, ro := fun i => m.ro (i + 1) } w' ∧ Aside (fun k => k = B) w w' := by
  obtain ⟨hn32, hk0⟩ := hst.room hF
  obtain ⟨p, c, q, d, pg, cg, pb, cb, pr, cr, g0, hh, hM⟩ := id hst
  obtain ⟨hlB, -, -, -, x3, -, -, -, -, -, -, -⟩ := st_cells g0
  obtain ⟨⟨bb, off, rfl, hlr, v0, v1⟩, hv⟩ := hM.r.row 0 h0
  simp only [Nat.zero_mul, Nat.add_zero] at v0 v1
  have hrest := hM.r.rest h0
  have hcr := hM.r.ncap
  simp only [maxLen] at hcr
  generalize hV : m.ro 0 = V at *
  obtain ⟨VK, VN⟩ := V
  dsimp only at v0 v1
  have hI := fun (W : World) (m' : Mk) (cg : Nat) (pg : Option Addr) (hW : Sz W) (h2 : StV N B n k b h m' W) (h3 : GrAt W pg cg m.g.n m.g.z) (h4 : RowE N 3 m.g.n pg W) => msinto_any N B n k b h m' m.g.r pg m.g.n cg m.g.z ⟨VK, VN⟩ W hW hN h2 hF h3 h4 hr h1 hv
  unfold shM
  generalize sdS m.g.r ⟨h, m.g.n, m.g.z, false⟩ ⟨VK, VN⟩ = T at *
  unfold Vl.agg at hI
  dsimp only at hI
  have hnr0 : ((m.nr : Int) == 0) = false := by simp; omega
  have hnr1 : (1 : Int) ≤ m.nr := by omega
  have hnr2 : (m.nr : Int) ≤ cr := by omega
  have hCl : ∀ W (hW : Below w.heap.size w W), ∀ oo cc K, (cr = 1 ∧ oo = off ∧ cc = 0 ∧ K = 0) ∨ (¬ cr = 1 ∧ oo = off + 2 ∧ cc = cr - 1 ∧ K = m.nr - 1) → Calls Tryd.prog 41 #[.slice (some ⟨bb, oo, none⟩) K cc] W fun e w' => ∃ p' c', e = .returned (.slice p' K c') ∧ VAt w' p' c' K (fun i => m.ro (i + 1)) ∧ (∀ b off sp, p' = some ⟨b, off, sp⟩ → W.heap.size ≤ b ∧ ∃ cs, w'.heap[b]? = some (.cells cs 38 (0, 0))) ∧ Below W.heap.size W w' := fun W hW oo cc K hc => by
    rcases hc with ⟨e1, rfl, rfl, rfl⟩ | ⟨e1, rfl, rfl, rfl⟩
    · refine clone_vals (some ⟨bb, oo, none⟩) 0 0 (fun i => m.ro (i + 1)) W ⟨fun i hi => by omega, by decide, (fun e => by cases e), Nat.le_refl _, by decide⟩ (by omega)
    · exact clone_vals (some ⟨bb, off + 2, none⟩) (m.nr - 1) (cr - 1) (fun i => m.ro (i + 1)) W (hrest.below hW) (by omega)
  clear hM hh g0 hrest
  go_enter Tryd.func33, Tryd.ntmps33
  go_upto_region 4 with fail
  obtain ⟨w1, hw1⟩ : ∃ W, W = w.alloc (.cells #[.int .i64 VK, .int .i64 VN] 38) := ⟨_, rfl⟩
  have hb1 : Below w.heap.size w w1 := by rw [hw1]; exact (Below.refl _ _).alloc (Nat.le_refl _) _
  have gX : TBox 38 w.heap.size #[.int .i64 VK, .int .i64 VN] w1 := by rw [hw1]; exact TBox.new _ _ _
  rw [← hw1]
  replace hCl := hCl w1 hb1
  replace x3 := (hb1.cell (p := ⟨B, 3, none⟩) hlB).trans x3
  have hlB1 := Nat.lt_of_lt_of_le hlB hb1.size
  have hlBw := hlB
  clear hw1 v0 v1 hlr hlB
  have fin : ∀ (w2 : World) (p9 : Option Addr) (c9 K : Nat), K = m.nr - 1 → VAt w2 p9 c9 K (fun i => m.ro (i + 1)) → (∀ b off sp, p9 = some ⟨b, off, sp⟩ → w1.heap.size ≤ b ∧ ∃ cs, w2.heap[b]? = some (.cells cs 38 (0, 0))) → Below w1.heap.size w1 w2 →
      StV N B n k b h { m with nr := m.nr - 1, ro := fun i => m.ro (i + 1) } (w2.setCell ⟨B, 3, none⟩ (.slice p9 K c9)) ∧ Aside (fun k => k = B) w (w2.setCell ⟨B, 3, none⟩ (.slice p9 K c9)) ∧ TBox 38 w.heap.size #[.int .i64 VK, .int .i64 VN] (w2.setCell ⟨B, 3, none⟩ (.slice p9 K c9)) := fun w2 p9 c9 K eK hV9 ht9 hb9 => by
    subst eK
    have hR9 : RowE N 38 (m.nr - 1) p9 w2 := fun _ b1 off sp e => by
      obtain ⟨-, cs, h1⟩ := ht9 b1 off sp e
      exact ⟨(Array.getElem?_eq_some_iff.1 h1).1, .inr ⟨cs, h1⟩⟩
    exact ⟨(hst.below (bjoin hb9 hb1)).setR hN hn32 hk0 hV9 hR9, aside_set (Aside.of (T := fun k => k = B) (bjoin hb9 hb1)) 3 _, (gX.below hb9).of_block (Below.heap_setCell _ _ _ _ (by show ¬ w.heap.size = B; omega))⟩
  have hcell : ∀ w2, Below w1.heap.size w1 w2 → B < w2.heap.size ∧ (∃ x, w2.cell? ⟨B, 3, none⟩ = some x) ∧ w2.frozen? ⟨B, 3, none⟩ = false := fun w2 hb9 => by
    obtain ⟨_, _, _, _, _, _, _, _, _, _, g02, _, _⟩ := hst.below (bjoin hb9 hb1)
    exact ⟨g02.lt, ⟨_, g02.cell 3⟩, g02.frozen 3⟩
  go_cut [] from 18 to 28 (fun wx => StV N B n k b h { m with nr := m.nr - 1, ro := fun i => m.ro (i + 1) } wx ∧ Aside (fun k => k = B) w wx ∧ TBox 38 w.heap.size #[.int .i64 VK, .int .i64 VN] wx)
  case first =>
    by_cases hc1 : cr = 1
    case' pos =>
      have hK : 0 = m.nr - 1 := by omega
      have hK' : Hid (0 = m.nr - 1) := hK
      clear hK
      subst hc1
      replace hCl := hCl off 0 0 (.inl ⟨rfl, rfl, rfl, rfl⟩)
    case' neg =>
      have hK' : Hid (m.nr - 1 = m.nr - 1) := rfl
      replace hCl := hCl (off + 2) (cr - 1) (m.nr - 1) (.inr ⟨hc1, rfl, rfl, rfl⟩)
    all_goals
      go_wp2_with (first
        | (go_at_call 41; refine Calls.mono hCl ?_; rintro e w2 ⟨p9, c9, rfl, hV9, ht9, hb9⟩; obtain ⟨hlB2, ⟨_, y3⟩, f3⟩ := hcell w2 hb9)
      )
      go_meet
      exact fin _ _ _ _ (by first | exact hK'.out | rfl) hV9 ht9 hb9
  obtain ⟨s3, hA3, gX3⟩ := hcut
  clear hst x3 hCl hlB1 gX fin hcell
  generalize wc = w3 at *
  have hS3 := hS.aside hA3 hSB
  obtain ⟨p, c, q, d, pg, cg, pb, cb, pr, cr2, g0, hh, hM⟩ := id s3
  obtain ⟨hlB, x0, x1, -, -, -, -, -, -, -, -, -⟩ := st_cells g0
  dsimp only at x0 x1
  have u0 := gX3.cell 0
  have u1 := gX3.cell 1
  simp only [List.getElem?_toArray, List.getElem?_cons_zero, List.getElem?_cons_succ] at u0 u1
  have lg := gX3.lt
  have hdr : ∀ W : World, Below W.heap.size W W.drew := fun W => (Below.refl _ _).drew
  replace hI := hI w3.drew { m with nr := m.nr - 1, ro := fun i => m.ro (i + 1) } cg pg (hS3.below (hdr _)) (s3.below (hdr _)) (hM.g.below (hdr _)) (hM.ge.below (hdr _))
  dsimp only at hI
  clear g0 hh hM gX3
  go_upto_region 5 with fail
  go_cut [] from 29 to 40 (fun wx => StV N B n k b T.h { m with g := ⟨m.g.r, T.n, T.z⟩, ov := m.ov || T.o, nr := m.nr - 1, ro := fun i => m.ro (i + 1) } wx ∧ Aside (fun k => k = B) w wx)
  case first =>
    go_region_with (first
      | (go_at_call 43; refine Calls.mono hI ?_; rintro e w2 ⟨pr', cr', rfl, hZ2, hR2, hs2, hA2⟩; obtain ⟨_, _, _, _, _, _, _, _, _, _, g02, _, _⟩ := id hs2; obtain ⟨hlB2, y0, y1, -, -, -, -, -, -, -, -, -⟩ := st_cells g02; obtain ⟨f0, f1, -⟩ := st_frozen g02)
    )
    all_goals
      have s4 := hs2.setG hN hn32 hk0 hZ2 hR2
      have hA4 := aside_set (aside_set ((hA3.trans (Aside.of (hdr _))).trans hA2) 0 (.int .i64 m.g.r)) 1 (.slice pr' T.n cr')
      go_wp2_with fail
      go_meet
      exact ⟨s4, hA4⟩
  obtain ⟨s5, hA5⟩ := hcut
  go_wp2
  go_returns
  exact ⟨rfl, s5, hA5⟩
end Go.Proofs.YtiofeebiejkajaaDoor
