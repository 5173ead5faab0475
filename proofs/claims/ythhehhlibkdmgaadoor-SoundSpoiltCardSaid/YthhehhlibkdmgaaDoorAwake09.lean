/- The awake test of layer 9's laws. -/
import Derived.Test.YthhehhlibkdmgaaDoorSound
namespace Go.Proofs.YthhehhlibkdmgaaDoor
set_option linter.unusedSimpArgs false
set_option linter.unusedVariables false
open Go.ChangeShapes Go.WideShapes Go.ChangeAt Go.RowKit Go.Joins

set_option maxHeartbeats 4000000 in
theorem rmade_own (K : Int) (w : World) (k1 : 1 ≤ K) (k2 : K ≤ 16) :
    Calls Tryd.prog 17 #[.int .i64 K, .slice none 0 0] w fun e w' => ∃ p' c' q' d', e = .returned (.agg #[.slice p' (32 * K.toNat) c', .slice q' K.toNat d', .bool false]) ∧
      HpOwn w' w.heap.size p' c' q' d' (newH K.toNat) ∧ Below w.heap.size w w' := by
  obtain ⟨w0, hw0⟩ : ∃ w0, w0 = w.alloc (.cells #[.slice none 0 0, .slice none 0 0, .bool false] 25) := ⟨_, rfl⟩
  have gR : Box3 w.heap.size (.slice none 0 0) (.slice none 0 0) (.bool false) w0 := by rw [hw0]; exact Box3.new _ _ _ _ _
  have hb0 : Below w.heap.size w w0 := by rw [hw0]; exact (Below.refl _ _).alloc (Nat.le_refl _) _
  have hl0 : w0.heap.size = w.heap.size + 1 := by rw [hw0]; simp
  go_enter Tryd.func17, Tryd.ntmps17
  go_upto_region 1 with fail
  rw [← hw0]
  refine wp_made_row k1 k2 (by kernel_rfl) (by simp) rfl ?_
  intro x0 x1 x2 x3 x4 x5 g p1 c1 q1 d1 w1 hown g5 hg n1 n2 hb1
  simp only [puts, mdSlots, Act.put]
  replace gR := gR.below hb1
  have hbW : Below w.heap.size w w1 := bjoin hb1 hb0
  obtain ⟨l6, x0', x1', x2', -, -, -⟩ := id g5
  obtain ⟨lR, y0, y1, y2, f0, f1, f2⟩ := id gR
  clear hw0 hb1 hb0
  generalize hKM : K.toNat = M at *
  go_wp2
  go_loopg [6] 0 (fun gg iv wr => iv = .int .i64 0 ∧ wr = w1)
  case atStart => exact ⟨rfl, rfl⟩
  case round =>
    obtain ⟨rfl, rfl⟩ := hrel
    go_wp2
    refine bodyPost_ret (by simp [results, Tryd.results17, go_sem, *]; try rfl) rfl ?_
    subst hKM
    have hz := (((hown.under (g := w.heap.size) (by omega) 0 (.slice p1 (32 * K.toNat) c1)).under (g := w.heap.size) (by omega) 1 (.slice q1 K.toNat d1)).under (g := w.heap.size) (by omega) 2 (.bool false)).lower (show w.heap.size ≤ w0.heap.size by omega)
    exact ⟨p1, c1, q1, d1, rfl, hz, ((hbW.setCell (Nat.le_refl _) _).setCell (Nat.le_refl _) _).setCell (Nat.le_refl _) _⟩
theorem rmade1 (w : World) :
    Calls Tryd.prog 17 #[.int .i64 1, .slice none 0 0] w fun e w' => ∃ p' c' q' d', e = .returned (.agg #[.slice p' 32 c', .slice q' 1 d', .bool false]) ∧ HpOwn w' w.heap.size p' c' q' d' (newH 1) ∧ Below w.heap.size w w' := rmade_own 1 w (by decide) (by decide)
theorem ck9_facts : formB (newH 1) = true ∧ ckH (newH 1) = 0 ∧ ckH (putH (newH 1) 5 1) = 2 ∧ ckH ⟨0, fun _ => 0, 0, fun _ => ⟨0, 0, 0⟩, false⟩ = 1 := by decide +kernel
set_option maxHeartbeats 8000000 in
set_option maxRecDepth 20000 in
theorem awake9_any (w : World) (hS : Sz w) :
    Calls Tryd.prog 7 #[] w fun e w' => e = .returned (.bool true) ∧ Below w.heap.size w w' := by
  obtain ⟨k3, k0, k1, k2⟩ := ck9_facts
  have hS0 := hS
  go_enter Tryd.func7, Tryd.ntmps7
  go_upto_region 2 with (first
    | (go_at_call 17; refine Calls.mono (rmade1 _) ?_; rintro e w' ⟨p0, c0, q0, d0, rfl, ho0, hb⟩; obtain ⟨hc, hf, hb, hz⟩ := bstep hb (w := w) (by go_grown); try simp only [World.size_alloc, World.size_setCell, World.size_drew] at hc hf hz)
  )
  obtain ⟨w1, hw1⟩ : ∃ W, W = w'.alloc (.cells #[.slice p0 32 c0, .slice q0 1 d0, .bool false] 25) := ⟨_, rfl⟩
  have hB1 : Below w'.heap.size w' w1 := by rw [hw1]; exact (Below.refl _ _).alloc (Nat.le_refl _) _
  have g1 : Box3 w'.heap.size (.slice p0 32 c0) (.slice q0 1 d0) (.bool false) w1 := by rw [hw1]; exact Box3.new _ _ _ _ _
  have hh0 : HpIn w1 p0 32 c0 q0 1 d0 false (newH 1) := ho0.at.in.below hB1
  have hbW := bjoin hB1 hb
  have hl1 : w'.heap.size < w1.heap.size := g1.1
  have hl0 : w.heap.size ≤ w1.heap.size := hbW.size
  rw [← hw1]
  clear hw1 hB1 hb hc hf hz ho0
  generalize w'.heap.size = B1 at *
  have hlow := hh0.lower k3
  go_upto_region 3 with (first
    | (go_at_call 17; refine Calls.mono (rmade1 _) ?_; rintro e w' ⟨p1, c1, q1, d1, rfl, ho1, hb⟩; (first | replace hh0 := hh0.below hb | replace hh0 := (hh0.below (by go_grown)).below hb | skip); (first | replace g1 := g1.below hb | replace g1 := (g1.below (by go_grown)).below hb | skip); obtain ⟨hc, hf, hb, hz⟩ := bstep hb (w := w1) (by go_grown); try simp only [World.size_alloc, World.size_setCell, World.size_drew] at hc hf hz)
  )
  obtain ⟨w2, hw2⟩ : ∃ W, W = w'.alloc (.cells #[.slice p1 32 c1, .slice q1 1 d1, .bool false] 25) := ⟨_, rfl⟩
  have hB2 : Below w'.heap.size w' w2 := by rw [hw2]; exact (Below.refl _ _).alloc (Nat.le_refl _) _
  have g2 : Box3 w'.heap.size (.slice p1 32 c1) (.slice q1 1 d1) (.bool false) w2 := by rw [hw2]; exact Box3.new _ _ _ _ _
  obtain ⟨gw, rfl, hgw, hgw'⟩ := ho1.word (by decide)
  have hC := hlow.clear (g := gw) hgw
  replace ho1 := ho1.below hB2
  replace hh0 := hh0.below hB2
  replace g1 := g1.below hB2
  replace hbW := bjoin hB2 (bjoin hb hbW)
  rw [← hw2]
  clear hw2 hB2 hb hc hf hz hlow
  generalize w'.heap.size = B2 at *
  obtain ⟨⟨u, u0⟩, u1, ho⟩ := ho1.store (i := 5) (v := 1) (by decide) (by decide) (by decide)
  obtain ⟨l2, x0, x1, x2, -, -, -⟩ := id g2
  rw [show (5 : Int).toNat = 5 from rfl] at u0 u1 ho
  go_upto_region 4 with fail
  obtain ⟨w3, hw3⟩ : ∃ W, W = w2.setCell ⟨gw, 5, none⟩ (.int .u64 1) := ⟨_, rfl⟩
  have hhA : HpIn w3 p0 32 c0 q0 1 d0 false (newH 1) := by rw [hw3]; exact hh0.setCell hC _ _
  have gA : Box3 B1 (.slice p0 32 c0) (.slice q0 1 d0) (.bool false) w3 := by rw [hw3]; exact g1.other (by omega) _ _
  have gB : Box3 B2 (.slice (some ⟨gw, 0, none⟩) 32 c1) (.slice q1 1 d1) (.bool false) w3 := by rw [hw3]; exact g2.other (by omega) _ _
  have hhB : HpIn w3 (some ⟨gw, 0, none⟩) 32 c1 q1 1 d1 false (putH (newH 1) 5 1) := by rw [hw3]; exact ho.at.in
  have hb3 : Below w.heap.size w w3 := by rw [hw3]; exact hbW.setCell (by show w.heap.size ≤ gw; omega) _
  have hS3 := hS0.below hb3
  rw [← hw3]
  clear hw3 ho ho1 u0 u1 x0 x1 x2 l2 g1 g2 hh0 hbW hC
  obtain ⟨lA, x0, x1, x2, -, -, -⟩ := gA
  obtain ⟨lB, y0, y1, y2, -, -, -⟩ := gB
  go_wp2_with (first
    | (go_at_call 8; refine Calls.mono (scheck_in (hS3.below (by go_grown)) (by first | exact HpIn.below hhA (by go_grown) | exact HpIn.below hhB (by go_grown) | exact nil_in _)) ?_; rintro e w' ⟨rfl, hb⟩; obtain ⟨hc, hf, hb, hz⟩ := bstep hb (w := w3) (by go_grown); try simp only [World.size_alloc, World.size_setCell, World.size_drew] at hc hf hz)
    | (go_at_call 10; refine Calls.mono (sok_in (hS3.below (by go_grown)) (by first | exact HpIn.below hhA (by go_grown) | exact HpIn.below hhB (by go_grown))) ?_; rintro e w' ⟨rfl, hb⟩; obtain ⟨hc, hf, hb, hz⟩ := bstep hb (w := w3) (by go_grown); try simp only [World.size_alloc, World.size_setCell, World.size_drew] at hc hf hz)
  )
  go_returns
  exact ⟨ret_bool (by simp [k0, k1, k2]), bjoin hb hb3⟩
end Go.Proofs.YthhehhlibkdmgaaDoor
