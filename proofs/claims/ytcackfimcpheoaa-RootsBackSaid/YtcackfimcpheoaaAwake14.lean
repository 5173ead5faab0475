/- The awake test of layer 14's laws. -/
import Derived.Test.YtcackfimcpheoaaRoots
namespace Go.Proofs.Ytcackfimcpheoaa
set_option linter.unusedSimpArgs false
set_option linter.unusedVariables false
open Go.ChangeShapes Go.WideShapes Go.ChangeAt Go.RowKit Go.Joins

/-- The stack of the test. -/
def awZ : Nat → Vl := fun i => if i = 0 then ⟨0, 0⟩ else if i = 1 then ⟨1, 5⟩ else ⟨2, 8⟩
theorem aw_at (w : World) (t : TypeId) : VAt (w.alloc (.cells #[.int .i64 0, .int .i64 0, .int .i64 1, .int .i64 5, .int .i64 2, .int .i64 8] t)) (some ⟨w.heap.size, 0, none⟩) 3 3 awZ := by
  have h := heap_alloc_new w (.cells #[.int .i64 0, .int .i64 0, .int .i64 1, .int .i64 5, .int .i64 2, .int .i64 8] t)
  refine ⟨fun i hi => ?_, by decide, fun e => (by cases e), Nat.le_refl _, by decide⟩
  refine ⟨⟨w.heap.size, 0, rfl, by simp, ?_, ?_⟩, ?_⟩
  · rw [cell_of_row _ _ _ _ _ _ h]
    match i, hi with
    | 0, _ => rfl
    | 1, _ => rfl
    | 2, _ => rfl
  · rw [cell_of_row _ _ _ _ _ _ h]
    match i, hi with
    | 0, _ => rfl
    | 1, _ => rfl
    | 2, _ => rfl
  · match i, hi with
    | 0, _ => exact ⟨by decide, by decide⟩
    | 1, _ => exact ⟨by decide, by decide⟩
    | 2, _ => exact ⟨by decide, by decide⟩
theorem one_li (w : World) (x : Int) (t : TypeId) (hx : (Lit.int .i64 x).wf = true := by decide) : Ints .i64 (w.alloc (.cells #[.int .i64 x] t)) (some ⟨w.heap.size, 0, none⟩) 1 (fun _ => x) := fun i hi => by
  obtain rfl : i = 0 := by omega
  exact ⟨⟨w.heap.size, 0, rfl, by simp, by rw [cell_of_row _ _ _ _ _ _ (heap_alloc_new w (.cells #[.int .i64 x] t))]; rfl⟩, hx⟩
set_option maxHeartbeats 8000000 in
set_option maxRecDepth 20000 in
theorem awake14_any (w : World) : Calls Try.prog 7 #[] w fun e w' => e = .returned (.bool true) ∧ Below w.heap.size w w' := by
  have hO := fun i W p c (h : VAt W p c 3 awZ) => vobj_any p 3 c awZ i W h
  have hO2 := hO 2
  have hO0 := hO 0
  have hO1 := hO 1
  simp only [show voX 3 awZ 2 = 8 from by decide, show voE 3 awZ 2 = 0 from by decide] at hO2
  simp only [show voX 3 awZ 0 = 0 from by decide, show voE 3 awZ 0 = 2 from by decide] at hO0
  simp only [show voX 3 awZ 1 = 0 from by decide, show voE 3 awZ 1 = 7 from by decide] at hO1
  have hS := fun W p c (h : VAt W p c 3 awZ) => vslot_any p 3 c awZ 3 W h
  simp only [show vsX 3 awZ 3 = ⟨0, 0⟩ from rfl, show vsE 3 3 = 3 from by decide, Vl.agg] at hS
  have hP := fun W p c (h : VAt W p c 3 awZ) => vpush_any 4 ⟨0, 0⟩ p 3 c awZ W h (by decide) ⟨by decide, by decide⟩
  simp only [show vpN 3 4 = 4 from by decide, show vpE 3 4 = 0 from by decide, Vl.agg] at hP
  generalize vpZ 3 4 awZ ⟨0, 0⟩ = zp at hP
  have hP2 := fun W p c (h : VAt W p c 4 zp) => vpush_any 4 ⟨0, 0⟩ p 4 c zp W h (by decide) ⟨by decide, by decide⟩
  simp only [show vpN 4 4 = 4 from by decide, show vpE 4 4 = 5 from by decide, Vl.agg] at hP2
  have hQ := fun W p c (h : VAt W p c 3 awZ) => vpop_any p 3 c awZ W h (by decide)
  simp only [show vqX 3 awZ = ⟨2, 8⟩ from rfl, show vqE 3 = 0 from by decide, show 3 - 1 = 2 from rfl, Vl.agg] at hQ
  have hR := fun W p c (h : VAt W p c 3 awZ) => vrefs_any p 3 c awZ W h (by decide)
  simp only [show vrL awZ 3 = [8] from by decide, List.length_singleton] at hR
  clear hO
  go_enter Try.func7, Try.ntmps7
  go_upto_region 2 with fail
  obtain ⟨wA, hwA⟩ : ∃ W, W = w.alloc (.cells #[.int .i64 0, .int .i64 0, .int .i64 1, .int .i64 5, .int .i64 2, .int .i64 8] 24) := ⟨_, rfl⟩
  have hA : VAt wA (some ⟨w.heap.size, 0, none⟩) 3 3 awZ := by rw [hwA]; exact aw_at _ _
  have hbA : Below w.heap.size w wA := by rw [hwA]; exact (Below.refl _ _).alloc (Nat.le_refl _) _
  rw [← hwA]
  clear hwA
  generalize w.heap.size = B at hA ⊢
  go_upto_region 3 with (first
    | (go_at_call 14; refine Calls.mono (hO2 _ _ _ hA) ?_; rintro e w1 ⟨rfl, hb1⟩)
  )
  replace hA := hA.below hb1
  replace hbA := bjoin hb1 hbA
  clear hb1
  go_upto_region 4 with (first
    | (go_at_call 14; refine Calls.mono (hO0 _ _ _ hA) ?_; rintro e w2 ⟨rfl, hb1⟩)
  )
  replace hA := hA.below hb1
  replace hbA := bjoin hb1 hbA
  clear hb1
  go_upto_region 5 with (first
    | (go_at_call 14; refine Calls.mono (hO1 _ _ _ hA) ?_; rintro e w3 ⟨rfl, hb1⟩)
  )
  replace hA := hA.below hb1
  replace hbA := bjoin hb1 hbA
  clear hb1
  go_upto_region 6 with (first
    | (go_at_call 12; refine Calls.mono (hS _ _ _ hA) ?_; rintro e w4 ⟨rfl, hb1⟩)
  )
  replace hb1 := bjoin ((Below.refl w4.heap.size w4).alloc (Nat.le_refl _) (.cells #[.int .i64 0, .int .i64 0] 24)) hb1
  generalize w4.alloc (.cells #[.int .i64 0, .int .i64 0] 24) = w5 at hb1 ⊢
  replace hA := hA.below hb1
  replace hbA := bjoin hb1 hbA
  clear hb1
  go_upto_region 7 with (first
    | (go_at_call 8; refine Calls.mono (hP _ _ _ hA) ?_; rintro e w6 ⟨p1, c1, rfl, hM, -, hb1⟩)
  )
  replace hA := hA.below hb1
  replace hbA := bjoin hb1 hbA
  clear hb1
  go_upto_region 8 with (first
    | (go_at_call 8; refine Calls.mono (hP2 _ _ _ hM) ?_; rintro e w7 ⟨p2, c2, rfl, -, -, hb1⟩)
  )
  replace hA := hA.below hb1
  replace hbA := bjoin hb1 hbA
  clear hb1 hM
  go_upto_region 9 with (first
    | (go_at_call 10; refine Calls.mono (hQ _ _ _ hA) ?_; rintro e w8 ⟨p3, c3, rfl, -, -, hb1⟩)
  )
  obtain ⟨w9, hw9⟩ : ∃ W, W = w8.alloc (.cells #[.int .i64 2, .int .i64 8] 24) := ⟨_, rfl⟩
  have gV : TBox 24 w8.heap.size #[.int .i64 2, .int .i64 8] w9 := by rw [hw9]; exact TBox.new _ _ _
  replace hb1 := bjoin ((Below.refl w8.heap.size w8).alloc (Nat.le_refl _) (.cells #[.int .i64 2, .int .i64 8] 24)) hb1
  rw [← hw9] at hb1 ⊢
  clear hw9
  replace hA := hA.below hb1
  replace hbA := bjoin hb1 hbA
  have v1 : w9.cell? ⟨w8.heap.size, 1, none⟩ = some (.int .i64 8) := gV.cell 1
  clear hb1 hO2 hO0 hO1 hS hP hP2 hQ gV
  generalize w8.heap.size = BV at *
  go_upto_region 10 with (first
    | (go_at_call 18; refine Calls.mono (hR _ _ _ hA) ?_; rintro e w10 ⟨p4, c4, rfl, hI, hb10⟩)
    | (go_at_call 17; refine Calls.mono (rintsG_any _ _ 1 _ 1 _ _ _ _ (hI.below ((Below.refl _ _).alloc (Nat.le_refl _) _)) (one_li _ _ _) (by decide) (by decide)) ?_; rintro e w11 ⟨rfl, hb11⟩)
  )
  go_returns
  have e0 : sameI 1 (liI [8]) 1 (fun _ => 8) = true := sameI_of fun i hi => by
    obtain rfl : i = 0 := by omega
    rfl
  exact ⟨ret_bool (by simp [e0]), bjoin hb11 (bjoin ((Below.refl _ _).alloc (Nat.le_refl _) _) (bjoin hb10 hbA))⟩
theorem wf_of_i64 {a : Int} (h : -9223372036854775808 ≤ a ∧ a ≤ 9223372036854775807) : (Lit.int .i64 a).wf = true := by
  simp [Lit.wf, IntKind.min, IntKind.max, IntKind.signed, IntKind.bits]
  omega
theorem vl_wf {a b : Int} (ha : -9223372036854775808 ≤ a ∧ a ≤ 9223372036854775807) (hb : -9223372036854775808 ≤ b ∧ b ≤ 9223372036854775807) : Vl.wf ⟨a, b⟩ := ⟨wf_of_i64 ha, wf_of_i64 hb⟩
theorem sameV_of {n : Nat} {z y : Nat → Vl} (h : ∀ i, i < n → z i = y i) : sameV n z n y = true := by
  simp only [sameV, decide_eq_true_eq]
  exact ⟨trivial, fun i hi => by rw [h i hi]; exact ⟨rfl, rfl⟩⟩
end Go.Proofs.Ytcackfimcpheoaa
