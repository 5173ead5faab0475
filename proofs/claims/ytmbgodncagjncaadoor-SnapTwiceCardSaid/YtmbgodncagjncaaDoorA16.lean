/- Heaps copied (chapter 7): the reference's Made of no deeds; 'own := ..' of the laws; heaps aside; slices.Clone. -/
import Derived.Test.YtmbgodncagjncaaDoorA15
import Derived.Test.YtmbgodncagjncaaDoorA02
import Derived.BigRegion
import Derived.Deep.RegionLawGrows
import Derived.ArgAppend
import Derived.Lib.SliceRun
/-! Contract of the reference's Made, of no deeds (chapter 7). -/
namespace Go.Proofs.YtmbgodncagjncaaDoor
set_option linter.unusedSimpArgs false
set_option linter.unusedVariables false
open Go.ChangeShapes Go.WideShapes Go.ChangeAt Go.RowKit Go.Joins

theorem made_one (v : Value) (n : Nat) : (madeCells #[v] n).toList = List.replicate n v := by
  apply List.ext_getElem?
  intro j
  by_cases h : j < n <;> simp [madeCells, h, Nat.mod_one]
theorem made_spans : ∀ n : Nat, (madeCells #[.int .i64 0, .int .i64 0, .int .u32 0] (n * 3)).toList = spVals n (fun _ => ⟨0, 0, 0⟩) := by
  intro n
  apply List.ext_getElem?
  intro j
  by_cases h : j < n * 3
  · obtain ⟨a0, a1, a2⟩ := spVals_get (fun _ => (⟨0, 0, 0⟩ : Sp)) (n := n) (i := j / 3) (by omega)
    have hj : j % 3 = 0 ∨ j % 3 = 1 ∨ j % 3 = 2 := by omega
    have e : (madeCells #[.int .i64 0, .int .i64 0, .int .u32 0] (n * 3)).toList[j]? = some ((#[.int .i64 0, .int .i64 0, .int .u32 0] : Array Value)[j % 3]!) := by simp [madeCells, h]
    rcases hj with hj | hj | hj
    · rw [show j / 3 * 3 = j by omega] at a0; rw [e, hj, a0]; rfl
    · rw [show j / 3 * 3 + 1 = j by omega] at a1; rw [e, hj, a1]; rfl
    · rw [show j / 3 * 3 + 2 = j by omega] at a2; rw [e, hj, a2]; rfl
  · rw [List.getElem?_eq_none (by simp [madeCells]; omega), List.getElem?_eq_none (by rw [spVals_length]; omega)]
/-- Two new rows make a new heap. -/
theorem new_own {w : World} {R1 R2 : Array Value} {n : Nat} (hn : n ≤ 16) {b1 b2 base : Nat} (hb1 : base ≤ b1) (hb2 : base ≤ b2) (hne : b1 ≠ b2)
    (e1 : R1 = madeCells #[.int .u64 0] (32 * n)) (e2 : R2 = madeCells #[.int .i64 0, .int .i64 0, .int .u32 0] (n * 3))
    (h1 : w.heap[b1]? = some (.cells R1 56 (0, 0))) (h2 : w.heap[b2]? = some (.cells R2 68 (0, 0))) :
    HpOwn w base (some ⟨b1, 0, none⟩) (32 * n) (some ⟨b2, 0, none⟩) n (newH n) where
  words := by
    refine ⟨by rw [vals_length]; show 32 * n = 32 * n * 1; omega, .inr ⟨b1, 32 * n, R1, rfl, hb1, h1, Nat.le_refl _, by show 32 * n ≤ maxLen; simp only [maxLen]; omega, by rw [e1, size_madeCells]; omega, ?_⟩⟩
    rw [e1, made_one, vals_const, List.take_of_length_le (by rw [vals_length]; show 32 * n ≤ 32 * n * 1; omega)]
    try rfl
  spans := by
    refine ⟨by rw [spVals_length], .inr ⟨b2, n, R2, rfl, hb2, h2, Nat.le_refl _, by simp only [maxLen]; omega, by rw [e2, size_madeCells], ?_⟩⟩
    rw [e2, made_spans, List.take_of_length_le (by rw [spVals_length]; try exact Nat.le_refl _)]
    try rfl
  ne := fun b b' e e' => by
    simp [Value.ownBlock] at e e'
    rw [← e, ← e']; exact hne
  wf := wf_new n
  nle := by show 32 * n ≤ maxLen; simp only [maxLen]; omega
  mle := by show n ≤ maxLen; simp only [maxLen]; omega
theorem alloc4 (w : World) (o0 o1 o2 o3 : Obj) : ((((w.alloc o0).alloc o1).alloc o2).alloc o3).heap[w.heap.size]? = some o0 ∧ ((((w.alloc o0).alloc o1).alloc o2).alloc o3).heap[w.heap.size + 1]? = some o1 ∧
    ((((w.alloc o0).alloc o1).alloc o2).alloc o3).heap[w.heap.size + 1 + 1]? = some o2 ∧ ((((w.alloc o0).alloc o1).alloc o2).alloc o3).heap[w.heap.size + 1 + 1 + 1]? = some o3 := by
  have n3 := heap_alloc_new (((w.alloc o0).alloc o1).alloc o2) o3
  have n2 := heap_alloc_new ((w.alloc o0).alloc o1) o2
  have n1 := heap_alloc_new (w.alloc o0) o1
  have n0 := heap_alloc_new w o0
  simp only [World.size_alloc] at n1 n2 n3
  refine ⟨?_, ?_, ?_, n3⟩
  · rw [Below.heap_alloc _ _ _ (by simp; try omega), Below.heap_alloc _ _ _ (by simp; try omega), Below.heap_alloc _ _ _ (by simp)]; exact n0
  · rw [Below.heap_alloc _ _ _ (by simp; try omega), Below.heap_alloc _ _ _ (by simp)]; exact n1
  · rw [Below.heap_alloc _ _ _ (by simp)]; exact n2
theorem box_of_heap {w : World} {b : Nat} {x y z : Value} {t : TypeId} (h : w.heap[b]? = some (.cells #[x, y, z] t (0, 0))) : Box3 b x y z w := by
  refine ⟨?_, ?_, ?_, ?_, frozen_of_row w b 0 _ t h, frozen_of_row w b 1 _ t h, frozen_of_row w b 2 _ t h⟩
  · rcases Nat.lt_or_ge b w.heap.size with h' | h'
    · exact h'
    · rw [Array.getElem?_eq_none h'] at h; cases h
  · rw [cell_of_row w b 0 _ t (0, 0) h]; rfl
  · rw [cell_of_row w b 1 _ t (0, 0) h]; rfl
  · rw [cell_of_row w b 2 _ t (0, 0) h]; rfl
theorem make_words (K : Int) (h1 : 1 ≤ K) (h2 : K ≤ 16) (w : World) :
    (Instr.makeSlice 22 (.int .i64 (32 * K)) (.int .i64 (32 * K))).run Tryd.prog w = .ok (.slice (some ⟨w.heap.size, 0, none⟩) (32 * K.toNat) (32 * K.toNat)) (w.alloc (.cells (madeCells #[.int .u64 0] (32 * K.toNat)) 56)) := by
  obtain ⟨i0, hi, hz0, hz1, hz2⟩ := info_parts infoW
  have := run_make (P := Tryd.prog) w 22 56 i0 (.int .u64 0) Tryd.underlying22 hi hz0 .i64 .i64 (32 * K) (32 * K) (by omega) (by omega) (by rw [hz2]; omega) (by omega)
  rw [hz1, show (32 * K).toNat = 32 * K.toNat by omega, Nat.mul_one] at this
  exact this
theorem make_spans (K : Int) (h1 : 1 ≤ K) (h2 : K ≤ 16) (w : World) :
    (Instr.makeSlice 23 (.int .i64 K) (.int .i64 K)).run Tryd.prog w = .ok (.slice (some ⟨w.heap.size, 0, none⟩) K.toNat K.toNat) (w.alloc (.cells (madeCells #[.int .i64 0, .int .i64 0, .int .u32 0] (K.toNat * 3)) 68)) := by
  obtain ⟨i0, hi, hz0, hz1, hz2⟩ := info_parts infoS
  have := run_make (P := Tryd.prog) w 23 68 i0 (.agg #[.int .i64 0, .int .i64 0, .int .u32 0]) Tryd.underlying23 hi hz0 .i64 .i64 K K (by omega) (by omega) (by rw [hz2]; omega) (by omega)
  rw [hz1] at this
  exact this
set_option maxHeartbeats 2000000 in
theorem rmade_nil (K : Int) (w : World) (h1 : 1 ≤ K) (h2 : K ≤ 16) :
    Calls Tryd.prog 19 #[.int .i64 K, .slice none 0 0] w fun e w' => ∃ p c q d, e = .returned (.agg #[.slice p (32 * K.toNat) c, .slice q K.toNat d, .bool false]) ∧ HpIn w' p (32 * K.toNat) c q K.toNat d false (newH K.toNat) ∧ Below w.heap.size w w' := by
  have hm1 := make_words K h1 h2
  have hm2 := make_spans K h1 h2
  obtain ⟨R1, e1⟩ : ∃ R, R = madeCells #[.int .u64 0] (32 * K.toNat) := ⟨_, rfl⟩
  obtain ⟨R2, e2⟩ : ∃ R, R = madeCells #[.int .i64 0, .int .i64 0, .int .u32 0] (K.toNat * 3) := ⟨_, rfl⟩
  rw [← e1] at hm1
  rw [← e2] at hm2
  have e1' : Hid (R1 = madeCells #[.int .u64 0] (32 * K.toNat)) := e1
  have e2' : Hid (R2 = madeCells #[.int .i64 0, .int .i64 0, .int .u32 0] (K.toNat * 3)) := e2
  clear e1 e2
  go_enter Tryd.func19, Tryd.ntmps19
  go_upto_region 1 with fail
  go_region
  all_goals first
    | (generalize hw1 : World.drew _ = w1
       have hA := alloc4 w (.cells #[.slice none 0 0, .slice none 0 0, .bool false] 25) (.cells R1 56) (.cells R2 68) (.cells #[.slice (some ⟨w.heap.size + 1, 0, none⟩) (32 * K.toNat) (32 * K.toNat), .slice (some ⟨w.heap.size + 1 + 1, 0, none⟩) K.toNat K.toNat, .bool false] 25)
       have h1 : w1.heap[w.heap.size + 1]? = some (.cells R1 56 (0, 0)) := by rw [← hw1]; exact hA.2.1
       have h2 : w1.heap[w.heap.size + 1 + 1]? = some (.cells R2 68 (0, 0)) := by rw [← hw1]; exact hA.2.2.1
       have g5 : Box3 (w.heap.size + 1 + 1 + 1) (.slice (some ⟨w.heap.size + 1, 0, none⟩) (32 * K.toNat) (32 * K.toNat)) (.slice (some ⟨w.heap.size + 1 + 1, 0, none⟩) K.toNat K.toNat) (.bool false) w1 := box_of_heap (t := 25) (by rw [← hw1]; exact hA.2.2.2)
       have gR : Box3 w.heap.size (.slice none 0 0) (.slice none 0 0) (.bool false) w1 := box_of_heap (t := 25) (by rw [← hw1]; exact hA.1)
       have hbW : Below w.heap.size w w1 := by rw [← hw1]; go_grown
       have hown := new_own (n := K.toNat) (by omega) (b1 := w.heap.size + 1) (b2 := w.heap.size + 1 + 1) (base := w.heap.size + 1) (by omega) (by omega) (by omega) e1'.out e2'.out h1 h2
       clear hA hw1 hm1 hm2 h1 h2 e1' e2'
       obtain ⟨l5, x0, x1, x2, -, -, -⟩ := g5
       obtain ⟨lR, y0, y1, y2, f0, f1, f2⟩ := gR
       go_wp2
       go_loopg [6] 1 (fun g iv wr => iv = .int .i64 0 ∧ g = 1 ∧ wr = w1)
       case atStart => exact ⟨rfl, rfl, rfl⟩
       case round =>
         obtain ⟨rfl, rfl, rfl⟩ := hrel
         go_wp2
         refine bodyPost_ret (by simp [results, Tryd.results19, go_sem, *]; try rfl) rfl ?_
         have hz := ((hown.under (g := w.heap.size) (by omega) 0 (.slice (some ⟨w.heap.size + 1, 0, none⟩) (32 * K.toNat) (32 * K.toNat))).under (g := w.heap.size) (by omega) 1 (.slice (some ⟨w.heap.size + 1 + 1, 0, none⟩) K.toNat K.toNat)).under (g := w.heap.size) (by omega) 2 (.bool false)
         exact ⟨_, _, _, _, rfl, hz.at.in, ((hbW.setCell (Nat.le_refl _) _).setCell (Nat.le_refl _) _).setCell (Nat.le_refl _) _⟩)
    | (generalize hw1 : World.drew _ = w1
       have hA := alloc4 w (.cells #[.slice none 0 0, .slice none 0 0, .bool false] 25) (.cells R1 56) (.cells #[.slice (some ⟨w.heap.size + 1, 0, none⟩) (32 * K.toNat) (32 * K.toNat), .slice (some ⟨w.heap.size + 1 + 1 + 1, 0, none⟩) K.toNat K.toNat, .bool false] 25) (.cells R2 68)
       have h1 : w1.heap[w.heap.size + 1]? = some (.cells R1 56 (0, 0)) := by rw [← hw1]; exact hA.2.1
       have h2 : w1.heap[w.heap.size + 1 + 1 + 1]? = some (.cells R2 68 (0, 0)) := by rw [← hw1]; exact hA.2.2.2
       have g5 : Box3 (w.heap.size + 1 + 1) (.slice (some ⟨w.heap.size + 1, 0, none⟩) (32 * K.toNat) (32 * K.toNat)) (.slice (some ⟨w.heap.size + 1 + 1 + 1, 0, none⟩) K.toNat K.toNat) (.bool false) w1 := box_of_heap (t := 25) (by rw [← hw1]; exact hA.2.2.1)
       have gR : Box3 w.heap.size (.slice none 0 0) (.slice none 0 0) (.bool false) w1 := box_of_heap (t := 25) (by rw [← hw1]; exact hA.1)
       have hbW : Below w.heap.size w w1 := by rw [← hw1]; go_grown
       have hown := new_own (n := K.toNat) (by omega) (b1 := w.heap.size + 1) (b2 := w.heap.size + 1 + 1 + 1) (base := w.heap.size + 1) (by omega) (by omega) (by omega) e1'.out e2'.out h1 h2
       clear hA hw1 hm1 hm2 h1 h2 e1' e2'
       obtain ⟨l5, x0, x1, x2, -, -, -⟩ := g5
       obtain ⟨lR, y0, y1, y2, f0, f1, f2⟩ := gR
       go_wp2
       go_loopg [6] 1 (fun g iv wr => iv = .int .i64 0 ∧ g = 1 ∧ wr = w1)
       case atStart => exact ⟨rfl, rfl, rfl⟩
       case round =>
         obtain ⟨rfl, rfl, rfl⟩ := hrel
         go_wp2
         refine bodyPost_ret (by simp [results, Tryd.results19, go_sem, *]; try rfl) rfl ?_
         have hz := ((hown.under (g := w.heap.size) (by omega) 0 (.slice (some ⟨w.heap.size + 1, 0, none⟩) (32 * K.toNat) (32 * K.toNat))).under (g := w.heap.size) (by omega) 1 (.slice (some ⟨w.heap.size + 1 + 1 + 1, 0, none⟩) K.toNat K.toNat)).under (g := w.heap.size) (by omega) 2 (.bool false)
         exact ⟨_, _, _, _, rfl, hz.at.in, ((hbW.setCell (Nat.le_refl _) _).setCell (Nat.le_refl _) _).setCell (Nat.le_refl _) _⟩)
    | (generalize hw1 : World.drew _ = w1
       have hA := alloc4 w (.cells #[.slice none 0 0, .slice none 0 0, .bool false] 25) (.cells R2 68) (.cells R1 56) (.cells #[.slice (some ⟨w.heap.size + 1 + 1, 0, none⟩) (32 * K.toNat) (32 * K.toNat), .slice (some ⟨w.heap.size + 1, 0, none⟩) K.toNat K.toNat, .bool false] 25)
       have h1 : w1.heap[w.heap.size + 1 + 1]? = some (.cells R1 56 (0, 0)) := by rw [← hw1]; exact hA.2.2.1
       have h2 : w1.heap[w.heap.size + 1]? = some (.cells R2 68 (0, 0)) := by rw [← hw1]; exact hA.2.1
       have g5 : Box3 (w.heap.size + 1 + 1 + 1) (.slice (some ⟨w.heap.size + 1 + 1, 0, none⟩) (32 * K.toNat) (32 * K.toNat)) (.slice (some ⟨w.heap.size + 1, 0, none⟩) K.toNat K.toNat) (.bool false) w1 := box_of_heap (t := 25) (by rw [← hw1]; exact hA.2.2.2)
       have gR : Box3 w.heap.size (.slice none 0 0) (.slice none 0 0) (.bool false) w1 := box_of_heap (t := 25) (by rw [← hw1]; exact hA.1)
       have hbW : Below w.heap.size w w1 := by rw [← hw1]; go_grown
       have hown := new_own (n := K.toNat) (by omega) (b1 := w.heap.size + 1 + 1) (b2 := w.heap.size + 1) (base := w.heap.size + 1) (by omega) (by omega) (by omega) e1'.out e2'.out h1 h2
       clear hA hw1 hm1 hm2 h1 h2 e1' e2'
       obtain ⟨l5, x0, x1, x2, -, -, -⟩ := g5
       obtain ⟨lR, y0, y1, y2, f0, f1, f2⟩ := gR
       go_wp2
       go_loopg [6] 1 (fun g iv wr => iv = .int .i64 0 ∧ g = 1 ∧ wr = w1)
       case atStart => exact ⟨rfl, rfl, rfl⟩
       case round =>
         obtain ⟨rfl, rfl, rfl⟩ := hrel
         go_wp2
         refine bodyPost_ret (by simp [results, Tryd.results19, go_sem, *]; try rfl) rfl ?_
         have hz := ((hown.under (g := w.heap.size) (by omega) 0 (.slice (some ⟨w.heap.size + 1 + 1, 0, none⟩) (32 * K.toNat) (32 * K.toNat))).under (g := w.heap.size) (by omega) 1 (.slice (some ⟨w.heap.size + 1, 0, none⟩) K.toNat K.toNat)).under (g := w.heap.size) (by omega) 2 (.bool false)
         exact ⟨_, _, _, _, rfl, hz.at.in, ((hbW.setCell (Nat.le_refl _) _).setCell (Nat.le_refl _) _).setCell (Nat.le_refl _) _⟩)
    | (generalize hw1 : World.drew _ = w1
       have hA := alloc4 w (.cells #[.slice none 0 0, .slice none 0 0, .bool false] 25) (.cells #[.slice (some ⟨w.heap.size + 1 + 1, 0, none⟩) (32 * K.toNat) (32 * K.toNat), .slice (some ⟨w.heap.size + 1 + 1 + 1, 0, none⟩) K.toNat K.toNat, .bool false] 25) (.cells R1 56) (.cells R2 68)
       have h1 : w1.heap[w.heap.size + 1 + 1]? = some (.cells R1 56 (0, 0)) := by rw [← hw1]; exact hA.2.2.1
       have h2 : w1.heap[w.heap.size + 1 + 1 + 1]? = some (.cells R2 68 (0, 0)) := by rw [← hw1]; exact hA.2.2.2
       have g5 : Box3 (w.heap.size + 1) (.slice (some ⟨w.heap.size + 1 + 1, 0, none⟩) (32 * K.toNat) (32 * K.toNat)) (.slice (some ⟨w.heap.size + 1 + 1 + 1, 0, none⟩) K.toNat K.toNat) (.bool false) w1 := box_of_heap (t := 25) (by rw [← hw1]; exact hA.2.1)
       have gR : Box3 w.heap.size (.slice none 0 0) (.slice none 0 0) (.bool false) w1 := box_of_heap (t := 25) (by rw [← hw1]; exact hA.1)
       have hbW : Below w.heap.size w w1 := by rw [← hw1]; go_grown
       have hown := new_own (n := K.toNat) (by omega) (b1 := w.heap.size + 1 + 1) (b2 := w.heap.size + 1 + 1 + 1) (base := w.heap.size + 1) (by omega) (by omega) (by omega) e1'.out e2'.out h1 h2
       clear hA hw1 hm1 hm2 h1 h2 e1' e2'
       obtain ⟨l5, x0, x1, x2, -, -, -⟩ := g5
       obtain ⟨lR, y0, y1, y2, f0, f1, f2⟩ := gR
       go_wp2
       go_loopg [6] 1 (fun g iv wr => iv = .int .i64 0 ∧ g = 1 ∧ wr = w1)
       case atStart => exact ⟨rfl, rfl, rfl⟩
       case round =>
         obtain ⟨rfl, rfl, rfl⟩ := hrel
         go_wp2
         refine bodyPost_ret (by simp [results, Tryd.results19, go_sem, *]; try rfl) rfl ?_
         have hz := ((hown.under (g := w.heap.size) (by omega) 0 (.slice (some ⟨w.heap.size + 1 + 1, 0, none⟩) (32 * K.toNat) (32 * K.toNat))).under (g := w.heap.size) (by omega) 1 (.slice (some ⟨w.heap.size + 1 + 1 + 1, 0, none⟩) K.toNat K.toNat)).under (g := w.heap.size) (by omega) 2 (.bool false)
         exact ⟨_, _, _, _, rfl, hz.at.in, ((hbW.setCell (Nat.le_refl _) _).setCell (Nat.le_refl _) _).setCell (Nat.le_refl _) _⟩)
    | (generalize hw1 : World.drew _ = w1
       have hA := alloc4 w (.cells #[.slice none 0 0, .slice none 0 0, .bool false] 25) (.cells R2 68) (.cells #[.slice (some ⟨w.heap.size + 1 + 1 + 1, 0, none⟩) (32 * K.toNat) (32 * K.toNat), .slice (some ⟨w.heap.size + 1, 0, none⟩) K.toNat K.toNat, .bool false] 25) (.cells R1 56)
       have h1 : w1.heap[w.heap.size + 1 + 1 + 1]? = some (.cells R1 56 (0, 0)) := by rw [← hw1]; exact hA.2.2.2
       have h2 : w1.heap[w.heap.size + 1]? = some (.cells R2 68 (0, 0)) := by rw [← hw1]; exact hA.2.1
       have g5 : Box3 (w.heap.size + 1 + 1) (.slice (some ⟨w.heap.size + 1 + 1 + 1, 0, none⟩) (32 * K.toNat) (32 * K.toNat)) (.slice (some ⟨w.heap.size + 1, 0, none⟩) K.toNat K.toNat) (.bool false) w1 := box_of_heap (t := 25) (by rw [← hw1]; exact hA.2.2.1)
       have gR : Box3 w.heap.size (.slice none 0 0) (.slice none 0 0) (.bool false) w1 := box_of_heap (t := 25) (by rw [← hw1]; exact hA.1)
       have hbW : Below w.heap.size w w1 := by rw [← hw1]; go_grown
       have hown := new_own (n := K.toNat) (by omega) (b1 := w.heap.size + 1 + 1 + 1) (b2 := w.heap.size + 1) (base := w.heap.size + 1) (by omega) (by omega) (by omega) e1'.out e2'.out h1 h2
       clear hA hw1 hm1 hm2 h1 h2 e1' e2'
       obtain ⟨l5, x0, x1, x2, -, -, -⟩ := g5
       obtain ⟨lR, y0, y1, y2, f0, f1, f2⟩ := gR
       go_wp2
       go_loopg [6] 1 (fun g iv wr => iv = .int .i64 0 ∧ g = 1 ∧ wr = w1)
       case atStart => exact ⟨rfl, rfl, rfl⟩
       case round =>
         obtain ⟨rfl, rfl, rfl⟩ := hrel
         go_wp2
         refine bodyPost_ret (by simp [results, Tryd.results19, go_sem, *]; try rfl) rfl ?_
         have hz := ((hown.under (g := w.heap.size) (by omega) 0 (.slice (some ⟨w.heap.size + 1 + 1 + 1, 0, none⟩) (32 * K.toNat) (32 * K.toNat))).under (g := w.heap.size) (by omega) 1 (.slice (some ⟨w.heap.size + 1, 0, none⟩) K.toNat K.toNat)).under (g := w.heap.size) (by omega) 2 (.bool false)
         exact ⟨_, _, _, _, rfl, hz.at.in, ((hbW.setCell (Nat.le_refl _) _).setCell (Nat.le_refl _) _).setCell (Nat.le_refl _) _⟩)
    | (generalize hw1 : World.drew _ = w1
       have hA := alloc4 w (.cells #[.slice none 0 0, .slice none 0 0, .bool false] 25) (.cells #[.slice (some ⟨w.heap.size + 1 + 1 + 1, 0, none⟩) (32 * K.toNat) (32 * K.toNat), .slice (some ⟨w.heap.size + 1 + 1, 0, none⟩) K.toNat K.toNat, .bool false] 25) (.cells R2 68) (.cells R1 56)
       have h1 : w1.heap[w.heap.size + 1 + 1 + 1]? = some (.cells R1 56 (0, 0)) := by rw [← hw1]; exact hA.2.2.2
       have h2 : w1.heap[w.heap.size + 1 + 1]? = some (.cells R2 68 (0, 0)) := by rw [← hw1]; exact hA.2.2.1
       have g5 : Box3 (w.heap.size + 1) (.slice (some ⟨w.heap.size + 1 + 1 + 1, 0, none⟩) (32 * K.toNat) (32 * K.toNat)) (.slice (some ⟨w.heap.size + 1 + 1, 0, none⟩) K.toNat K.toNat) (.bool false) w1 := box_of_heap (t := 25) (by rw [← hw1]; exact hA.2.1)
       have gR : Box3 w.heap.size (.slice none 0 0) (.slice none 0 0) (.bool false) w1 := box_of_heap (t := 25) (by rw [← hw1]; exact hA.1)
       have hbW : Below w.heap.size w w1 := by rw [← hw1]; go_grown
       have hown := new_own (n := K.toNat) (by omega) (b1 := w.heap.size + 1 + 1 + 1) (b2 := w.heap.size + 1 + 1) (base := w.heap.size + 1) (by omega) (by omega) (by omega) e1'.out e2'.out h1 h2
       clear hA hw1 hm1 hm2 h1 h2 e1' e2'
       obtain ⟨l5, x0, x1, x2, -, -, -⟩ := g5
       obtain ⟨lR, y0, y1, y2, f0, f1, f2⟩ := gR
       go_wp2
       go_loopg [6] 1 (fun g iv wr => iv = .int .i64 0 ∧ g = 1 ∧ wr = w1)
       case atStart => exact ⟨rfl, rfl, rfl⟩
       case round =>
         obtain ⟨rfl, rfl, rfl⟩ := hrel
         go_wp2
         refine bodyPost_ret (by simp [results, Tryd.results19, go_sem, *]; try rfl) rfl ?_
         have hz := ((hown.under (g := w.heap.size) (by omega) 0 (.slice (some ⟨w.heap.size + 1 + 1 + 1, 0, none⟩) (32 * K.toNat) (32 * K.toNat))).under (g := w.heap.size) (by omega) 1 (.slice (some ⟨w.heap.size + 1 + 1, 0, none⟩) K.toNat K.toNat)).under (g := w.heap.size) (by omega) 2 (.bool false)
         exact ⟨_, _, _, _, rfl, hz.at.in, ((hbW.setCell (Nat.le_refl _) _).setCell (Nat.le_refl _) _).setCell (Nat.le_refl _) _⟩)
end Go.Proofs.YtmbgodncagjncaaDoor
/-! 'own := api.Heap{Words: append([]uint64{}, h.Words...), Spans: append([]api.Span{}, h.Spans...), Sense: h.Sense}': one region that draws its order: a heap of the call's own. -/
namespace Go.Proofs.YtmbgodncagjncaaDoor
set_option linter.unusedSimpArgs false
set_option linter.unusedVariables false
open Go.ChangeShapes Go.WideShapes Go.ChangeAt Go.RowKit Go.Joins

theorem Spans.cells {w : World} {p : Option Addr} {n : Nat} {s : Nat → Sp} (h : Spans w p n s) (h0 : 0 < n) : ∃ ad, p = some ad ∧ ∀ j v, (spVals n s)[j]? = some v → w.cell? (ad.add j) = some v := by
  obtain ⟨⟨b, off, e, -, -⟩, -⟩ := h 0 h0
  refine ⟨_, e, fun j v hv => ?_⟩
  have hj : j < n * 3 := by
    have := (List.getElem?_eq_some_iff.1 hv).1
    rwa [spVals_length] at this
  obtain ⟨⟨b', off', e', -, c0, c1, c2⟩, -⟩ := h (j / 3) (by omega)
  rw [e] at e'
  injection e' with e'
  injection e' with e1 e2
  subst e1 e2
  obtain ⟨a0, a1, a2⟩ := spVals_get s (n := n) (i := j / 3) (by omega)
  rw [add_none]
  have hr : j % 3 = 0 ∨ j % 3 = 1 ∨ j % 3 = 2 := by omega
  rcases hr with hr | hr | hr
  · rw [show j / 3 * 3 = j by omega] at a0 c0
    rw [c0, ← a0]; exact hv
  · rw [show j / 3 * 3 + 1 = j by omega] at a1
    rw [show off + j / 3 * 3 + 1 = off + j by omega] at c1
    rw [c1, ← a1]; exact hv
  · rw [show j / 3 * 3 + 2 = j by omega] at a2
    rw [show off + j / 3 * 3 + 2 = off + j by omega] at c2
    rw [c2, ← a2]; exact hv
theorem spVals_one (n : Nat) (s : Nat → Sp) : ∀ u ∈ spVals n s, u.oneCell' = true := by
  intro u hu
  simp only [spVals, List.mem_flatMap] at hu
  obtain ⟨i, -, hu⟩ := hu
  exact vals_oneCell _ u hu
theorem owned_block {w : World} {base : Nat} {e : TypeId} {size : Nat} {v : Value} {n : Nat} {xs : List Value} (h : w.ownsRow base e size v n xs) {b : Nat} (hb : v.ownBlock = some b) : ∃ cur, w.heap[b]? = some (.cells cur e (0, 0)) := by
  rcases h.2 with ⟨hv, -⟩ | ⟨g, cap', cur, hv, -, hg, -⟩
  · rw [hv] at hb; cases hb
  · rw [hv] at hb
    injection hb with hb
    subst hb
    exact ⟨cur, hg⟩
end Go.Proofs.YtmbgodncagjncaaDoor
/-! What stays where a call writes into some older blocks too, and a span stored into a row of one's own. -/
namespace Go.Proofs.YtmbgodncagjncaaDoor
set_option linter.unusedSimpArgs false
set_option linter.unusedVariables false
open Go.ChangeShapes Go.WideShapes Go.ChangeAt Go.RowKit Go.Joins

theorem Box3.aside {T : Nat → Prop} {b : Nat} {x y z : Value} {W W' : World} (h : Box3 b x y z W) (ha : Aside T W W') (hT : ¬ T b) : Box3 b x y z W' := by
  obtain ⟨l, c0, c1, c2, f0, f1, f2⟩ := h
  have hb := ha.block b l hT
  exact ⟨Nat.lt_of_lt_of_le l ha.size, by rw [World.cell?_of_block (w := W) (a := ⟨b, 0, none⟩) hb]; exact c0, by rw [World.cell?_of_block (w := W) (a := ⟨b, 1, none⟩) hb]; exact c1, by rw [World.cell?_of_block (w := W) (a := ⟨b, 2, none⟩) hb]; exact c2,
    by rw [World.frozen?_of_block (w := W) (a := ⟨b, 0, none⟩) hb]; exact f0, by rw [World.frozen?_of_block (w := W) (a := ⟨b, 1, none⟩) hb]; exact f1, by rw [World.frozen?_of_block (w := W) (a := ⟨b, 2, none⟩) hb]; exact f2⟩
theorem Spans.aside {T : Nat → Prop} {W W' : World} {p : Option Addr} {n : Nat} {s : Nat → Sp} (h : Spans W p n s) (ha : Aside T W W') (hT : ∀ g, T g → ∀ b off sp, p = some ⟨b, off, sp⟩ → b ≠ g) : Spans W' p n s := fun i hi => by
  obtain ⟨⟨b, off, e, hlt, h0, h1, h2⟩, hw⟩ := h i hi
  have hb := ha.block b hlt fun t => hT b t b off none e rfl
  exact ⟨⟨b, off, e, Nat.lt_of_lt_of_le hlt ha.size, by rw [World.cell?_of_block (w := W) (a := ⟨b, _, none⟩) hb]; exact h0, by rw [World.cell?_of_block (w := W) (a := ⟨b, _, none⟩) hb]; exact h1, by rw [World.cell?_of_block (w := W) (a := ⟨b, _, none⟩) hb]; exact h2⟩, hw⟩
theorem HpAt.aside {T : Nat → Prop} {W W' : World} {p : Option Addr} {c : Nat} {q : Option Addr} {d : Nat} {h : Hp} (hh : HpAt W p c q d h) (ha : Aside T W W') (hT : ∀ g, T g → Clear g p q) : HpAt W' p c q d h :=
  ⟨hh.ints.aside ha fun g t => (hT g t).1, hh.spans.aside ha fun g t => (hT g t).2, hh.nle, hh.mle, hh.pnil, hh.qnil, hh.ncap, hh.mcap⟩

section
variable {W : World} {base : Nat} {p : Option Addr} {c : Nat} {d : Nat} {h : Hp}
end
/-- A variable of one cell. -/
def Box1 (b : Nat) (x : Value) (W : World) : Prop := b < W.heap.size ∧ W.cell? ⟨b, 0, none⟩ = some x ∧ W.frozen? ⟨b, 0, none⟩ = false
theorem Box1.below {b : Nat} {x : Value} {W W' : World} (h : Box1 b x W) (hb : Below W.heap.size W W') : Box1 b x W' := by
  obtain ⟨l, c0, f0⟩ := h
  have e := hb.block b l
  exact ⟨Nat.lt_of_lt_of_le l hb.size, by rw [World.cell?_of_block (w := W) (a := ⟨b, 0, none⟩) e]; exact c0, by rw [World.frozen?_of_block (w := W) (a := ⟨b, 0, none⟩) e]; exact f0⟩
theorem Box1.aside {T : Nat → Prop} {b : Nat} {x : Value} {W W' : World} (h : Box1 b x W) (ha : Aside T W W') (hT : ¬ T b) : Box1 b x W' := by
  obtain ⟨l, c0, f0⟩ := h
  have e := ha.block b l hT
  exact ⟨Nat.lt_of_lt_of_le l ha.size, by rw [World.cell?_of_block (w := W) (a := ⟨b, 0, none⟩) e]; exact c0, by rw [World.frozen?_of_block (w := W) (a := ⟨b, 0, none⟩) e]; exact f0⟩
theorem Box1.setCells {b : Nat} {x : Value} {g : Nat} (hg : ¬ g = b) : ∀ (vs : List Value) (w : World) (o : Nat), Box1 b x w → Box1 b x (w.setCells g o vs)
  | [], _, _, h => h
  | v :: r, w, o, h => Box1.setCells hg r _ _ (by
    obtain ⟨l, c0, f0⟩ := h
    have e := Below.heap_setCell w ⟨g, o, none⟩ v b (fun e => hg (by rw [e]))
    exact ⟨by simpa [World.setCell] using l, by rw [World.cell?_of_block (w := w) (a := ⟨b, 0, none⟩) e]; exact c0, by rw [World.frozen?_of_block (w := w) (a := ⟨b, 0, none⟩) e]; exact f0⟩)
theorem Box1.new (W : World) (x : Value) (t : TypeId) : Box1 W.heap.size x (W.alloc (.cells #[x] t)) := by
  have hg := heap_alloc_new W (.cells #[x] t)
  exact ⟨by simp, by rw [cell_of_row _ _ _ _ _ _ hg]; rfl, frozen_of_row _ _ _ _ _ hg⟩
theorem Box1.other {b : Nat} {x : Value} {W : World} (h : Box1 b x W) {g : Nat} (hg : ¬ g = b) (o : Nat) (u : Value) : Box1 b x (W.setCell ⟨g, o, none⟩ u) := by
  obtain ⟨l, c0, f0⟩ := h
  have e := Below.heap_setCell W ⟨g, o, none⟩ u b (fun e => hg (by rw [e]))
  exact ⟨by simpa [World.setCell] using l, by rw [World.cell?_of_block (w := W) (a := ⟨b, 0, none⟩) e]; exact c0, by rw [World.frozen?_of_block (w := W) (a := ⟨b, 0, none⟩) e]; exact f0⟩
theorem Box1.store {b : Nat} {x : Value} {W : World} (h : Box1 b x W) (y : Value) : Box1 b y (W.setCell ⟨b, 0, none⟩ y) := by
  obtain ⟨l, c0, f0⟩ := h
  exact ⟨by simpa [World.setCell] using l, by simp [go_sem, c0], by simp [go_sem, f0]⟩
theorem Box3.setCells {b : Nat} {x y z : Value} {g : Nat} (hg : ¬ g = b) : ∀ (vs : List Value) (w : World) (o : Nat), Box3 b x y z w → Box3 b x y z (w.setCells g o vs)
  | [], _, _, h => h
  | v :: r, w, o, h => Box3.setCells hg r _ _ (h.other hg o v)
end Go.Proofs.YtmbgodncagjncaaDoor
/-! slices.Clone at words and at spans by contracts, and 'api.Heap{Words: slices.Clone(h.Words), Spans: slices.Clone(h.Spans), Sense: h.Sense}': one region that draws its order. -/
namespace Go.Proofs.YtmbgodncagjncaaDoor
set_option linter.unusedSimpArgs false
set_option linter.unusedVariables false
open Go.ChangeShapes Go.WideShapes Go.ChangeAt Go.RowKit Go.Joins

theorem clone_words (p : Option Addr) (n c : Nat) (z : Nat → Int) (w : World) (hin : Ints .u64 w p n z) (h0 : 0 < n) (hn : n ≤ 17592186043904) :
    Calls Tryd.prog 26 #[.slice p n c] w fun e w' => ∃ p' c', e = .returned (.slice p' n c') ∧ w'.ownsRow w.heap.size 56 1 (.slice p' n c') n (vals .u64 n z) ∧ Below w.heap.size w w' := by
  obtain ⟨i0, hi, hz0, hz1, hz2⟩ := info_parts infoW
  obtain ⟨ad, rfl, hcell⟩ := hin.cells h0
  have hnil : ∀ W : World, (binOp .eql 22 (.slice (some ad) n c) (.slice none 0 0)).run Tryd.prog W = .ok (.bool false) W := fun W => Lib.run_eql_slice_nil W 22 56 (some ad) n c 0 0 Tryd.underlying22
  have hvl := vals_length .u64 n z
  have hv1 := vals_one .u64 n z
  generalize vals .u64 n z = xs at *
  go_enter Tryd.func26, Tryd.ntmps26
  go_wp2_with (first
    | (at_builtin; refine wpList_append_grows _ rfl (.tmp 5) (.tmp 6) 22 rfl 56 i0 (.int .u64 0) 1 8 Tryd.underlying22 hi hz0 hz1 hz2 rfl (by decide) _ 0 0 [] rfl (fun _ => ⟨rfl, rfl⟩) rfl (fun b _ j u hj => by simp at hj) ad n c xs rfl (by omega) (fun j u hj => Lib.cell?_alloc_some _ (hcell j u hj)) hv1 (by omega) (by simp only [maxLen]; omega) (by omega) ?_; intro v1 w1 hown1 hgrow1)
  )
  go_returns
  rw [Nat.zero_add, List.nil_append] at hown1
  obtain ⟨p1, c1, rfl, -⟩ := owned_new hown1
  exact ⟨_, _, rfl, owned_base hown1 (by rw [World.size_alloc]; omega), ((Below.refl _ _).alloc (Nat.le_refl _) _).grown hgrow1 (by simp) (by intro k hk; cases hk)⟩
theorem clone_spans (p : Option Addr) (n c : Nat) (s : Nat → Sp) (w : World) (hin : Spans w p n s) (h0 : 0 < n) (hn : n ≤ 1048576) :
    Calls Tryd.prog 27 #[.slice p n c] w fun e w' => ∃ p' c', e = .returned (.slice p' n c') ∧ w'.ownsRow w.heap.size 68 3 (.slice p' n c') n (spVals n s) ∧ Below w.heap.size w w' := by
  obtain ⟨i0, hi, hz0, hz1, hz2⟩ := info_parts infoS
  obtain ⟨ad, rfl, hcell⟩ := hin.cells h0
  have hnil : ∀ W : World, (binOp .eql 23 (.slice (some ad) n c) (.slice none 0 0)).run Tryd.prog W = .ok (.bool false) W := fun W => Lib.run_eql_slice_nil W 23 68 (some ad) n c 0 0 Tryd.underlying23
  have hvl := spVals_length n s
  have hv1 := spVals_one n s
  generalize spVals n s = xs at *
  go_enter Tryd.func27, Tryd.ntmps27
  go_wp2_with (first
    | (at_builtin; refine wpList_append_grows _ rfl (.tmp 5) (.tmp 6) 23 rfl 68 i0 (.agg #[.int .i64 0, .int .i64 0, .int .u32 0]) 3 24 Tryd.underlying23 hi hz0 hz1 hz2 rfl (by decide) _ 0 0 [] rfl (fun _ => ⟨rfl, rfl⟩) rfl (fun b _ j u hj => by simp at hj) ad n c xs rfl (by omega) (fun j u hj => Lib.cell?_alloc_some _ (hcell j u hj)) hv1 (by omega) (by simp only [maxLen]; omega) (by omega) ?_; intro v1 w1 hown1 hgrow1)
  )
  go_returns
  rw [Nat.zero_add, List.nil_append] at hown1
  obtain ⟨p1, c1, rfl, -⟩ := owned_new hown1
  exact ⟨_, _, rfl, owned_base hown1 (by rw [World.size_alloc]; omega), ((Below.refl _ _).alloc (Nat.le_refl _) _).grown hgrow1 (by simp) (by intro k hk; cases hk)⟩

end Go.Proofs.YtmbgodncagjncaaDoor
