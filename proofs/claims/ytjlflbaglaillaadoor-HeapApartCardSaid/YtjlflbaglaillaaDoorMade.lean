/- Contract of the reference's Made, of no deeds (chapter 7). -/
import Derived.Test.YtjlflbaglaillaaDoorHeapIn
import Derived.BigRegion
namespace Go.Proofs.YtjlflbaglaillaaDoor
set_option linter.unusedSimpArgs false
set_option linter.unusedVariables false
open Go.ChangeShapes Go.WideShapes Go.ChangeAt Go.RowKit Go.Joins

theorem made_one (v : Value) (n : Nat) : (madeCells #[v] n).toList = List.replicate n v := by
  apply List.ext_getElem?
  intro j
  by_cases h : j < n <;> simp [madeCells, h, Nat.mod_one]
theorem made_spans : ∀ n : Nat, (madeCells #[.int .i64 0, .int .i64 0, .int .u32 0] (n * 3)).toList = spVals n (fun _ => ⟨0, 0, 0⟩) := by
  intro n
  apply List.ext_getElem?
  intro j
  by_cases h : j < n * 3
  · obtain ⟨a0, a1, a2⟩ := spVals_get (fun _ => (⟨0, 0, 0⟩ : Sp)) (n := n) (i := j / 3) (by omega)
    have hj : j % 3 = 0 ∨ j % 3 = 1 ∨ j % 3 = 2 := by omega
    have e : (madeCells #[.int .i64 0, .int .i64 0, .int .u32 0] (n * 3)).toList[j]? = some ((#[.int .i64 0, .int .i64 0, .int .u32 0] : Array Value)[j % 3]!) := by simp [madeCells, h]
    rcases hj with hj | hj | hj
    · rw [show j / 3 * 3 = j by omega] at a0; rw [e, hj, a0]; rfl
    · rw [show j / 3 * 3 + 1 = j by omega] at a1; rw [e, hj, a1]; rfl
    · rw [show j / 3 * 3 + 2 = j by omega] at a2; rw [e, hj, a2]; rfl
  · rw [List.getElem?_eq_none (by simp [madeCells]; omega), List.getElem?_eq_none (by rw [spVals_length]; omega)]
/-- Two new rows make a new heap. -/
theorem new_own {w : World} {R1 R2 : Array Value} {n : Nat} (hn : n ≤ 16) {b1 b2 base : Nat} (hb1 : base ≤ b1) (hb2 : base ≤ b2) (hne : b1 ≠ b2)
    (e1 : R1 = madeCells #[.int .u64 0] (32 * n)) (e2 : R2 = madeCells #[.int .i64 0, .int .i64 0, .int .u32 0] (n * 3))
    (h1 : w.heap[b1]? = some (.cells R1 50 (0, 0))) (h2 : w.heap[b2]? = some (.cells R2 49 (0, 0))) :
    HpOwn w base (some ⟨b1, 0, none⟩) (32 * n) (some ⟨b2, 0, none⟩) n (newH n) where
  words := by
    refine ⟨by rw [vals_length]; show 32 * n = 32 * n * 1; omega, .inr ⟨b1, 32 * n, R1, rfl, hb1, h1, Nat.le_refl _, by show 32 * n ≤ maxLen; simp only [maxLen]; omega, by rw [e1, size_madeCells]; omega, ?_⟩⟩
    rw [e1, made_one, vals_const, List.take_of_length_le (by rw [vals_length]; show 32 * n ≤ 32 * n * 1; omega)]
    try rfl
  spans := by
    refine ⟨by rw [spVals_length], .inr ⟨b2, n, R2, rfl, hb2, h2, Nat.le_refl _, by simp only [maxLen]; omega, by rw [e2, size_madeCells], ?_⟩⟩
    rw [e2, made_spans, List.take_of_length_le (by rw [spVals_length]; try exact Nat.le_refl _)]
    try rfl
  ne := fun b b' e e' => by
    simp [Value.ownBlock] at e e'
    rw [← e, ← e']; exact hne
  wf := wf_new n
  nle := by show 32 * n ≤ maxLen; simp only [maxLen]; omega
  mle := by show n ≤ maxLen; simp only [maxLen]; omega
theorem alloc4 (w : World) (o0 o1 o2 o3 : Obj) : ((((w.alloc o0).alloc o1).alloc o2).alloc o3).heap[w.heap.size]? = some o0 ∧ ((((w.alloc o0).alloc o1).alloc o2).alloc o3).heap[w.heap.size + 1]? = some o1 ∧
    ((((w.alloc o0).alloc o1).alloc o2).alloc o3).heap[w.heap.size + 1 + 1]? = some o2 ∧ ((((w.alloc o0).alloc o1).alloc o2).alloc o3).heap[w.heap.size + 1 + 1 + 1]? = some o3 := by
  have n3 := heap_alloc_new (((w.alloc o0).alloc o1).alloc o2) o3
  have n2 := heap_alloc_new ((w.alloc o0).alloc o1) o2
  have n1 := heap_alloc_new (w.alloc o0) o1
  have n0 := heap_alloc_new w o0
  simp only [World.size_alloc] at n1 n2 n3
  refine ⟨?_, ?_, ?_, n3⟩
  · rw [Below.heap_alloc _ _ _ (by simp; try omega), Below.heap_alloc _ _ _ (by simp; try omega), Below.heap_alloc _ _ _ (by simp)]; exact n0
  · rw [Below.heap_alloc _ _ _ (by simp; try omega), Below.heap_alloc _ _ _ (by simp)]; exact n1
  · rw [Below.heap_alloc _ _ _ (by simp)]; exact n2
theorem box_of_heap {w : World} {b : Nat} {x y z : Value} {t : TypeId} (h : w.heap[b]? = some (.cells #[x, y, z] t (0, 0))) : Box3 b x y z w := by
  refine ⟨?_, ?_, ?_, ?_, frozen_of_row w b 0 _ t h, frozen_of_row w b 1 _ t h, frozen_of_row w b 2 _ t h⟩
  · rcases Nat.lt_or_ge b w.heap.size with h' | h'
    · exact h'
    · rw [Array.getElem?_eq_none h'] at h; cases h
  · rw [cell_of_row w b 0 _ t (0, 0) h]; rfl
  · rw [cell_of_row w b 1 _ t (0, 0) h]; rfl
  · rw [cell_of_row w b 2 _ t (0, 0) h]; rfl
theorem make_words (K : Int) (h1 : 1 ≤ K) (h2 : K ≤ 16) (w : World) :
    (Instr.makeSlice 22 (.int .i64 (32 * K)) (.int .i64 (32 * K))).run Tryd.prog w = .ok (.slice (some ⟨w.heap.size, 0, none⟩) (32 * K.toNat) (32 * K.toNat)) (w.alloc (.cells (madeCells #[.int .u64 0] (32 * K.toNat)) 50)) := by
  obtain ⟨i0, hi, hz0, hz1, hz2⟩ := info_parts infoW
  have := run_make (P := Tryd.prog) w 22 50 i0 (.int .u64 0) Tryd.underlying22 hi hz0 .i64 .i64 (32 * K) (32 * K) (by omega) (by omega) (by rw [hz2]; omega) (by omega)
  rw [hz1, show (32 * K).toNat = 32 * K.toNat by omega, Nat.mul_one] at this
  exact this
theorem make_spans (K : Int) (h1 : 1 ≤ K) (h2 : K ≤ 16) (w : World) :
    (Instr.makeSlice 23 (.int .i64 K) (.int .i64 K)).run Tryd.prog w = .ok (.slice (some ⟨w.heap.size, 0, none⟩) K.toNat K.toNat) (w.alloc (.cells (madeCells #[.int .i64 0, .int .i64 0, .int .u32 0] (K.toNat * 3)) 49)) := by
  obtain ⟨i0, hi, hz0, hz1, hz2⟩ := info_parts infoS
  have := run_make (P := Tryd.prog) w 23 49 i0 (.agg #[.int .i64 0, .int .i64 0, .int .u32 0]) Tryd.underlying23 hi hz0 .i64 .i64 K K (by omega) (by omega) (by rw [hz2]; omega) (by omega)
  rw [hz1] at this
  exact this
set_option maxHeartbeats 2000000 in
theorem rmade_nil (K : Int) (w : World) (h1 : 1 ≤ K) (h2 : K ≤ 16) :
    Calls Tryd.prog 12 #[.int .i64 K, .slice none 0 0] w fun e w' => ∃ p c q d, e = .returned (.agg #[.slice p (32 * K.toNat) c, .slice q K.toNat d, .bool false]) ∧ HpIn w' p (32 * K.toNat) c q K.toNat d false (newH K.toNat) ∧ Below w.heap.size w w' := by
  have hm1 := make_words K h1 h2
  have hm2 := make_spans K h1 h2
  obtain ⟨R1, e1⟩ : ∃ R, R = madeCells #[.int .u64 0] (32 * K.toNat) := ⟨_, rfl⟩
  obtain ⟨R2, e2⟩ : ∃ R, R = madeCells #[.int .i64 0, .int .i64 0, .int .u32 0] (K.toNat * 3) := ⟨_, rfl⟩
  rw [← e1] at hm1
  rw [← e2] at hm2
  have e1' : Hid (R1 = madeCells #[.int .u64 0] (32 * K.toNat)) := e1
  have e2' : Hid (R2 = madeCells #[.int .i64 0, .int .i64 0, .int .u32 0] (K.toNat * 3)) := e2
  clear e1 e2
  go_enter Tryd.func12, Tryd.ntmps12
  go_upto_region 1 with fail
  go_region
  all_goals first
    | (generalize hw1 : World.drew _ = w1
       have hA := alloc4 w (.cells #[.slice none 0 0, .slice none 0 0, .bool false] 25) (.cells R1 50) (.cells R2 49) (.cells #[.slice (some ⟨w.heap.size + 1, 0, none⟩) (32 * K.toNat) (32 * K.toNat), .slice (some ⟨w.heap.size + 1 + 1, 0, none⟩) K.toNat K.toNat, .bool false] 25)
       have h1 : w1.heap[w.heap.size + 1]? = some (.cells R1 50 (0, 0)) := by rw [← hw1]; exact hA.2.1
       have h2 : w1.heap[w.heap.size + 1 + 1]? = some (.cells R2 49 (0, 0)) := by rw [← hw1]; exact hA.2.2.1
       have g5 : Box3 (w.heap.size + 1 + 1 + 1) (.slice (some ⟨w.heap.size + 1, 0, none⟩) (32 * K.toNat) (32 * K.toNat)) (.slice (some ⟨w.heap.size + 1 + 1, 0, none⟩) K.toNat K.toNat) (.bool false) w1 := box_of_heap (t := 25) (by rw [← hw1]; exact hA.2.2.2)
       have gR : Box3 w.heap.size (.slice none 0 0) (.slice none 0 0) (.bool false) w1 := box_of_heap (t := 25) (by rw [← hw1]; exact hA.1)
       have hbW : Below w.heap.size w w1 := by rw [← hw1]; go_grown
       have hown := new_own (n := K.toNat) (by omega) (b1 := w.heap.size + 1) (b2 := w.heap.size + 1 + 1) (base := w.heap.size + 1) (by omega) (by omega) (by omega) e1'.out e2'.out h1 h2
       clear hA hw1 hm1 hm2 h1 h2 e1' e2'
       obtain ⟨l5, x0, x1, x2, -, -, -⟩ := g5
       obtain ⟨lR, y0, y1, y2, f0, f1, f2⟩ := gR
       go_wp2
       go_loopg [6] 1 (fun g iv wr => iv = .int .i64 0 ∧ g = 1 ∧ wr = w1)
       case atStart => exact ⟨rfl, rfl, rfl⟩
       case round =>
         obtain ⟨rfl, rfl, rfl⟩ := hrel
         go_wp2
         refine bodyPost_ret (by simp [results, Tryd.results12, go_sem, *]; try rfl) rfl ?_
         have hz := ((hown.under (g := w.heap.size) (by omega) 0 (.slice (some ⟨w.heap.size + 1, 0, none⟩) (32 * K.toNat) (32 * K.toNat))).under (g := w.heap.size) (by omega) 1 (.slice (some ⟨w.heap.size + 1 + 1, 0, none⟩) K.toNat K.toNat)).under (g := w.heap.size) (by omega) 2 (.bool false)
         exact ⟨_, _, _, _, rfl, hz.at.in, ((hbW.setCell (Nat.le_refl _) _).setCell (Nat.le_refl _) _).setCell (Nat.le_refl _) _⟩)
    | (generalize hw1 : World.drew _ = w1
       have hA := alloc4 w (.cells #[.slice none 0 0, .slice none 0 0, .bool false] 25) (.cells R1 50) (.cells #[.slice (some ⟨w.heap.size + 1, 0, none⟩) (32 * K.toNat) (32 * K.toNat), .slice (some ⟨w.heap.size + 1 + 1 + 1, 0, none⟩) K.toNat K.toNat, .bool false] 25) (.cells R2 49)
       have h1 : w1.heap[w.heap.size + 1]? = some (.cells R1 50 (0, 0)) := by rw [← hw1]; exact hA.2.1
       have h2 : w1.heap[w.heap.size + 1 + 1 + 1]? = some (.cells R2 49 (0, 0)) := by rw [← hw1]; exact hA.2.2.2
       have g5 : Box3 (w.heap.size + 1 + 1) (.slice (some ⟨w.heap.size + 1, 0, none⟩) (32 * K.toNat) (32 * K.toNat)) (.slice (some ⟨w.heap.size + 1 + 1 + 1, 0, none⟩) K.toNat K.toNat) (.bool false) w1 := box_of_heap (t := 25) (by rw [← hw1]; exact hA.2.2.1)
       have gR : Box3 w.heap.size (.slice none 0 0) (.slice none 0 0) (.bool false) w1 := box_of_heap (t := 25) (by rw [← hw1]; exact hA.1)
       have hbW : Below w.heap.size w w1 := by rw [← hw1]; go_grown
       have hown := new_own (n := K.toNat) (by omega) (b1 := w.heap.size + 1) (b2 := w.heap.size + 1 + 1 + 1) (base := w.heap.size + 1) (by omega) (by omega) (by omega) e1'.out e2'.out h1 h2
       clear hA hw1 hm1 hm2 h1 h2 e1' e2'
       obtain ⟨l5, x0, x1, x2, -, -, -⟩ := g5
       obtain ⟨lR, y0, y1, y2, f0, f1, f2⟩ := gR
       go_wp2
       go_loopg [6] 1 (fun g iv wr => iv = .int .i64 0 ∧ g = 1 ∧ wr = w1)
       case atStart => exact ⟨rfl, rfl, rfl⟩
       case round =>
         obtain ⟨rfl, rfl, rfl⟩ := hrel
         go_wp2
         refine bodyPost_ret (by simp [results, Tryd.results12, go_sem, *]; try rfl) rfl ?_
         have hz := ((hown.under (g := w.heap.size) (by omega) 0 (.slice (some ⟨w.heap.size + 1, 0, none⟩) (32 * K.toNat) (32 * K.toNat))).under (g := w.heap.size) (by omega) 1 (.slice (some ⟨w.heap.size + 1 + 1 + 1, 0, none⟩) K.toNat K.toNat)).under (g := w.heap.size) (by omega) 2 (.bool false)
         exact ⟨_, _, _, _, rfl, hz.at.in, ((hbW.setCell (Nat.le_refl _) _).setCell (Nat.le_refl _) _).setCell (Nat.le_refl _) _⟩)
    | (generalize hw1 : World.drew _ = w1
       have hA := alloc4 w (.cells #[.slice none 0 0, .slice none 0 0, .bool false] 25) (.cells R2 49) (.cells R1 50) (.cells #[.slice (some ⟨w.heap.size + 1 + 1, 0, none⟩) (32 * K.toNat) (32 * K.toNat), .slice (some ⟨w.heap.size + 1, 0, none⟩) K.toNat K.toNat, .bool false] 25)
       have h1 : w1.heap[w.heap.size + 1 + 1]? = some (.cells R1 50 (0, 0)) := by rw [← hw1]; exact hA.2.2.1
       have h2 : w1.heap[w.heap.size + 1]? = some (.cells R2 49 (0, 0)) := by rw [← hw1]; exact hA.2.1
       have g5 : Box3 (w.heap.size + 1 + 1 + 1) (.slice (some ⟨w.heap.size + 1 + 1, 0, none⟩) (32 * K.toNat) (32 * K.toNat)) (.slice (some ⟨w.heap.size + 1, 0, none⟩) K.toNat K.toNat) (.bool false) w1 := box_of_heap (t := 25) (by rw [← hw1]; exact hA.2.2.2)
       have gR : Box3 w.heap.size (.slice none 0 0) (.slice none 0 0) (.bool false) w1 := box_of_heap (t := 25) (by rw [← hw1]; exact hA.1)
       have hbW : Below w.heap.size w w1 := by rw [← hw1]; go_grown
       have hown := new_own (n := K.toNat) (by omega) (b1 := w.heap.size + 1 + 1) (b2 := w.heap.size + 1) (base := w.heap.size + 1) (by omega) (by omega) (by omega) e1'.out e2'.out h1 h2
       clear hA hw1 hm1 hm2 h1 h2 e1' e2'
       obtain ⟨l5, x0, x1, x2, -, -, -⟩ := g5
       obtain ⟨lR, y0, y1, y2, f0, f1, f2⟩ := gR
       go_wp2
       go_loopg [6] 1 (fun g iv wr => iv = .int .i64 0 ∧ g = 1 ∧ wr = w1)
       case atStart => exact ⟨rfl, rfl, rfl⟩
       case round =>
         obtain ⟨rfl, rfl, rfl⟩ := hrel
         go_wp2
         refine bodyPost_ret (by simp [results, Tryd.results12, go_sem, *]; try rfl) rfl ?_
         have hz := ((hown.under (g := w.heap.size) (by omega) 0 (.slice (some ⟨w.heap.size + 1 + 1, 0, none⟩) (32 * K.toNat) (32 * K.toNat))).under (g := w.heap.size) (by omega) 1 (.slice (some ⟨w.heap.size + 1, 0, none⟩) K.toNat K.toNat)).under (g := w.heap.size) (by omega) 2 (.bool false)
         exact ⟨_, _, _, _, rfl, hz.at.in, ((hbW.setCell (Nat.le_refl _) _).setCell (Nat.le_refl _) _).setCell (Nat.le_refl _) _⟩)
    | (generalize hw1 : World.drew _ = w1
       have hA := alloc4 w (.cells #[.slice none 0 0, .slice none 0 0, .bool false] 25) (.cells #[.slice (some ⟨w.heap.size + 1 + 1, 0, none⟩) (32 * K.toNat) (32 * K.toNat), .slice (some ⟨w.heap.size + 1 + 1 + 1, 0, none⟩) K.toNat K.toNat, .bool false] 25) (.cells R1 50) (.cells R2 49)
       have h1 : w1.heap[w.heap.size + 1 + 1]? = some (.cells R1 50 (0, 0)) := by rw [← hw1]; exact hA.2.2.1
       have h2 : w1.heap[w.heap.size + 1 + 1 + 1]? = some (.cells R2 49 (0, 0)) := by rw [← hw1]; exact hA.2.2.2
       have g5 : Box3 (w.heap.size + 1) (.slice (some ⟨w.heap.size + 1 + 1, 0, none⟩) (32 * K.toNat) (32 * K.toNat)) (.slice (some ⟨w.heap.size + 1 + 1 + 1, 0, none⟩) K.toNat K.toNat) (.bool false) w1 := box_of_heap (t := 25) (by rw [← hw1]; exact hA.2.1)
       have gR : Box3 w.heap.size (.slice none 0 0) (.slice none 0 0) (.bool false) w1 := box_of_heap (t := 25) (by rw [← hw1]; exact hA.1)
       have hbW : Below w.heap.size w w1 := by rw [← hw1]; go_grown
       have hown := new_own (n := K.toNat) (by omega) (b1 := w.heap.size + 1 + 1) (b2 := w.heap.size + 1 + 1 + 1) (base := w.heap.size + 1) (by omega) (by omega) (by omega) e1'.out e2'.out h1 h2
       clear hA hw1 hm1 hm2 h1 h2 e1' e2'
       obtain ⟨l5, x0, x1, x2, -, -, -⟩ := g5
       obtain ⟨lR, y0, y1, y2, f0, f1, f2⟩ := gR
       go_wp2
       go_loopg [6] 1 (fun g iv wr => iv = .int .i64 0 ∧ g = 1 ∧ wr = w1)
       case atStart => exact ⟨rfl, rfl, rfl⟩
       case round =>
         obtain ⟨rfl, rfl, rfl⟩ := hrel
         go_wp2
         refine bodyPost_ret (by simp [results, Tryd.results12, go_sem, *]; try rfl) rfl ?_
         have hz := ((hown.under (g := w.heap.size) (by omega) 0 (.slice (some ⟨w.heap.size + 1 + 1, 0, none⟩) (32 * K.toNat) (32 * K.toNat))).under (g := w.heap.size) (by omega) 1 (.slice (some ⟨w.heap.size + 1 + 1 + 1, 0, none⟩) K.toNat K.toNat)).under (g := w.heap.size) (by omega) 2 (.bool false)
         exact ⟨_, _, _, _, rfl, hz.at.in, ((hbW.setCell (Nat.le_refl _) _).setCell (Nat.le_refl _) _).setCell (Nat.le_refl _) _⟩)
    | (generalize hw1 : World.drew _ = w1
       have hA := alloc4 w (.cells #[.slice none 0 0, .slice none 0 0, .bool false] 25) (.cells R2 49) (.cells #[.slice (some ⟨w.heap.size + 1 + 1 + 1, 0, none⟩) (32 * K.toNat) (32 * K.toNat), .slice (some ⟨w.heap.size + 1, 0, none⟩) K.toNat K.toNat, .bool false] 25) (.cells R1 50)
       have h1 : w1.heap[w.heap.size + 1 + 1 + 1]? = some (.cells R1 50 (0, 0)) := by rw [← hw1]; exact hA.2.2.2
       have h2 : w1.heap[w.heap.size + 1]? = some (.cells R2 49 (0, 0)) := by rw [← hw1]; exact hA.2.1
       have g5 : Box3 (w.heap.size + 1 + 1) (.slice (some ⟨w.heap.size + 1 + 1 + 1, 0, none⟩) (32 * K.toNat) (32 * K.toNat)) (.slice (some ⟨w.heap.size + 1, 0, none⟩) K.toNat K.toNat) (.bool false) w1 := box_of_heap (t := 25) (by rw [← hw1]; exact hA.2.2.1)
       have gR : Box3 w.heap.size (.slice none 0 0) (.slice none 0 0) (.bool false) w1 := box_of_heap (t := 25) (by rw [← hw1]; exact hA.1)
       have hbW : Below w.heap.size w w1 := by rw [← hw1]; go_grown
       have hown := new_own (n := K.toNat) (by omega) (b1 := w.heap.size + 1 + 1 + 1) (b2 := w.heap.size + 1) (base := w.heap.size + 1) (by omega) (by omega) (by omega) e1'.out e2'.out h1 h2
       clear hA hw1 hm1 hm2 h1 h2 e1' e2'
       obtain ⟨l5, x0, x1, x2, -, -, -⟩ := g5
       obtain ⟨lR, y0, y1, y2, f0, f1, f2⟩ := gR
       go_wp2
       go_loopg [6] 1 (fun g iv wr => iv = .int .i64 0 ∧ g = 1 ∧ wr = w1)
       case atStart => exact ⟨rfl, rfl, rfl⟩
       case round =>
         obtain ⟨rfl, rfl, rfl⟩ := hrel
         go_wp2
         refine bodyPost_ret (by simp [results, Tryd.results12, go_sem, *]; try rfl) rfl ?_
         have hz := ((hown.under (g := w.heap.size) (by omega) 0 (.slice (some ⟨w.heap.size + 1 + 1 + 1, 0, none⟩) (32 * K.toNat) (32 * K.toNat))).under (g := w.heap.size) (by omega) 1 (.slice (some ⟨w.heap.size + 1, 0, none⟩) K.toNat K.toNat)).under (g := w.heap.size) (by omega) 2 (.bool false)
         exact ⟨_, _, _, _, rfl, hz.at.in, ((hbW.setCell (Nat.le_refl _) _).setCell (Nat.le_refl _) _).setCell (Nat.le_refl _) _⟩)
    | (generalize hw1 : World.drew _ = w1
       have hA := alloc4 w (.cells #[.slice none 0 0, .slice none 0 0, .bool false] 25) (.cells #[.slice (some ⟨w.heap.size + 1 + 1 + 1, 0, none⟩) (32 * K.toNat) (32 * K.toNat), .slice (some ⟨w.heap.size + 1 + 1, 0, none⟩) K.toNat K.toNat, .bool false] 25) (.cells R2 49) (.cells R1 50)
       have h1 : w1.heap[w.heap.size + 1 + 1 + 1]? = some (.cells R1 50 (0, 0)) := by rw [← hw1]; exact hA.2.2.2
       have h2 : w1.heap[w.heap.size + 1 + 1]? = some (.cells R2 49 (0, 0)) := by rw [← hw1]; exact hA.2.2.1
       have g5 : Box3 (w.heap.size + 1) (.slice (some ⟨w.heap.size + 1 + 1 + 1, 0, none⟩) (32 * K.toNat) (32 * K.toNat)) (.slice (some ⟨w.heap.size + 1 + 1, 0, none⟩) K.toNat K.toNat) (.bool false) w1 := box_of_heap (t := 25) (by rw [← hw1]; exact hA.2.1)
       have gR : Box3 w.heap.size (.slice none 0 0) (.slice none 0 0) (.bool false) w1 := box_of_heap (t := 25) (by rw [← hw1]; exact hA.1)
       have hbW : Below w.heap.size w w1 := by rw [← hw1]; go_grown
       have hown := new_own (n := K.toNat) (by omega) (b1 := w.heap.size + 1 + 1 + 1) (b2 := w.heap.size + 1 + 1) (base := w.heap.size + 1) (by omega) (by omega) (by omega) e1'.out e2'.out h1 h2
       clear hA hw1 hm1 hm2 h1 h2 e1' e2'
       obtain ⟨l5, x0, x1, x2, -, -, -⟩ := g5
       obtain ⟨lR, y0, y1, y2, f0, f1, f2⟩ := gR
       go_wp2
       go_loopg [6] 1 (fun g iv wr => iv = .int .i64 0 ∧ g = 1 ∧ wr = w1)
       case atStart => exact ⟨rfl, rfl, rfl⟩
       case round =>
         obtain ⟨rfl, rfl, rfl⟩ := hrel
         go_wp2
         refine bodyPost_ret (by simp [results, Tryd.results12, go_sem, *]; try rfl) rfl ?_
         have hz := ((hown.under (g := w.heap.size) (by omega) 0 (.slice (some ⟨w.heap.size + 1 + 1 + 1, 0, none⟩) (32 * K.toNat) (32 * K.toNat))).under (g := w.heap.size) (by omega) 1 (.slice (some ⟨w.heap.size + 1 + 1, 0, none⟩) K.toNat K.toNat)).under (g := w.heap.size) (by omega) 2 (.bool false)
         exact ⟨_, _, _, _, rfl, hz.at.in, ((hbW.setCell (Nat.le_refl _) _).setCell (Nat.le_refl _) _).setCell (Nat.le_refl _) _⟩)
end Go.Proofs.YtjlflbaglaillaaDoor
