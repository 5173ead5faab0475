import Derived.Test.YtkehankfnkjnlaaGreatDoorV06
import Derived.Test.YtkehankfnkjnlaaGreatDoorV07
namespace Go.Proofs.YtkehankfnkjnlaaGreatDoor
set_option linter.unusedSimpArgs false
set_option linter.unusedVariables false
set_option maxHeartbeats 16000000
set_option maxRecDepth 20000
open Go.ChangeAt Go.ChangeShapes Go.Joins Go.RowKit Go.WideShapes
variable {h : Hp} {w w' W W' : World} {p q : Option Addr} {n g : Nat} {a : Int} {v : Value}
theorem zuv (v : Value) (n : Nat) : (madeCells #[v] n).toList = List.replicate n v := by
 apply List.ext_getElem?
 intro j
 by_cases h : j < n <;> simp [madeCells, h, Nat.mod_one]
theorem zoa : ∀ n : Nat, (madeCells #[.int .i64 0, .int .i64 0, .int .u32 0] (n * 3)).toList = spVals n (fun _ => ⟨0, 0, 0⟩) := by
 intro n
 apply List.ext_getElem?
 intro j
 by_cases h : j < n * 3
 ·obtain ⟨a0, a1, a2⟩ := zb0 (fun _ => (⟨0, 0, 0⟩ : Sp)) (n := n) (i := j / 3) (by omega)
  have hj : j % 3 = 0 ∨ j % 3 = 1 ∨ j % 3 = 2 := by omega
  have e : (madeCells #[.int .i64 0, .int .i64 0, .int .u32 0] (n * 3)).toList[j]? = some ((#[.int .i64 0, .int .i64 0, .int .u32 0] : Array Value)[j % 3]!) := by simp [madeCells, h]
  rcases hj with hj | hj | hj
  ·rw [show j / 3 * 3 = j by omega] at a0; rw [e, hj, a0]; rfl
  ·rw [show j / 3 * 3 + 1 = j by omega] at a1; rw [e, hj, a1]; rfl
  ·rw [show j / 3 * 3 + 2 = j by omega] at a2; rw [e, hj, a2]; rfl
 ·rw [List.getElem?_eq_none (by simp [madeCells]; omega), List.getElem?_eq_none (by rw [zam]; omega)]
theorem zff {R1 R2 : Array Value} (hn : n ≤ 16) {b1 b2 base : Nat} (hb1 : base ≤ b1) (hb2 : base ≤ b2) (hne : b1 ≠ b2) 
  (e1 : R1 = madeCells #[.int .u64 0] (32 * n)) (e2 : R2 = madeCells #[.int .i64 0, .int .i64 0, .int .u32 0] (n * 3))
  (h1 : w.heap[b1]? = some (.cells R1 97 (0, 0))) (h2 : w.heap[b2]? = some (.cells R2 51 (0, 0))) :
  HpOwn w base (some ⟨b1, 0, none⟩) (32 * n) (some ⟨b2, 0, none⟩) n (newH n) where
 words := by
  refine ⟨by rw [zae]; show 32 * n = 32 * n * 1; omega, .inr ⟨b1, 32 * n, R1, rfl, hb1, h1, Nat.le_refl _, by show 32 * n ≤ maxLen; simp only [maxLen]; omega, by rw [e1, size_madeCells]; omega, ?_⟩⟩
  rw [e1, zuv, zh7, List.take_of_length_le (by rw [zae]; show 32 * n ≤ 32 * n * 1; omega)]
  try rfl
 spans := by
  refine ⟨by rw [zam], .inr ⟨b2, n, R2, rfl, hb2, h2, Nat.le_refl _, by simp only [maxLen]; omega, by rw [e2, size_madeCells], ?_⟩⟩
  rw [e2, zoa, List.take_of_length_le (by rw [zam]; try exact Nat.le_refl _)]
  try rfl
 ne := fun b b' e e' => by
  simp [Value.ownBlock] at e e'
  rw [← e, ← e']; exact hne
 wf := zlf n
 nle := by show 32 * n ≤ maxLen; simp only [maxLen]; omega
 mle := by show n ≤ maxLen; simp only [maxLen]; omega
theorem alloc4 (w : World) (o0 o1 o2 o3 : Obj) : ((((w.alloc o0).alloc o1).alloc o2).alloc o3).heap[w.heap.size]? = some o0 ∧ ((((w.alloc o0).alloc o1).alloc o2).alloc o3).heap[w.heap.size + 1]? = some o1 ∧
  ((((w.alloc o0).alloc o1).alloc o2).alloc o3).heap[w.heap.size + 1 + 1]? = some o2 ∧ ((((w.alloc o0).alloc o1).alloc o2).alloc o3).heap[w.heap.size + 1 + 1 + 1]? = some o3 := by
 have n3 := heap_alloc_new (((w.alloc o0).alloc o1).alloc o2) o3
 have n2 := heap_alloc_new ((w.alloc o0).alloc o1) o2
 have n1 := heap_alloc_new (w.alloc o0) o1
 have n0 := heap_alloc_new w o0
 simp only [World.size_alloc] at n1 n2 n3
 refine ⟨?_, ?_, ?_, n3⟩
 ·rw [Below.heap_alloc _ _ _ (by simp; try omega), Below.heap_alloc _ _ _ (by simp; try omega), Below.heap_alloc _ _ _ (by simp)]; exact n0
 ·rw [Below.heap_alloc _ _ _ (by simp; try omega), Below.heap_alloc _ _ _ (by simp)]; exact n1
 ·rw [Below.heap_alloc _ _ _ (by simp)]; exact n2
theorem zas {b : Nat} {x y z : Value} {t : TypeId} (h : w.heap[b]? = some (.cells #[x, y, z] t (0, 0))) : Box3 b x y z w := by
 refine ⟨?_, ?_, ?_, ?_, frozen_of_row w b 0 _ t h, frozen_of_row w b 1 _ t h, frozen_of_row w b 2 _ t h⟩
 ·rcases Nat.lt_or_ge b w.heap.size with h' | h'
  ·exact h'
  ·rw [Array.getElem?_eq_none h'] at h; cases h
 ·rw [cell_of_row w b 0 _ t (0, 0) h]; rfl
 ·rw [cell_of_row w b 1 _ t (0, 0) h]; rfl
 ·rw [cell_of_row w b 2 _ t (0, 0) h]; rfl
theorem zp1 (K : Int) (h1 : 1 ≤ K) (h2 : K ≤ 16) (w : World) :
  (Instr.makeSlice 24 (.int .i64 (32 * K)) (.int .i64 (32 * K))).run Tryz.prog w = .ok (.slice (some ⟨w.heap.size, 0, none⟩) (32 * K.toNat) (32 * K.toNat)) (w.alloc (.cells (madeCells #[.int .u64 0] (32 * K.toNat)) 97)) := by
 obtain ⟨i0, hi, hz0, hz1, hz2⟩ := info_parts infoW
 have := run_make (P := Tryz.prog) w 24 97 i0 (.int .u64 0) Tryz.underlying24 hi hz0 .i64 .i64 (32 * K) (32 * K) (by omega) (by omega) (by rw [hz2]; omega) (by omega)
 rw [hz1, show (32 * K).toNat = 32 * K.toNat by omega, Nat.mul_one] at this
 exact this
theorem zpv (K : Int) (h1 : 1 ≤ K) (h2 : K ≤ 16) (w : World) :
  (Instr.makeSlice 25 (.int .i64 K) (.int .i64 K)).run Tryz.prog w = .ok (.slice (some ⟨w.heap.size, 0, none⟩) K.toNat K.toNat) (w.alloc (.cells (madeCells #[.int .i64 0, .int .i64 0, .int .u32 0] (K.toNat * 3)) 51)) := by
 obtain ⟨i0, hi, hz0, hz1, hz2⟩ := info_parts infoS
 have := run_make (P := Tryz.prog) w 25 51 i0 (.agg #[.int .i64 0, .int .i64 0, .int .u32 0]) Tryz.underlying25 hi hz0 .i64 .i64 K K (by omega) (by omega) (by rw [hz2]; omega) (by omega)
 rw [hz1] at this
 exact this
theorem zt9 (K : Int) (w : World) (h1 : 1 ≤ K) (h2 : K ≤ 16) :
  Calls Tryz.prog 50 #[.int .i64 K, .slice none 0 0] w fun e w' => ∃ p c q d, e = .returned (.agg #[.slice p (32 * K.toNat) c, .slice q K.toNat d, .bool false]) ∧ HpIn w' p (32 * K.toNat) c q K.toNat d false (newH K.toNat) ∧ Below w.heap.size w w' := by
 have hm1 := zp1 K h1 h2
 have hm2 := zpv K h1 h2
 obtain ⟨R1, e1⟩ : ∃ R, R = madeCells #[.int .u64 0] (32 * K.toNat) := ⟨_, rfl⟩
 obtain ⟨R2, e2⟩ : ∃ R, R = madeCells #[.int .i64 0, .int .i64 0, .int .u32 0] (K.toNat * 3) := ⟨_, rfl⟩
 rw [← e1] at hm1
 rw [← e2] at hm2
 have e1' : Hid (R1 = madeCells #[.int .u64 0] (32 * K.toNat)) := e1
 have e2' : Hid (R2 = madeCells #[.int .i64 0, .int .i64 0, .int .u32 0] (K.toNat * 3)) := e2
 clear e1 e2
 go_enter Tryz.func50, Tryz.ntmps50
 go_upto_region 1 with fail
 go_region
 all_goals first
  | (generalize hw1 : World.drew _ = w1
     have hA := alloc4 w (.cells #[.slice none 0 0, .slice none 0 0, .bool false] 27) (.cells R1 97) (.cells R2 51) (.cells #[.slice (some ⟨w.heap.size + 1, 0, none⟩) (32 * K.toNat) (32 * K.toNat), .slice (some ⟨w.heap.size + 1 + 1, 0, none⟩) K.toNat K.toNat, .bool false] 27)
     have h1 : w1.heap[w.heap.size + 1]? = some (.cells R1 97 (0, 0)) := by rw [← hw1]; exact hA.2.1
     have h2 : w1.heap[w.heap.size + 1 + 1]? = some (.cells R2 51 (0, 0)) := by rw [← hw1]; exact hA.2.2.1
     have g5 : Box3 (w.heap.size + 1 + 1 + 1) (.slice (some ⟨w.heap.size + 1, 0, none⟩) (32 * K.toNat) (32 * K.toNat)) (.slice (some ⟨w.heap.size + 1 + 1, 0, none⟩) K.toNat K.toNat) (.bool false) w1 := zas (t := 27) (by rw [← hw1]; exact hA.2.2.2)
     have gR : Box3 w.heap.size (.slice none 0 0) (.slice none 0 0) (.bool false) w1 := zas (t := 27) (by rw [← hw1]; exact hA.1)
     have hbW : Below w.heap.size w w1 := by rw [← hw1]; go_grown
     have hown := zff (n := K.toNat) (by omega) (b1 := w.heap.size + 1) (b2 := w.heap.size + 1 + 1) (base := w.heap.size + 1) (by omega) (by omega) (by omega) e1'.out e2'.out h1 h2
     clear hA hw1 hm1 hm2 h1 h2 e1' e2'
     obtain ⟨l5, x0, x1, x2, -, -, -⟩ := g5
     obtain ⟨lR, y0, y1, y2, f0, f1, f2⟩ := gR
     go_wp2
     go_loopg [6] 1 (fun g iv wr => iv = .int .i64 0 ∧ g = 1 ∧ wr = w1)
     case atStart => exact ⟨rfl, rfl, rfl⟩
     case round =>
      obtain ⟨rfl, rfl, rfl⟩ := hrel
      go_wp2
      refine bodyPost_ret (by simp [results, Tryz.results50, go_sem, *]; try rfl) rfl ?_
      have hz := ((hown.under (g := w.heap.size) (by omega) 0 (.slice (some ⟨w.heap.size + 1, 0, none⟩) (32 * K.toNat) (32 * K.toNat))).under (g := w.heap.size) (by omega) 1 (.slice (some ⟨w.heap.size + 1 + 1, 0, none⟩) K.toNat K.toNat)).under (g := w.heap.size) (by omega) 2 (.bool false)
      exact ⟨_, _, _, _, rfl, hz.at.in, ((hbW.setCell (Nat.le_refl _) _).setCell (Nat.le_refl _) _).setCell (Nat.le_refl _) _⟩)
  | (generalize hw1 : World.drew _ = w1
     have hA := alloc4 w (.cells #[.slice none 0 0, .slice none 0 0, .bool false] 27) (.cells R1 97) (.cells #[.slice (some ⟨w.heap.size + 1, 0, none⟩) (32 * K.toNat) (32 * K.toNat), .slice (some ⟨w.heap.size + 1 + 1 + 1, 0, none⟩) K.toNat K.toNat, .bool false] 27) (.cells R2 51)
     have h1 : w1.heap[w.heap.size + 1]? = some (.cells R1 97 (0, 0)) := by rw [← hw1]; exact hA.2.1
     have h2 : w1.heap[w.heap.size + 1 + 1 + 1]? = some (.cells R2 51 (0, 0)) := by rw [← hw1]; exact hA.2.2.2
     have g5 : Box3 (w.heap.size + 1 + 1) (.slice (some ⟨w.heap.size + 1, 0, none⟩) (32 * K.toNat) (32 * K.toNat)) (.slice (some ⟨w.heap.size + 1 + 1 + 1, 0, none⟩) K.toNat K.toNat) (.bool false) w1 := zas (t := 27) (by rw [← hw1]; exact hA.2.2.1)
     have gR : Box3 w.heap.size (.slice none 0 0) (.slice none 0 0) (.bool false) w1 := zas (t := 27) (by rw [← hw1]; exact hA.1)
     have hbW : Below w.heap.size w w1 := by rw [← hw1]; go_grown
     have hown := zff (n := K.toNat) (by omega) (b1 := w.heap.size + 1) (b2 := w.heap.size + 1 + 1 + 1) (base := w.heap.size + 1) (by omega) (by omega) (by omega) e1'.out e2'.out h1 h2
     clear hA hw1 hm1 hm2 h1 h2 e1' e2'
     obtain ⟨l5, x0, x1, x2, -, -, -⟩ := g5
     obtain ⟨lR, y0, y1, y2, f0, f1, f2⟩ := gR
     go_wp2
     go_loopg [6] 1 (fun g iv wr => iv = .int .i64 0 ∧ g = 1 ∧ wr = w1)
     case atStart => exact ⟨rfl, rfl, rfl⟩
     case round =>
      obtain ⟨rfl, rfl, rfl⟩ := hrel
      go_wp2
      refine bodyPost_ret (by simp [results, Tryz.results50, go_sem, *]; try rfl) rfl ?_
      have hz := ((hown.under (g := w.heap.size) (by omega) 0 (.slice (some ⟨w.heap.size + 1, 0, none⟩) (32 * K.toNat) (32 * K.toNat))).under (g := w.heap.size) (by omega) 1 (.slice (some ⟨w.heap.size + 1 + 1 + 1, 0, none⟩) K.toNat K.toNat)).under (g := w.heap.size) (by omega) 2 (.bool false)
      exact ⟨_, _, _, _, rfl, hz.at.in, ((hbW.setCell (Nat.le_refl _) _).setCell (Nat.le_refl _) _).setCell (Nat.le_refl _) _⟩)
  | (generalize hw1 : World.drew _ = w1
     have hA := alloc4 w (.cells #[.slice none 0 0, .slice none 0 0, .bool false] 27) (.cells R2 51) (.cells R1 97) (.cells #[.slice (some ⟨w.heap.size + 1 + 1, 0, none⟩) (32 * K.toNat) (32 * K.toNat), .slice (some ⟨w.heap.size + 1, 0, none⟩) K.toNat K.toNat, .bool false] 27)
     have h1 : w1.heap[w.heap.size + 1 + 1]? = some (.cells R1 97 (0, 0)) := by rw [← hw1]; exact hA.2.2.1
     have h2 : w1.heap[w.heap.size + 1]? = some (.cells R2 51 (0, 0)) := by rw [← hw1]; exact hA.2.1
     have g5 : Box3 (w.heap.size + 1 + 1 + 1) (.slice (some ⟨w.heap.size + 1 + 1, 0, none⟩) (32 * K.toNat) (32 * K.toNat)) (.slice (some ⟨w.heap.size + 1, 0, none⟩) K.toNat K.toNat) (.bool false) w1 := zas (t := 27) (by rw [← hw1]; exact hA.2.2.2)
     have gR : Box3 w.heap.size (.slice none 0 0) (.slice none 0 0) (.bool false) w1 := zas (t := 27) (by rw [← hw1]; exact hA.1)
     have hbW : Below w.heap.size w w1 := by rw [← hw1]; go_grown
     have hown := zff (n := K.toNat) (by omega) (b1 := w.heap.size + 1 + 1) (b2 := w.heap.size + 1) (base := w.heap.size + 1) (by omega) (by omega) (by omega) e1'.out e2'.out h1 h2
     clear hA hw1 hm1 hm2 h1 h2 e1' e2'
     obtain ⟨l5, x0, x1, x2, -, -, -⟩ := g5
     obtain ⟨lR, y0, y1, y2, f0, f1, f2⟩ := gR
     go_wp2
     go_loopg [6] 1 (fun g iv wr => iv = .int .i64 0 ∧ g = 1 ∧ wr = w1)
     case atStart => exact ⟨rfl, rfl, rfl⟩
     case round =>
      obtain ⟨rfl, rfl, rfl⟩ := hrel
      go_wp2
      refine bodyPost_ret (by simp [results, Tryz.results50, go_sem, *]; try rfl) rfl ?_
      have hz := ((hown.under (g := w.heap.size) (by omega) 0 (.slice (some ⟨w.heap.size + 1 + 1, 0, none⟩) (32 * K.toNat) (32 * K.toNat))).under (g := w.heap.size) (by omega) 1 (.slice (some ⟨w.heap.size + 1, 0, none⟩) K.toNat K.toNat)).under (g := w.heap.size) (by omega) 2 (.bool false)
      exact ⟨_, _, _, _, rfl, hz.at.in, ((hbW.setCell (Nat.le_refl _) _).setCell (Nat.le_refl _) _).setCell (Nat.le_refl _) _⟩)
  | (generalize hw1 : World.drew _ = w1
     have hA := alloc4 w (.cells #[.slice none 0 0, .slice none 0 0, .bool false] 27) (.cells #[.slice (some ⟨w.heap.size + 1 + 1, 0, none⟩) (32 * K.toNat) (32 * K.toNat), .slice (some ⟨w.heap.size + 1 + 1 + 1, 0, none⟩) K.toNat K.toNat, .bool false] 27) (.cells R1 97) (.cells R2 51)
     have h1 : w1.heap[w.heap.size + 1 + 1]? = some (.cells R1 97 (0, 0)) := by rw [← hw1]; exact hA.2.2.1
     have h2 : w1.heap[w.heap.size + 1 + 1 + 1]? = some (.cells R2 51 (0, 0)) := by rw [← hw1]; exact hA.2.2.2
     have g5 : Box3 (w.heap.size + 1) (.slice (some ⟨w.heap.size + 1 + 1, 0, none⟩) (32 * K.toNat) (32 * K.toNat)) (.slice (some ⟨w.heap.size + 1 + 1 + 1, 0, none⟩) K.toNat K.toNat) (.bool false) w1 := zas (t := 27) (by rw [← hw1]; exact hA.2.1)
     have gR : Box3 w.heap.size (.slice none 0 0) (.slice none 0 0) (.bool false) w1 := zas (t := 27) (by rw [← hw1]; exact hA.1)
     have hbW : Below w.heap.size w w1 := by rw [← hw1]; go_grown
     have hown := zff (n := K.toNat) (by omega) (b1 := w.heap.size + 1 + 1) (b2 := w.heap.size + 1 + 1 + 1) (base := w.heap.size + 1) (by omega) (by omega) (by omega) e1'.out e2'.out h1 h2
     clear hA hw1 hm1 hm2 h1 h2 e1' e2'
     obtain ⟨l5, x0, x1, x2, -, -, -⟩ := g5
     obtain ⟨lR, y0, y1, y2, f0, f1, f2⟩ := gR
     go_wp2
     go_loopg [6] 1 (fun g iv wr => iv = .int .i64 0 ∧ g = 1 ∧ wr = w1)
     case atStart => exact ⟨rfl, rfl, rfl⟩
     case round =>
      obtain ⟨rfl, rfl, rfl⟩ := hrel
      go_wp2
      refine bodyPost_ret (by simp [results, Tryz.results50, go_sem, *]; try rfl) rfl ?_
      have hz := ((hown.under (g := w.heap.size) (by omega) 0 (.slice (some ⟨w.heap.size + 1 + 1, 0, none⟩) (32 * K.toNat) (32 * K.toNat))).under (g := w.heap.size) (by omega) 1 (.slice (some ⟨w.heap.size + 1 + 1 + 1, 0, none⟩) K.toNat K.toNat)).under (g := w.heap.size) (by omega) 2 (.bool false)
      exact ⟨_, _, _, _, rfl, hz.at.in, ((hbW.setCell (Nat.le_refl _) _).setCell (Nat.le_refl _) _).setCell (Nat.le_refl _) _⟩)
  | (generalize hw1 : World.drew _ = w1
     have hA := alloc4 w (.cells #[.slice none 0 0, .slice none 0 0, .bool false] 27) (.cells R2 51) (.cells #[.slice (some ⟨w.heap.size + 1 + 1 + 1, 0, none⟩) (32 * K.toNat) (32 * K.toNat), .slice (some ⟨w.heap.size + 1, 0, none⟩) K.toNat K.toNat, .bool false] 27) (.cells R1 97)
     have h1 : w1.heap[w.heap.size + 1 + 1 + 1]? = some (.cells R1 97 (0, 0)) := by rw [← hw1]; exact hA.2.2.2
     have h2 : w1.heap[w.heap.size + 1]? = some (.cells R2 51 (0, 0)) := by rw [← hw1]; exact hA.2.1
     have g5 : Box3 (w.heap.size + 1 + 1) (.slice (some ⟨w.heap.size + 1 + 1 + 1, 0, none⟩) (32 * K.toNat) (32 * K.toNat)) (.slice (some ⟨w.heap.size + 1, 0, none⟩) K.toNat K.toNat) (.bool false) w1 := zas (t := 27) (by rw [← hw1]; exact hA.2.2.1)
     have gR : Box3 w.heap.size (.slice none 0 0) (.slice none 0 0) (.bool false) w1 := zas (t := 27) (by rw [← hw1]; exact hA.1)
     have hbW : Below w.heap.size w w1 := by rw [← hw1]; go_grown
     have hown := zff (n := K.toNat) (by omega) (b1 := w.heap.size + 1 + 1 + 1) (b2 := w.heap.size + 1) (base := w.heap.size + 1) (by omega) (by omega) (by omega) e1'.out e2'.out h1 h2
     clear hA hw1 hm1 hm2 h1 h2 e1' e2'
     obtain ⟨l5, x0, x1, x2, -, -, -⟩ := g5
     obtain ⟨lR, y0, y1, y2, f0, f1, f2⟩ := gR
     go_wp2
     go_loopg [6] 1 (fun g iv wr => iv = .int .i64 0 ∧ g = 1 ∧ wr = w1)
     case atStart => exact ⟨rfl, rfl, rfl⟩
     case round =>
      obtain ⟨rfl, rfl, rfl⟩ := hrel
      go_wp2
      refine bodyPost_ret (by simp [results, Tryz.results50, go_sem, *]; try rfl) rfl ?_
      have hz := ((hown.under (g := w.heap.size) (by omega) 0 (.slice (some ⟨w.heap.size + 1 + 1 + 1, 0, none⟩) (32 * K.toNat) (32 * K.toNat))).under (g := w.heap.size) (by omega) 1 (.slice (some ⟨w.heap.size + 1, 0, none⟩) K.toNat K.toNat)).under (g := w.heap.size) (by omega) 2 (.bool false)
      exact ⟨_, _, _, _, rfl, hz.at.in, ((hbW.setCell (Nat.le_refl _) _).setCell (Nat.le_refl _) _).setCell (Nat.le_refl _) _⟩)
  | (generalize hw1 : World.drew _ = w1
     have hA := alloc4 w (.cells #[.slice none 0 0, .slice none 0 0, .bool false] 27) (.cells #[.slice (some ⟨w.heap.size + 1 + 1 + 1, 0, none⟩) (32 * K.toNat) (32 * K.toNat), .slice (some ⟨w.heap.size + 1 + 1, 0, none⟩) K.toNat K.toNat, .bool false] 27) (.cells R2 51) (.cells R1 97)
     have h1 : w1.heap[w.heap.size + 1 + 1 + 1]? = some (.cells R1 97 (0, 0)) := by rw [← hw1]; exact hA.2.2.2
     have h2 : w1.heap[w.heap.size + 1 + 1]? = some (.cells R2 51 (0, 0)) := by rw [← hw1]; exact hA.2.2.1
     have g5 : Box3 (w.heap.size + 1) (.slice (some ⟨w.heap.size + 1 + 1 + 1, 0, none⟩) (32 * K.toNat) (32 * K.toNat)) (.slice (some ⟨w.heap.size + 1 + 1, 0, none⟩) K.toNat K.toNat) (.bool false) w1 := zas (t := 27) (by rw [← hw1]; exact hA.2.1)
     have gR : Box3 w.heap.size (.slice none 0 0) (.slice none 0 0) (.bool false) w1 := zas (t := 27) (by rw [← hw1]; exact hA.1)
     have hbW : Below w.heap.size w w1 := by rw [← hw1]; go_grown
     have hown := zff (n := K.toNat) (by omega) (b1 := w.heap.size + 1 + 1 + 1) (b2 := w.heap.size + 1 + 1) (base := w.heap.size + 1) (by omega) (by omega) (by omega) e1'.out e2'.out h1 h2
     clear hA hw1 hm1 hm2 h1 h2 e1' e2'
     obtain ⟨l5, x0, x1, x2, -, -, -⟩ := g5
     obtain ⟨lR, y0, y1, y2, f0, f1, f2⟩ := gR
     go_wp2
     go_loopg [6] 1 (fun g iv wr => iv = .int .i64 0 ∧ g = 1 ∧ wr = w1)
     case atStart => exact ⟨rfl, rfl, rfl⟩
     case round =>
      obtain ⟨rfl, rfl, rfl⟩ := hrel
      go_wp2
      refine bodyPost_ret (by simp [results, Tryz.results50, go_sem, *]; try rfl) rfl ?_
      have hz := ((hown.under (g := w.heap.size) (by omega) 0 (.slice (some ⟨w.heap.size + 1 + 1 + 1, 0, none⟩) (32 * K.toNat) (32 * K.toNat))).under (g := w.heap.size) (by omega) 1 (.slice (some ⟨w.heap.size + 1 + 1, 0, none⟩) K.toNat K.toNat)).under (g := w.heap.size) (by omega) 2 (.bool false)
      exact ⟨_, _, _, _, rfl, hz.at.in, ((hbW.setCell (Nat.le_refl _) _).setCell (Nat.le_refl _) _).setCell (Nat.le_refl _) _⟩)
def ownOps (s h d : Nat) (pos : String) : List Oper :=
 [{ dst := some s, op := .buildSlice 24 0 #[], type := 24, pos := pos, after := #[], guard := none },
  { dst := some (s + 1), op := .fieldAddr 27 (.tmp h) 0, type := 0, pos := pos, after := #[], guard := none },
  { dst := some (s + 2), op := .load 24 (.tmp (s + 1)), type := 24, pos := pos, after := #[{ on := 1, ground := .data }], guard := none },
  { dst := some (s + 3), op := .call { callee := .builtin .append, args := #[.tmp s, .tmp (s + 2)], argTypes := #[24, 24] }, type := 24, pos := pos, after := #[{ on := 0, ground := .data }, { on := 2, ground := .data }], guard := none },
  { dst := some (s + 4), op := .buildSlice 25 0 #[], type := 25, pos := pos, after := #[], guard := none },
  { dst := some (s + 5), op := .fieldAddr 27 (.tmp h) 1, type := 0, pos := pos, after := #[], guard := none },
  { dst := some (s + 6), op := .load 25 (.tmp (s + 5)), type := 25, pos := pos, after := #[{ on := 5, ground := .data }], guard := none },
  { dst := some (s + 7), op := .call { callee := .builtin .append, args := #[.tmp (s + 4), .tmp (s + 6)], argTypes := #[25, 25] }, type := 25, pos := pos, after := #[{ on := 4, ground := .data }, { on := 6, ground := .data }, { on := 3, ground := .chain }], guard := none },
  { dst := some (s + 8), op := .fieldAddr 27 (.tmp h) 2, type := 0, pos := pos, after := #[], guard := none },
  { dst := some (s + 9), op := .load 4 (.tmp (s + 8)), type := 4, pos := pos, after := #[{ on := 8, ground := .data }], guard := none },
  { dst := some (s + 10), op := .build 27 #[(0, .tmp (s + 3)), (1, .tmp (s + 7)), (2, .tmp (s + 9))], type := 27, pos := pos, after := #[{ on := 3, ground := .data }, { on := 7, ground := .data }, { on := 9, ground := .data }], guard := none },
  { dst := some d, op := .alloc 27, type := 0, pos := pos, after := #[], guard := none },
  { dst := none, op := .store 27 (.tmp d) (.tmp (s + 10)), type := 0, pos := pos, after := #[{ on := 11, ground := .data }, { on := 10, ground := .data }, { on := 7, ground := .chain }, { on := 0, ground := .phase }, { on := 1, ground := .phase }, { on := 2, ground := .phase }, { on := 3, ground := .phase }, { on := 4, ground := .phase }, { on := 5, ground := .phase }, { on := 6, ground := .phase }, { on := 7, ground := .phase }, { on := 8, ground := .phase }, { on := 9, ground := .phase }, { on := 10, ground := .phase }, { on := 11, ground := .phase }], guard := none }]
def ownSlots (s d : Nat) : List Nat := [s, s + 1, s + 2, s + 3, s + 4, s + 5, s + 6, s + 7, s + 8, s + 9, s + 10, d]
def ownPhi (B : Nat) (N : Nat) (p : Option Addr) (c : Nat) (q : Option Addr) (d : Nat) (h : Hp) : Nat → Value → World → Prop
 | 0, v, _ => ∃ ao, v = .slice ao 0 0
 | 1, v, _ => v = .pointer (some ⟨B, 0, none⟩)
 | 2, v, _ => v = .slice p h.n c
 | 3, v, w => w.ownsRow N 97 1 v h.n (vals .u64 h.n h.z)
 | 4, v, _ => ∃ ao, v = .slice ao 0 0
 | 5, v, _ => v = .pointer (some ⟨B, 1, none⟩)
 | 6, v, _ => v = .slice q h.m d
 | 7, v, w => w.ownsRow N 51 3 v h.m (spVals h.m h.s)
 | 8, v, _ => v = .pointer (some ⟨B, 2, none⟩)
 | 9, v, _ => v = .bool h.b
 | 10, v, w => ∃ v1 v2, v = .agg #[v1, v2, .bool h.b] ∧ w.ownsRow N 97 1 v1 h.n (vals .u64 h.n h.z) ∧ w.ownsRow N 51 3 v2 h.m (spVals h.m h.s)
 | 11, v, w => ∃ g, v = .pointer (some ⟨g, 0, none⟩) ∧ N ≤ g ∧ w.heap[g]? = some (.cells #[.slice none 0 0, .slice none 0 0, .bool false] 27 (0, 0))
 | _, _, _ => True
theorem zk0 {B N : Nat} {c : Nat} {d : Nat} (i : Nat) (v : Value) (w w' : World) (hp : ownPhi B N p c q d h i v w) (hb : Below w.heap.size w w') : ownPhi B N p c q d h i v w' := by
 match i, hp with
 | 0, hp => exact hp
 | 1, hp => exact hp
 | 2, hp => exact hp
 | 3, hp => exact zaa hp hb
 | 4, hp => exact hp
 | 5, hp => exact hp
 | 6, hp => exact hp
 | 7, hp => exact zaa hp hb
 | 8, hp => exact hp
 | 9, hp => exact hp
 | 10, ⟨v1, v2, e, h1, h2⟩ => exact ⟨v1, v2, e, zaa h1 hb, zaa h2 hb⟩
 | 11, ⟨g, e, hg, h1⟩ =>
  refine ⟨g, e, hg, ?_⟩
  rw [hb.block g ?_]
  ·exact h1
  ·rcases Nat.lt_or_ge g w.heap.size with h' | h'
   ·exact h'
   ·rw [Array.getElem?_eq_none h'] at h1; cases h1
 | _ + 12, _ => trivial
theorem Spans.cells {s : Nat → Sp} (h : Spans w p n s) (h0 : 0 < n) : ∃ ad, p = some ad ∧ ∀ j v, (spVals n s)[j]? = some v → w.cell? (ad.add j) = some v := by
 obtain ⟨⟨b, off, e, -, -⟩, -⟩ := h 0 h0
 refine ⟨_, e, fun j v hv => ?_⟩
 have hj : j < n * 3 := by
  have := (List.getElem?_eq_some_iff.1 hv).1
  rwa [zam] at this
 obtain ⟨⟨b', off', e', -, c0, c1, c2⟩, -⟩ := h (j / 3) (by omega)
 rw [e] at e'
 injection e' with e'
 injection e' with e1 e2
 subst e1 e2
 obtain ⟨a0, a1, a2⟩ := zb0 s (n := n) (i := j / 3) (by omega)
 rw [ze2]
 have hr : j % 3 = 0 ∨ j % 3 = 1 ∨ j % 3 = 2 := by omega
 rcases hr with hr | hr | hr
 ·rw [show j / 3 * 3 = j by omega] at a0 c0
  rw [c0, ← a0]; exact hv
 ·rw [show j / 3 * 3 + 1 = j by omega] at a1
  rw [show off + j / 3 * 3 + 1 = off + j by omega] at c1
  rw [c1, ← a1]; exact hv
 ·rw [show j / 3 * 3 + 2 = j by omega] at a2
  rw [show off + j / 3 * 3 + 2 = off + j by omega] at c2
  rw [c2, ← a2]; exact hv
theorem zfo (n : Nat) (s : Nat → Sp) : ∀ u ∈ spVals n s, u.oneCell' = true := by
 intro u hu
 simp only [spVals, List.mem_flatMap] at hu
 obtain ⟨i, -, hu⟩ := hu
 exact zk2 _ u hu
theorem zvs (s h' d' : Nat) (pos : String) {B : Nat} {c : Nat} {d : Nat} {a : Act} {Q : Exit → Act → World → Prop} (hF : formB h = true) (hh : HpAt W p c q d h) (hbx : Box3 B (.slice p h.n c) (.slice q h.m d) (.bool h.b) W) (ha : a.tmps.getD h' undef = .pointer (some ⟨B, 0, none⟩)) (hh' : h' ∉ ownSlots s d') :
  ∀ i o, i < 12 → (ownOps s h' d' pos).toArray[i]? = some o → ∀ (a' : Act) (w' : World), Below W.heap.size W w' → (∀ t, t ∉ ownSlots s d' → a'.tmps.getD t undef = a.tmps.getD t undef) →
   (∀ j x, j < 12 → (ownSlots s d')[j]? = some x → (o.after.any fun e => Region.binds .any e && e.on == j) = true → ownPhi B W.heap.size p c q d h j (a'.tmps.getD x undef) w') →
   ∀ K : Act → World → Prop, (∀ v w'', Below w'.heap.size w' w'' → ownPhi B W.heap.size p c q d h i v w'' → K (a'.put o.dst v) w'') → o.wp Tryz.prog a' w' K Q := by
 intro i o hi ho a' w' hb hsame hdep K hK
 have hptr : a'.tmps.getD h' undef = .pointer (some ⟨B, 0, none⟩) := (hsame h' hh').trans ha
 have hat := hh.below hb
 have hbx' := hbx.below hb
 obtain ⟨lB, k0, k1, k2, -, -, -⟩ := hbx'
 obtain ⟨m1, m16, hnH, -⟩ := zad.1 hF
 replace hnH : Hid (h.n = 32 * h.m) := hnH
 have dep : ∀ (j x : Nat), j < 12 → (ownSlots s d')[j]? = some x → (o.after.any fun e => Region.binds .any e && e.on == j) = true → ownPhi B W.heap.size p c q d h j (a'.tmps[x]?.getD undef) w' := fun j x h1 h2 h3 => by
  have := hdep j x h1 h2 h3
  rwa [Array.getD_eq_getD_getElem?] at this
 clear hdep hsame ha hh hbx
 match i, hi with
 | 0, _ =>
  simp [ownOps] at ho
  subst ho
  unfold Oper.wp
  go_simp
  exact hK _ _ (zr.alloc (Nat.le_refl _) _) ⟨_, rfl⟩
 | 1, _ =>
  simp [ownOps] at ho
  subst ho
  unfold Oper.wp
  go_simp
  exact hK _ _ zr rfl
 | 2, _ =>
  simp [ownOps] at ho
  subst ho
  have e1 : a'.tmps[s + 1]?.getD undef = .pointer (some ⟨B, 0, none⟩) := dep 1 (s + 1) (by decide) rfl (by simp [Region.binds])
  unfold Oper.wp
  go_simp
  exact hK _ _ zr rfl
 | 3, _ =>
  simp [ownOps] at ho
  subst ho
  have hn := hnH.out
  obtain ⟨ao, e0⟩ : ∃ ao, a'.tmps[s]?.getD undef = .slice ao 0 0 := dep 0 (s) (by decide) rfl (by simp [Region.binds])
  have e2 : a'.tmps[s + 2]?.getD undef = .slice p h.n c := dep 2 (s + 2) (by decide) rfl (by simp [Region.binds])
  obtain ⟨ad, rfl, hcell⟩ := hat.ints.cells (by omega)
  obtain ⟨i0, hi0, hz0, hz1, hz2⟩ := info_parts infoW
  refine zc2 rfl (step_append_grows rfl (.tmp (s)) (.tmp (s + 2)) 24 rfl 97 i0 (.int .u64 0) 1 8 Tryz.underlying24 hi0 hz0 hz1 hz2 rfl (by decide) ao 0 0 [] (by rw [← e0]; simp [Act.eval]) (fun _ => ⟨rfl, rfl⟩) rfl (fun b _ j u hj => by simp at hj) ad h.n c (vals .u64 h.n h.z) (by rw [← e2]; simp [Act.eval]) (by simp [zae]) hcell (zcb _ _ _) (by omega) (by simp only [maxLen]; omega) (by omega) ?_)
  intro v' w'' hown hgrow
  rw [Nat.zero_add, List.nil_append] at hown
  exact hK _ _ (zr.grown hgrow (Nat.le_refl _) (by intro k hk; cases hk)) (zag hown hb.size)
 | 4, _ =>
  simp [ownOps] at ho
  subst ho
  unfold Oper.wp
  go_simp
  exact hK _ _ (zr.alloc (Nat.le_refl _) _) ⟨_, rfl⟩
 | 5, _ =>
  simp [ownOps] at ho
  subst ho
  unfold Oper.wp
  go_simp
  exact hK _ _ zr rfl
 | 6, _ =>
  simp [ownOps] at ho
  subst ho
  have e1 : a'.tmps[s + 5]?.getD undef = .pointer (some ⟨B, 1, none⟩) := dep 5 (s + 5) (by decide) rfl (by simp [Region.binds])
  unfold Oper.wp
  go_simp
  exact hK _ _ zr rfl
 | 7, _ =>
  simp [ownOps] at ho
  subst ho
  have hn := hnH.out
  obtain ⟨ao, e0⟩ : ∃ ao, a'.tmps[s + 4]?.getD undef = .slice ao 0 0 := dep 4 (s + 4) (by decide) rfl (by simp [Region.binds])
  have e2 : a'.tmps[s + 6]?.getD undef = .slice q h.m d := dep 6 (s + 6) (by decide) rfl (by simp [Region.binds])
  obtain ⟨ad, rfl, hcell⟩ := hat.spans.cells (by omega)
  obtain ⟨i0, hi0, hz0, hz1, hz2⟩ := info_parts infoS
  refine zc2 rfl (step_append_grows rfl (.tmp (s + 4)) (.tmp (s + 6)) 25 rfl 51 i0 (.agg #[.int .i64 0, .int .i64 0, .int .u32 0]) 3 24 Tryz.underlying25 hi0 hz0 hz1 hz2 rfl (by decide) ao 0 0 [] (by rw [← e0]; simp [Act.eval]) (fun _ => ⟨rfl, rfl⟩) rfl (fun b _ j u hj => by simp at hj) ad h.m d (spVals h.m h.s) (by rw [← e2]; simp [Act.eval]) (by simp [zam]) hcell (zfo _ _) (by omega) (by simp only [maxLen]; omega) (by omega) ?_)
  intro v' w'' hown hgrow
  rw [Nat.zero_add, List.nil_append] at hown
  exact hK _ _ (zr.grown hgrow (Nat.le_refl _) (by intro k hk; cases hk)) (zag hown hb.size)
 | 8, _ =>
  simp [ownOps] at ho
  subst ho
  unfold Oper.wp
  go_simp
  exact hK _ _ zr rfl
 | 9, _ =>
  simp [ownOps] at ho
  subst ho
  have e1 : a'.tmps[s + 8]?.getD undef = .pointer (some ⟨B, 2, none⟩) := dep 8 (s + 8) (by decide) rfl (by simp [Region.binds])
  unfold Oper.wp
  go_simp
  exact hK _ _ zr rfl
 | 10, _ =>
  simp [ownOps] at ho
  subst ho
  have o1 : w'.ownsRow W.heap.size 97 1 (a'.tmps[s + 3]?.getD undef) h.n (vals .u64 h.n h.z) := dep 3 (s + 3) (by decide) rfl (by simp [Region.binds])
  have o2 : w'.ownsRow W.heap.size 51 3 (a'.tmps[s + 7]?.getD undef) h.m (spVals h.m h.s) := dep 7 (s + 7) (by decide) rfl (by simp [Region.binds])
  have e9 : a'.tmps[s + 9]?.getD undef = .bool h.b := dep 9 (s + 9) (by decide) rfl (by simp [Region.binds])
  obtain ⟨p1, c1, e1, -⟩ := zaf o1
  obtain ⟨q1, d1, e2, -⟩ := zaf o2
  rw [e1] at o1
  rw [e2] at o2
  unfold Oper.wp
  go_simp
  exact hK _ _ zr ⟨_, _, rfl, o1, o2⟩
 | 11, _ =>
  simp [ownOps] at ho
  subst ho
  unfold Oper.wp
  go_simp
  exact hK _ _ (zr.alloc (Nat.le_refl _) _) ⟨w'.heap.size, rfl, hb.size, heap_alloc_new _ _⟩
theorem zau {base : Nat} {e : TypeId} {size : Nat} {xs : List Value} (h : w.ownsRow base e size v n xs) {b : Nat} (hb : v.ownBlock = some b) : ∃ cur, w.heap[b]? = some (.cells cur e (0, 0)) := by
 rcases h.2 with ⟨hv, -⟩ | ⟨g, cap', cur, hv, -, hg, -⟩
 ·rw [hv] at hb; cases hb
 ·rw [hv] at hb
  injection hb with hb
  subst hb
  exact ⟨cur, hg⟩
theorem zx3 {id s h' d' : Nat} {pos : String} {B : Nat} {c : Nat} {d : Nat} {a : Act} {Q : Exit → Act → World → Prop} (hm : Tryz.prog.follows .mixedOrders = true) 
  (h1 : h' < s) (h2 : d' < s) (h3 : h' ≠ d') (h4 : s + 10 < a.tmps.size) (hF : formB h = true) (hh : HpAt W p c q d h) (hbx : Box3 B (.slice p h.n c) (.slice q h.m d) (.bool h.b) W) (ha : a.tmps.getD h' undef = .pointer (some ⟨B, 0, none⟩))
  (hK : ∀ x0 x1 x2 x3 x4 x5 x6 x7 x8 x9 x10 g p' c' q' d'' w', HpOwn w' W.heap.size p' c' q' d'' h → Box3 g (.slice p' h.n c') (.slice q' h.m d'') (.bool h.b) w' → W.heap.size ≤ g → (Value.slice p' h.n c').ownBlock ≠ some g → (Value.slice q' h.m d'').ownBlock ≠ some g → Below W.heap.size W w' →
   Q .normal (puts [s, s + 1, s + 2, s + 3, s + 4, s + 5, s + 6, s + 7, s + 8, s + 9, s + 10, d'] [x0, x1, x2, x3, x4, x5, x6, x7, x8, x9, x10, .pointer (some ⟨g, 0, none⟩)] a) w') :
  (Code.region id (ownOps s h' d' pos).toArray true).wp Tryz.prog Q a W := by
 have hmem : h' ∉ ownSlots s d' := by simp [ownSlots]; omega
 refine zb3 12 (ownSlots s d') (ownPhi B W.heap.size p c q d h) hm (by kernel_rfl) (by kernel_rfl) (by simp [ownOps]) (by kernel_rfl) (by kernel_rfl) rfl rfl (by simp [ownSlots]; omega) (by simp [ownSlots]; omega) zk0 (zvs s h' d' pos hF hh hbx ha hmem) ?_
 intro a' w' hb hdf hsz hsame hf
 have f (i x : Nat) (hi : i < 12) (hx : (ownSlots s d')[i]? = some x) : ownPhi B W.heap.size p c q d h i (a'.tmps.getD x undef) w' := hf i x hi hx
 obtain ⟨g, e7, hg, hgh⟩ := f 11 d' (by decide) rfl
 obtain ⟨v1, v2, e10, o1, o2⟩ := f 10 (s + 10) (by decide) rfl
 obtain ⟨p1, c1, rfl, -⟩ := zaf o1
 obtain ⟨q1, d1, rfl, -⟩ := zaf o2
 have hbox := zas hgh
 have n1 : (Value.slice p1 h.n c1).ownBlock ≠ some g := fun e => by
  obtain ⟨cur, hc⟩ := zau o1 e
  rw [hgh] at hc; injection hc with hc; injection hc with _ hc; revert hc; decide
 have n2 : (Value.slice q1 h.m d1).ownBlock ≠ some g := fun e => by
  obtain ⟨cur, hc⟩ := zau o2 e
  rw [hgh] at hc; injection hc with hc; injection hc with _ hc; revert hc; decide
 have hne : ∀ b b', (Value.slice p1 h.n c1).ownBlock = some b → (Value.slice q1 h.m d1).ownBlock = some b' → b ≠ b' := fun b b' e e' eb => by
  subst eb
  obtain ⟨cur, hc⟩ := zau o1 e
  obtain ⟨cur', hc'⟩ := zau o2 e'
  rw [hc] at hc'; injection hc' with hc'; injection hc' with _ hc'; revert hc'; decide
 have hown : HpOwn w' W.heap.size p1 c1 q1 d1 h := ⟨o1, o2, hne, hh.wf, hh.nle, hh.mle⟩
 have e7' : a'.tmps[d']?.getD undef = .pointer (some ⟨g, 0, none⟩) := by rw [← Array.getD_eq_getD_getElem?]; exact e7
 have e10' : a'.tmps[s + 10]?.getD undef = .agg #[.slice p1 h.n c1, .slice q1 h.m d1, .bool h.b] := by rw [← Array.getD_eq_getD_getElem?]; exact e10
 have hputs := zc9 (ownSlots s d') a hdf hsz (by simp [ownSlots]; omega) hsame
 simp only [ownSlots, List.map_cons, List.map_nil, e7] at hputs
 have hQ := hK (a'.tmps.getD s undef) (a'.tmps.getD (s + 1) undef) (a'.tmps.getD (s + 2) undef) (a'.tmps.getD (s + 3) undef) (a'.tmps.getD (s + 4) undef) (a'.tmps.getD (s + 5) undef) (a'.tmps.getD (s + 6) undef) (a'.tmps.getD (s + 7) undef) (a'.tmps.getD (s + 8) undef) (a'.tmps.getD (s + 9) undef) (a'.tmps.getD (s + 10) undef) g p1 c1 q1 d1 _ ((hown.other n1 n2 0 (.slice p1 h.n c1)).other n1 n2 1 (.slice q1 h.m d1) |>.other n1 n2 2 (.bool h.b)) (hbox.stores _ _ _) hg n1 n2 (zav hb hg _ _ _)
 rw [← hputs] at hQ
 obtain ⟨lg, k0, k1, k2, f0, f1, f2⟩ := hbox
 clear hf f e7 e10 hK hputs hsame h4 hsz
 simp only [ownOps, List.drop_succ_cons, List.drop_zero]
 refine wpList_plain rfl fun K hK' => ?_
 have hK2 := hK' a' _ (show wpList _ _ Q [] a' _ from hQ)
 clear hK' hQ
 unfold Oper.wp
 go_simp
 exact hK2
theorem Box3.aside {T : Nat → Prop} {b : Nat} {x y z : Value} (h : Box3 b x y z W) (ha : Aside T W W') (hT : ¬ T b) : Box3 b x y z W' := by
 obtain ⟨l, c0, c1, c2, f0, f1, f2⟩ := h
 have hb := ha.block b l hT
 exact ⟨Nat.lt_of_lt_of_le l ha.size, by rw [World.cell?_of_block (w := W) (a := ⟨b, 0, none⟩) hb]; exact c0, by rw [World.cell?_of_block (w := W) (a := ⟨b, 1, none⟩) hb]; exact c1, by rw [World.cell?_of_block (w := W) (a := ⟨b, 2, none⟩) hb]; exact c2,
  by rw [World.frozen?_of_block (w := W) (a := ⟨b, 0, none⟩) hb]; exact f0, by rw [World.frozen?_of_block (w := W) (a := ⟨b, 1, none⟩) hb]; exact f1, by rw [World.frozen?_of_block (w := W) (a := ⟨b, 2, none⟩) hb]; exact f2⟩
theorem Spans.aside {T : Nat → Prop} {s : Nat → Sp} (h : Spans W p n s) (ha : Aside T W W') (hT : ∀ g, T g → ∀ b off sp, p = some ⟨b, off, sp⟩ → b ≠ g) : Spans W' p n s := fun i hi => by
 obtain ⟨⟨b, off, e, hlt, h0, h1, h2⟩, hw⟩ := h i hi
 have hb := ha.block b hlt fun t => hT b t b off none e rfl
 exact ⟨⟨b, off, e, Nat.lt_of_lt_of_le hlt ha.size, by rw [World.cell?_of_block (w := W) (a := ⟨b, _, none⟩) hb]; exact h0, by rw [World.cell?_of_block (w := W) (a := ⟨b, _, none⟩) hb]; exact h1, by rw [World.cell?_of_block (w := W) (a := ⟨b, _, none⟩) hb]; exact h2⟩, hw⟩
theorem HpAt.aside {T : Nat → Prop} {c : Nat} {d : Nat} (hh : HpAt W p c q d h) (ha : Aside T W W') (hT : ∀ g, T g → Clear g p q) : HpAt W' p c q d h :=
 ⟨hh.ints.aside ha fun g t => (hT g t).1, hh.spans.aside ha fun g t => (hT g t).2, hh.nle, hh.mle, hh.pnil, hh.qnil, hh.ncap, hh.mcap⟩
theorem zfc (s : Nat → Sp) {n j : Nat} (h : j < n * 3) : (spVals n s)[j]? = some (if j % 3 = 0 then .int .i64 (s (j / 3)).st else if j % 3 = 1 then .int .i64 (s (j / 3)).cl else .int .u32 (s (j / 3)).fr) := by
 obtain ⟨a0, a1, a2⟩ := zb0 s (n := n) (i := j / 3) (by omega)
 have hr : j % 3 = 0 ∨ j % 3 = 1 ∨ j % 3 = 2 := by omega
 rcases hr with hr | hr | hr
 ·rw [show j / 3 * 3 = j by omega] at a0; rw [a0, if_pos hr]
 ·rw [show j / 3 * 3 + 1 = j by omega] at a1; rw [a1, if_neg (by omega), if_pos hr]
 ·rw [show j / 3 * 3 + 2 = j by omega] at a2; rw [a2, if_neg (by omega), if_neg (by omega)]
theorem zoq (s : Nat → Sp) {i : Int} (h0 : 0 ≤ i) (h : i < n) (x : Sp) :
  (((spVals n s).set (i.toNat * 3) (.int .i64 x.st)).set (i.toNat * 3 + 1) (.int .i64 x.cl)).set (i.toNat * 3 + 2) (.int .u32 x.fr) = spVals n (setS s i x) := by
 apply List.ext_getElem?
 intro j
 by_cases hj : j < n * 3
 ·rw [zfc _ hj]
  simp only [List.getElem?_set, List.length_set, zam, zfc s hj]
  unfold setS
  by_cases e2 : i.toNat * 3 + 2 = j
  ·rw [if_pos e2, if_pos (by omega), if_neg (by omega), if_neg (by omega), if_pos (by omega)]
  ·rw [if_neg e2]
   by_cases e1 : i.toNat * 3 + 1 = j
   ·rw [if_pos e1, if_pos (by omega), if_neg (by omega), if_pos (by omega), if_pos (by omega)]
   ·rw [if_neg e1]
    by_cases e0 : i.toNat * 3 = j
    ·rw [if_pos e0, if_pos (by omega), if_pos (by omega), if_pos (by omega)]
    ·rw [if_neg e0, if_neg (show ¬ ((j / 3 : Nat) : Int) = i by omega)]
 ·rw [List.getElem?_eq_none (by simp [zam]; omega), List.getElem?_eq_none (by rw [zam]; omega)]
section
variable {W : World} {base : Nat} {p : Option Addr} {c : Nat} {d : Nat} {h : Hp}
theorem HpOwn.storeS (o : HpOwn W base p c (some ⟨g, 0, none⟩) d h) {i : Int} {x : Sp} (h0 : 0 ≤ i) (hi : i < h.m) (hx : x.wf) :
  (W.cell? ⟨g, i.toNat * 3, none⟩ = some (.int .i64 (h.s i.toNat).st) ∧ W.cell? ⟨g, i.toNat * 3 + 1, none⟩ = some (.int .i64 (h.s i.toNat).cl) ∧ W.cell? ⟨g, i.toNat * 3 + 2, none⟩ = some (.int .u32 (h.s i.toNat).fr)) ∧
  (∀ j, W.frozen? ⟨g, j, none⟩ = false) ∧
  HpOwn (((W.setCell ⟨g, i.toNat * 3, none⟩ (.int .i64 x.st)).setCell ⟨g, i.toNat * 3 + 1, none⟩ (.int .i64 x.cl)).setCell ⟨g, i.toNat * 3 + 2, none⟩ (.int .u32 x.fr)) base p c (some ⟨g, 0, none⟩) d (withS h i x) := by
 obtain ⟨a0, a1, a2⟩ := zb0 h.s (n := h.m) (i := i.toNat) (by omega)
 refine ⟨⟨?_, ?_, ?_⟩, fun j => o.spans.frozenAt _, ?_⟩
 ·rw [o.spans.cellAt _ (by omega)]; exact a0
 ·rw [o.spans.cellAt _ (by omega)]; exact a1
 ·rw [o.spans.cellAt _ (by omega)]; exact a2
 ·have hs := (((o.spans.stored (i.toNat * 3) (.int .i64 x.st)).1.stored (i.toNat * 3 + 1) (.int .i64 x.cl)).1.stored (i.toNat * 3 + 2) (.int .u32 x.fr)).1
  rw [zoq h.s h0 hi x] at hs
  have hne : ∀ e, (Value.slice p h.n c).ownBlock ≠ some e ∨ e ≠ g := fun e => by
   by_cases e' : e = g
   ·subst e'; exact .inl fun e'' => o.ne e e e'' rfl rfl
   ·exact .inr e'
  have hw : (Value.slice p h.n c).ownBlock ≠ some g := fun e => o.ne g g e rfl rfl
  refine ⟨za0 (za0 (za0 o.words hw _ _) hw _ _) hw _ _, hs, o.ne, ⟨o.wf.1, fun j hj => ?_⟩, o.nle, o.mle⟩
  show (setS h.s i x j).wf
  unfold setS; split
  ·exact hx
  ·exact o.wf.2 j hj
theorem HpOwn.clearN : ∀ (n : Nat) {W : World} {h : Hp} {q : Option Addr} {a : Int}, HpOwn W base (some ⟨g, 0, none⟩) c q d h → 0 ≤ a → a + n ≤ h.n →
  HpOwn (W.setCells g a.toNat (List.replicate n (.int .u64 0))) base (some ⟨g, 0, none⟩) c q d { h with z := zerZ h.z a n }
 | 0, W, h, q, a, o, h0, h1 => by
  rw [show ((0 : Nat) : Int) = 0 from rfl, zwa]
  exact o
 | n + 1, W, h, q, a, o, h0, h1 => by
  have h1' : a + (n + 1 : Int) ≤ h.n := by omega
  have o1 := (o.store (i := a) (v := 0) h0 (by omega) (by decide)).2.2
  have o2 := HpOwn.clearN n (a := a + 1) o1 (by omega) (by show a + 1 + (n : Int) ≤ h.n; omega)
  rw [List.replicate_succ]
  show HpOwn ((W.setCell ⟨g, a.toNat, none⟩ (.int .u64 0)).setCells g (a.toNat + 1) (List.replicate n (.int .u64 0))) _ _ _ _ _ _
  rw [show a.toNat + 1 = (a + 1).toNat by omega]
  refine (o2.congr (z := zerZ h.z a (n + 1 : Nat)) (s := h.s) (b := h.b) (fun i hi => ?_) fun i _ => rfl)
  show zerZ (putZ h.z a 0) (a + 1) n i = zerZ h.z a (n + 1 : Nat) i
  unfold zerZ putZ
  by_cases e1 : (i : Int) = a
  ·rw [if_neg (by omega), if_pos e1, if_pos (by omega)]
  ·by_cases e2 : a + 1 ≤ (i : Int) ∧ (i : Int) < a + 1 + n
   ·rw [if_pos e2, if_pos (by omega)]
   ·rw [if_neg e2, if_neg e1, if_neg (by omega)]
end
def Box1 (b : Nat) (x : Value) (W : World) : Prop := b < W.heap.size ∧ W.cell? ⟨b, 0, none⟩ = some x ∧ W.frozen? ⟨b, 0, none⟩ = false
theorem Box1.below {b : Nat} {x : Value} (h : Box1 b x W) (hb : Below W.heap.size W W') : Box1 b x W' := by
 obtain ⟨l, c0, f0⟩ := h
 have e := hb.block b l
 exact ⟨Nat.lt_of_lt_of_le l hb.size, by rw [World.cell?_of_block (w := W) (a := ⟨b, 0, none⟩) e]; exact c0, by rw [World.frozen?_of_block (w := W) (a := ⟨b, 0, none⟩) e]; exact f0⟩
theorem Box1.new (W : World) (x : Value) (t : TypeId) : Box1 W.heap.size x (W.alloc (.cells #[x] t)) := by
 have hg := heap_alloc_new W (.cells #[x] t)
 exact ⟨by simp, by rw [cell_of_row _ _ _ _ _ _ hg]; rfl, frozen_of_row _ _ _ _ _ hg⟩
theorem zem (hg : n ≤ g) : ∀ (vs : List Value) (w : World) (o : Nat), Below n W w → Below n W (w.setCells g o vs)
 | [], _, _, h => h
 | v :: r, w, o, h => zem hg r _ _ (h.setCell hg v)
theorem Box3.setCells {b : Nat} {x y z : Value} (hg : ¬ g = b) : ∀ (vs : List Value) (w : World) (o : Nat), Box3 b x y z w → Box3 b x y z (w.setCells g o vs)
 | [], _, _, h => h
 | v :: r, w, o, h => Box3.setCells hg r _ _ (h.other hg o v)
theorem zhi (p : Option Addr) (n c : Nat) (z : Nat → Int) (w : World) (hin : Ints .u64 w p n z) (h0 : 0 < n) (hn : n ≤ 17592186043904) :
  Calls Tryz.prog 125 #[.slice p n c] w fun e w' => ∃ p' c', e = .returned (.slice p' n c') ∧ w'.ownsRow w.heap.size 97 1 (.slice p' n c') n (vals .u64 n z) ∧ Below w.heap.size w w' := by
 obtain ⟨i0, hi, hz0, hz1, hz2⟩ := info_parts infoW
 obtain ⟨ad, rfl, hcell⟩ := hin.cells h0
 have hnil : ∀ W : World, (binOp .eql 24 (.slice (some ad) n c) (.slice none 0 0)).run Tryz.prog W = .ok (.bool false) W := fun W => Lib.run_eql_slice_nil W 24 97 (some ad) n c 0 0 Tryz.underlying24
 have hvl := zae .u64 n z
 have hv1 := zcb .u64 n z
 generalize vals .u64 n z = xs at *
 go_enter Tryz.func125, Tryz.ntmps125
 go_wp2_with (first
  | (at_builtin; refine wpList_append_grows _ rfl (.tmp 5) (.tmp 6) 24 rfl 97 i0 (.int .u64 0) 1 8 Tryz.underlying24 hi hz0 hz1 hz2 rfl (by decide) _ 0 0 [] rfl (fun _ => ⟨rfl, rfl⟩) rfl (fun b _ j u hj => by simp at hj) ad n c xs rfl (by omega) (fun j u hj => Lib.cell?_alloc_some _ (hcell j u hj)) hv1 (by omega) (by simp only [maxLen]; omega) (by omega) ?_; intro v1 w1 hown1 hgrow1)
 )
 go_returns
 rw [Nat.zero_add, List.nil_append] at hown1
 obtain ⟨p1, c1, rfl, -⟩ := zaf hown1
 exact ⟨_, _, rfl, zag hown1 (by rw [World.size_alloc]; omega), (zr.alloc (Nat.le_refl _) _).grown hgrow1 (by simp) (by intro k hk; cases hk)⟩
theorem zgv (p : Option Addr) (n c : Nat) (s : Nat → Sp) (w : World) (hin : Spans w p n s) (h0 : 0 < n) (hn : n ≤ 1048576) :
  Calls Tryz.prog 126 #[.slice p n c] w fun e w' => ∃ p' c', e = .returned (.slice p' n c') ∧ w'.ownsRow w.heap.size 51 3 (.slice p' n c') n (spVals n s) ∧ Below w.heap.size w w' := by
 obtain ⟨i0, hi, hz0, hz1, hz2⟩ := info_parts infoS
 obtain ⟨ad, rfl, hcell⟩ := hin.cells h0
 have hnil : ∀ W : World, (binOp .eql 25 (.slice (some ad) n c) (.slice none 0 0)).run Tryz.prog W = .ok (.bool false) W := fun W => Lib.run_eql_slice_nil W 25 51 (some ad) n c 0 0 Tryz.underlying25
 have hvl := zam n s
 have hv1 := zfo n s
 generalize spVals n s = xs at *
 go_enter Tryz.func126, Tryz.ntmps126
 go_wp2_with (first
  | (at_builtin; refine wpList_append_grows _ rfl (.tmp 5) (.tmp 6) 25 rfl 51 i0 (.agg #[.int .i64 0, .int .i64 0, .int .u32 0]) 3 24 Tryz.underlying25 hi hz0 hz1 hz2 rfl (by decide) _ 0 0 [] rfl (fun _ => ⟨rfl, rfl⟩) rfl (fun b _ j u hj => by simp at hj) ad n c xs rfl (by omega) (fun j u hj => Lib.cell?_alloc_some _ (hcell j u hj)) hv1 (by omega) (by simp only [maxLen]; omega) (by omega) ?_; intro v1 w1 hown1 hgrow1)
 )
 go_returns
 rw [Nat.zero_add, List.nil_append] at hown1
 obtain ⟨p1, c1, rfl, -⟩ := zaf hown1
 exact ⟨_, _, rfl, zag hown1 (by rw [World.size_alloc]; omega), (zr.alloc (Nat.le_refl _) _).grown hgrow1 (by simp) (by intro k hk; cases hk)⟩
def cpOps (s h d : Nat) (pos : String) : List Oper :=
 [{ dst := some s, op := .fieldAddr 27 (.tmp h) 0, type := 0, pos := pos, after := #[], guard := none },
  { dst := some (s + 1), op := .load 24 (.tmp s), type := 24, pos := pos, after := #[{ on := 0, ground := .data }], guard := none },
  { dst := some (s + 2), op := .call { callee := .value (.func 125), args := #[.tmp (s + 1)], argTypes := #[24] }, type := 24, pos := pos, after := #[{ on := 1, ground := .data }], guard := none },
  { dst := some (s + 3), op := .fieldAddr 27 (.tmp h) 1, type := 0, pos := pos, after := #[], guard := none },
  { dst := some (s + 4), op := .load 25 (.tmp (s + 3)), type := 25, pos := pos, after := #[{ on := 3, ground := .data }], guard := none },
  { dst := some (s + 5), op := .call { callee := .value (.func 126), args := #[.tmp (s + 4)], argTypes := #[25] }, type := 25, pos := pos, after := #[{ on := 4, ground := .data }, { on := 2, ground := .chain }], guard := none },
  { dst := some (s + 6), op := .fieldAddr 27 (.tmp h) 2, type := 0, pos := pos, after := #[], guard := none },
  { dst := some (s + 7), op := .load 4 (.tmp (s + 6)), type := 4, pos := pos, after := #[{ on := 6, ground := .data }], guard := none },
  { dst := some (s + 8), op := .build 27 #[(0, .tmp (s + 2)), (1, .tmp (s + 5)), (2, .tmp (s + 7))], type := 27, pos := pos, after := #[{ on := 2, ground := .data }, { on := 5, ground := .data }, { on := 7, ground := .data }], guard := none },
  { dst := some d, op := .alloc 27, type := 0, pos := pos, after := #[], guard := none },
  { dst := none, op := .store 27 (.tmp d) (.tmp (s + 8)), type := 0, pos := pos, after := #[{ on := 9, ground := .data }, { on := 8, ground := .data }, { on := 5, ground := .chain }, { on := 0, ground := .phase }, { on := 1, ground := .phase }, { on := 2, ground := .phase }, { on := 3, ground := .phase }, { on := 4, ground := .phase }, { on := 5, ground := .phase }, { on := 6, ground := .phase }, { on := 7, ground := .phase }, { on := 8, ground := .phase }, { on := 9, ground := .phase }], guard := none }]
def cpSlots (s d : Nat) : List Nat := [s, s + 1, s + 2, s + 3, s + 4, s + 5, s + 6, s + 7, s + 8, d]
def cpPhi (B : Nat) (N : Nat) (p : Option Addr) (c : Nat) (q : Option Addr) (d : Nat) (h : Hp) : Nat → Value → World → Prop
 | 0, v, _ => v = .pointer (some ⟨B, 0, none⟩)
 | 1, v, _ => v = .slice p h.n c
 | 2, v, w => w.ownsRow N 97 1 v h.n (vals .u64 h.n h.z)
 | 3, v, _ => v = .pointer (some ⟨B, 1, none⟩)
 | 4, v, _ => v = .slice q h.m d
 | 5, v, w => w.ownsRow N 51 3 v h.m (spVals h.m h.s)
 | 6, v, _ => v = .pointer (some ⟨B, 2, none⟩)
 | 7, v, _ => v = .bool h.b
 | 8, v, w => ∃ v1 v2, v = .agg #[v1, v2, .bool h.b] ∧ w.ownsRow N 97 1 v1 h.n (vals .u64 h.n h.z) ∧ w.ownsRow N 51 3 v2 h.m (spVals h.m h.s)
 | 9, v, w => ∃ g, v = .pointer (some ⟨g, 0, none⟩) ∧ N ≤ g ∧ w.heap[g]? = some (.cells #[.slice none 0 0, .slice none 0 0, .bool false] 27 (0, 0))
 | _, _, _ => True
theorem zhb {B N : Nat} {c : Nat} {d : Nat} (i : Nat) (v : Value) (w w' : World) (hp : cpPhi B N p c q d h i v w) (hb : Below w.heap.size w w') : cpPhi B N p c q d h i v w' := by
 match i, hp with
 | 0, hp => exact hp
 | 1, hp => exact hp
 | 2, hp => exact zaa hp hb
 | 3, hp => exact hp
 | 4, hp => exact hp
 | 5, hp => exact zaa hp hb
 | 6, hp => exact hp
 | 7, hp => exact hp
 | 8, ⟨v1, v2, e, h1, h2⟩ => exact ⟨v1, v2, e, zaa h1 hb, zaa h2 hb⟩
 | 9, ⟨g, e, hg, h1⟩ =>
  refine ⟨g, e, hg, ?_⟩
  rw [hb.block g ?_]
  ·exact h1
  ·rcases Nat.lt_or_ge g w.heap.size with h' | h'
   ·exact h'
   ·rw [Array.getElem?_eq_none h'] at h1; cases h1
 | _ + 10, _ => trivial
theorem zq9 (s h' d' : Nat) (pos : String) {B : Nat} {c : Nat} {d : Nat} {a : Act} {Q : Exit → Act → World → Prop} (hF : formB h = true) (hh : HpAt W p c q d h) (hbx : Box3 B (.slice p h.n c) (.slice q h.m d) (.bool h.b) W) (ha : a.tmps.getD h' undef = .pointer (some ⟨B, 0, none⟩)) (hh' : h' ∉ cpSlots s d') :
  ∀ i o, i < 10 → (cpOps s h' d' pos).toArray[i]? = some o → ∀ (a' : Act) (w' : World), Below W.heap.size W w' → (∀ t, t ∉ cpSlots s d' → a'.tmps.getD t undef = a.tmps.getD t undef) →
   (∀ j x, j < 10 → (cpSlots s d')[j]? = some x → (o.after.any fun e => Region.binds .any e && e.on == j) = true → cpPhi B W.heap.size p c q d h j (a'.tmps.getD x undef) w') →
   ∀ K : Act → World → Prop, (∀ v w'', Below w'.heap.size w' w'' → cpPhi B W.heap.size p c q d h i v w'' → K (a'.put o.dst v) w'') → o.wp Tryz.prog a' w' K Q := by
 intro i o hi ho a' w' hb hsame hdep K hK
 have hptr : a'.tmps.getD h' undef = .pointer (some ⟨B, 0, none⟩) := (hsame h' hh').trans ha
 have hat := hh.below hb
 have hbx' := hbx.below hb
 obtain ⟨lB, k0, k1, k2, -, -, -⟩ := hbx'
 obtain ⟨m1, m16, hnH, -⟩ := zad.1 hF
 replace hnH : Hid (h.n = 32 * h.m) := hnH
 have dep : ∀ (j x : Nat), j < 10 → (cpSlots s d')[j]? = some x → (o.after.any fun e => Region.binds .any e && e.on == j) = true → cpPhi B W.heap.size p c q d h j (a'.tmps[x]?.getD undef) w' := fun j x h1 h2 h3 => by
  have := hdep j x h1 h2 h3
  rwa [Array.getD_eq_getD_getElem?] at this
 clear hdep hsame ha hh hbx
 match i, hi with
 | 0, _ =>
  simp [cpOps] at ho
  subst ho
  unfold Oper.wp
  go_simp
  exact hK _ _ zr rfl
 | 1, _ =>
  simp [cpOps] at ho
  subst ho
  have e1 : a'.tmps[s]?.getD undef = .pointer (some ⟨B, 0, none⟩) := dep 0 (s) (by decide) rfl (by simp [Region.binds])
  unfold Oper.wp
  go_simp
  exact hK _ _ zr rfl
 | 2, _ =>
  simp [cpOps] at ho
  subst ho
  have e1 : a'.tmps[s + 1]?.getD undef = .slice p h.n c := dep 1 (s + 1) (by decide) rfl (by simp [Region.binds])
  unfold Oper.wp
  go_simp
  have hn := hnH.out
  refine zm (zhi p h.n c h.z w' hat.ints (by omega) (by omega)) ?_
  rintro e w'' ⟨p', c', rfl, hown, hb'⟩
  exact hK _ _ hb' (zag hown hb.size)
 | 3, _ =>
  simp [cpOps] at ho
  subst ho
  unfold Oper.wp
  go_simp
  exact hK _ _ zr rfl
 | 4, _ =>
  simp [cpOps] at ho
  subst ho
  have e1 : a'.tmps[s + 3]?.getD undef = .pointer (some ⟨B, 1, none⟩) := dep 3 (s + 3) (by decide) rfl (by simp [Region.binds])
  unfold Oper.wp
  go_simp
  exact hK _ _ zr rfl
 | 5, _ =>
  simp [cpOps] at ho
  subst ho
  have e1 : a'.tmps[s + 4]?.getD undef = .slice q h.m d := dep 4 (s + 4) (by decide) rfl (by simp [Region.binds])
  unfold Oper.wp
  go_simp
  have hn := hnH.out
  refine zm (zgv q h.m d h.s w' hat.spans (by omega) (by omega)) ?_
  rintro e w'' ⟨p', c', rfl, hown, hb'⟩
  exact hK _ _ hb' (zag hown hb.size)
 | 6, _ =>
  simp [cpOps] at ho
  subst ho
  unfold Oper.wp
  go_simp
  exact hK _ _ zr rfl
 | 7, _ =>
  simp [cpOps] at ho
  subst ho
  have e1 : a'.tmps[s + 6]?.getD undef = .pointer (some ⟨B, 2, none⟩) := dep 6 (s + 6) (by decide) rfl (by simp [Region.binds])
  unfold Oper.wp
  go_simp
  exact hK _ _ zr rfl
 | 8, _ =>
  simp [cpOps] at ho
  subst ho
  have o1 : w'.ownsRow W.heap.size 97 1 (a'.tmps[s + 2]?.getD undef) h.n (vals .u64 h.n h.z) := dep 2 (s + 2) (by decide) rfl (by simp [Region.binds])
  have o2 : w'.ownsRow W.heap.size 51 3 (a'.tmps[s + 5]?.getD undef) h.m (spVals h.m h.s) := dep 5 (s + 5) (by decide) rfl (by simp [Region.binds])
  have e9 : a'.tmps[s + 7]?.getD undef = .bool h.b := dep 7 (s + 7) (by decide) rfl (by simp [Region.binds])
  obtain ⟨p1, c1, e1, -⟩ := zaf o1
  obtain ⟨q1, d1, e2, -⟩ := zaf o2
  rw [e1] at o1
  rw [e2] at o2
  unfold Oper.wp
  go_simp
  exact hK _ _ zr ⟨_, _, rfl, o1, o2⟩
 | 9, _ =>
  simp [cpOps] at ho
  subst ho
  unfold Oper.wp
  go_simp
  exact hK _ _ (zr.alloc (Nat.le_refl _) _) ⟨w'.heap.size, rfl, hb.size, heap_alloc_new _ _⟩
theorem ze6 {id s h' d' : Nat} {pos : String} {B : Nat} {c : Nat} {d : Nat} {a : Act} {Q : Exit → Act → World → Prop} (hm : Tryz.prog.follows .mixedOrders = true) 
  (h1 : h' < s) (h2 : d' < s) (h3 : h' ≠ d') (h4 : s + 8 < a.tmps.size) (hF : formB h = true) (hh : HpAt W p c q d h) (hbx : Box3 B (.slice p h.n c) (.slice q h.m d) (.bool h.b) W) (ha : a.tmps.getD h' undef = .pointer (some ⟨B, 0, none⟩))
  (hK : ∀ x0 x1 x2 x3 x4 x5 x6 x7 x8 g p' c' q' d'' w', HpOwn w' W.heap.size p' c' q' d'' h → Box3 g (.slice p' h.n c') (.slice q' h.m d'') (.bool h.b) w' → W.heap.size ≤ g → (Value.slice p' h.n c').ownBlock ≠ some g → (Value.slice q' h.m d'').ownBlock ≠ some g → Below W.heap.size W w' →
   Q .normal (puts [s, s + 1, s + 2, s + 3, s + 4, s + 5, s + 6, s + 7, s + 8, d'] [x0, x1, x2, x3, x4, x5, x6, x7, x8, .pointer (some ⟨g, 0, none⟩)] a) w') :
  (Code.region id (cpOps s h' d' pos).toArray true).wp Tryz.prog Q a W := by
 have hmem : h' ∉ cpSlots s d' := by simp [cpSlots]; omega
 refine zb3 10 (cpSlots s d') (cpPhi B W.heap.size p c q d h) hm (by kernel_rfl) (by kernel_rfl) (by simp [cpOps]) (by kernel_rfl) (by kernel_rfl) rfl rfl (by simp [cpSlots]; omega) (by simp [cpSlots]; omega) zhb (zq9 s h' d' pos hF hh hbx ha hmem) ?_
 intro a' w' hb hdf hsz hsame hf
 have f (i x : Nat) (hi : i < 10) (hx : (cpSlots s d')[i]? = some x) : cpPhi B W.heap.size p c q d h i (a'.tmps.getD x undef) w' := hf i x hi hx
 obtain ⟨g, e7, hg, hgh⟩ := f 9 d' (by decide) rfl
 obtain ⟨v1, v2, e10, o1, o2⟩ := f 8 (s + 8) (by decide) rfl
 obtain ⟨p1, c1, rfl, -⟩ := zaf o1
 obtain ⟨q1, d1, rfl, -⟩ := zaf o2
 have hbox := zas hgh
 have n1 : (Value.slice p1 h.n c1).ownBlock ≠ some g := fun e => by
  obtain ⟨cur, hc⟩ := zau o1 e
  rw [hgh] at hc; injection hc with hc; injection hc with _ hc; revert hc; decide
 have n2 : (Value.slice q1 h.m d1).ownBlock ≠ some g := fun e => by
  obtain ⟨cur, hc⟩ := zau o2 e
  rw [hgh] at hc; injection hc with hc; injection hc with _ hc; revert hc; decide
 have hne : ∀ b b', (Value.slice p1 h.n c1).ownBlock = some b → (Value.slice q1 h.m d1).ownBlock = some b' → b ≠ b' := fun b b' e e' eb => by
  subst eb
  obtain ⟨cur, hc⟩ := zau o1 e
  obtain ⟨cur', hc'⟩ := zau o2 e'
  rw [hc] at hc'; injection hc' with hc'; injection hc' with _ hc'; revert hc'; decide
 have hown : HpOwn w' W.heap.size p1 c1 q1 d1 h := ⟨o1, o2, hne, hh.wf, hh.nle, hh.mle⟩
 have e7' : a'.tmps[d']?.getD undef = .pointer (some ⟨g, 0, none⟩) := by rw [← Array.getD_eq_getD_getElem?]; exact e7
 have e10' : a'.tmps[s + 8]?.getD undef = .agg #[.slice p1 h.n c1, .slice q1 h.m d1, .bool h.b] := by rw [← Array.getD_eq_getD_getElem?]; exact e10
 have hputs := zc9 (cpSlots s d') a hdf hsz (by simp [cpSlots]; omega) hsame
 simp only [cpSlots, List.map_cons, List.map_nil, e7] at hputs
 have hQ := hK (a'.tmps.getD s undef) (a'.tmps.getD (s + 1) undef) (a'.tmps.getD (s + 2) undef) (a'.tmps.getD (s + 3) undef) (a'.tmps.getD (s + 4) undef) (a'.tmps.getD (s + 5) undef) (a'.tmps.getD (s + 6) undef) (a'.tmps.getD (s + 7) undef) (a'.tmps.getD (s + 8) undef) g p1 c1 q1 d1 _ ((hown.other n1 n2 0 (.slice p1 h.n c1)).other n1 n2 1 (.slice q1 h.m d1) |>.other n1 n2 2 (.bool h.b)) (hbox.stores _ _ _) hg n1 n2 (zav hb hg _ _ _)
 rw [← hputs] at hQ
 obtain ⟨lg, k0, k1, k2, f0, f1, f2⟩ := hbox
 clear hf f e7 e10 hK hputs hsame h4 hsz
 simp only [cpOps, List.drop_succ_cons, List.drop_zero]
 refine wpList_plain rfl fun K hK' => ?_
 have hK2 := hK' a' _ (show wpList _ _ Q [] a' _ from hQ)
 clear hK' hQ
 unfold Oper.wp
 go_simp
 exact hK2
end Go.Proofs.YtkehankfnkjnlaaGreatDoor
