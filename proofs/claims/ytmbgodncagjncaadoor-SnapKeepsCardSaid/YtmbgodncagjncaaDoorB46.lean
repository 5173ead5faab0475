/- slices.Repeat of one number, so many times (few), by a contract. -/
import Derived.Test.YtmbgodncagjncaaDoorB45
import Derived.Laws.CopyOwn
import Derived.Deep.RegionLaw
namespace Go.Proofs.YtmbgodncagjncaaDoor
set_option linter.unusedSimpArgs false
set_option linter.unusedVariables false
open Go.ChangeShapes Go.WideShapes Go.ChangeAt Go.RowKit Go.Joins

set_option maxRecDepth 20000 in
theorem mul64_one (n : Nat) (w : World) (hn : n ≤ 10) :
    Calls Tryd.prog 73 #[.int .u64 1, .int .u64 n] w fun e w' => e = .returned (.tuple #[.int .u64 0, .int .u64 n]) ∧ w = w' := by
  rcases (show n = 0 ∨ n = 1 ∨ n = 2 ∨ n = 3 ∨ n = 4 ∨ n = 5 ∨ n = 6 ∨ n = 7 ∨ n = 8 ∨ n = 9 ∨ n = 10 by omega) with rfl | rfl | rfl | rfl | rfl | rfl | rfl | rfl | rfl | rfl | rfl
  all_goals
    go_enter Tryd.func73, Tryd.ntmps73
    go_wp2
    go_returns
    exact ⟨rfl, rfl⟩
theorem mul_one (n : Nat) (w : World) (hn : n ≤ 10) :
    Calls Tryd.prog 53 #[.int .u64 1, .int .u64 n] w fun e w' => e = .returned (.tuple #[.int .u64 0, .int .u64 n]) ∧ w = w' := by
  have hC := mul64_one n w hn
  clear hn
  go_enter Tryd.func53, Tryd.ntmps53
  go_wp2_with (first
    | (go_at_call 73; refine Calls.mono hC ?_; rintro e w' ⟨rfl, rfl⟩)
  )
  go_returns
  exact ⟨rfl, rfl⟩
/-- The number as far as it has been copied, zeros behind. -/
def rpZ (r : Int) (k : Nat) : Nat → Int := fun i => if i < k then r else 0
theorem splice_rp (r : Int) (n k m : Nat) (h : k + m ≤ n) : splice (vals .i64 n (rpZ r k)) k (vals .i64 m (fun _ => r)) = vals .i64 n (rpZ r (k + m)) := by
  unfold splice
  apply List.ext_getElem?
  intro j
  rw [vals_length]
  by_cases h1 : j < k
  · rw [List.getElem?_append_left (by rw [List.length_take, vals_length]; omega), List.getElem?_take, if_pos h1, vals_get _ _ (by omega), vals_get _ _ (by omega)]
    simp [rpZ, h1, show j < k + m by omega]
  · rw [List.getElem?_append_right (by rw [List.length_take, vals_length]; omega), List.length_take, vals_length, Nat.min_eq_left (by omega)]
    by_cases h2 : j < k + m
    · rw [List.getElem?_append_left (by rw [vals_length]; omega), vals_get _ _ (by omega), vals_get _ _ (by omega)]
      simp [rpZ, h2]
    · rw [List.getElem?_append_right (by rw [vals_length]; omega), vals_length, List.getElem?_drop, show k + m + (j - k - m) = j by omega]
      by_cases h3 : j < n
      · rw [vals_get _ _ h3, vals_get _ _ h3]
        simp [rpZ, h1, h2]
      · rw [List.getElem?_eq_none (by rw [vals_length]; omega), List.getElem?_eq_none (by rw [vals_length]; omega)]
set_option maxRecDepth 20000 in
set_option maxHeartbeats 4000000 in
theorem repeat_any (b : Nat) (r : Int) (n : Nat) (w : World) (hlt : b < w.heap.size) (g0 : w.cell? ⟨b, 0, none⟩ = some (.int .i64 r)) (hn : n ≤ 10) :
    Calls Tryd.prog 30 #[.slice (some ⟨b, 0, none⟩) 1 1, .int .i64 n] w fun e w' => ∃ g, e = .returned (.slice (some ⟨g, 0, none⟩) n n) ∧ RowAt .i64 3 w' g n (fun _ => r) ∧ Below w.heap.size w w' := by
  obtain ⟨i0, hi, hz0, hz1, hz2⟩ := info_parts int_infoG
  have hM := mul_one n w hn
  have hn0 : ¬ (n : Int) < 0 := by omega
  have hn9 : ¬ (9223372036854775807 : Int) < n := by omega
  go_enter Tryd.func30, Tryd.ntmps30
  go_upto_region 7 with (first
    | (go_at_call 53; refine Calls.mono hM ?_; rintro e w' ⟨rfl, rfl⟩)
    | (at_make; refine wpList_make_full _ rfl (.tmp 29) (.tmp 29) 31 rfl w.heap.size 3 i0 (.int .i64 0) 1 Tryd.underlying31 hi hz0 hz1 _ _ _ _ n rfl rfl rfl rfl (by rw [hz2]; omega) (by simp only [maxLen]; omega) (Nat.le_refl _) ?_; intro w1 hown1 hgrow1)
  )
  have hm : (madeCells (Value.int IntKind.i64 0).cells (n * 1)).toList = vals .i64 n (fun _ => 0) := by rw [Nat.mul_one, ← vals_const]; exact toList_madeCells_one _ _
  rw [hm] at hown1
  have row1 := rowAt_owned hown1
  have hB1 : Below w.heap.size w w1 := (Below.refl _ _).grown hgrow1 (Nat.le_refl _) (by simp)
  have g1 := (hB1.cell (p := ⟨b, 0, none⟩) hlt).trans g0
  clear hm hown1 hgrow1 hM
  have hgE : w.heap.size ≤ w.heap.size := Nat.le_refl _
  obtain ⟨m, hm0⟩ : ∃ m, m = Nat.min 1 n := ⟨_, rfl⟩
  have hm1 : (vals .i64 m (fun _ => r)).length = Nat.min 1 n := by rw [vals_length, hm0]
  have hmn : m ≤ n ∧ m ≤ 1 ∧ (0 < n → m = 1) := by rw [hm0, show Nat.min 1 n = min 1 n from rfl]; omega
  have hsrc : 0 < (vals .i64 m (fun _ => r)).length → (some ⟨w.heap.size, 0, none⟩ : Option Addr) = some ⟨w.heap.size, 0, none⟩ ∧ ∃ ad, (some ⟨b, 0, none⟩ : Option Addr) = some ad ∧ ∀ j v, (vals .i64 m (fun _ => r))[j]? = some v → w1.cell? (ad.add j) = some v := fun h => ⟨rfl, ⟨b, 0, none⟩, rfl, fun j v hj => by
    rw [vals_length] at h
    obtain rfl : m = 1 := by omega
    have hj0 : j = 0 := by have := (List.getElem?_eq_some_iff.1 hj).1; rw [vals_length] at this; omega
    subst hj0
    rw [vals_get _ _ (by omega)] at hj
    injection hj with hj
    subst hj
    rw [add_none]
    exact g1⟩
  have hfit : 0 + (vals .i64 m (fun _ => r)).length ≤ (vals .i64 n (fun _ => 0)).length := by rw [vals_length, vals_length]; omega
  have hmH : Hid (m = Nat.min 1 n) := hm0
  have hm1' : Hid ((vals .i64 m (fun _ => r)).length = Nat.min 1 n) := hm1
  have hfit' : Hid (0 + (vals .i64 m (fun _ => r)).length ≤ (vals .i64 n (fun _ => 0)).length) := hfit
  clear hm0 hm1 hfit
  go_upto_region 8 with (first
    | (refine wpList_copy_splice (o := ⟨some 33, _, _, _, _, _⟩) rfl (.tmp 31) (.tmp 32) 31 31 rfl 3 Tryd.underlying31 (by kernel_rfl) _ _ _ _ _ _ rfl rfl w.heap.size 0 (vals .i64 n (fun _ => 0)) 3 row1 (vals .i64 m (fun _ => r)) hm1'.out hsrc hfit'.out (vals_one _ _ _) w.heap.size w hB1 hgE ?_; intro w2 hS2 hB2)
  )
  have row2 : RowAt .i64 3 w2 w.heap.size n (rpZ r m) := by
    have := hS2.out
    have e0 : vals .i64 n (fun _ => 0) = vals .i64 n (rpZ r 0) := by unfold rpZ; simp
    rw [e0, splice_rp r n 0 m (by omega), Nat.zero_add] at this
    exact this
  rw [vals_length]
  clear hS2 hsrc hfit' hm1' row1 hB1 g1 hmH
  go_loopg [8] n (fun g v wr => ∃ k : Nat, k ≤ n ∧ (0 < n → 0 < k) ∧ n ≤ g + k ∧ v = .int .i64 k ∧ RowAt .i64 3 wr w.heap.size n (rpZ r k) ∧ Below w.heap.size w wr)
  case atStart => exact ⟨m, by omega, by omega, by omega, rfl, row2, hB2⟩
  case round =>
    obtain ⟨k, hk, hk0, hg, rfl, row, hbw⟩ := hrel
    by_cases hkn : k < n
    · have hk0' := hk0 (by omega)
      obtain ⟨m2, hm2⟩ : ∃ m2, m2 = Nat.min k (n - k) := ⟨_, rfl⟩
      have hm3 : k + m2 ≤ n ∧ 0 < m2 ∧ m2 ≤ k := by rw [hm2, show Nat.min k (n - k) = min k (n - k) from rfl]; omega
      have hlen : Hid ((vals .i64 m2 (fun _ => r)).length = Nat.min k (n - k)) := show _ = _ by rw [vals_length, hm2]
      have hsrc : Hid (0 < (vals .i64 m2 (fun _ => r)).length → (some ⟨w.heap.size, k, none⟩ : Option Addr) = some ⟨w.heap.size, k, none⟩ ∧ ∃ ad, (some ⟨w.heap.size, 0, none⟩ : Option Addr) = some ad ∧ ∀ j v, (vals .i64 m2 (fun _ => r))[j]? = some v → wr.drew.cell? (ad.add j) = some v) := show _ → _ from fun _ => ⟨rfl, ⟨w.heap.size, 0, none⟩, rfl, fun j v hj => by
        have hj0 : j < m2 := by have := (List.getElem?_eq_some_iff.1 hj).1; rwa [vals_length] at this
        rw [vals_get _ _ hj0] at hj
        injection hj with hj
        subst hj
        rw [add_none, Nat.zero_add]
        refine Eq.trans (show wr.drew.cell? _ = wr.cell? _ from rfl) ?_
        rw [row.cell (show j < n by omega)]
        unfold rpZ
        rw [if_pos (by omega)]⟩
      have hfit : Hid (k + (vals .i64 m2 (fun _ => r)).length ≤ (vals .i64 n (rpZ r k)).length) := show _ ≤ _ by rw [vals_length, vals_length]; omega
      have hrowH : Hid (RowAt .i64 3 wr.drew w.heap.size n (rpZ r k)) := row
      have hbD : Hid (Below w.heap.size w wr.drew) := hbw.trans ⟨rfl, rfl, rfl, Nat.le_refl _, fun _ _ => rfl⟩
      have hne : ¬ n = k := by omega
      have hkn1 : (k : Int) ≤ n := by omega
      have hnk : (n : Int) - k = ((n - k : Nat) : Int) := by omega
      clear hm2
      go_upto_region 9 with fail
      go_region_law (refine step_copy_splice rfl (.tmp 41) (.tmp 44) 31 31 rfl 3 Tryd.underlying31 (by kernel_rfl) (some ⟨w.heap.size, k, none⟩) (some ⟨w.heap.size, 0, none⟩) (n - k) (n - k) k n (by simp [Act.eval, Act.put]) (by simp [Act.eval, Act.put]) w.heap.size k (vals .i64 n (rpZ r k)) 3 hrowH.out (vals .i64 m2 (fun _ => r)) hlen.out hsrc.out hfit.out (vals_one _ _ _) w.heap.size w hbD.out hgE ?_; intro w4 hg4 hb4)
      have row4 : RowAt .i64 3 w4 w.heap.size n (rpZ r (k + m2)) := by
        have := hg4.out
        rw [splice_rp r n k m2 (by omega)] at this
        exact this
      rw [vals_length]
      clear hg4 hlen hsrc hfit hrowH hbD
      go_wp2
      have ew : IntKind.i64.wrap ((k : Int) + m2) = ((k + m2 : Nat) : Int) := by rw [IntKind.wrap_i64]; omega
      go_roundg (n - (k + m2))
      case measure => omega
      case rel => exact ⟨k + m2, by omega, by omega, by omega, by rw [ew], row4, hb4⟩
    · obtain rfl : k = n := by omega
      go_wp2
      go_returns
      have hv : vals .i64 k (rpZ r k) = vals .i64 k fun _ => r := by
        unfold vals
        apply List.map_congr_left
        intro i hi
        simp [rpZ, List.mem_range.1 hi]
      unfold RowAt at row
      rw [hv] at row
      exact ⟨_, rfl, row, hbw⟩
end Go.Proofs.YtmbgodncagjncaaDoor
