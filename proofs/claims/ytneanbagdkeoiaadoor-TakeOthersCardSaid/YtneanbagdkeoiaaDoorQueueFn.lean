/- Heaps of numbers as lists: plain lemmas (chapter 10). -/
import Derived.Test.YtneanbagdkeoiaaDoorBase
namespace Go.Proofs.YtneanbagdkeoiaaDoor
set_option linter.unusedSimpArgs false
set_option linter.unusedVariables false

/-- The number at a place; 0 beyond. -/
def atL (R : List Int) (i : Nat) : Int := R[i]?.getD 0
theorem at_get {R : List Int} {i : Nat} (h : i < R.length) : atL R i = R[i] := by unfold atL; simp [h]
def swapL (R : List Int) (i j : Nat) : List Int := (R.set i (atL R j)).set j (atL R i)
theorem swap_len (R : List Int) (i j : Nat) : (swapL R i j).length = R.length := by simp [swapL]
theorem swap_perm {R : List Int} {i j : Nat} (hi : i < R.length) (hj : j < R.length) : (swapL R i j).Perm R := by
  unfold swapL
  rw [at_get hi, at_get hj]
  exact List.set_set_perm hi hj
theorem at_set {R : List Int} {i k : Nat} {v : Int} (hi : i < R.length) : atL (R.set i v) k = if k = i then v else atL R k := by
  unfold atL
  by_cases e : k = i
  · subst e; rw [if_pos rfl]; simp [hi]
  · rw [if_neg e, List.getElem?_set_ne (fun h => e h.symm)]
theorem at_swap {R : List Int} {i j k : Nat} (hi : i < R.length) (hj : j < R.length) : atL (swapL R i j) k = if k = j then atL R i else if k = i then atL R j else atL R k := by
  unfold swapL
  rw [at_set (by simpa using hj), at_set hi]
/-- From i0 on no number is greater than those below it, among the first n. -/
def HeapFrom (R : List Int) (i0 n : Nat) : Prop := ∀ k, 0 < k → k < n → i0 ≤ (k - 1) / 2 → atL R ((k - 1) / 2) ≤ atL R k
def HeapL (R : List Int) : Prop := HeapFrom R 0 R.length
/-- .. but at j, which may be less than what is above it. -/
structure UpAt (R : List Int) (j : Nat) : Prop where
  rest : ∀ k, 0 < k → k < R.length → k ≠ j → atL R ((k - 1) / 2) ≤ atL R k
  over : 0 < j → ∀ k, 0 < k → k < R.length → (k - 1) / 2 = j → atL R ((j - 1) / 2) ≤ atL R k
theorem UpAt.top {R : List Int} (u : UpAt R 0) : HeapL R := fun k h0 h1 _ => u.rest k h0 h1 (by omega)
theorem UpAt.fits {R : List Int} {j : Nat} (u : UpAt R j) (h : atL R ((j - 1) / 2) ≤ atL R j) : HeapL R := fun k h0 h1 _ => by
  by_cases e : k = j
  · subst e; exact h
  · exact u.rest k h0 h1 e
theorem UpAt.step {R : List Int} {j : Nat} (u : UpAt R j) (h0 : 0 < j) (hj : j < R.length) (h : atL R j < atL R ((j - 1) / 2)) : UpAt (swapL R ((j - 1) / 2) j) ((j - 1) / 2) := by
  have hi : (j - 1) / 2 < R.length := by omega
  refine ⟨fun k k0 k1 k2 => ?_, fun i0 k k0 k1 k2 => ?_⟩
  · rw [swap_len] at k1
    rw [at_swap hi hj, at_swap hi hj]
    by_cases e1 : k = j
    · subst e1
      rw [if_neg (by omega), if_pos rfl, if_pos rfl]
      omega
    · rw [if_neg e1, if_neg k2]
      by_cases e2 : (k - 1) / 2 = j
      · rw [if_pos e2]
        exact u.over h0 k k0 k1 e2
      · rw [if_neg e2]
        by_cases e3 : (k - 1) / 2 = (j - 1) / 2
        · rw [if_pos e3]
          have := u.rest k k0 k1 e1
          rw [e3] at this
          omega
        · rw [if_neg e3]
          exact u.rest k k0 k1 e1
  · rw [swap_len] at k1
    rw [at_swap hi hj, at_swap hi hj]
    rw [if_neg (show ¬ ((j - 1) / 2 - 1) / 2 = j by omega), if_neg (show ¬ ((j - 1) / 2 - 1) / 2 = (j - 1) / 2 by omega)]
    have hp := u.rest ((j - 1) / 2) i0 hi (by omega)
    by_cases e1 : k = j
    · rw [if_pos e1]; exact hp
    · rw [if_neg e1, if_neg (show ¬ k = (j - 1) / 2 by omega)]
      have := u.rest k k0 k1 e1
      rw [k2] at this
      omega
/-- .. but at i, which may be greater than what is below it. -/
structure DownAt (R : List Int) (i0 n i : Nat) : Prop where
  ge : i0 ≤ i
  rest : ∀ k, 0 < k → k < n → i0 ≤ (k - 1) / 2 → (k - 1) / 2 ≠ i → atL R ((k - 1) / 2) ≤ atL R k
  over : i0 < i → i0 ≤ (i - 1) / 2 ∧ ∀ k, 0 < k → k < n → (k - 1) / 2 = i → atL R ((i - 1) / 2) ≤ atL R k
theorem DownAt.leaf {R : List Int} {i0 n i : Nat} (d : DownAt R i0 n i) (h : n ≤ 2 * i + 1) : HeapFrom R i0 n := fun k k0 k1 k2 => d.rest k k0 k1 k2 (by omega)
theorem DownAt.fits {R : List Int} {i0 n i j : Nat} (d : DownAt R i0 n i) (h : ∀ k, 0 < k → k < n → (k - 1) / 2 = i → atL R j ≤ atL R k) (hj : atL R i ≤ atL R j) : HeapFrom R i0 n := fun k k0 k1 k2 => by
  by_cases e : (k - 1) / 2 = i
  · rw [e]; have := h k k0 k1 e; omega
  · exact d.rest k k0 k1 k2 e
theorem DownAt.step {R : List Int} {i0 n i j : Nat} (d : DownAt R i0 n i) (hn : n ≤ R.length) (j0 : 0 < j) (hj : j < n) (hp : (j - 1) / 2 = i) (h : ∀ k, 0 < k → k < n → (k - 1) / 2 = i → atL R j ≤ atL R k) (hl : atL R j < atL R i) : DownAt (swapL R i j) i0 n j := by
  have hi : i < R.length := by omega
  have hj' : j < R.length := by omega
  have hij : i < j := by omega
  have hge := d.ge
  refine ⟨by omega, fun k k0 k1 k2 k3 => ?_, fun _ => ⟨by omega, fun k k0 k1 k2 => ?_⟩⟩
  · rw [at_swap hi hj', at_swap hi hj', if_neg k3]
    by_cases e1 : (k - 1) / 2 = i
    · rw [if_pos e1]
      by_cases e2 : k = j
      · rw [if_pos e2]; omega
      · rw [if_neg e2, if_neg (by omega)]
        exact h k k0 k1 e1
    · rw [if_neg e1]
      by_cases e2 : k = j
      · rw [e2] at e1; exact absurd hp e1
      · rw [if_neg e2]
        by_cases e3 : k = i
        · rw [if_pos e3]
          subst e3
          exact (d.over (by omega)).2 j j0 hj hp
        · rw [if_neg e3]
          exact d.rest k k0 k1 k2 e1
  · rw [at_swap hi hj', at_swap hi hj', hp]
    rw [if_neg (by omega), if_pos rfl, if_neg (by omega), if_neg (by omega)]
    have := d.rest k k0 k1 (by omega) (by omega)
    rw [k2] at this
    exact this
theorem HeapFrom.start (R : List Int) (n : Nat) : HeapFrom R (n / 2) n := fun k k0 k1 k2 => by omega
theorem HeapFrom.down {R : List Int} {i n : Nat} (h : HeapFrom R (i + 1) n) : DownAt R i n i := ⟨Nat.le_refl _, fun k k0 k1 k2 k3 => h k k0 k1 (by omega), fun h => absurd h (Nat.lt_irrefl _)⟩
/-- What a heap's first number is. -/
theorem HeapL.least {R : List Int} (h : HeapL R) : ∀ k, k < R.length → atL R 0 ≤ atL R k := fun k => by
  induction k using Nat.strongRecOn with
  | _ k ih =>
    intro hk
    by_cases e : k = 0
    · subst e; exact Int.le_refl _
    · have h1 := ih ((k - 1) / 2) (by omega) (by omega)
      have h2 := h k (by omega) hk (Nat.zero_le _)
      omega
/-- Ahead of the way down: the last one is put first. -/
theorem HeapL.swapped {R : List Int} {n : Nat} (h : HeapL R) (hn : R.length = n + 1) : DownAt (swapL R 0 n) 0 n 0 :=
  ⟨Nat.le_refl _, fun k k0 k1 _ k3 => by
    rw [at_swap (by omega) (by omega), at_swap (by omega) (by omega), if_neg (by omega), if_neg k3, if_neg (by omega), if_neg (by omega)]
    exact h k k0 (by omega) (Nat.zero_le _), fun h => absurd h (Nat.lt_irrefl _)⟩
theorem up_start {R : List Int} {x : Int} (h : HeapL R) : UpAt (R ++ [x]) R.length := by
  have hat : ∀ k, k < R.length → atL (R ++ [x]) k = atL R k := fun k hk => by unfold atL; rw [List.getElem?_append_left hk]
  refine ⟨fun k k0 k1 k2 => ?_, fun _ k k0 k1 k2 => ?_⟩
  · simp at k1
    rw [hat _ (by omega), hat _ (by omega)]
    exact h k k0 (by omega) (Nat.zero_le _)
  · simp at k1; omega
/-- The first n alone. -/
theorem heap_take {R : List Int} {n : Nat} (h : HeapFrom R 0 n) (hn : n ≤ R.length) : HeapL (R.take n) := by
  have hat : ∀ k, k < n → atL (R.take n) k = atL R k := fun k hk => by unfold atL; rw [List.getElem?_take_of_lt hk]
  intro k k0 k1 _
  simp at k1
  rw [hat _ (by omega), hat _ (by omega)]
  exact h k k0 (by omega) (Nat.zero_le _)
theorem take_last {R : List Int} {n : Nat} (hn : R.length = n + 1) : (atL R n :: R.take n).Perm R := by
  have e : R = R.take n ++ [atL R n] := by
    rw [at_get (by omega)]
    have := List.take_append_getElem (l := R) (i := n) (by omega)
    rw [this, List.take_of_length_le (by omega)]
  have h1 : (atL R n :: R.take n).Perm (R.take n ++ [atL R n]) := (List.perm_append_comm (l₁ := [atL R n]) (l₂ := R.take n))
  rw [← e] at h1
  exact h1
end Go.Proofs.YtneanbagdkeoiaaDoor
