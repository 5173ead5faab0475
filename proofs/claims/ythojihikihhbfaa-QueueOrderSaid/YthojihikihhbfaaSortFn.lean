/- Rising lists: plain lemmas (chapter 10). -/
import Derived.Test.YthojihikihhbfaaQueueFn
namespace Go.Proofs.Ythojihikihhbfaa
set_option linter.unusedSimpArgs false
set_option linter.unusedVariables false

/-- A number put into a rising list. -/
def putL : List Int → Int → List Int
  | [], n => [n]
  | x :: r, n => if n < x then n :: x :: r else x :: putL r n
def sortL (l : List Int) : List Int := l.foldl putL []
def Rise (L : List Int) : Prop := L.Pairwise (· ≤ ·)
theorem put_all {n : Int} : ∀ {A : List Int}, (∀ x ∈ A, ¬ n < x) → putL A n = A ++ [n]
  | [], _ => rfl
  | x :: r, h => by
    unfold putL
    rw [if_neg (h x (by simp)), put_all fun y hy => h y (by simp [hy])]
    rfl
theorem put_stop {n y : Int} (hy : n < y) : ∀ {A : List Int}, (∀ x ∈ A, ¬ n < x) → putL (A ++ [y]) n = A ++ [n] ++ [y]
  | [], _ => by simp [putL, hy]
  | x :: r, h => by
    show (if n < x then n :: x :: (r ++ [y]) else x :: putL (r ++ [y]) n) = _
    rw [if_neg (h x (by simp)), put_stop hy fun z hz => h z (by simp [hz])]
    simp
theorem put_done {n y : Int} : ∀ {A : List Int}, (∃ x ∈ A, n < x) → putL (A ++ [y]) n = putL A n ++ [y]
  | [], h => by obtain ⟨x, hx, -⟩ := h; cases hx
  | x :: r, h => by
    show (if n < x then n :: x :: (r ++ [y]) else x :: putL (r ++ [y]) n) = (if n < x then n :: x :: r else x :: putL r n) ++ [y]
    by_cases e : n < x
    · rw [if_pos e, if_pos e]; simp
    · rw [if_neg e, if_neg e, put_done (A := r)]
      · simp
      · obtain ⟨z, hz, hl⟩ := h
        rcases List.mem_cons.1 hz with rfl | hz
        · exact absurd hl e
        · exact ⟨z, hz, hl⟩
theorem put_len (n : Int) : ∀ A : List Int, (putL A n).length = A.length + 1
  | [] => rfl
  | x :: r => by
    unfold putL
    split
    · simp
    · simp [put_len n r]
theorem put_perm (n : Int) : ∀ A : List Int, (putL A n).Perm (n :: A)
  | [] => List.Perm.refl _
  | x :: r => by
    unfold putL
    split
    · exact List.Perm.refl _
    · exact ((put_perm n r).cons x).trans (List.Perm.swap n x r)
theorem put_rise {n : Int} : ∀ {A : List Int}, Rise A → Rise (putL A n)
  | [], _ => by simp [putL, Rise]
  | x :: r, h => by
    obtain ⟨h1, h2⟩ := List.pairwise_cons.1 h
    unfold putL
    split
    · refine List.pairwise_cons.2 ⟨fun y hy => ?_, h⟩
      rcases List.mem_cons.1 hy with rfl | hy
      · omega
      · have := h1 y hy; omega
    · refine List.pairwise_cons.2 ⟨fun y hy => ?_, put_rise h2⟩
      rcases List.mem_cons.1 ((put_perm n r).mem_iff.1 hy) with rfl | hy
      · omega
      · exact h1 y hy
theorem sort_snoc (l : List Int) (x : Int) : sortL (l ++ [x]) = putL (sortL l) x := by simp [sortL]
theorem fold_perm : ∀ (l A : List Int), (l.foldl putL A).Perm (A ++ l)
  | [], A => by simp
  | x :: r, A => by
    have h := fold_perm r (putL A x)
    refine h.trans ?_
    have h1 : (putL A x ++ r).Perm ((x :: A) ++ r) := (put_perm x A).append_right r
    refine h1.trans ?_
    show (x :: (A ++ r)).Perm (A ++ x :: r)
    exact (List.perm_middle (a := x) (l₁ := A) (l₂ := r)).symm
theorem sort_perm (l : List Int) : (sortL l).Perm l := by simpa [sortL] using fold_perm l []
theorem fold_rise : ∀ (l A : List Int), Rise A → Rise (l.foldl putL A)
  | [], _, h => h
  | x :: r, A, h => fold_rise r (putL A x) (put_rise h)
theorem sort_rise (l : List Int) : Rise (sortL l) := fold_rise l [] List.Pairwise.nil
theorem sort_len (l : List Int) : (sortL l).length = l.length := (sort_perm l).length_eq
theorem rise_unique : ∀ {A B : List Int}, Rise A → Rise B → A.Perm B → A = B
  | [], B, _, _, h => by rw [List.nil_perm.1 h]
  | a :: A, B, hA, hB, h => by
    cases B with
    | nil => exact absurd h.length_eq (by simp)
    | cons b B =>
      obtain ⟨a1, a2⟩ := List.pairwise_cons.1 hA
      obtain ⟨b1, b2⟩ := List.pairwise_cons.1 hB
      have e : a = b := by
        have h1 : a ∈ b :: B := h.mem_iff.1 (by simp)
        have h2 : b ∈ a :: A := h.mem_iff.2 (by simp)
        rcases List.mem_cons.1 h1 with h1 | h1
        · exact h1
        · rcases List.mem_cons.1 h2 with h2 | h2
          · exact h2.symm
          · have := b1 a h1; have := a1 b h2; omega
      subst e
      rw [rise_unique a2 b2 (List.perm_cons a |>.1 h)]
theorem at_mem {R : List Int} {k : Nat} (h : k < R.length) : atL R k ∈ R := by rw [at_get h]; exact List.getElem_mem h
theorem mem_at {R : List Int} {x : Int} (h : x ∈ R) : ∃ k, k < R.length ∧ atL R k = x := by
  obtain ⟨k, hk, e⟩ := List.getElem_of_mem h
  exact ⟨k, hk, by rw [at_get hk]; exact e⟩
/-- A heap's first number is the least: the first of the same numbers, rising. -/
theorem heap_head {R T : List Int} {x : Int} (h : HeapL R) (hp : R.Perm (x :: T)) (hr : Rise (x :: T)) : atL R 0 = x := by
  obtain ⟨h1, -⟩ := List.pairwise_cons.1 hr
  have hl : 0 < R.length := by rw [hp.length_eq]; simp
  have m1 : atL R 0 ∈ x :: T := hp.mem_iff.1 (at_mem hl)
  obtain ⟨k, hk, e⟩ := mem_at (hp.mem_iff.2 (show x ∈ x :: T by simp))
  have m2 := h.least k hk
  rcases List.mem_cons.1 m1 with m1 | m1
  · exact m1
  · have := h1 _ m1; omega
end Go.Proofs.Ythojihikihhbfaa
