/- Rows of values as lists; rows that stay as an own row of another type grows. -/
import Derived.Test.YtonjnedlnfdanaaDoorVarT
namespace Go.Proofs.YtonjnedlnfdanaaDoor
set_option linter.unusedSimpArgs false
set_option linter.unusedVariables false
open Go.ChangeShapes Go.WideShapes Go.ChangeAt Go.RowKit Go.Joins

/-- A reference. -/
def rfV (a : Int) : Vl := ⟨2, a⟩
/-- The cells of a list of values. -/
def LV (L : List Vl) : List Value := vlVals L.length fun i => L[i]?.getD ⟨0, 0⟩
theorem LV_snoc (L : List Vl) (v : Vl) : LV L ++ v.vals = LV (L ++ [v]) := by
  unfold LV
  rw [List.length_append, List.length_singleton, ← vlVals_snoc]
  congr 1
  · exact vlVals_congr fun i hi => by rw [List.getElem?_append_left hi]
  · rw [List.getElem?_append_right (Nat.le_refl _), Nat.sub_self]; rfl
theorem LV_range (n : Nat) (z : Nat → Vl) : LV ((List.range n).map z) = vlVals n z := by
  unfold LV
  rw [List.length_map, List.length_range]
  exact vlVals_congr fun i hi => by simp [hi]
theorem va_list {W : World} {N : Nat} {p : Option Addr} {c : Nat} {L : List Vl} (h : W.ownsRow N 30 2 (.slice p L.length c) L.length (LV L)) (hn : L.length ≤ maxLen) (hw : ∀ v ∈ L, v.wf) : VAt W p c L.length fun i => L[i]?.getD ⟨0, 0⟩ :=
  va_owned h hn fun i hi => by rw [List.getElem?_eq_getElem hi]; exact hw _ (List.getElem_mem hi)
/-- Rows of other elements than an own row's stay as that grows. -/
theorem rowE_grown {W W' : World} {N B : Nat} {E E' : TypeId} {n s k : Nat} {p : Option Addr} {v : Value} {xs : List Value} (h : RowE N E n p W) (hT : ¬ E = E') (hown : W.ownsRow B E' s v k xs) (hN : N ≤ B) (hg : W.grownBy W' v.ownBlock) :
    (0 < n → ∀ b off sp, p = some ⟨b, off, sp⟩ → W'.heap[b]? = W.heap[b]?) ∧ RowE N E n p W' := by
  have key : 0 < n → ∀ b off sp, p = some ⟨b, off, sp⟩ → W'.heap[b]? = W.heap[b]? := fun h0 b off sp e => by
    obtain ⟨hl, h1⟩ := h h0 b off sp e
    refine hg.block b hl fun eb => ?_
    have hb := (hown.lt b eb.symm).1
    rcases h1 with h1 | ⟨cs, h1⟩
    · omega
    · obtain ⟨q, c, rfl, -⟩ := owned_new hown
      cases q with
      | none => cases eb
      | some a =>
        obtain ⟨g, o, sp'⟩ := a
        injection eb with eb
        obtain ⟨cs', h2⟩ := owned_tag hown g o sp' rfl
        replace eb : b = g := eb
        subst eb
        rw [h2] at h1
        injection h1 with h1
        injection h1 with _ h1
        exact hT h1.symm
  refine ⟨key, fun h0 b off sp e => ?_⟩
  obtain ⟨hl, h1⟩ := h h0 b off sp e
  refine ⟨Nat.lt_of_lt_of_le hl hg.size, ?_⟩
  rcases h1 with h1 | ⟨cs, h1⟩
  · exact .inl h1
  · exact .inr ⟨cs, (key h0 b off sp e).trans h1⟩
theorem LV_flat : ∀ (k : Nat) (L : List Vl), L.length = k → LV L = L.flatMap Vl.vals
  | 0, L, h => by
    obtain rfl := List.eq_nil_of_length_eq_zero h
    rfl
  | k + 1, L, h => by
    obtain ⟨L', v, rfl⟩ : ∃ L' v, L = L' ++ [v] := ⟨L.dropLast, L.getLast (by intro e; rw [e] at h; cases h), (List.dropLast_concat_getLast _).symm⟩
    rw [← LV_snoc, LV_flat k L' (by simpa using h)]
    simp
theorem LV_append (A B : List Vl) : LV A ++ LV B = LV (A ++ B) := by
  rw [LV_flat _ A rfl, LV_flat _ B rfl, LV_flat _ _ rfl, List.flatMap_append]
theorem LV_length (L : List Vl) : (LV L).length = L.length * 2 := vlVals_length _ _
theorem LV_one (L : List Vl) : ∀ u ∈ LV L, u.oneCell' = true := vlVals_one _ _
end Go.Proofs.YtonjnedlnfdanaaDoor
