/- Contracts of the reference's Get, Field, with, Set, Paint, In (chapter 8). -/
import Derived.Test.YtonjnedlnfdanaaDoorRowOne
import Derived.Test.YtonjnedlnfdanaaDoorObjFn
namespace Go.Proofs.YtonjnedlnfdanaaDoor
set_option linter.unusedSimpArgs false
set_option linter.unusedVariables false
open Go.ChangeShapes Go.WideShapes Go.ChangeAt Go.RowKit Go.Joins

theorem boxed_hd {w : World} {v0 v1 v2 u0 u1 u2 u3 : Value} {t t' : TypeId} : ∃ w0, w0 = (w.alloc (.cells #[v0, v1, v2] t)).alloc (.cells #[u0, u1, u2, u3] t') ∧ Box3 w.heap.size v0 v1 v2 w0 ∧ Box4 (w.heap.size + 1) u0 u1 u2 u3 w0 ∧ Below w.heap.size w w0 := by
  refine ⟨_, rfl, (Box3.new w _ _ _ _).below ((Below.refl _ _).alloc (Nat.le_refl _) _), ?_, ?_⟩
  · have := Box4.new (w.alloc (.cells #[v0, v1, v2] t)) u0 u1 u2 u3 t'
    simpa using this
  · exact ((Below.refl _ _).alloc (Nat.le_refl _) _).alloc (by simp) _
theorem hd_none {X : Int} (h : gU X = false) : gC X = false ∧ gK X = 0 ∧ gN X = 0 := by
  refine ⟨by unfold gC; rw [h]; rfl, ?_, ?_⟩
  · unfold gK; rw [if_neg (by simp [h])]
  · unfold gN; rw [if_neg (by simp [h])]
theorem boxed_val {w : World} {v0 v1 v2 u0 u1 : Value} {t t' : TypeId} : ∃ w0, w0 = (w.alloc (.cells #[v0, v1, v2] t)).alloc (.cells #[u0, u1] t') ∧ Box3 w.heap.size v0 v1 v2 w0 ∧ w.heap.size + 1 < w0.heap.size ∧ w0.cell? ⟨w.heap.size + 1, 0, none⟩ = some u0 ∧ w0.cell? ⟨w.heap.size + 1, 1, none⟩ = some u1 ∧ w0.frozen? ⟨w.heap.size + 1, 0, none⟩ = false ∧ w0.frozen? ⟨w.heap.size + 1, 1, none⟩ = false ∧ Below w.heap.size w w0 := by
  have hg := heap_alloc_new (w.alloc (.cells #[v0, v1, v2] t)) (.cells #[u0, u1] t')
  rw [World.size_alloc] at hg
  refine ⟨_, rfl, (Box3.new w _ _ _ _).below ((Below.refl _ _).alloc (Nat.le_refl _) _), by simp, ?_, ?_, ?_, ?_, ((Below.refl _ _).alloc (Nat.le_refl _) _).alloc (by simp) _⟩
  · rw [cell_of_row _ _ _ _ _ _ hg]; rfl
  · rw [cell_of_row _ _ _ _ _ _ hg]; rfl
  · exact frozen_of_row _ _ _ _ _ hg
  · exact frozen_of_row _ _ _ _ _ hg
theorem three_boxes {w : World} {x0 x1 x2 z0 z1 z2 u0 u1 u2 : Value} {t : TypeId} : ∃ w0, w0 = ((w.alloc (.cells #[x0, x1, x2] t)).alloc (.cells #[z0, z1, z2] t)).alloc (.cells #[u0, u1, u2] t) ∧
    Box3 w.heap.size x0 x1 x2 w0 ∧ Box3 (w.heap.size + 1) z0 z1 z2 w0 ∧ Box3 (w.heap.size + 1 + 1) u0 u1 u2 w0 ∧ Below w.heap.size w w0 ∧ w0.heap.size = w.heap.size + 3 := by
  have a0 := Box3.new w x0 x1 x2 t
  have a1 := Box3.new (w.alloc (.cells #[x0, x1, x2] t)) z0 z1 z2 t
  have a2 := Box3.new ((w.alloc (.cells #[x0, x1, x2] t)).alloc (.cells #[z0, z1, z2] t)) u0 u1 u2 t
  have st : ∀ (W : World) (o : Obj), Below W.heap.size W (W.alloc o) := fun W o => (Below.refl _ _).alloc (Nat.le_refl _) _
  refine ⟨_, rfl, (a0.below (st _ _)).below (st _ _), ?_, ?_, ?_, by simp⟩
  · have := a1.below (st _ (.cells #[u0, u1, u2] t))
    simpa only [World.size_alloc] using this
  · simpa only [World.size_alloc] using a2
  · exact ((st w _).trans ((st _ _).mono (by simp))).trans ((st _ _).mono (by simp; omega))
theorem vals_put_snoc (n : Nat) (z : Nat → Int) (g x y : Int) (e : y = putZ z g x n) : vals .u64 n (putZ z g x) ++ [.int .u64 y] = vals .u64 (n + 1) (putZ z g x) := by
  rw [e]; exact vals_snoc _ _ _
theorem set_boxes {w : World} {x0 x1 x2 k n u0 u1 u2 : Value} {t t' : TypeId} : ∃ w0, w0 = ((w.alloc (.cells #[x0, x1, x2] t)).alloc (.cells #[k, n] t')).alloc (.cells #[u0, u1, u2] t) ∧
    Box3 w.heap.size x0 x1 x2 w0 ∧ (w.heap.size + 1 < w0.heap.size ∧ w0.cell? ⟨w.heap.size + 1, 0, none⟩ = some k ∧ w0.cell? ⟨w.heap.size + 1, 1, none⟩ = some n) ∧ Box3 (w.heap.size + 1 + 1) u0 u1 u2 w0 ∧ Below w.heap.size w w0 ∧ w0.heap.size = w.heap.size + 3 := by
  have st : ∀ (W : World) (o : Obj), Below W.heap.size W (W.alloc o) := fun W o => (Below.refl _ _).alloc (Nat.le_refl _) _
  have a0 := Box3.new w x0 x1 x2 t
  have hg := heap_alloc_new (w.alloc (.cells #[x0, x1, x2] t)) (.cells #[k, n] t')
  rw [World.size_alloc] at hg
  have hg2 : (((w.alloc (.cells #[x0, x1, x2] t)).alloc (.cells #[k, n] t')).alloc (.cells #[u0, u1, u2] t)).heap[w.heap.size + 1]? = some (.cells #[k, n] t' (0, 0)) := by
    rw [Below.heap_alloc _ _ _ (by simp)]; exact hg
  have a2 := Box3.new ((w.alloc (.cells #[x0, x1, x2] t)).alloc (.cells #[k, n] t')) u0 u1 u2 t
  refine ⟨_, rfl, (a0.below (st _ _)).below (st _ _), ⟨by simp, ?_, ?_⟩, ?_, ?_, by simp⟩
  · rw [cell_of_row _ _ _ _ _ _ hg2]; rfl
  · rw [cell_of_row _ _ _ _ _ _ hg2]; rfl
  · simpa only [World.size_alloc] using a2
  · exact ((st w _).trans ((st _ _).mono (by simp))).trans ((st _ _).mono (by simp; omega))
theorem putV_wf {k n : Int} (hm : mayB k n = true) (hn : n ≤ 9223372036854775807) : (Lit.int .u64 (putV k n)).wf = true := by
  have := putW_lt k n hn
  unfold putW at this
  rw [if_pos hm] at this
  exact wf_u64_of this.1 this.2
def inZ (n : Nat) (z : Nat → Int) (x : Int) : Bool := (List.range n).any fun i => z i == x
theorem inZ_iff {n : Nat} {z : Nat → Int} {x : Int} : inZ n z x = true ↔ ∃ i, i < n ∧ z i = x := by simp [inZ]
end Go.Proofs.YtonjnedlnfdanaaDoor
