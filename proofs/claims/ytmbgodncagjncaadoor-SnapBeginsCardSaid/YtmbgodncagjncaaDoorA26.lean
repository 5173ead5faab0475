/- Contracts of the code's object.store, object.Set, object.Paint (chapter 8). -/
import Derived.Test.YtmbgodncagjncaaDoorA25
import Derived.RangeFuncBox
import Derived.RangeFuncNested
import Derived.RangeFuncLeaves
import Derived.RangeFuncCalls
import Derived.Shelf.Abstract
import Derived.WalkKit
import Derived.OwnWalkIn
import Derived.TacticsInMore
import Derived.LoopNIn
import Derived.LoopIn
import Derived.Maps.AppendAt
namespace Go.Proofs.YtmbgodncagjncaaDoor
set_option linter.unusedSimpArgs false
set_option linter.unusedVariables false
open Go.ChangeShapes Go.WideShapes Go.ChangeAt Go.RowKit Go.Joins

end Go.Proofs.YtmbgodncagjncaaDoor
namespace Go.Proofs.YtmbgodncagjncaaDoor
set_option linter.unusedSimpArgs false
set_option linter.unusedVariables false
open Go.ChangeShapes Go.WideShapes Go.ChangeAt Go.RowKit Go.Joins

attribute [local go_sem] Oper.semAt_some

def obL (h : Hp) : Nat → List Int
  | 0 => []
  | k + 1 => if obB h k = true then obL h k ++ [(k : Int)] else obL h k
theorem obL_yes {h : Hp} {k : Nat} (e : obB h k = true) : obL h (k + 1) = obL h k ++ [(k : Int)] := by simp [obL, e]
theorem obL_no {h : Hp} {k : Nat} (e : obB h k = false) : obL h (k + 1) = obL h k := by simp [obL, e]
theorem obL_len (h : Hp) : ∀ k, (obL h k).length ≤ k
  | 0 => by simp [obL]
  | k + 1 => by
    have := obL_len h k
    unfold obL
    split
    · simp; omega
    · omega
theorem obL_mem (h : Hp) (x : Int) : ∀ k : Nat, x ∈ obL h k ↔ 0 ≤ x ∧ x < k ∧ obB h x = true
  | 0 => by simp [obL]; omega
  | k + 1 => by
    have ih := obL_mem h x k
    by_cases e : obB h k = true
    · rw [obL_yes e, List.mem_append, ih]
      simp only [List.mem_cons, List.not_mem_nil, or_false]
      constructor
      · rintro (⟨a, b, c⟩ | rfl)
        · exact ⟨a, by omega, c⟩
        · exact ⟨by omega, by omega, e⟩
      · rintro ⟨a, b, c⟩
        by_cases ex : x = k
        · exact .inr ex
        · exact .inl ⟨a, by omega, c⟩
    · rw [obL_no (by simpa using e), ih]
      constructor
      · rintro ⟨a, b, c⟩; exact ⟨a, by omega, c⟩
      · rintro ⟨a, b, c⟩
        by_cases ex : x = k
        · subst ex; exact absurd c e
        · exact ⟨a, by omega, c⟩
theorem obL_rise (h : Hp) : ∀ k : Nat, (obL h k).Pairwise (· < ·)
  | 0 => by simp [obL]
  | k + 1 => by
    have ih := obL_rise h k
    by_cases e : obB h k = true
    · rw [obL_yes e, List.pairwise_append]
      refine ⟨ih, by simp, fun a ha b hb => ?_⟩
      simp only [List.mem_cons, List.not_mem_nil, or_false] at hb
      subst hb
      exact ((obL_mem h a k).1 ha).2.1
    · rw [obL_no (by simpa using e)]; exact ih
theorem map_vals (k : IntKind) (L : List Int) : L.map (Value.int k) = vals k L.length fun i => L[i]?.getD 0 := by
  apply List.ext_getElem
  · simp [vals]
  · intro i h1 h2
    have : i < L.length := by simpa using h1
    simp [vals, this]

end Go.Proofs.YtmbgodncagjncaaDoor
namespace Go.Proofs.YtmbgodncagjncaaDoor
set_option linter.unusedSimpArgs false
set_option linter.unusedVariables false
open Go.ChangeShapes Go.WideShapes Go.ChangeAt Go.RowKit Go.Joins

/-- The first k fields' references. -/
def rfL (h : Hp) (a : Int) : Nat → List Int
  | 0 => []
  | k + 1 => if getK (woH h (a + 1 + k)) = 2 then rfL h a k ++ [getN (woH h (a + 1 + k))] else rfL h a k
theorem rfL_yes {h : Hp} {a : Int} {k : Nat} (e : getK (woH h (a + 1 + k)) = 2) : rfL h a (k + 1) = rfL h a k ++ [getN (woH h (a + 1 + k))] := by simp only [rfL]; rw [if_pos e]
theorem rfL_no {h : Hp} {a : Int} {k : Nat} (e : ¬ getK (woH h (a + 1 + k)) = 2) : rfL h a (k + 1) = rfL h a k := by simp only [rfL]; rw [if_neg e]
theorem rfL_len (h : Hp) (a : Int) : ∀ k, (rfL h a k).length ≤ k
  | 0 => by simp [rfL]
  | k + 1 => by
    have := rfL_len h a k
    by_cases e : getK (woH h (a + 1 + k)) = 2
    · rw [rfL_yes e]; simp; omega
    · rw [rfL_no e]; omega
def rfH (h : Hp) (a : Int) : List Int := rfL h a (obN h a).toNat
theorem int_info' : (Tryd.prog.info? 3).map (fun i => (i.zero, i.size, i.bytes)) = some (some (.int .i64 0), 1, 8) := by kernel_rfl

theorem ob_room {h : Hp} {a : Int} (hF : formB h = true) (e : obB h a = true) : a + 1 < h.n := by
  obtain ⟨hf, -, a0, a1, -, a3, -⟩ := ob_spec hF e
  obtain ⟨-, -, -, -, -, i0, i1, ea⟩ := fi_spec hF hf
  rcases cl_cases (spH h (a / 32)).cl with ⟨-, e1, e2, -⟩ | ⟨-, e1, e2, -⟩ | ⟨-, e1, e2, -⟩ | ⟨-, e1, e2, -⟩ | ⟨-, e1, e2, -⟩
  all_goals
    rw [e1] at ea
    rw [e2] at i1
    omega
end Go.Proofs.YtmbgodncagjncaaDoor
namespace Go.Proofs.YtmbgodncagjncaaDoor
set_option linter.unusedSimpArgs false
set_option linter.unusedVariables false
open Go.ChangeShapes Go.WideShapes Go.ChangeAt Go.RowKit Go.Joins

theorem wf_i64_of {a : Int} (h0 : -9223372036854775808 ≤ a) (h1 : a ≤ 9223372036854775807) : (Lit.int .i64 a).wf = true := by
  simp [Lit.wf, IntKind.min, IntKind.max, IntKind.signed, IntKind.bits]; omega
theorem get_wf {X : Int} (h : 0 ≤ X ∧ X < 18446744073709551616) : (Lit.int .i64 (getN X)).wf = true := by
  have : 0 ≤ getN X ∧ getN X < 9223372036854775808 := by unfold getN; split; · omega
                                                         split <;> omega
  exact wf_i64_of (by omega) (by omega)
/-- What a call answers: a row of numbers of its own. -/
structure NumRow (B : Nat) (L : List Int) (W : World) (p : Option Addr) (c : Nat) : Prop where
  ints : Ints .i64 W p L.length fun i => L[i]?.getD 0
  new : ∀ b off sp, p = some ⟨b, off, sp⟩ → B ≤ b
theorem NumRow.below {B : Nat} {L : List Int} {W W' : World} {p : Option Addr} {c : Nat} (r : NumRow B L W p c) (hb : Below W.heap.size W W') : NumRow B L W' p c := ⟨r.ints.below hb, r.new⟩
theorem row_owned {W : World} {B : Nat} {e : TypeId} {v : Value} {L : List Int} (h : W.ownsRow B e 1 v L.length (L.map (Value.int .i64))) (hw : ∀ x ∈ L, (Lit.int .i64 x).wf = true) : ∃ p c, v = .slice p L.length c ∧ NumRow B L W p c := by
  obtain ⟨p, c, rfl, hn⟩ := owned_new h
  rw [map_vals] at h
  exact ⟨p, c, rfl, ints_owned h fun i hi => by
    have : L[i]?.getD 0 = L[i] := by simp [hi]
    rw [this]; exact hw _ (List.getElem_mem hi), hn⟩
theorem obL_wf (h : Hp) (hn : h.n ≤ 512) : ∀ x ∈ obL h h.n, (Lit.int .i64 x).wf = true := fun x hx => by
  obtain ⟨h0, h1, -⟩ := (obL_mem h x h.n).1 hx
  exact wf_i64_of (by omega) (by omega)
theorem rfL_wf {h : Hp} (hw : h.wf) {a : Int} (a0 : 0 ≤ a) : ∀ k : Nat, a + k < h.n → ∀ x ∈ rfL h a k, (Lit.int .i64 x).wf = true
  | 0, _ => by simp [rfL]
  | k + 1, hk => by
    have ih := rfL_wf hw a0 k (by omega)
    by_cases e : getK (woH h (a + 1 + k)) = 2
    · rw [rfL_yes e]
      intro x hx
      simp only [List.mem_append, List.mem_cons, List.not_mem_nil, or_false] at hx
      rcases hx with hx | rfl
      · exact ih x hx
      · exact get_wf (wo_wf hw (by omega) (by omega))
    · rw [rfL_no e]; exact ih
theorem rfH_wf {h : Hp} (hw : h.wf) (hF : formB h = true) (a : Int) : ∀ x ∈ rfH h a, (Lit.int .i64 x).wf = true := by
  unfold rfH
  cases ho : obB h a with
  | false => rw [(ob_no ho).2.2]; intro x hx; cases hx
  | true =>
    obtain ⟨-, -, a0, a1, a2, a3, -, -, a4, -⟩ := ob_spec hF ho
    have hN := gN_bound (X := woH h a)
    rw [← a4] at hN a2
    exact rfL_wf hw a0 _ (by omega)
/-- A variable of two cells. -/
structure Box2 (b : Nat) (x y : Value) (W : World) : Prop where
  lt : b < W.heap.size
  c0 : W.cell? ⟨b, 0, none⟩ = some x
  c1 : W.cell? ⟨b, 1, none⟩ = some y
theorem Box2.below {b : Nat} {x y : Value} {W W' : World} (h : Box2 b x y W) (hb : Below W.heap.size W W') : Box2 b x y W' :=
  ⟨Nat.lt_of_lt_of_le h.lt hb.size, (hb.cell (p := ⟨b, 0, none⟩) h.lt).trans h.c0, (hb.cell (p := ⟨b, 1, none⟩) h.lt).trans h.c1⟩
theorem Box2.other {b : Nat} {x y : Value} {W : World} (h : Box2 b x y W) {g : Nat} (hg : ¬ g = b) (o : Nat) (u : Value) : Box2 b x y (W.setCell ⟨g, o, none⟩ u) := by
  refine ⟨by simpa [World.setCell] using h.lt, ?_, ?_⟩
  · rw [World.cell?_of_block (w := W) (a := ⟨b, 0, none⟩) (Below.heap_setCell W ⟨g, o, none⟩ u b (fun e => hg e.symm))]; exact h.c0
  · rw [World.cell?_of_block (w := W) (a := ⟨b, 1, none⟩) (Below.heap_setCell W ⟨g, o, none⟩ u b (fun e => hg e.symm))]; exact h.c1
theorem Box2.new (W : World) (x y : Value) (t : TypeId) : Box2 W.heap.size x y (W.alloc (.cells #[x, y] t)) := by
  have hg := heap_alloc_new W (.cells #[x, y] t)
  exact ⟨by simp, by rw [cell_of_row _ _ _ _ _ _ hg]; rfl, by rw [cell_of_row _ _ _ _ _ _ hg]; rfl⟩
theorem NumRow.setCell {B : Nat} {L : List Int} {W : World} {p : Option Addr} {c : Nat} (r : NumRow B L W p c) {g : Nat} (hg : g < B) (o : Nat) (u : Value) : NumRow B L (W.setCell ⟨g, o, none⟩ u) p c :=
  ⟨r.ints.setCell (fun b off e => by have := r.new b off none e; omega) o u, r.new⟩
section
variable {p : Option Addr} {n c : Nat} {q : Option Addr} {m d : Nat} {b : Bool} {h : Hp} {w : World}
end
end Go.Proofs.YtmbgodncagjncaaDoor
