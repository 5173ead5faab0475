/- Contracts of object.* and of the reference's Set and Paint, by a heap's three cells (chapter 8). -/
import Derived.Test.YtonjnedlnfdanaaDoorObjSet
import Derived.Test.YtonjnedlnfdanaaDoorObjList
import Derived.Test.YtonjnedlnfdanaaDoorObjRefs
namespace Go.Proofs.YtonjnedlnfdanaaDoor
set_option linter.unusedSimpArgs false
set_option linter.unusedVariables false
open Go.ChangeShapes Go.WideShapes Go.ChangeAt Go.RowKit Go.Joins

theorem put_n (h : Hp) (p x : Int) : (putH h p x).n = h.n ∧ (putH h p x).m = h.m ∧ (putH h p x).b = h.b := ⟨rfl, rfl, rfl⟩
theorem se_n (h : Hp) (a i k n : Int) : (seH h a i k n).n = h.n ∧ (seH h a i k n).m = h.m ∧ (seH h a i k n).b = h.b := by unfold seH; split <;> exact ⟨rfl, rfl, rfl⟩
theorem pa_n (h : Hp) (a : Int) : (paH h a).n = h.n ∧ (paH h a).m = h.m ∧ (paH h a).b = h.b := by unfold paH; split <;> exact ⟨rfl, rfl, rfl⟩
theorem wf_i64_of {a : Int} (h0 : -9223372036854775808 ≤ a) (h1 : a ≤ 9223372036854775807) : (Lit.int .i64 a).wf = true := by
  simp [Lit.wf, IntKind.min, IntKind.max, IntKind.signed, IntKind.bits]; omega
theorem get_wf {X : Int} (h : 0 ≤ X ∧ X < 18446744073709551616) : (Lit.int .i64 (getN X)).wf = true := by
  have : 0 ≤ getN X ∧ getN X < 9223372036854775808 := by unfold getN; split; · omega
                                                         split <;> omega
  exact wf_i64_of (by omega) (by omega)
/-- What a call answers: a row of numbers of its own. -/
structure NumRow (B : Nat) (L : List Int) (W : World) (p : Option Addr) (c : Nat) : Prop where
  ints : Ints .i64 W p L.length fun i => L[i]?.getD 0
  new : ∀ b off sp, p = some ⟨b, off, sp⟩ → B ≤ b
theorem NumRow.below {B : Nat} {L : List Int} {W W' : World} {p : Option Addr} {c : Nat} (r : NumRow B L W p c) (hb : Below W.heap.size W W') : NumRow B L W' p c := ⟨r.ints.below hb, r.new⟩
theorem row_owned {W : World} {B : Nat} {e : TypeId} {v : Value} {L : List Int} (h : W.ownsRow B e 1 v L.length (L.map (Value.int .i64))) (hw : ∀ x ∈ L, (Lit.int .i64 x).wf = true) : ∃ p c, v = .slice p L.length c ∧ NumRow B L W p c := by
  obtain ⟨p, c, rfl, hn⟩ := owned_new h
  rw [map_vals] at h
  exact ⟨p, c, rfl, ints_owned h fun i hi => by
    have : L[i]?.getD 0 = L[i] := by simp [hi]
    rw [this]; exact hw _ (List.getElem_mem hi), hn⟩
theorem obL_wf (h : Hp) (hn : h.n ≤ 512) : ∀ x ∈ obL h h.n, (Lit.int .i64 x).wf = true := fun x hx => by
  obtain ⟨h0, h1, -⟩ := (obL_mem h x h.n).1 hx
  exact wf_i64_of (by omega) (by omega)
theorem rfL_wf {h : Hp} (hw : h.wf) {a : Int} (a0 : 0 ≤ a) : ∀ k : Nat, a + k < h.n → ∀ x ∈ rfL h a k, (Lit.int .i64 x).wf = true
  | 0, _ => by simp [rfL]
  | k + 1, hk => by
    have ih := rfL_wf hw a0 k (by omega)
    by_cases e : getK (woH h (a + 1 + k)) = 2
    · rw [rfL_yes e]
      intro x hx
      simp only [List.mem_append, List.mem_cons, List.not_mem_nil, or_false] at hx
      rcases hx with hx | rfl
      · exact ih x hx
      · exact get_wf (wo_wf hw (by omega) (by omega))
    · rw [rfL_no e]; exact ih
theorem rfH_wf {h : Hp} (hw : h.wf) (hF : formB h = true) (a : Int) : ∀ x ∈ rfH h a, (Lit.int .i64 x).wf = true := by
  unfold rfH
  cases ho : obB h a with
  | false => rw [(ob_no ho).2.2]; intro x hx; cases hx
  | true =>
    obtain ⟨-, -, a0, a1, a2, a3, -, -, a4, -⟩ := ob_spec hF ho
    have hN := gN_bound (X := woH h a)
    rw [← a4] at hN a2
    exact rfL_wf hw a0 _ (by omega)
/-- A variable of two cells. -/
structure Box2 (b : Nat) (x y : Value) (W : World) : Prop where
  lt : b < W.heap.size
  c0 : W.cell? ⟨b, 0, none⟩ = some x
  c1 : W.cell? ⟨b, 1, none⟩ = some y
theorem Box2.below {b : Nat} {x y : Value} {W W' : World} (h : Box2 b x y W) (hb : Below W.heap.size W W') : Box2 b x y W' :=
  ⟨Nat.lt_of_lt_of_le h.lt hb.size, (hb.cell (p := ⟨b, 0, none⟩) h.lt).trans h.c0, (hb.cell (p := ⟨b, 1, none⟩) h.lt).trans h.c1⟩
theorem Box2.other {b : Nat} {x y : Value} {W : World} (h : Box2 b x y W) {g : Nat} (hg : ¬ g = b) (o : Nat) (u : Value) : Box2 b x y (W.setCell ⟨g, o, none⟩ u) := by
  refine ⟨by simpa [World.setCell] using h.lt, ?_, ?_⟩
  · rw [World.cell?_of_block (w := W) (a := ⟨b, 0, none⟩) (Below.heap_setCell W ⟨g, o, none⟩ u b (fun e => hg e.symm))]; exact h.c0
  · rw [World.cell?_of_block (w := W) (a := ⟨b, 1, none⟩) (Below.heap_setCell W ⟨g, o, none⟩ u b (fun e => hg e.symm))]; exact h.c1
theorem Box2.new (W : World) (x y : Value) (t : TypeId) : Box2 W.heap.size x y (W.alloc (.cells #[x, y] t)) := by
  have hg := heap_alloc_new W (.cells #[x, y] t)
  exact ⟨by simp, by rw [cell_of_row _ _ _ _ _ _ hg]; rfl, by rw [cell_of_row _ _ _ _ _ _ hg]; rfl⟩
theorem NumRow.setCell {B : Nat} {L : List Int} {W : World} {p : Option Addr} {c : Nat} (r : NumRow B L W p c) {g : Nat} (hg : g < B) (o : Nat) (u : Value) : NumRow B L (W.setCell ⟨g, o, none⟩ u) p c :=
  ⟨r.ints.setCell (fun b off e => by have := r.new b off none e; omega) o u, r.new⟩
section
variable {p : Option Addr} {n c : Nat} {q : Option Addr} {m d : Nat} {b : Bool} {h : Hp} {w : World}
theorem oget_in {a : Int} (hS : Sz w) (hh : HpIn w p n c q m d b h) (hF : formB h = true) :
    Calls Tryd.prog 42 #[.agg #[.slice p n c, .slice q m d, .bool b], .int .i64 a] w fun e w' => e = .returned (.tuple #[.agg #[.bool (obB h a), .bool (obC h a), .int .i64 (obK h a), .int .i64 (obN h a)], .bool (obB h a)]) ∧ Below w.heap.size w w' := by
  obtain ⟨rfl, rfl, rfl, hh⟩ := hh
  exact oget_any _ _ _ _ _ _ _ hS hh hF
theorem ofield_in {a i : Int} (hS : Sz w) (hh : HpIn w p n c q m d b h) (hF : formB h = true) :
    Calls Tryd.prog 32 #[.agg #[.slice p n c, .slice q m d, .bool b], .int .i64 a, .int .i64 i] w fun e w' => e = .returned (.tuple #[.agg #[.int .i64 (getK (fdX h a i)), .int .i64 (getN (fdX h a i))], .int .i64 (fdE h a i)]) ∧ Below w.heap.size w w' := by
  obtain ⟨rfl, rfl, rfl, hh⟩ := hh
  exact ofield_any _ _ _ _ _ _ _ _ hS hh hF
end
end Go.Proofs.YtonjnedlnfdanaaDoor
