/- A region that draws its order, reads a variable that lies below and stores into it: an operation that the store waits for, by way of others too, knows that the store is still to come. -/
import Derived.Test.YtmbgodncagjncaaDoorB08
import Derived.Test.YtmbgodncagjncaaDoorB35
namespace Go.Proofs.YtmbgodncagjncaaDoor
set_option linter.unusedSimpArgs false
set_option linter.unusedVariables false
open Go.ChangeShapes Go.WideShapes Go.ChangeAt Go.RowKit Go.Joins

section
variable {P : Program} {l : List Oper} {Q : Exit → Act → World → Prop} {a : Act} {ds : List (Option Nat)} {Φ : Nat → (Nat → Value) → World → Prop} {R : Bool → World → Prop} {is : Nat} {anc : Nat → Bool} {Per : Nat → World → World → Prop}
end
end Go.Proofs.YtmbgodncagjncaaDoor
namespace Go.Proofs.YtmbgodncagjncaaDoor
set_option linter.unusedSimpArgs false
set_option linter.unusedVariables false
open Go.ChangeShapes Go.WideShapes Go.ChangeAt Go.RowKit Go.Joins

section
variable {P : Program} {l : List Oper} {Q : Exit → Act → World → Prop} {a : Act} {ds : List (Option Nat)} {Φ : Nat → (Nat → Value) → World → Prop} {R : Bool → World → Prop} {is : Nat} {anc dsc : Nat → Bool} {Per : Nat → World → World → Prop}
end
end Go.Proofs.YtmbgodncagjncaaDoor
namespace Go.Proofs.YtmbgodncagjncaaDoor
set_option linter.unusedSimpArgs false
set_option linter.unusedVariables false
open Go.ChangeShapes Go.WideShapes Go.ChangeAt Go.RowKit Go.Joins

def HmT (n k : Nat) (b : Bool) (H : Hp) (N : Nat) (M : Mk) (v : Value) (w : World) : Prop :=
  ∃ p c q d pg cg pb cb pr cr, v = .tuple #[.agg #[.slice p n c, .slice q k d, .bool b], .agg #[.int .i64 M.g.r, .slice pg M.g.n cg, .slice pb M.nb cb, .slice pr M.nr cr, .int .i64 M.ob, .int .i64 M.fi, .int .i64 M.cu, .bool M.ov]] ∧ HpIn w p n c q k d b H ∧ MAtE N w M pg cg pb cb pr cr
def MkV (N : Nat) (M : Mk) (v : Value) (w : World) : Prop :=
  ∃ pg cg pb cb pr cr, v = .agg #[.int .i64 M.g.r, .slice pg M.g.n cg, .slice pb M.nb cb, .slice pr M.nr cr, .int .i64 M.ob, .int .i64 M.fi, .int .i64 M.cu, .bool M.ov] ∧ MAtE N w M pg cg pb cb pr cr
def FullME (T N : Nat) (M : Mk) (g : Nat) (w : World) : Prop :=
  ∃ pg cg pb cb pr cr, TBox T g #[.int .i64 M.g.r, .slice pg M.g.n cg, .slice pb M.nb cb, .slice pr M.nr cr, .int .i64 M.ob, .int .i64 M.fi, .int .i64 M.cu, .bool M.ov] w ∧ MAtE N w M pg cg pb cb pr cr
section
variable {n k N T T' m' g g' : Nat} {b : Bool} {H : Hp} {M : Mk} {v : Value} {w w' : World}
theorem HmT.below (h : HmT n k b H N M v w) (hb : Below w.heap.size w w') : HmT n k b H N M v w' := by
  obtain ⟨p, c, q, d, pg, cg, pb, cb, pr, cr, e, h1, h2⟩ := h
  exact ⟨p, c, q, d, pg, cg, pb, cb, pr, cr, e, h1.below hb, h2.below hb⟩
theorem MkV.below (h : MkV N M v w) (hb : Below w.heap.size w w') : MkV N M v w' := by
  obtain ⟨pg, cg, pb, cb, pr, cr, e, h2⟩ := h
  exact ⟨pg, cg, pb, cb, pr, cr, e, h2.below hb⟩
theorem FullME.below (h : FullME T N M g w) (hb : Below w.heap.size w w') : FullME T N M g w' := by
  obtain ⟨pg, cg, pb, cb, pr, cr, e, h2⟩ := h
  exact ⟨pg, cg, pb, cb, pr, cr, e.below hb, h2.below hb⟩
theorem VarT.eight (h : VarT T 8 g w) : ∃ x0 x1 x2 x3 x4 x5 x6 x7, TBox T g #[x0, x1, x2, x3, x4, x5, x6, x7] w := by
  obtain ⟨⟨l⟩, e, -, h⟩ := h
  have e' : l.length = 8 := e
  rcases l with _ | ⟨x0, l⟩
  · simp at e'
  rcases l with _ | ⟨x1, l⟩
  · simp at e'
  rcases l with _ | ⟨x2, l⟩
  · simp at e'
  rcases l with _ | ⟨x3, l⟩
  · simp at e'
  rcases l with _ | ⟨x4, l⟩
  · simp at e'
  rcases l with _ | ⟨x5, l⟩
  · simp at e'
  rcases l with _ | ⟨x6, l⟩
  · simp at e'
  rcases l with _ | ⟨x7, l⟩
  · simp at e'
  have : l = [] := List.eq_nil_of_length_eq_zero (by simp only [List.length_cons] at e'; omega)
  subst this
  exact ⟨x0, x1, x2, x3, x4, x5, x6, x7, h⟩
theorem mk_frozen {x0 x1 x2 x3 x4 x5 x6 x7 : Value} (h : TBox T g #[x0, x1, x2, x3, x4, x5, x6, x7] w) : w.frozen? ⟨g, 0, none⟩ = false ∧ w.frozen? ⟨g, 1, none⟩ = false ∧ w.frozen? ⟨g, 2, none⟩ = false ∧ w.frozen? ⟨g, 3, none⟩ = false ∧ w.frozen? ⟨g, 4, none⟩ = false ∧ w.frozen? ⟨g, 5, none⟩ = false ∧ w.frozen? ⟨g, 6, none⟩ = false ∧ w.frozen? ⟨g, 7, none⟩ = false :=
  ⟨h.frozen 0, h.frozen 1, h.frozen 2, h.frozen 3, h.frozen 4, h.frozen 5, h.frozen 6, h.frozen 7⟩
theorem set_eight (x0 x1 x2 x3 x4 x5 x6 x7 a0 a1 a2 a3 a4 a5 a6 a7 : Value) : setFrom #[x0, x1, x2, x3, x4, x5, x6, x7] 0 [a0, a1, a2, a3, a4, a5, a6, a7] = #[a0, a1, a2, a3, a4, a5, a6, a7] := by
  simp only [setFrom, Nat.reduceAdd, List.setIfInBounds_toArray, List.set_cons_succ, List.set_cons_zero]
theorem VarT.full8 {a0 a1 a2 a3 a4 a5 a6 a7 : Value} (h : VarT T 8 g w) : TBox T g #[a0, a1, a2, a3, a4, a5, a6, a7] (putsL g 0 [a0, a1, a2, a3, a4, a5, a6, a7] w) := by
  obtain ⟨x0, x1, x2, x3, x4, x5, x6, x7, h⟩ := h.eight
  have := h.putsL [a0, a1, a2, a3, a4, a5, a6, a7] 0
  rwa [set_eight] at this
end
/-- The two variables. -/
def HmS (TH GH TM GM : Nat) (w : World) : Prop := VarT TH 3 GH w ∧ VarT TM 8 GM w
theorem HmS.below {TH GH TM GM : Nat} {w w' : World} (h : HmS TH GH TM GM w) (hb : Below w.heap.size w w') : HmS TH GH TM GM w' := ⟨h.1.below hb, h.2.below hb⟩
theorem HmS.puts {TH GH TM GM g : Nat} {w : World} (h : HmS TH GH TM GM w) {ys : List Value} (hy : PlainL ys) : HmS TH GH TM GM (putsL g 0 ys w) := ⟨h.1.puts hy, h.2.puts hy⟩
end Go.Proofs.YtmbgodncagjncaaDoor
