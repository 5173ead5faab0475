/- Markers in memory (chapter 17): what an argument holds; what a variable's cells are. -/
import Derived.Test.YtmbgodncagjncaaDoorB30
import Derived.Test.YtmbgodncagjncaaDoorB21
namespace Go.Proofs.YtmbgodncagjncaaDoor
set_option linter.unusedSimpArgs false
set_option linter.unusedVariables false
open Go.ChangeShapes Go.WideShapes Go.ChangeAt Go.RowKit Go.Joins

section
variable {H : Type} {enc : TypeId × Value → H} {P : Program} {W : World} {base : Nat}
end
end Go.Proofs.YtmbgodncagjncaaDoor
namespace Go.Proofs.YtmbgodncagjncaaDoor
set_option linter.unusedSimpArgs false
set_option linter.unusedVariables false
open Go.ChangeShapes Go.WideShapes Go.ChangeAt Go.RowKit Go.Joins

/-- A row of numbers with its room, whose block is old or of numbers. -/
def GrE (N : Nat) (W : World) (g : Gy) (L : List Value) : Prop := ∃ p c, L = [.int .i64 g.r, .slice p g.n c] ∧ GrAt W p c g.n g.z ∧ RowE N 3 g.n p W ∧ In64 g.r
theorem grE_below {N : Nat} : CBelow (GrE N) := fun _ _ _ _ h hb => by
  obtain ⟨p, c, e, h, ht, hr⟩ := h
  exact ⟨p, c, e, h.below hb, ht.below hb, hr⟩
theorem GrE.grC {N : Nat} {W : World} {g : Gy} {L : List Value} (h : GrE N W g L) : GrC W g L := by
  obtain ⟨p, c, e, h, -, hr⟩ := h
  exact ⟨p, c, e, h, hr⟩
/-- A marker's rows. -/
structure MAtE (N : Nat) (W : World) (m : Mk) (pg : Option Addr) (cg : Nat) (pb : Option Addr) (cb : Nat) (pr : Option Addr) (cr : Nat) : Prop where
  g : GrAt W pg cg m.g.n m.g.z
  ge : RowE N 3 m.g.n pg W
  b : RAt (GrE N) 2 W pb cb m.nb m.b
  be : RowE N 33 m.nb pb W
  r : VAt W pr cr m.nr m.ro
  re : RowE N 46 m.nr pr W
section
variable {N T k gg : Nat} {W W' : World} {m : Mk} {pg : Option Addr} {cg : Nat} {pb : Option Addr} {cb : Nat} {pr : Option Addr} {cr : Nat}
theorem RAt.plain {W : World} {p : Option Addr} {c n : Nat} {b : Nat → Gy} (h : RAt (GrE N) 2 W p c n b) : RAt GrC 2 W p c n b :=
  ⟨fun i hi => by obtain ⟨bb, off, L, e, hl, hL, hc, hx⟩ := h.row i hi; exact ⟨bb, off, L, e, hl, hL, hc, hx.grC⟩, h.nle, h.pnil, h.ncap⟩
theorem MAtE.below (h : MAtE N W m pg cg pb cb pr cr) (hb : Below W.heap.size W W') : MAtE N W' m pg cg pb cb pr cr :=
  ⟨h.g.below hb, h.ge.below hb, h.b.below grE_below hb, h.be.below hb, h.r.below hb, h.re.below hb⟩
theorem GrE.puts {g : Gy} {L : List Value} (h : GrE N W g L) (hv : VarT T k gg W) (hT : ¬ 3 = T) (hg : N ≤ gg) (ys : List Value) : GrE N (putsL gg 0 ys W) g L := by
  obtain ⟨p, c, e, h, ht, hr⟩ := h
  exact ⟨p, c, e, grAt_puts h ht hv hT hg ys, ht.puts hv hT hg ys, hr⟩
theorem rat_puts {b : Nat → Gy} {n c : Nat} {p : Option Addr} (h : RAt (GrE N) 2 W p c n b) (he : RowE N 33 n p W) (hv : VarT T k gg W) (hT : ¬ 3 = T) (hT2 : ¬ 33 = T) (hg : N ≤ gg) (ys : List Value) : RAt (GrE N) 2 (putsL gg 0 ys W) p c n b :=
  ⟨fun i hi => by
    obtain ⟨bb, off, L, e, hl, hL, hc, hx⟩ := h.row i hi
    have hne := he.ne hv hT2 hg (by omega) e
    exact ⟨bb, off, L, e, by rw [putsL_size]; exact hl, hL, fun j u hj => by rw [World.cell?_of_block (w := W) (a := ⟨bb, _, none⟩) (putsL_other hne ys 0 W)]; exact hc j u hj, hx.puts hv hT hg ys⟩, h.nle, h.pnil, h.ncap⟩
/-- .. as a variable is stored into. -/
theorem MAtE.puts (h : MAtE N W m pg cg pb cb pr cr) (hv : VarT T k gg W) (hT : ¬ 3 = T) (hT2 : ¬ 33 = T) (hT3 : ¬ 46 = T) (hg : N ≤ gg) (ys : List Value) : MAtE N (putsL gg 0 ys W) m pg cg pb cb pr cr :=
  ⟨grAt_puts h.g h.ge hv hT hg ys, h.ge.puts hv hT hg ys, rat_puts h.b h.be hv hT hT2 hg ys, h.be.puts hv hT2 hg ys, h.r.puts h.re hv hT3 hg ys, h.re.puts hv hT3 hg ys⟩
theorem RAt.old {W : World} {p : Option Addr} {c n : Nat} {b : Nat → Gy} (h : RAt GrC 2 W p c n b) (hN : W.heap.size ≤ N) : RAt (GrE N) 2 W p c n b :=
  ⟨fun i hi => by
    obtain ⟨bb, off, L, e, hl, hL, hc, q, d, e2, hg, hr⟩ := h.row i hi
    refine ⟨bb, off, L, e, hl, hL, hc, q, d, e2, hg, fun h0 b1 o1 s1 e1 => ?_, hr⟩
    obtain ⟨⟨b2, o2, e3, hl2, -⟩, -⟩ := hg.ints 0 h0
    rw [e1] at e3
    injection e3 with e3
    injection e3 with e3 e4
    subst e3
    exact ⟨hl2, .inl (by omega)⟩, h.nle, h.pnil, h.ncap⟩
/-- What came in. -/
theorem MAtE.old (hg : GrAt W pg cg m.g.n m.g.z) (hb : RAt GrC 2 W pb cb m.nb m.b) (hr : VAt W pr cr m.nr m.ro) (hN : W.heap.size ≤ N) : MAtE N W m pg cg pb cb pr cr := by
  refine ⟨hg, ?_, hb.old hN, ?_, hr, ?_⟩
  · intro h0 b off sp e
    obtain ⟨⟨b2, o2, e3, hl2, -⟩, -⟩ := hg.ints 0 h0
    rw [e] at e3
    injection e3 with e3
    injection e3 with e3 e4
    subst e3
    exact ⟨hl2, .inl (by omega)⟩
  · intro h0 b off sp e
    have := hb.lt h0 b off sp e
    exact ⟨this, .inl (by omega)⟩
  · intro h0 b off sp e
    obtain ⟨⟨b2, o2, e3, hl2, -⟩, -⟩ := hr.row 0 h0
    rw [e] at e3
    injection e3 with e3
    injection e3 with e3 e4
    subst e3
    exact ⟨hl2, .inl (by omega)⟩
end
theorem plain_marker (m : Mk) (pg : Option Addr) (cg : Nat) (pb : Option Addr) (cb : Nat) (pr : Option Addr) (cr : Nat) : PlainC #[.int .i64 m.g.r, .slice pg m.g.n cg, .slice pb m.nb cb, .slice pr m.nr cr, .int .i64 m.ob, .int .i64 m.fi, .int .i64 m.cu, .bool m.ov] := ⟨by show 8 < 32; decide, fun i x e => by
  match i, e with
  | 0, e => simp at e
  | 1, e => simp at e
  | 2, e => simp at e
  | 3, e => simp at e
  | 4, e => simp at e
  | 5, e => simp at e
  | 6, e => simp at e
  | 7, e => simp at e
  | i + 8, e => simp at e⟩
theorem plainL_marker (m : Mk) (pg : Option Addr) (cg : Nat) (pb : Option Addr) (cb : Nat) (pr : Option Addr) (cr : Nat) : PlainL [.int .i64 m.g.r, .slice pg m.g.n cg, .slice pb m.nb cb, .slice pr m.nr cr, .int .i64 m.ob, .int .i64 m.fi, .int .i64 m.cu, .bool m.ov] := fun y hy x e => by
  subst e; simp at hy
theorem TBox.varM {T g : Nat} {m : Mk} {pg : Option Addr} {cg : Nat} {pb : Option Addr} {cb : Nat} {pr : Option Addr} {cr : Nat} {w : World} (h : TBox T g #[.int .i64 m.g.r, .slice pg m.g.n cg, .slice pb m.nb cb, .slice pr m.nr cr, .int .i64 m.ob, .int .i64 m.fi, .int .i64 m.cu, .bool m.ov] w) : VarT T 8 g w := ⟨_, rfl, plain_marker _ _ _ _ _ _ _, h⟩
end Go.Proofs.YtmbgodncagjncaaDoor
namespace Go.Proofs.YtmbgodncagjncaaDoor
set_option linter.unusedSimpArgs false
set_option linter.unusedVariables false
open Go.ChangeShapes Go.WideShapes Go.ChangeAt Go.RowKit Go.Joins

theorem putsL_aside {T : Nat → Prop} {g : Nat} (hg : T g) : ∀ (xs : List Value) (k : Nat) (w : World), Aside T w (putsL g k xs w)
  | [], _, _ => Aside.of (Below.refl _ _)
  | x :: xs, k, w => ((Aside.of (Below.refl _ _)).setCell hg k x).trans (putsL_aside hg xs (k + 1) _)
theorem row_putsL {N : Nat} {E T : TypeId} {m g n k : Nat} {p : Option Addr} {w : World} (h : RowE N E n p w) (hv : VarT T m g w) (hT : ¬ E = T) (hg : N ≤ g) (ys : List Value) : RowE N E n p (putsL g k ys w) := fun h0 b off sp e => by
  obtain ⟨hl, h1⟩ := h h0 b off sp e
  refine ⟨by rw [putsL_size]; exact hl, ?_⟩
  rcases h1 with h1 | ⟨cs, h1⟩
  · exact .inl h1
  · exact .inr ⟨cs, (putsL_other (h.ne hv hT hg h0 e) ys k w).trans h1⟩
theorem gr_putsL {N : Nat} {E T : TypeId} {m g k : Nat} {p : Option Addr} {n c : Nat} {z : Nat → Int} {w : World} (h : GrAt w p c n z) (he : RowE N E n p w) (hv : VarT T m g w) (hT : ¬ E = T) (hg : N ≤ g) (ys : List Value) : GrAt (putsL g k ys w) p c n z :=
  h.of_block (by rw [putsL_size]; exact Nat.le_refl _) fun h0 b off sp e => putsL_other (he.ne hv hT hg h0 e) ys k w
end Go.Proofs.YtmbgodncagjncaaDoor
