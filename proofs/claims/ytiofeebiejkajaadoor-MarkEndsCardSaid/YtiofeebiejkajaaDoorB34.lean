/- Markers in memory (chapter 17): what an argument holds; what a variable's cells are. -/
import Derived.Test.YtiofeebiejkajaaDoorB33
import Derived.Test.YtiofeebiejkajaaDoorB27
namespace Go.Proofs.YtiofeebiejkajaaDoor
set_option linter.unusedSimpArgs false
set_option linter.unusedVariables false
open Go.ChangeShapes Go.WideShapes Go.ChangeAt Go.RowKit Go.Joins

/-- What a marker's eight cells are. -/
def MkC (W : World) (m : Mk) (L : List Value) : Prop := ∃ pg cg pb cb pr cr, L = [.int .i64 m.g.r, .slice pg m.g.n cg, .slice pb m.nb cb, .slice pr m.nr cr, .int .i64 m.ob, .int .i64 m.fi, .int .i64 m.cu, .bool m.ov] ∧
  GrAt W pg cg m.g.n m.g.z ∧ RAt GrC 2 W pb cb m.nb m.b ∧ VAt W pr cr m.nr m.ro ∧ (In64 m.g.r ∧ In64 m.ob ∧ In64 m.fi ∧ In64 m.cu)
section
variable {H : Type} {enc : TypeId × Value → H} {P : Program} {W : World} {base : Nat}
theorem trod_marker {t e tv : TypeId} {f0 f1 f2 f3 f4 f5 f6 g0 g1 v0 v1 : Field} {fuel : Nat} {cs : List Value} {y : DataW H × List MemPlace} (hs : P.underlying t = some (.struct #[f0, f1, f2, f3, f4, f5, f6])) (hC : P.cellsOf t = 8)
    (hoff : f0.offset = 0 ∧ f1.offset = 2 ∧ f2.offset = 3 ∧ f3.offset = 4 ∧ f4.offset = 5 ∧ f5.offset = 6 ∧ f6.offset = 7)
    (hcc : P.cellsOf f0.type = 2 ∧ P.cellsOf f1.type = 1 ∧ P.cellsOf f2.type = 1 ∧ P.cellsOf f3.type = 1 ∧ P.cellsOf f4.type = 1 ∧ P.cellsOf f5.type = 1 ∧ P.cellsOf f6.type = 1)
    (hg : P.underlying f0.type = some (.struct #[g0, g1])) (go0 : g0.offset = 0) (go1 : g1.offset = 1) (gc0 : P.cellsOf g0.type = 1) (gc1 : P.cellsOf g1.type = 1) (gu0 : P.underlying g0.type = some (.int .i64)) (gu1 : P.underlying g1.type = some (.slice e)) (he : P.underlying e = some (.int .i64)) (hce : P.cellsOf e = 1)
    (hb : P.underlying f1.type = some (.slice f0.type)) (hr : P.underlying f2.type = some (.slice tv)) (hv : P.underlying tv = some (.struct #[v0, v1])) (hcv : P.cellsOf tv = 2) (hone : Go.Deep.oneCellFields P #[v0, v1] = true) (hv0 : P.underlying v0.type = some (.int .i64)) (hv1 : P.underlying v1.type = some (.int .i64))
    (h3 : P.underlying f3.type = some (.int .i64)) (h4 : P.underlying f4.type = some (.int .i64)) (h5 : P.underlying f5.type = some (.int .i64)) (h6 : P.underlying f6.type = some .bool)
    (h : DataW.trod enc P W 0 (fun _ => true) true fuel t cs = some y) : ∃ m : Mk, MkC W m cs := by
  obtain ⟨hl, hp⟩ := trod_part hs h
  rw [hC] at hl
  obtain ⟨o0, o1, o2, o3, o4, o5, o6⟩ := hoff
  obtain ⟨c0, c1, c2, c3, c4, c5, c6⟩ := hcc
  match cs, hl with
  | [a0, a1, a2, a3, a4, a5, a6, a7], _ =>
    obtain ⟨k0, y0, q0⟩ := hp 0 f0 rfl
    obtain ⟨k1, y1, q1⟩ := hp 1 f1 rfl
    obtain ⟨k2, y2, q2⟩ := hp 2 f2 rfl
    obtain ⟨k3, y3, q3⟩ := hp 3 f3 rfl
    obtain ⟨k4, y4, q4⟩ := hp 4 f4 rfl
    obtain ⟨k5, y5, q5⟩ := hp 5 f5 rfl
    obtain ⟨k6, y6, q6⟩ := hp 6 f6 rfl
    rw [o0, c0] at q0
    rw [o1, c1] at q1
    rw [o2, c2] at q2
    rw [o3, c3] at q3
    rw [o4, c4] at q4
    rw [o5, c5] at q5
    rw [o6, c6] at q6
    simp at q0 q1 q2 q3 q4 q5 q6
    obtain ⟨g, pg, cg, eg, hgg, hgr⟩ := trod_grey hg go0 go1 c0 gc0 gc1 gu0 gu1 he hce q0
    injection eg with e0 eg
    injection eg with e1 _
    subst e0 e1
    obtain ⟨pb, nb, cb, b, rfl, hbb⟩ := trod_greys hb hg go0 go1 c0 gc0 gc1 gu0 gu1 he hce q1
    obtain ⟨pr, nr, cr, ro, rfl, hro⟩ := trod_slice_vals hr hv hcv hone hv0 hv1 q2
    obtain ⟨ob, e3, -, w3⟩ := DataW.trod_int h3 q3
    obtain ⟨fi, e4, -, w4⟩ := DataW.trod_int h4 q4
    obtain ⟨cu, e5, -, w5⟩ := DataW.trod_int h5 q5
    obtain ⟨ov, e6, -⟩ := DataW.trod_bool h6 q6
    simp at e3 e4 e5 e6
    subst e3 e4 e5 e6
    exact ⟨⟨g, nb, b, nr, ro, ob, fi, cu, ov⟩, pg, cg, pb, cb, pr, cr, rfl, hgg, hbb, hro, hgr, wf_i64 w3, wf_i64 w4, wf_i64 w5⟩
theorem open_marker {t e tv : TypeId} {f0 f1 f2 f3 f4 f5 f6 g0 g1 v0 v1 : Field} {v : Value} {d : DataW H} {p : List MemPlace} (hs : P.underlying t = some (.struct #[f0, f1, f2, f3, f4, f5, f6])) (hC : P.cellsOf t = 8)
    (hoff : f0.offset = 0 ∧ f1.offset = 2 ∧ f2.offset = 3 ∧ f3.offset = 4 ∧ f4.offset = 5 ∧ f5.offset = 6 ∧ f6.offset = 7)
    (hcc : P.cellsOf f0.type = 2 ∧ P.cellsOf f1.type = 1 ∧ P.cellsOf f2.type = 1 ∧ P.cellsOf f3.type = 1 ∧ P.cellsOf f4.type = 1 ∧ P.cellsOf f5.type = 1 ∧ P.cellsOf f6.type = 1)
    (hg : P.underlying f0.type = some (.struct #[g0, g1])) (go0 : g0.offset = 0) (go1 : g1.offset = 1) (gc0 : P.cellsOf g0.type = 1) (gc1 : P.cellsOf g1.type = 1) (gu0 : P.underlying g0.type = some (.int .i64)) (gu1 : P.underlying g1.type = some (.slice e)) (he : P.underlying e = some (.int .i64)) (hce : P.cellsOf e = 1)
    (hb : P.underlying f1.type = some (.slice f0.type)) (hr : P.underlying f2.type = some (.slice tv)) (hv : P.underlying tv = some (.struct #[v0, v1])) (hcv : P.cellsOf tv = 2) (hone : Go.Deep.oneCellFields P #[v0, v1] = true) (hv0 : P.underlying v0.type = some (.int .i64)) (hv1 : P.underlying v1.type = some (.int .i64))
    (h3 : P.underlying f3.type = some (.int .i64)) (h4 : P.underlying f4.type = some (.int .i64)) (h5 : P.underlying f5.type = some (.int .i64)) (h6 : P.underlying f6.type = some .bool)
    (hok : Value.okWide P W .any base t v) (h : DataW.Trod enc P W 0 (fun _ => true) true t v d p) : ∃ (m : Mk) (pg : Option Addr) (cg : Nat) (pb : Option Addr) (cb : Nat) (pr : Option Addr) (cr : Nat), v = .agg #[.int .i64 m.g.r, .slice pg m.g.n cg, .slice pb m.nb cb, .slice pr m.nr cr, .int .i64 m.ob, .int .i64 m.fi, .int .i64 m.cu, .bool m.ov] ∧
      GrAt W pg cg m.g.n m.g.z ∧ RAt GrC 2 W pb cb m.nb m.b ∧ VAt W pr cr m.nr m.ro ∧ (In64 m.g.r ∧ In64 m.ob ∧ In64 m.fi ∧ In64 m.cu) := by
  obtain ⟨cs, rfl, -⟩ := okWide_struct hs hok
  obtain ⟨fuel, hf⟩ := h
  obtain ⟨m, pg, cg, pb, cb, pr, cr, e, r⟩ := trod_marker hs hC hoff hcc hg go0 go1 gc0 gc1 gu0 gu1 he hce hb hr hv hcv hone hv0 hv1 h3 h4 h5 h6 (by simpa [Value.cells] using hf)
  refine ⟨m, pg, cg, pb, cb, pr, cr, ?_, r⟩
  rw [← Array.toArray_toList (xs := cs), e]
end
end Go.Proofs.YtiofeebiejkajaaDoor
namespace Go.Proofs.YtiofeebiejkajaaDoor
set_option linter.unusedSimpArgs false
set_option linter.unusedVariables false
open Go.ChangeShapes Go.WideShapes Go.ChangeAt Go.RowKit Go.Joins

/-- A row of numbers with its room, whose block is old or of numbers. -/
def GrE (N : Nat) (W : World) (g : Gy) (L : List Value) : Prop := ∃ p c, L = [.int .i64 g.r, .slice p g.n c] ∧ GrAt W p c g.n g.z ∧ RowE N 3 g.n p W ∧ In64 g.r
theorem grE_below {N : Nat} : CBelow (GrE N) := fun _ _ _ _ h hb => by
  obtain ⟨p, c, e, h, ht, hr⟩ := h
  exact ⟨p, c, e, h.below hb, ht.below hb, hr⟩
theorem GrE.grC {N : Nat} {W : World} {g : Gy} {L : List Value} (h : GrE N W g L) : GrC W g L := by
  obtain ⟨p, c, e, h, -, hr⟩ := h
  exact ⟨p, c, e, h, hr⟩
/-- A marker's rows. -/
structure MAtE (N : Nat) (W : World) (m : Mk) (pg : Option Addr) (cg : Nat) (pb : Option Addr) (cb : Nat) (pr : Option Addr) (cr : Nat) : Prop where
  g : GrAt W pg cg m.g.n m.g.z
  ge : RowE N 3 m.g.n pg W
  b : RAt (GrE N) 2 W pb cb m.nb m.b
  be : RowE N 28 m.nb pb W
  r : VAt W pr cr m.nr m.ro
  re : RowE N 38 m.nr pr W
section
variable {N T k gg : Nat} {W W' : World} {m : Mk} {pg : Option Addr} {cg : Nat} {pb : Option Addr} {cb : Nat} {pr : Option Addr} {cr : Nat}
theorem RAt.plain {W : World} {p : Option Addr} {c n : Nat} {b : Nat → Gy} (h : RAt (GrE N) 2 W p c n b) : RAt GrC 2 W p c n b :=
  ⟨fun i hi => by obtain ⟨bb, off, L, e, hl, hL, hc, hx⟩ := h.row i hi; exact ⟨bb, off, L, e, hl, hL, hc, hx.grC⟩, h.nle, h.pnil, h.ncap⟩
theorem MAtE.below (h : MAtE N W m pg cg pb cb pr cr) (hb : Below W.heap.size W W') : MAtE N W' m pg cg pb cb pr cr :=
  ⟨h.g.below hb, h.ge.below hb, h.b.below grE_below hb, h.be.below hb, h.r.below hb, h.re.below hb⟩
theorem GrE.puts {g : Gy} {L : List Value} (h : GrE N W g L) (hv : VarT T k gg W) (hT : ¬ 3 = T) (hg : N ≤ gg) (ys : List Value) : GrE N (putsL gg 0 ys W) g L := by
  obtain ⟨p, c, e, h, ht, hr⟩ := h
  exact ⟨p, c, e, grAt_puts h ht hv hT hg ys, ht.puts hv hT hg ys, hr⟩
theorem rat_puts {b : Nat → Gy} {n c : Nat} {p : Option Addr} (h : RAt (GrE N) 2 W p c n b) (he : RowE N 28 n p W) (hv : VarT T k gg W) (hT : ¬ 3 = T) (hT2 : ¬ 28 = T) (hg : N ≤ gg) (ys : List Value) : RAt (GrE N) 2 (putsL gg 0 ys W) p c n b :=
  ⟨fun i hi => by
    obtain ⟨bb, off, L, e, hl, hL, hc, hx⟩ := h.row i hi
    have hne := he.ne hv hT2 hg (by omega) e
    exact ⟨bb, off, L, e, by rw [putsL_size]; exact hl, hL, fun j u hj => by rw [World.cell?_of_block (w := W) (a := ⟨bb, _, none⟩) (putsL_other hne ys 0 W)]; exact hc j u hj, hx.puts hv hT hg ys⟩, h.nle, h.pnil, h.ncap⟩
/-- .. as a variable is stored into. -/
theorem MAtE.puts (h : MAtE N W m pg cg pb cb pr cr) (hv : VarT T k gg W) (hT : ¬ 3 = T) (hT2 : ¬ 28 = T) (hT3 : ¬ 38 = T) (hg : N ≤ gg) (ys : List Value) : MAtE N (putsL gg 0 ys W) m pg cg pb cb pr cr :=
  ⟨grAt_puts h.g h.ge hv hT hg ys, h.ge.puts hv hT hg ys, rat_puts h.b h.be hv hT hT2 hg ys, h.be.puts hv hT2 hg ys, h.r.puts h.re hv hT3 hg ys, h.re.puts hv hT3 hg ys⟩
theorem RAt.old {W : World} {p : Option Addr} {c n : Nat} {b : Nat → Gy} (h : RAt GrC 2 W p c n b) (hN : W.heap.size ≤ N) : RAt (GrE N) 2 W p c n b :=
  ⟨fun i hi => by
    obtain ⟨bb, off, L, e, hl, hL, hc, q, d, e2, hg, hr⟩ := h.row i hi
    refine ⟨bb, off, L, e, hl, hL, hc, q, d, e2, hg, fun h0 b1 o1 s1 e1 => ?_, hr⟩
    obtain ⟨⟨b2, o2, e3, hl2, -⟩, -⟩ := hg.ints 0 h0
    rw [e1] at e3
    injection e3 with e3
    injection e3 with e3 e4
    subst e3
    exact ⟨hl2, .inl (by omega)⟩, h.nle, h.pnil, h.ncap⟩
/-- What came in. -/
theorem MAtE.old (hg : GrAt W pg cg m.g.n m.g.z) (hb : RAt GrC 2 W pb cb m.nb m.b) (hr : VAt W pr cr m.nr m.ro) (hN : W.heap.size ≤ N) : MAtE N W m pg cg pb cb pr cr := by
  refine ⟨hg, ?_, hb.old hN, ?_, hr, ?_⟩
  · intro h0 b off sp e
    obtain ⟨⟨b2, o2, e3, hl2, -⟩, -⟩ := hg.ints 0 h0
    rw [e] at e3
    injection e3 with e3
    injection e3 with e3 e4
    subst e3
    exact ⟨hl2, .inl (by omega)⟩
  · intro h0 b off sp e
    have := hb.lt h0 b off sp e
    exact ⟨this, .inl (by omega)⟩
  · intro h0 b off sp e
    obtain ⟨⟨b2, o2, e3, hl2, -⟩, -⟩ := hr.row 0 h0
    rw [e] at e3
    injection e3 with e3
    injection e3 with e3 e4
    subst e3
    exact ⟨hl2, .inl (by omega)⟩
end
theorem plain_marker (m : Mk) (pg : Option Addr) (cg : Nat) (pb : Option Addr) (cb : Nat) (pr : Option Addr) (cr : Nat) : PlainC #[.int .i64 m.g.r, .slice pg m.g.n cg, .slice pb m.nb cb, .slice pr m.nr cr, .int .i64 m.ob, .int .i64 m.fi, .int .i64 m.cu, .bool m.ov] := ⟨by show 8 < 32; decide, fun i x e => by
  match i, e with
  | 0, e => simp at e
  | 1, e => simp at e
  | 2, e => simp at e
  | 3, e => simp at e
  | 4, e => simp at e
  | 5, e => simp at e
  | 6, e => simp at e
  | 7, e => simp at e
  | i + 8, e => simp at e⟩
theorem TBox.varM {T g : Nat} {m : Mk} {pg : Option Addr} {cg : Nat} {pb : Option Addr} {cb : Nat} {pr : Option Addr} {cr : Nat} {w : World} (h : TBox T g #[.int .i64 m.g.r, .slice pg m.g.n cg, .slice pb m.nb cb, .slice pr m.nr cr, .int .i64 m.ob, .int .i64 m.fi, .int .i64 m.cu, .bool m.ov] w) : VarT T 8 g w := ⟨_, rfl, plain_marker _ _ _ _ _ _ _, h⟩
end Go.Proofs.YtiofeebiejkajaaDoor
