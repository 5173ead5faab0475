/- Contracts of the code's marking (chapter 17): the struct of a marker and a heap that its methods change; an object taken in hand; the last step. -/
import Derived.Test.YtiofeebiejkajaaDoorB31
import Derived.Test.YtiofeebiejkajaaDoorB34
import Derived.Test.YtiofeebiejkajaaDoorB36
namespace Go.Proofs.YtiofeebiejkajaaDoor
set_option linter.unusedSimpArgs false
set_option linter.unusedVariables false
open Go.ChangeShapes Go.WideShapes Go.ChangeAt Go.RowKit Go.Joins

section
variable {N T k gg : Nat} {W : World} {m : Mk} {pg : Option Addr} {cg : Nat} {pb : Option Addr} {cb : Nat} {pr : Option Addr} {cr : Nat}
theorem vat_putsL {n c : Nat} {p : Option Addr} {z : Nat → Vl} {E : TypeId} (h : VAt W p c n z) (he : RowE N E n p W) (hv : VarT T k gg W) (hT : ¬ E = T) (hg : N ≤ gg) (i : Nat) (ys : List Value) : VAt (putsL gg i ys W) p c n z :=
  h.of_block (by rw [putsL_size]; exact Nat.le_refl _) fun h0 b off sp e => putsL_other (he.ne hv hT hg h0 e) ys i W
theorem rat_putsL {b : Nat → Gy} {n c : Nat} {p : Option Addr} (h : RAt (GrE N) 2 W p c n b) (he : RowE N 28 n p W) (hv : VarT T k gg W) (hT : ¬ 3 = T) (hT2 : ¬ 28 = T) (hg : N ≤ gg) (i : Nat) (ys : List Value) : RAt (GrE N) 2 (putsL gg i ys W) p c n b :=
  ⟨fun j hj => by
    obtain ⟨bb, off, L, e, hl, hL, hc, hx⟩ := h.row j hj
    have hne := he.ne hv hT2 hg (by omega) e
    exact ⟨bb, off, L, e, by rw [putsL_size]; exact hl, hL, fun t u ht => by rw [World.cell?_of_block (w := W) (a := ⟨bb, _, none⟩) (putsL_other hne ys i W)]; exact hc t u ht, grE_puts (M := i) hx hv hT hg ys rfl⟩, h.nle, h.pnil, h.ncap⟩
/-- A marker's rows, as a part of a variable is stored into. -/
theorem MAtE.putsL (h : MAtE N W m pg cg pb cb pr cr) (hv : VarT T k gg W) (hT : ¬ 3 = T) (hT2 : ¬ 28 = T) (hT3 : ¬ 38 = T) (hg : N ≤ gg) (i : Nat) (ys : List Value) : MAtE N (putsL gg i ys W) m pg cg pb cb pr cr :=
  ⟨gr_putsL h.g h.ge hv hT hg ys, row_putsL h.ge hv hT hg ys, rat_putsL h.b h.be hv hT hT2 hg i ys, row_putsL h.be hv hT2 hg ys, vat_putsL h.r h.re hv hT3 hg i ys, row_putsL h.re hv hT3 hg ys⟩
/-- .. as a variable alone turns. -/
theorem grE_aside {g : Gy} {L : List Value} {W' : World} (h : GrE N W g L) (hv : VarT T k gg W) (hT : ¬ 3 = T) (hg : N ≤ gg) (ha : Aside (fun k => k = gg) W W') : GrE N W' g L := by
  obtain ⟨p, c, e, h, ht, hr⟩ := h
  obtain ⟨h1, h2⟩ := rowE_aside ht hv hT hg ha
  exact ⟨p, c, e, h.of_block ha.size h2, h1, hr⟩
theorem MAtE.aside {W' : World} (h : MAtE N W m pg cg pb cb pr cr) (hv : VarT T k gg W) (hT : ¬ 3 = T) (hT2 : ¬ 28 = T) (hT3 : ¬ 38 = T) (hg : N ≤ gg) (ha : Aside (fun k => k = gg) W W') : MAtE N W' m pg cg pb cb pr cr := by
  obtain ⟨g1, g2⟩ := rowE_aside h.ge hv hT hg ha
  obtain ⟨b1, b2⟩ := rowE_aside h.be hv hT2 hg ha
  obtain ⟨r1, r2⟩ := rowE_aside h.re hv hT3 hg ha
  refine ⟨h.g.of_block ha.size g2, g1, ⟨fun j hj => ?_, h.b.nle, h.b.pnil, h.b.ncap⟩, b1, h.r.of_block ha.size r2, r1⟩
  obtain ⟨bb, off, L, e, hl, hL, hc, hx⟩ := h.b.row j hj
  exact ⟨bb, off, L, e, Nat.lt_of_lt_of_le hl ha.size, hL, fun t u ht => by rw [World.cell?_of_block (w := W) (a := ⟨bb, _, none⟩) (b2 (by omega) bb off none e)]; exact hc t u ht, grE_aside hx hv hT hg ha⟩
end
/-- The methods' variable: a marker, and the heap beside it. -/
def StV (N B n k : Nat) (b : Bool) (h : Hp) (m : Mk) (w : World) : Prop :=
  ∃ p c q d pg cg pb cb pr cr, TBox 73 B #[.int .i64 m.g.r, .slice pg m.g.n cg, .slice pb m.nb cb, .slice pr m.nr cr, .int .i64 m.ob, .int .i64 m.fi, .int .i64 m.cu, .bool m.ov, .slice p n c, .slice q k d, .bool b] w ∧ HpIn w p n c q k d b h ∧ MAtE N w m pg cg pb cb pr cr
theorem StV.below {N B n k : Nat} {b : Bool} {h : Hp} {m : Mk} {w w' : World} (s : StV N B n k b h m w) (hb : Below w.heap.size w w') : StV N B n k b h m w' := by
  obtain ⟨p, c, q, d, pg, cg, pb, cb, pr, cr, h1, h2, h3⟩ := s
  exact ⟨p, c, q, d, pg, cg, pb, cb, pr, cr, h1.below hb, h2.below hb, h3.below hb⟩
theorem StV.lt {N B n k : Nat} {b : Bool} {h : Hp} {m : Mk} {w : World} (s : StV N B n k b h m w) : B < w.heap.size := by
  obtain ⟨p, c, q, d, pg, cg, pb, cb, pr, cr, h1, -⟩ := s
  exact h1.lt
theorem plain_st (m : Mk) (pg : Option Addr) (cg : Nat) (pb : Option Addr) (cb : Nat) (pr : Option Addr) (cr : Nat) (p : Option Addr) (n c : Nat) (q : Option Addr) (k d : Nat) (b : Bool) :
    PlainC #[.int .i64 m.g.r, .slice pg m.g.n cg, .slice pb m.nb cb, .slice pr m.nr cr, .int .i64 m.ob, .int .i64 m.fi, .int .i64 m.cu, .bool m.ov, .slice p n c, .slice q k d, .bool b] := ⟨by show 11 < 32; decide, fun i x e => by
  match i, e with
  | 0, e => simp at e
  | 1, e => simp at e
  | 2, e => simp at e
  | 3, e => simp at e
  | 4, e => simp at e
  | 5, e => simp at e
  | 6, e => simp at e
  | 7, e => simp at e
  | 8, e => simp at e
  | 9, e => simp at e
  | 10, e => simp at e
  | i + 11, e => simp at e⟩
theorem st_cells {B : Nat} {x0 x1 x2 x3 x4 x5 x6 x7 x8 x9 x10 : Value} {w : World} {T : TypeId} (h : TBox T B #[x0, x1, x2, x3, x4, x5, x6, x7, x8, x9, x10] w) :
    B < w.heap.size ∧ w.cell? ⟨B, 0, none⟩ = some x0 ∧ w.cell? ⟨B, 1, none⟩ = some x1 ∧ w.cell? ⟨B, 2, none⟩ = some x2 ∧ w.cell? ⟨B, 3, none⟩ = some x3 ∧ w.cell? ⟨B, 4, none⟩ = some x4 ∧ w.cell? ⟨B, 5, none⟩ = some x5 ∧ w.cell? ⟨B, 6, none⟩ = some x6 ∧ w.cell? ⟨B, 7, none⟩ = some x7 ∧ w.cell? ⟨B, 8, none⟩ = some x8 ∧ w.cell? ⟨B, 9, none⟩ = some x9 ∧ w.cell? ⟨B, 10, none⟩ = some x10 :=
  ⟨h.lt, h.cell 0, h.cell 1, h.cell 2, h.cell 3, h.cell 4, h.cell 5, h.cell 6, h.cell 7, h.cell 8, h.cell 9, h.cell 10⟩
theorem st_frozen {B : Nat} {x0 x1 x2 x3 x4 x5 x6 x7 x8 x9 x10 : Value} {w : World} {T : TypeId} (h : TBox T B #[x0, x1, x2, x3, x4, x5, x6, x7, x8, x9, x10] w) :
    w.frozen? ⟨B, 0, none⟩ = false ∧ w.frozen? ⟨B, 1, none⟩ = false ∧ w.frozen? ⟨B, 2, none⟩ = false ∧ w.frozen? ⟨B, 3, none⟩ = false ∧ w.frozen? ⟨B, 4, none⟩ = false ∧ w.frozen? ⟨B, 5, none⟩ = false ∧ w.frozen? ⟨B, 6, none⟩ = false ∧ w.frozen? ⟨B, 7, none⟩ = false ∧ w.frozen? ⟨B, 8, none⟩ = false ∧ w.frozen? ⟨B, 9, none⟩ = false ∧ w.frozen? ⟨B, 10, none⟩ = false :=
  ⟨h.frozen 0, h.frozen 1, h.frozen 2, h.frozen 3, h.frozen 4, h.frozen 5, h.frozen 6, h.frozen 7, h.frozen 8, h.frozen 9, h.frozen 10⟩
section
variable {N B n k : Nat} {b : Bool} {h : Hp} {m : Mk} {w : World}
/-- Values put into the variable from a cell on. -/
theorem StV.move {m' : Mk} (s : StV N B n k b h m w) (hN : N ≤ B) (hn : 32 ≤ n) (hk : 0 < k) (i : Nat) (ys : List Value) (eg : m'.g = m.g) (enb : m'.nb = m.nb) (eb : m'.b = m.b) (enr : m'.nr = m.nr) (ero : m'.ro = m.ro)
    (hset : ∀ (x1 x2 x3 x8 x9 x10 : Value), setFrom #[.int .i64 m.g.r, x1, x2, x3, .int .i64 m.ob, .int .i64 m.fi, .int .i64 m.cu, .bool m.ov, x8, x9, x10] i ys = #[.int .i64 m.g.r, x1, x2, x3, .int .i64 m'.ob, .int .i64 m'.fi, .int .i64 m'.cu, .bool m'.ov, x8, x9, x10]) :
    StV N B n k b h m' (putsL B i ys w) := by
  obtain ⟨p, c, q, d, pg, cg, pb, cb, pr, cr, g0, hh, hM⟩ := s
  have vB : VarT 73 11 B w := ⟨_, rfl, plain_st _ _ _ _ _ _ _ _ _ _ _ _ _ _, g0⟩
  have g1 := g0.putsL ys i
  rw [hset] at g1
  have hM1 := hM.putsL vB (by decide) (by decide) (by decide) hN i ys
  obtain ⟨mg, mnb, mb, mnr, mro, mob, mfi, mcu, mov⟩ := m
  obtain ⟨mg', mnb', mb', mnr', mro', mob', mfi', mcu', mov'⟩ := m'
  dsimp only at eg enb eb enr ero g1 hM1 ⊢
  subst eg enb eb enr ero
  exact ⟨p, c, q, d, pg, cg, pb, cb, pr, cr, g1, hpIn_puts (vB.clear hh hn hk) ys i hh, ⟨hM1.g, hM1.ge, hM1.b, hM1.be, hM1.r, hM1.re⟩⟩
theorem StV.setOF (s : StV N B n k b h m w) (hN : N ≤ B) (hn : 32 ≤ n) (hk : 0 < k) (o f : Int) : StV N B n k b h { m with ob := o, fi := f } ((w.setCell ⟨B, 4, none⟩ (.int .i64 o)).setCell ⟨B, 5, none⟩ (.int .i64 f)) :=
  s.move hN hn hk 4 [.int .i64 o, .int .i64 f] rfl rfl rfl rfl rfl (by intros; simp only [setFrom, Nat.reduceAdd, List.setIfInBounds_toArray, List.set_cons_succ, List.set_cons_zero])
theorem StV.setF (s : StV N B n k b h m w) (hN : N ≤ B) (hn : 32 ≤ n) (hk : 0 < k) (f : Int) : StV N B n k b h { m with fi := f } (w.setCell ⟨B, 5, none⟩ (.int .i64 f)) :=
  s.move hN hn hk 5 [.int .i64 f] rfl rfl rfl rfl rfl (by intros; simp only [setFrom, Nat.reduceAdd, List.setIfInBounds_toArray, List.set_cons_succ, List.set_cons_zero])
theorem StV.setC (s : StV N B n k b h m w) (hN : N ≤ B) (hn : 32 ≤ n) (hk : 0 < k) (c : Int) : StV N B n k b h { m with cu := c } (w.setCell ⟨B, 6, none⟩ (.int .i64 c)) :=
  s.move hN hn hk 6 [.int .i64 c] rfl rfl rfl rfl rfl (by intros; simp only [setFrom, Nat.reduceAdd, List.setIfInBounds_toArray, List.set_cons_succ, List.set_cons_zero])
theorem StV.setO (s : StV N B n k b h m w) (hN : N ≤ B) (hn : 32 ≤ n) (hk : 0 < k) (o : Bool) : StV N B n k b h { m with ov := o } (w.setCell ⟨B, 7, none⟩ (.bool o)) :=
  s.move hN hn hk 7 [.bool o] rfl rfl rfl rfl rfl (by intros; simp only [setFrom, Nat.reduceAdd, List.setIfInBounds_toArray, List.set_cons_succ, List.set_cons_zero])
theorem aside_set {w w' : World} {B : Nat} (h : Aside (fun k => k = B) w w') (i : Nat) (x : Value) : Aside (fun k => k = B) w (w'.setCell ⟨B, i, none⟩ x) := h.setCell (T := fun k => k = B) rfl i x
theorem StV.room (s : StV N B n k b h m w) (hF : formB h = true) : 32 ≤ n ∧ 0 < k := by
  obtain ⟨p, c, q, d, pg, cg, pb, cb, pr, cr, -, hh, -⟩ := s
  obtain ⟨hn32, hm0, -⟩ := form_room hF
  exact ⟨by have := hh.n_eq; omega, by have := hh.m_eq; omega⟩
end

set_option maxHeartbeats 4000000 in
set_option maxRecDepth 20000 in
/-- An object taken in hand. -/
theorem mhand_any (N B n k : Nat) (b : Bool) (h : Hp) (m : Mk) (a : Int) (w : World) (hS : Sz w) (hN : N ≤ B) (hst : StV N B n k b h m w) (hF : formB h = true) :
    Calls Tryd.prog 55 #[.pointer (some ⟨B, 0, none⟩), .int .i64 a] w fun e w' => e = .returned (.tuple #[]) ∧ StV N B n k b h (haM h m a) w' ∧ Aside (fun k => k = B) w w' := by
  obtain ⟨hn32, hk0⟩ := hst.room hF
  obtain ⟨p, c, q, d, pg, cg, pb, cb, pr, cr, g0, hh, hM⟩ := id hst
  have hC := oget_in (a := a) hS hh hF
  obtain ⟨hlB, -, -, -, -, -, -, -, -, x8, x9, x10⟩ := st_cells g0
  have hcase : haM h m a = (if obB h a = true ∧ 0 < obN h a then { m with ob := a, fi := 0 } else m) := rfl
  generalize haM h m a = M' at *
  generalize obB h a = O at *
  generalize obN h a = K at *
  clear hM hh g0
  go_enter Tryd.func55, Tryd.ntmps55
  go_upto_region 1 with (first
    | (go_at_call 53; refine Calls.mono (hC) ?_; rintro e w' ⟨rfl, hb⟩; obtain ⟨hc, hf, hb, hz⟩ := bstep hb (w := w) (by go_grown); try simp only [World.size_alloc, World.size_setCell, World.size_drew] at hc hf hz)
  )
  obtain ⟨w1, hw1⟩ : ∃ W, W = w'.alloc (.cells #[.bool O, .bool (obC h a), .int .i64 (obK h a), .int .i64 K] 62) := ⟨_, rfl⟩
  have hb1 : Below w'.heap.size w' w1 := by rw [hw1]; exact (Below.refl _ _).alloc (Nat.le_refl _) _
  have gX : TBox 62 w'.heap.size #[.bool O, .bool (obC h a), .int .i64 (obK h a), .int .i64 K] w1 := by rw [hw1]; exact TBox.new _ _ _
  rw [← hw1]
  have hbw := bjoin hb1 hb
  replace hst := hst.below hbw
  have v3 := gX.cell 3
  simp only [List.getElem?_toArray, List.getElem?_cons_zero, List.getElem?_cons_succ] at v3
  have lX := gX.lt
  clear hw1 hc hf hb hz hb1 gX x8 x9 x10 hlB
  generalize w'.heap.size = X at *
  obtain ⟨p, c, q, d, pg, cg, pb, cb, pr, cr, g0, hh, hM⟩ := id hst
  obtain ⟨hlB, -, -, -, -, x4, x5, -, -, -, -, -⟩ := st_cells g0
  obtain ⟨-, -, -, -, f4, f5, -, -, -, -, -⟩ := st_frozen g0
  clear g0 hh hM hC
  by_cases h1 : O = true
  · by_cases h2 : 0 < K
    · rw [if_pos ⟨h1, h2⟩] at hcase
      subst h1
      have s2 := hst.setOF hN hn32 hk0 a 0
      rw [← hcase] at s2
      go_wp2
      go_returns
      exact ⟨rfl, s2, aside_set (aside_set (Aside.of hbw) 4 _) 5 _⟩
    · rw [if_neg (by simp [h2])] at hcase
      subst hcase h1
      go_wp2
      go_returns
      exact ⟨rfl, hst, Aside.of hbw⟩
  · rw [if_neg (by simp [h1])] at hcase
    obtain rfl : O = false := by simpa using h1
    subst hcase
    go_wp2
    go_returns
    exact ⟨rfl, hst, Aside.of hbw⟩
set_option maxHeartbeats 4000000 in
set_option maxRecDepth 20000 in
/-- The last step: all black objects are to be gone through. -/
theorem mlook_any (N B n k : Nat) (b : Bool) (h : Hp) (m : Mk) (w : World) (hN : N ≤ B) (hst : StV N B n k b h m w) (hF : formB h = true) :
    Calls Tryd.prog 35 #[.pointer (some ⟨B, 0, none⟩)] w fun e w' => e = .returned (.bool m.ov) ∧ StV N B n k b h (if m.ov = true then { m with ov := false, cu := 0 } else m) w' ∧ Aside (fun k => k = B) w w' := by
  obtain ⟨hn32, hk0⟩ := hst.room hF
  obtain ⟨p, c, q, d, pg, cg, pb, cb, pr, cr, g0, hh, hM⟩ := id hst
  obtain ⟨hlB, -, -, -, -, -, -, x6, x7, -, -, -⟩ := st_cells g0
  obtain ⟨-, -, -, -, -, -, f6, f7, -, -, -⟩ := st_frozen g0
  clear g0 hh hM
  cases ho : m.ov with
  | true =>
    have s2 := (hst.setO hN hn32 hk0 false).setC hN hn32 hk0 0
    rw [ho] at x7
    clear ho
    go_enter Tryd.func35, Tryd.ntmps35
    go_wp2
    go_returns
    exact ⟨rfl, s2, aside_set (aside_set (Aside.of (Below.refl _ _)) 7 _) 6 _⟩
  | false =>
    rw [ho] at x7
    clear ho
    go_enter Tryd.func35, Tryd.ntmps35
    go_wp2
    go_returns
    exact ⟨rfl, hst, Aside.of (Below.refl _ _)⟩
end Go.Proofs.YtiofeebiejkajaaDoor
