import Derived.Test.YtkehankfnkjnlaaGreatDoorV39
namespace Go.Proofs.YtkehankfnkjnlaaGreatDoor
set_option linter.unusedSimpArgs false
set_option linter.unusedVariables false
set_option maxHeartbeats 16000000
set_option maxRecDepth 20000
open Go.ChangeAt Go.ChangeShapes Go.Joins Go.RowKit Go.WideShapes
variable {h : Hp} {w w' W W' : World} {p q : Option Addr} {n g : Nat} {a : Int} {v : Value}
section
variable {N T k gg : Nat} {W : World} {m : Mk} {pg : Option Addr} {cg : Nat} {pb : Option Addr} {cb : Nat} {pr : Option Addr} {cr : Nat}
theorem zkd {n c : Nat} {z : Nat → Vl} {E : TypeId} (h : VAt W p c n z) (he : RowE N E n p W) (hv : VarT T k gg W) (hT : ¬ E = T) (hg : N ≤ gg) (i : Nat) (ys : List Value) : VAt (putsL gg i ys W) p c n z :=
 h.of_block (by rw [zbf]; exact Nat.le_refl _) fun h0 b off sp e => zah (he.ne hv hT hg h0 e) ys i W
theorem zj5 {b : Nat → Gy} {n c : Nat} (h : RAt (GrE N) 2 W p c n b) (he : RowE N 31 n p W) (hv : VarT T k gg W) (hT : ¬ 3 = T) (hT2 : ¬ 31 = T) (hg : N ≤ gg) (i : Nat) (ys : List Value) : RAt (GrE N) 2 (putsL gg i ys W) p c n b :=
 ⟨fun j hj => by
  obtain ⟨bb, off, L, e, hl, hL, hc, hx⟩ := h.row j hj
  have hne := he.ne hv hT2 hg (by omega) e
  exact ⟨bb, off, L, e, by rw [zbf]; exact hl, hL, fun t u ht => by rw [World.cell?_of_block (w := W) (a := ⟨bb, _, none⟩) (zah hne ys i W)]; exact hc t u ht, zn5 (M := i) hx hv hT hg ys rfl⟩, h.nle, h.pnil, h.ncap⟩
theorem MAtE.putsL (h : MAtE N W m pg cg pb cb pr cr) (hv : VarT T k gg W) (hT : ¬ 3 = T) (hT2 : ¬ 31 = T) (hT3 : ¬ 70 = T) (hg : N ≤ gg) (i : Nat) (ys : List Value) : MAtE N (putsL gg i ys W) m pg cg pb cb pr cr :=
 ⟨zbv h.g h.ge hv hT hg ys, zba h.ge hv hT hg ys, zj5 h.b h.be hv hT hT2 hg i ys, zba h.be hv hT2 hg ys, zkd h.r h.re hv hT3 hg i ys, zba h.re hv hT3 hg ys⟩
end
def StV (N B n k : Nat) (b : Bool) (h : Hp) (m : Mk) (w : World) : Prop :=
 ∃ p c q d pg cg pb cb pr cr, TBox 164 B #[.int .i64 m.g.r, .slice pg m.g.n cg, .slice pb m.nb cb, .slice pr m.nr cr, .int .i64 m.ob, .int .i64 m.fi, .int .i64 m.cu, .bool m.ov, .slice p n c, .slice q k d, .bool b] w ∧ HpIn w p n c q k d b h ∧ MAtE N w m pg cg pb cb pr cr
theorem StV.below {N B n k : Nat} {b : Bool} {m : Mk} (s : StV N B n k b h m w) (hb : Below w.heap.size w w') : StV N B n k b h m w' := by
 obtain ⟨p, c, q, d, pg, cg, pb, cb, pr, cr, h1, h2, h3⟩ := s
 exact ⟨p, c, q, d, pg, cg, pb, cb, pr, cr, h1.below hb, h2.below hb, h3.below hb⟩
theorem StV.lt {N B n k : Nat} {b : Bool} {m : Mk} (s : StV N B n k b h m w) : B < w.heap.size := by
 obtain ⟨p, c, q, d, pg, cg, pb, cb, pr, cr, h1, -⟩ := s
 exact h1.lt
theorem zdh (m : Mk) (pg : Option Addr) (cg : Nat) (pb : Option Addr) (cb : Nat) (pr : Option Addr) (cr : Nat) (p : Option Addr) (n c : Nat) (q : Option Addr) (k d : Nat) (b : Bool) :
  PlainC #[.int .i64 m.g.r, .slice pg m.g.n cg, .slice pb m.nb cb, .slice pr m.nr cr, .int .i64 m.ob, .int .i64 m.fi, .int .i64 m.cu, .bool m.ov, .slice p n c, .slice q k d, .bool b] := ⟨by show 11 < 32; decide, fun i x e => by
 match i, e with
 | 0, e => simp at e
 | 1, e => simp at e
 | 2, e => simp at e
 | 3, e => simp at e
 | 4, e => simp at e
 | 5, e => simp at e
 | 6, e => simp at e
 | 7, e => simp at e
 | 8, e => simp at e
 | 9, e => simp at e
 | 10, e => simp at e
 | i + 11, e => simp at e⟩
theorem zal {B : Nat} {x0 x1 x2 x3 x4 x5 x6 x7 x8 x9 x10 : Value} {T : TypeId} (h : TBox T B #[x0, x1, x2, x3, x4, x5, x6, x7, x8, x9, x10] w) :
  B < w.heap.size ∧ w.cell? ⟨B, 0, none⟩ = some x0 ∧ w.cell? ⟨B, 1, none⟩ = some x1 ∧ w.cell? ⟨B, 2, none⟩ = some x2 ∧ w.cell? ⟨B, 3, none⟩ = some x3 ∧ w.cell? ⟨B, 4, none⟩ = some x4 ∧ w.cell? ⟨B, 5, none⟩ = some x5 ∧ w.cell? ⟨B, 6, none⟩ = some x6 ∧ w.cell? ⟨B, 7, none⟩ = some x7 ∧ w.cell? ⟨B, 8, none⟩ = some x8 ∧ w.cell? ⟨B, 9, none⟩ = some x9 ∧ w.cell? ⟨B, 10, none⟩ = some x10 :=
 ⟨h.lt, h.cell 0, h.cell 1, h.cell 2, h.cell 3, h.cell 4, h.cell 5, h.cell 6, h.cell 7, h.cell 8, h.cell 9, h.cell 10⟩
theorem zbm {B : Nat} {x0 x1 x2 x3 x4 x5 x6 x7 x8 x9 x10 : Value} {T : TypeId} (h : TBox T B #[x0, x1, x2, x3, x4, x5, x6, x7, x8, x9, x10] w) :
  w.frozen? ⟨B, 0, none⟩ = false ∧ w.frozen? ⟨B, 1, none⟩ = false ∧ w.frozen? ⟨B, 2, none⟩ = false ∧ w.frozen? ⟨B, 3, none⟩ = false ∧ w.frozen? ⟨B, 4, none⟩ = false ∧ w.frozen? ⟨B, 5, none⟩ = false ∧ w.frozen? ⟨B, 6, none⟩ = false ∧ w.frozen? ⟨B, 7, none⟩ = false ∧ w.frozen? ⟨B, 8, none⟩ = false ∧ w.frozen? ⟨B, 9, none⟩ = false ∧ w.frozen? ⟨B, 10, none⟩ = false :=
 ⟨h.frozen 0, h.frozen 1, h.frozen 2, h.frozen 3, h.frozen 4, h.frozen 5, h.frozen 6, h.frozen 7, h.frozen 8, h.frozen 9, h.frozen 10⟩
section
variable {N B n k : Nat} {b : Bool} {h : Hp} {m : Mk} {w : World}
theorem StV.move {m' : Mk} (s : StV N B n k b h m w) (hN : N ≤ B) (hn : 32 ≤ n) (hk : 0 < k) (i : Nat) (ys : List Value) (eg : m'.g = m.g) (enb : m'.nb = m.nb) (eb : m'.b = m.b) (enr : m'.nr = m.nr) (ero : m'.ro = m.ro) 
  (hset : ∀ (x1 x2 x3 x8 x9 x10 : Value), setFrom #[.int .i64 m.g.r, x1, x2, x3, .int .i64 m.ob, .int .i64 m.fi, .int .i64 m.cu, .bool m.ov, x8, x9, x10] i ys = #[.int .i64 m.g.r, x1, x2, x3, .int .i64 m'.ob, .int .i64 m'.fi, .int .i64 m'.cu, .bool m'.ov, x8, x9, x10]) :
  StV N B n k b h m' (putsL B i ys w) := by
 obtain ⟨p, c, q, d, pg, cg, pb, cb, pr, cr, g0, hh, hM⟩ := s
 have vB : VarT 164 11 B w := ⟨_, rfl, zdh _ _ _ _ _ _ _ _ _ _ _ _ _ _, g0⟩
 have g1 := g0.putsL ys i
 rw [hset] at g1
 have hM1 := hM.putsL vB (by decide) (by decide) (by decide) hN i ys
 obtain ⟨mg, mnb, mb, mnr, mro, mob, mfi, mcu, mov⟩ := m
 obtain ⟨mg', mnb', mb', mnr', mro', mob', mfi', mcu', mov'⟩ := m'
 dsimp only at eg enb eb enr ero g1 hM1 ⊢
 subst eg enb eb enr ero
 exact ⟨p, c, q, d, pg, cg, pb, cb, pr, cr, g1, zan (vB.clear hh hn hk) ys i hh, ⟨hM1.g, hM1.ge, hM1.b, hM1.be, hM1.r, hM1.re⟩⟩
theorem StV.setOF (s : StV N B n k b h m w) (hN : N ≤ B) (hn : 32 ≤ n) (hk : 0 < k) (o f : Int) : StV N B n k b h { m with ob := o, fi := f } ((w.setCell ⟨B, 4, none⟩ (.int .i64 o)).setCell ⟨B, 5, none⟩ (.int .i64 f)) :=
 s.move hN hn hk 4 [.int .i64 o, .int .i64 f] rfl rfl rfl rfl rfl (by intros; simp only [setFrom, Nat.reduceAdd, List.setIfInBounds_toArray, List.set_cons_succ, List.set_cons_zero])
theorem StV.setF (s : StV N B n k b h m w) (hN : N ≤ B) (hn : 32 ≤ n) (hk : 0 < k) (f : Int) : StV N B n k b h { m with fi := f } (w.setCell ⟨B, 5, none⟩ (.int .i64 f)) :=
 s.move hN hn hk 5 [.int .i64 f] rfl rfl rfl rfl rfl (by intros; simp only [setFrom, Nat.reduceAdd, List.setIfInBounds_toArray, List.set_cons_succ, List.set_cons_zero])
theorem StV.setC (s : StV N B n k b h m w) (hN : N ≤ B) (hn : 32 ≤ n) (hk : 0 < k) (c : Int) : StV N B n k b h { m with cu := c } (w.setCell ⟨B, 6, none⟩ (.int .i64 c)) :=
 s.move hN hn hk 6 [.int .i64 c] rfl rfl rfl rfl rfl (by intros; simp only [setFrom, Nat.reduceAdd, List.setIfInBounds_toArray, List.set_cons_succ, List.set_cons_zero])
theorem StV.setO (s : StV N B n k b h m w) (hN : N ≤ B) (hn : 32 ≤ n) (hk : 0 < k) (o : Bool) : StV N B n k b h { m with ov := o } (w.setCell ⟨B, 7, none⟩ (.bool o)) :=
 s.move hN hn hk 7 [.bool o] rfl rfl rfl rfl rfl (by intros; simp only [setFrom, Nat.reduceAdd, List.setIfInBounds_toArray, List.set_cons_succ, List.set_cons_zero])
theorem zax {w w' : World} {B : Nat} (h : Aside (fun k => k = B) w w') (i : Nat) (x : Value) : Aside (fun k => k = B) w (w'.setCell ⟨B, i, none⟩ x) := h.setCell (T := fun k => k = B) rfl i x
theorem StV.room (s : StV N B n k b h m w) (hF : formB h = true) : 32 ≤ n ∧ 0 < k := by
 obtain ⟨p, c, q, d, pg, cg, pb, cb, pr, cr, -, hh, -⟩ := s
 obtain ⟨hn32, hm0, -⟩ := zcf hF
 exact ⟨by have := hh.n_eq; omega, by have := hh.m_eq; omega⟩
end
theorem zhg (N B n k : Nat) (b : Bool) (h : Hp) (m : Mk) (a : Int) (w : World) (hS : Sz w) (hN : N ≤ B) (hst : StV N B n k b h m w) (hF : formB h = true) :
  Calls Tryz.prog 167 #[.pointer (some ⟨B, 0, none⟩), .int .i64 a] w fun e w' => e = .returned (.tuple #[]) ∧ StV N B n k b h (haM h m a) w' ∧ Aside (fun k => k = B) w w' := by
 obtain ⟨hn32, hk0⟩ := hst.room hF
 obtain ⟨p, c, q, d, pg, cg, pb, cb, pr, cr, g0, hh, hM⟩ := id hst
 have hC := zg8 (a := a) hS hh hF
 obtain ⟨hlB, -, -, -, -, -, -, -, -, x8, x9, x10⟩ := zal g0
 have hcase : haM h m a = (if obB h a = true ∧ 0 < obN h a then { m with ob := a, fi := 0 } else m) := rfl
 generalize haM h m a = M' at *
 generalize obB h a = O at *
 generalize obN h a = K at *
 clear hM hh g0
 go_enter Tryz.func167, Tryz.ntmps167
 go_upto_region 1 with (first
  | (go_at_call 66; refine zm (hC) ?_; rintro e w' ⟨rfl, hb⟩; obtain ⟨hc, hf, hb, hz⟩ := bstep hb (w := w) (by go_grown); try simp only [za, zb, zd] at hc hf hz)
 )
 obtain ⟨w1, hw1⟩ : ∃ W, W = w'.alloc (.cells #[.bool O, .bool (obC h a), .int .i64 (obK h a), .int .i64 K] 60) := ⟨_, rfl⟩
 have hb1 : Below w'.heap.size w' w1 := by rw [hw1]; exact zr.alloc (Nat.le_refl _) _
 have gX : TBox 60 w'.heap.size #[.bool O, .bool (obC h a), .int .i64 (obK h a), .int .i64 K] w1 := by rw [hw1]; exact TBox.new _ _ _
 rw [← hw1]
 have hbw := bjoin hb1 hb
 replace hst := hst.below hbw
 have v3 := gX.cell 3
 simp only [List.getElem?_toArray, List.getElem?_cons_zero, List.getElem?_cons_succ] at v3
 have lX := gX.lt
 clear hw1 hc hf hb hz hb1 gX x8 x9 x10 hlB
 generalize w'.heap.size = X at *
 obtain ⟨p, c, q, d, pg, cg, pb, cb, pr, cr, g0, hh, hM⟩ := id hst
 obtain ⟨hlB, -, -, -, -, x4, x5, -, -, -, -, -⟩ := zal g0
 obtain ⟨-, -, -, -, f4, f5, -, -, -, -, -⟩ := zbm g0
 clear g0 hh hM hC
 by_cases h1 : O = true
 ·by_cases h2 : 0 < K
  ·rw [if_pos ⟨h1, h2⟩] at hcase
   subst h1
   have s2 := hst.setOF hN hn32 hk0 a 0
   rw [← hcase] at s2
   go_wp2
   go_returns
   exact ⟨rfl, s2, zax (zax (Aside.of hbw) 4 _) 5 _⟩
  ·rw [if_neg (by simp [h2])] at hcase
   subst hcase h1
   go_wp2
   go_returns
   exact ⟨rfl, hst, Aside.of hbw⟩
 ·rw [if_neg (by simp [h1])] at hcase
  obtain rfl : O = false := by simpa using h1
  subst hcase
  go_wp2
  go_returns
  exact ⟨rfl, hst, Aside.of hbw⟩
theorem ztf (N B n k : Nat) (b : Bool) (h : Hp) (m : Mk) (w : World) (hN : N ≤ B) (hst : StV N B n k b h m w) (hF : formB h = true) :
  Calls Tryz.prog 136 #[.pointer (some ⟨B, 0, none⟩)] w fun e w' => e = .returned (.bool m.ov) ∧ StV N B n k b h (if m.ov = true then { m with ov := false, cu := 0 } else m) w' ∧ Aside (fun k => k = B) w w' := by
 obtain ⟨hn32, hk0⟩ := hst.room hF
 obtain ⟨p, c, q, d, pg, cg, pb, cb, pr, cr, g0, hh, hM⟩ := id hst
 obtain ⟨hlB, -, -, -, -, -, -, x6, x7, -, -, -⟩ := zal g0
 obtain ⟨-, -, -, -, -, -, f6, f7, -, -, -⟩ := zbm g0
 clear g0 hh hM
 cases ho : m.ov with
 | true =>
  have s2 := (hst.setO hN hn32 hk0 false).setC hN hn32 hk0 0
  rw [ho] at x7
  clear ho
  go_enter Tryz.func136, Tryz.ntmps136
  go_wp2
  go_returns
  exact ⟨rfl, s2, zax (zax (Aside.of zr) 7 _) 6 _⟩
 | false =>
  rw [ho] at x7
  clear ho
  go_enter Tryz.func136, Tryz.ntmps136
  go_wp2
  go_returns
  exact ⟨rfl, hst, Aside.of zr⟩
theorem zpd {w w0 : World} {x1 x2 x3 : Array Value} {t1 t2 t3 : TypeId} (e : w0 = ((w.alloc (.cells x1 t1)).alloc (.cells x2 t2)).alloc (.cells x3 t3)) :
  TBox t1 w.heap.size x1 w0 ∧ TBox t2 (w.heap.size + 1) x2 w0 ∧ TBox t3 (w.heap.size + 1 + 1) x3 w0 ∧ Below w.heap.size w w0 := by
 obtain ⟨w1, h1⟩ : ∃ w1, w1 = (w.alloc (.cells x1 t1)).alloc (.cells x2 t2) := ⟨_, rfl⟩
 obtain ⟨a, b, hb⟩ := zbw h1
 have s : w1.heap.size = w.heap.size + 1 + 1 := by rw [h1]; simp
 rw [← h1] at e
 have b2 : Below w1.heap.size w1 w0 := by rw [e]; exact zr.alloc (Nat.le_refl _) _
 have n2 : TBox t3 w1.heap.size x3 w0 := by rw [e]; exact TBox.new _ _ _
 rw [s] at n2
 exact ⟨a.below b2, b.below b2, n2, bjoin b2 hb⟩
theorem zh6 (N B n k : Nat) (b : Bool) (h : Hp) (m : Mk) (r : Int) (pr : Option Addr) (K cr : Nat) (z : Nat → Int) (v : Vl) (w : World) (hS : Sz w) (hN : N ≤ B) (hst : StV N B n k b h m w) (hF : formB h = true) 
  (hg : GrAt w pr cr K z) (hR : RowE N 3 K pr w) (hr : r ≤ 1000000) (hk : K ≤ 1000000) (hv : v.wf) :
  Calls Tryz.prog 165 #[.pointer (some ⟨B, 0, none⟩), .agg #[.int .i64 r, .slice pr K cr], v.agg] w fun e w' => ∃ pr' cr', e = .returned (.agg #[.int .i64 r, .slice pr' (sdS r ⟨h, K, z, false⟩ v).n cr']) ∧
   GrAt w' pr' cr' (sdS r ⟨h, K, z, false⟩ v).n (sdS r ⟨h, K, z, false⟩ v).z ∧ RowE N 3 (sdS r ⟨h, K, z, false⟩ v).n pr' w' ∧ StV N B n k b (sdS r ⟨h, K, z, false⟩ v).h { m with ov := m.ov || (sdS r ⟨h, K, z, false⟩ v).o } w' ∧ Aside (fun k => k = B) w w' := by
 obtain ⟨hn32, hk0⟩ := hst.room hF
 obtain ⟨vk, vn⟩ := v
 obtain ⟨w0, hw0⟩ : ∃ w0, w0 = ((w.alloc (.cells #[.int .i64 r, .slice pr K cr] 31)).alloc (.cells #[.int .i64 vk, .int .i64 vn] 70)).alloc (.cells #[.int .i64 0, .slice none 0 0] 31) := ⟨_, rfl⟩
 obtain ⟨g1, g2, g3, hb0⟩ := zpd hw0
 have hlB0 := hst.lt
 obtain ⟨p, c, q, d, pg, cg, pb, cb, pv, cv, g0, hh, hM⟩ := hst
 have vBw : VarT 164 11 B w := ⟨_, rfl, zdh _ _ _ _ _ _ _ _ _ _ _ _ _ _, g0⟩
 replace g0 := g0.below hb0
 replace hh := hh.below hb0
 have hNw : N ≤ w.heap.size := by omega
 have hN0 : N ≤ w0.heap.size := Nat.le_trans hNw hb0.size
 have hC := fun W (hW : Below w0.heap.size w0 W) => zuf N r (v := ⟨vk, vn⟩) ((hS.below hb0).below hW) (hh.below hW) hF ((hg.below hb0).below hW) ((hR.below hb0).below hW) (Nat.le_trans hN0 hW.size) hr hk hv
 generalize sdS r ⟨h, K, z, false⟩ ⟨vk, vn⟩ = T at *
 obtain ⟨hlB, -, -, -, -, -, -, -, x7, x8, x9, x10⟩ := zal g0
 have y0 := g1.cell 0
 have y1 := g1.cell 1
 have u0 := g2.cell 0
 have u1 := g2.cell 1
 simp only [List.getElem?_toArray, List.getElem?_cons_zero, List.getElem?_cons_succ] at y0 y1 u0 u1
 have l1 := g1.lt
 have l2 := g2.lt
 have l3 := g3.lt
 unfold Vl.agg at hC ⊢
 dsimp only at hC ⊢
 clear hg hR hh hS hF
 go_enter Tryz.func165, Tryz.ntmps165
 go_upto_region 1 with fail
 rw [← hw0]
 clear hw0
 refine zpr [(13, 11), (14, 12)] [some 11, some 12, some 13, some 14, some 15, some 16, some 17, some 10, some 18, some 19, some 20, some 7, some 8, none, none, some 9] [11, 12, 13, 14, 15, 16, 17, 10, 18, 19, 20, 7, 8, 9] ([(fun v _ => v = .pointer (some ⟨B, 0, none⟩)), (fun v _ => v = .pointer (some ⟨B, 0, none⟩)), (fun v _ => v = .pointer (some ⟨B, 8, none⟩)), (fun v _ => v = .agg #[.slice p n c, .slice q k d, .bool b]), (fun v _ => v = .agg #[.int .i64 r, .slice pr K cr]), (fun v _ => v = .agg #[.int .i64 vk, .int .i64 vn]), (HgT (N) (n) (k) (b) (T.h) (r) (T.n) (T.z) (.bool T.o)), (HgT (N) (n) (k) (b) (T.h) (r) (T.n) (T.z) (.bool T.o)), (HpV (n) (k) (b) (T.h)), (GreyE (N) (r) (T.n) (T.z)), (fun v _ => v = .bool T.o), (PtrV (w0.heap.size) 27 3), (PtrV (w0.heap.size) 31 2), (fun _ _ => True), (fun _ _ => True), (fun v _ => v = .bool T.o)] : List (Value → World → Prop)) (nsF ([(13, FullHT 27 (n) (k) (b) (T.h)), (14, FullGE 31 (N) (r) (T.n) (T.z))] : List (Nat × (Nat → World → Prop)))) 21 (by kernel_rfl) (by kernel_rfl) rfl rfl (by decide) (by decide) (by simp) (by kernel_rfl) ⟨fun _ _ _ h _ => h, fun _ _ _ h _ => h, fun _ _ _ h _ => h, fun _ _ _ h _ => h, fun _ _ _ h _ => h, fun _ _ _ h _ => h, fun _ _ _ h hb => h.below hb, fun _ _ _ h hb => h.below hb, fun _ _ _ h hb => h.below hb, fun _ _ _ h hb => h.below hb, fun _ _ _ h _ => h, fun _ _ _ h hb => h.below hb, fun _ _ _ h hb => h.below hb, fun _ _ _ _ _ => trivial, fun _ _ _ _ _ => trivial, fun _ _ _ h _ => h, trivial⟩ (zku (l := ([(13, FullHT 27 (n) (k) (b) (T.h)), (14, FullGE 31 (N) (r) (T.n) (T.z))] : List (Nat × (Nat → World → Prop)))) ⟨fun _ _ _ h hb => h.below hb, fun _ _ _ h hb => h.below hb, trivial⟩) ?_ ?_
 ·refine ⟨?_, ?_, ?_, ?_, ?_, ?_, ?_, ?_, ?_, ?_, ?_, ?_, ?_, ?_, ?_, ?_, trivial⟩
  ·refine zbb rfl ?_
   intro a' w' hb' hs hd Kc hK
   have f0 : a'.tmps[0]?.getD undef = .pointer (some ⟨B, 0, none⟩) := (hs 0 (by decide)).trans rfl
   clear hs hd
   unfold Oper.wp
   go_simp
   exact hK _ _ zr rfl
  ·refine zbb rfl ?_
   intro a' w' hb' hs hd Kc hK
   have f11 : a'.tmps[11]?.getD undef = .pointer (some ⟨B, 0, none⟩) := hd 0 11 zt rfl
   clear hs hd
   have x8' := zcl hb' hlB x8
   have x9' := zcl hb' hlB x9
   have x10' := zcl hb' hlB x10
   have y0' := zcl hb' l1 y0
   have y1' := zcl hb' l1 y1
   have u0' := zcl hb' l2 u0
   have u1' := zcl hb' l2 u1
   unfold Oper.wp
   go_simp
   exact hK _ _ zr zl
  ·refine zbb rfl ?_
   intro a' w' hb' hs hd Kc hK
   have f12 : a'.tmps[12]?.getD undef = .pointer (some ⟨B, 0, none⟩) := hd 1 12 zt rfl
   clear hs hd
   unfold Oper.wp
   go_simp
   exact hK _ _ zr rfl
  ·refine zbb rfl ?_
   intro a' w' hb' hs hd Kc hK
   have f13 : a'.tmps[13]?.getD undef = .pointer (some ⟨B, 8, none⟩) := hd 2 13 zt rfl
   clear hs hd
   have x8' := zcl hb' hlB x8
   have x9' := zcl hb' hlB x9
   have x10' := zcl hb' hlB x10
   have y0' := zcl hb' l1 y0
   have y1' := zcl hb' l1 y1
   have u0' := zcl hb' l2 u0
   have u1' := zcl hb' l2 u1
   unfold Oper.wp
   go_simp
   exact hK _ _ zr rfl
  ·refine zbb rfl ?_
   intro a' w' hb' hs hd Kc hK
   have f4 : a'.tmps[4]?.getD undef = .pointer (some ⟨w.heap.size, 0, none⟩) := (hs 4 (by decide)).trans rfl
   clear hs hd
   have x8' := zcl hb' hlB x8
   have x9' := zcl hb' hlB x9
   have x10' := zcl hb' hlB x10
   have y0' := zcl hb' l1 y0
   have y1' := zcl hb' l1 y1
   have u0' := zcl hb' l2 u0
   have u1' := zcl hb' l2 u1
   unfold Oper.wp
   go_simp
   exact hK _ _ zr rfl
  ·refine zbb rfl ?_
   intro a' w' hb' hs hd Kc hK
   have f5 : a'.tmps[5]?.getD undef = .pointer (some ⟨w.heap.size + 1, 0, none⟩) := (hs 5 (by decide)).trans rfl
   clear hs hd
   have x8' := zcl hb' hlB x8
   have x9' := zcl hb' hlB x9
   have x10' := zcl hb' hlB x10
   have y0' := zcl hb' l1 y0
   have y1' := zcl hb' l1 y1
   have u0' := zcl hb' l2 u0
   have u1' := zcl hb' l2 u1
   unfold Oper.wp
   go_simp
   exact hK _ _ zr rfl
  ·refine zbb rfl ?_
   intro a' w' hb' hs hd Kc hK
   have f14 : a'.tmps[14]?.getD undef = .agg #[.slice p n c, .slice q k d, .bool b] := hd 3 14 zt rfl
   have f15 : a'.tmps[15]?.getD undef = .agg #[.int .i64 r, .slice pr K cr] := hd 4 15 zt rfl
   have f16 : a'.tmps[16]?.getD undef = .agg #[.int .i64 vk, .int .i64 vn] := hd 5 16 zt rfl
   clear hs hd
   have x8' := zcl hb' hlB x8
   have x9' := zcl hb' hlB x9
   have x10' := zcl hb' hlB x10
   have y0' := zcl hb' l1 y0
   have y1' := zcl hb' l1 y1
   have u0' := zcl hb' l2 u0
   have u1' := zcl hb' l2 u1
   unfold Oper.wp
   go_simp
   refine zm (hC _ hb') ?_
   rintro e w'' ⟨p2, c2, q2, d2, pr2, cr2, rfl, hA, hG, hR, hb2⟩
   exact hK _ _ hb2 ⟨_, _, _, _, _, _, rfl, hA, hG, hR⟩
  ·refine zbb rfl ?_
   intro a' w' hb' hs hd Kc hK
   have f17 : HgT (N) (n) (k) (b) (T.h) (r) (T.n) (T.z) (.bool T.o) (a'.tmps[17]?.getD undef) w' := hd 6 17 zt rfl
   clear hs hd
   have x8' := zcl hb' hlB x8
   have x9' := zcl hb' hlB x9
   have x10' := zcl hb' hlB x10
   have y0' := zcl hb' l1 y0
   have y1' := zcl hb' l1 y1
   have u0' := zcl hb' l2 u0
   have u1' := zcl hb' l2 u1
   obtain ⟨_, _, _, _, _, _, f17, hA, hG, hR⟩ := f17
   unfold Oper.wp
   go_simp
   exact hK _ _ zr ⟨_, _, _, _, _, _, rfl, hA, hG, hR⟩
  ·refine zbb rfl ?_
   intro a' w' hb' hs hd Kc hK
   have f10 : HgT (N) (n) (k) (b) (T.h) (r) (T.n) (T.z) (.bool T.o) (a'.tmps[10]?.getD undef) w' := hd 7 10 zt rfl
   clear hs hd
   have x8' := zcl hb' hlB x8
   have x9' := zcl hb' hlB x9
   have x10' := zcl hb' hlB x10
   have y0' := zcl hb' l1 y0
   have y1' := zcl hb' l1 y1
   have u0' := zcl hb' l2 u0
   have u1' := zcl hb' l2 u1
   obtain ⟨_, _, _, _, _, _, f10, hA, hG, hR⟩ := f10
   unfold Oper.wp
   go_simp
   exact hK _ _ zr ⟨_, _, _, _, rfl, hA⟩
  ·refine zbb rfl ?_
   intro a' w' hb' hs hd Kc hK
   have f10 : HgT (N) (n) (k) (b) (T.h) (r) (T.n) (T.z) (.bool T.o) (a'.tmps[10]?.getD undef) w' := hd 7 10 zt rfl
   clear hs hd
   have x8' := zcl hb' hlB x8
   have x9' := zcl hb' hlB x9
   have x10' := zcl hb' hlB x10
   have y0' := zcl hb' l1 y0
   have y1' := zcl hb' l1 y1
   have u0' := zcl hb' l2 u0
   have u1' := zcl hb' l2 u1
   obtain ⟨_, _, _, _, _, _, f10, hA, hG, hR⟩ := f10
   unfold Oper.wp
   go_simp
   exact hK _ _ zr ⟨_, _, rfl, hG, hR⟩
  ·refine zbb rfl ?_
   intro a' w' hb' hs hd Kc hK
   have f10 : HgT (N) (n) (k) (b) (T.h) (r) (T.n) (T.z) (.bool T.o) (a'.tmps[10]?.getD undef) w' := hd 7 10 zt rfl
   clear hs hd
   obtain ⟨_, _, _, _, _, _, f10, hA, hG, hR⟩ := f10
   unfold Oper.wp
   go_simp
   exact hK _ _ zr rfl
  ·refine zbb rfl ?_
   intro a' w' hb' hs hd Kc hK
   clear hs hd
   have x8' := zcl hb' hlB x8
   have x9' := zcl hb' hlB x9
   have x10' := zcl hb' hlB x10
   have y0' := zcl hb' l1 y0
   have y1' := zcl hb' l1 y1
   have u0' := zcl hb' l2 u0
   have u1' := zcl hb' l2 u1
   unfold Oper.wp
   go_simp
   exact hK _ _ (zr.alloc (Nat.le_refl _) _) (zm4 _ _ _ zbn hb'.size)
  ·refine zbb rfl ?_
   intro a' w' hb' hs hd Kc hK
   clear hs hd
   have x8' := zcl hb' hlB x8
   have x9' := zcl hb' hlB x9
   have x10' := zcl hb' hlB x10
   have y0' := zcl hb' l1 y0
   have y1' := zcl hb' l1 y1
   have u0' := zcl hb' l2 u0
   have u1' := zcl hb' l2 u1
   unfold Oper.wp
   go_simp
   exact hK _ _ (zr.alloc (Nat.le_refl _) _) (zm4 _ _ _ zee hb'.size)
  ·refine zj4 11 7 rfl rfl ?_
   intro a' w' hb' hs hd Kc hK
   have f7 : PtrV (w0.heap.size) 27 3 (a'.tmps[7]?.getD undef) w' := hd 11 7 zt rfl
   have f18 : HpV (n) (k) (b) (T.h) (a'.tmps[18]?.getD undef) w' := hd 8 18 zt rfl
   clear hs hd
   have x8' := zcl hb' hlB x8
   have x9' := zcl hb' hlB x9
   have x10' := zcl hb' hlB x10
   have y0' := zcl hb' l1 y0
   have y1' := zcl hb' l1 y1
   have u0' := zcl hb' l2 u0
   have u1' := zcl hb' l2 u1
   obtain ⟨gg, f7, hg, hv⟩ := f7
   obtain ⟨p', c', q', d', f18, hA⟩ := f18
   obtain ⟨x0, x1, x2, gl, y0, y1, y2, z0, z1, z2⟩ := hv.three
   have hy := zes p' (n) c' q' (k) d' (b)
   unfold Oper.wp
   go_simp
   exact hK gg (.tuple #[]) _ f7 (zao hg [.slice p' (n) c', .slice q' (k) d', .bool (b)] 0 w') ⟨p', c', q', d', hv.full3 _ _ _, zan (hv.clear hA (hn32) (hk0)) [.slice p' (n) c', .slice q' (k) d', .bool (b)] 0 hA⟩ (zje (l := ([(13, FullHT 27 (n) (k) (b) (T.h)), (14, FullGE 31 (N) (r) (T.n) (T.z))] : List (Nat × (Nat → World → Prop)))) ⟨.inl rfl, .inr fun g' hQ => hQ.putsV hv (by decide) (by decide) (Nat.le_trans (hN0) hg) [.slice p' (n) c', .slice q' (k) d', .bool (b)], trivial⟩) ⟨fun _ hQ => hQ, fun _ hQ => hQ, fun _ hQ => hQ, fun _ hQ => hQ, fun _ hQ => hQ, fun _ hQ => hQ, fun _ hQ => hQ.putsV hv (by decide) (Nat.le_trans (hN0) hg) (hn32) (hk0) [.slice p' (n) c', .slice q' (k) d', .bool (b)], fun _ hQ => hQ.putsV hv (by decide) (Nat.le_trans (hN0) hg) (hn32) (hk0) [.slice p' (n) c', .slice q' (k) d', .bool (b)], fun _ hQ => hQ.putsV hv (hn32) (hk0) [.slice p' (n) c', .slice q' (k) d', .bool (b)], fun _ hQ => hQ.putsV hv (by decide) (Nat.le_trans (hN0) hg) [.slice p' (n) c', .slice q' (k) d', .bool (b)], fun _ hQ => hQ, fun _ hQ => hQ.putsV hy, fun _ hQ => hQ.putsV hy, fun _ _ => trivial, fun _ _ => trivial, fun _ hQ => hQ, trivial⟩
  ·refine zj4 12 8 rfl rfl ?_
   intro a' w' hb' hs hd Kc hK
   have f8 : PtrV (w0.heap.size) 31 2 (a'.tmps[8]?.getD undef) w' := hd 12 8 zt rfl
   have f19 : GreyE (N) (r) (T.n) (T.z) (a'.tmps[19]?.getD undef) w' := hd 9 19 zt rfl
   clear hs hd
   have x8' := zcl hb' hlB x8
   have x9' := zcl hb' hlB x9
   have x10' := zcl hb' hlB x10
   have y0' := zcl hb' l1 y0
   have y1' := zcl hb' l1 y1
   have u0' := zcl hb' l2 u0
   have u1' := zcl hb' l2 u1
   obtain ⟨gg, f8, hg, hv⟩ := f8
   obtain ⟨p', c', f19, hG, hR⟩ := f19
   obtain ⟨x0, x1, gl, y0, y1, z0, z1⟩ := hv.shape.two
   have hy := zgl (r) p' (T.n) c'
   unfold Oper.wp
   go_simp
   exact hK gg (.tuple #[]) _ f8 (zao hg [.int .i64 (r), .slice p' (T.n) c'] 0 w') ⟨p', c', hv.shape.full2 _ _, zbt hG hR hv (by decide) (Nat.le_trans (hN0) hg) [.int .i64 (r), .slice p' (T.n) c'], hR.puts hv (by decide) (Nat.le_trans (hN0) hg) [.int .i64 (r), .slice p' (T.n) c']⟩ (zje (l := ([(13, FullHT 27 (n) (k) (b) (T.h)), (14, FullGE 31 (N) (r) (T.n) (T.z))] : List (Nat × (Nat → World → Prop)))) ⟨.inr fun g' hQ => hQ.putsV hv (by decide) (hn32) (hk0) [.int .i64 (r), .slice p' (T.n) c'], .inl rfl, trivial⟩) ⟨fun _ hQ => hQ, fun _ hQ => hQ, fun _ hQ => hQ, fun _ hQ => hQ, fun _ hQ => hQ, fun _ hQ => hQ, fun _ hQ => hQ.putsV hv (by decide) (Nat.le_trans (hN0) hg) (hn32) (hk0) [.int .i64 (r), .slice p' (T.n) c'], fun _ hQ => hQ.putsV hv (by decide) (Nat.le_trans (hN0) hg) (hn32) (hk0) [.int .i64 (r), .slice p' (T.n) c'], fun _ hQ => hQ.putsV hv (hn32) (hk0) [.int .i64 (r), .slice p' (T.n) c'], fun _ hQ => hQ.putsV hv (by decide) (Nat.le_trans (hN0) hg) [.int .i64 (r), .slice p' (T.n) c'], fun _ hQ => hQ, fun _ hQ => hQ.putsV hy, fun _ hQ => hQ.putsV hy, fun _ _ => trivial, fun _ _ => trivial, fun _ hQ => hQ, trivial⟩
  ·refine zbb rfl ?_
   intro a' w' hb' hs hd Kc hK
   have f20 : a'.tmps[20]?.getD undef = .bool T.o := hd 10 20 zt rfl
   clear hs hd
   unfold Oper.wp
   go_simp
   exact hK _ _ zr rfl
 intro Xf w' hb hv hf
 obtain ⟨g7, q7, o7⟩ := hf 13 11 7 rfl rfl
 have p7 : PtrV (w0.heap.size) 27 3 (Xf 7) w' := hv 11 7 rfl
 replace o7 : FullHT 27 (n) (k) (b) (T.h) g7 w' := o7
 obtain ⟨g', e', hg7, hv7⟩ := p7
 rw [q7] at e'
 injection e' with e'
 injection e' with e'
 injection e' with e'
 subst e'
 obtain ⟨g8, q8, o8⟩ := hf 14 12 8 rfl rfl
 have p8 : PtrV (w0.heap.size) 31 2 (Xf 8) w' := hv 12 8 rfl
 replace o8 : FullGE 31 (N) (r) (T.n) (T.z) g8 w' := o8
 obtain ⟨g', e', hg8, hv8⟩ := p8
 rw [q8] at e'
 injection e' with e'
 injection e' with e'
 injection e' with e'
 subst e'
 have q9 : Xf 9 = .bool T.o := hv 15 9 rfl
 clear hv hf
 simp only [List.map_cons, List.map_nil, q7, q8, q9, puts, Act.put, Nat.reduceAdd, List.setIfInBounds_toArray, List.set_cons_succ, List.set_cons_zero]
 obtain ⟨p2, c2, q2, d2, t7, hA⟩ := o7
 obtain ⟨pr2, cr2, t8, hG, hR⟩ := o8
 replace g0 := g0.below hb
 replace g3 := g3.below hb
 have hbw := bjoin hb hb0
 have hB7 : ¬ B = g7 := by have := hb0.size; omega
 have lN0 := l3
 have lw0 := hb.size
 clear hC x7 x8 x9 x10 y0 y1 u0 u1 l1 l2 l3 hb q7 q8 q9 g1 g2 hlB hb0
 generalize w' = w1 at *
 have a0 := t7.cell 0
 have a1 := t7.cell 1
 have a2 := t7.cell 2
 simp only [List.getElem?_toArray, List.getElem?_cons_zero, List.getElem?_cons_succ] at a0 a1 a2
 have l7 := t7.lt
 obtain ⟨hlB, -, -, -, -, -, -, -, x7, x8, x9, x10⟩ := zal g0
 obtain ⟨-, -, -, -, -, -, -, f7, f8, f9, f10⟩ := zbm g0
 have lN : w.heap.size + 1 + 1 < w0.heap.size := lN0
 have hB8 : ¬ g8 = B := by omega
 have hB3 : ¬ w.heap.size + 1 + 1 = B := by omega
 have hB83 : ¬ g8 = w.heap.size + 1 + 1 := by omega
 have vB : VarT 164 11 B w1 := ⟨_, rfl, zdh _ _ _ _ _ _ _ _ _ _ _ _ _ _, g0⟩
 have hA2 := zan (vB.clear hA hn32 hk0) [.slice p2 n c2, .slice q2 k d2, .bool b] 8 hA
 have hG2 := zbv (k := 8) hG hR vB (by decide) hN [.slice p2 n c2, .slice q2 k d2, .bool b]
 have hR2 := zba (k := 8) hR vB (by decide) hN [.slice p2 n c2, .slice q2 k d2, .bool b]
 have g02 := g0.putsL [.slice p2 n c2, .slice q2 k d2, .bool b] 8
 simp only [setFrom, List.setIfInBounds_toArray, List.set_cons_succ, List.set_cons_zero, Nat.reduceAdd] at g02
 have t82 := t8.of_block (zah hB8 [.slice p2 n c2, .slice q2 k d2, .bool b] 8 w1)
 have g32 := g3.of_block (zah hB3 [.slice p2 n c2, .slice q2 k d2, .bool b] 8 w1)
 have hAs := (Aside.of (T := fun k => k = B) hbw).trans (zay (T := fun k => k = B) rfl [.slice p2 n c2, .slice q2 k d2, .bool b] 8 w1)
 obtain ⟨w2, hw2⟩ : ∃ W, W = putsL B 8 [.slice p2 n c2, .slice q2 k d2, .bool b] w1 := ⟨_, rfl⟩
 rw [← hw2] at hA2 hG2 hR2 g02 t82 g32 hAs
 have vB2 : VarT 164 11 B w2 := ⟨_, rfl, zdh _ _ _ _ _ _ _ _ _ _ _ _ _ _, g02⟩
 have hA3 := zan (vB2.clear hA2 hn32 hk0) [.bool (m.ov || T.o)] 7 hA2
 have hG3 := zbv (k := 7) hG2 hR2 vB2 (by decide) hN [.bool (m.ov || T.o)]
 have hR3 := zba (k := 7) hR2 vB2 (by decide) hN [.bool (m.ov || T.o)]
 have g03 := g02.putsL [.bool (m.ov || T.o)] 7
 simp only [setFrom, List.setIfInBounds_toArray, List.set_cons_succ, List.set_cons_zero, Nat.reduceAdd] at g03
 have t83 := t82.of_block (zah hB8 [.bool (m.ov || T.o)] 7 w2)
 have g33 := g32.of_block (zah hB3 [.bool (m.ov || T.o)] 7 w2)
 have hAs3 := hAs.trans (zay (T := fun k => k = B) rfl [.bool (m.ov || T.o)] 7 w2)
 obtain ⟨w3, hw3⟩ : ∃ W, W = putsL B 7 [.bool (m.ov || T.o)] w2 := ⟨_, rfl⟩
 rw [← hw3] at hA3 hG3 hR3 g03 t83 g33 hAs3
 rw [hw2] at hw3
 simp only [putsL, Nat.reduceAdd] at hw3
 clear hA2 hG2 hR2 g02 t82 g32 hAs vB vB2 hw2 hA hG hR t7 t8 g3 g0 hv7 hv8
 have hdr : ∀ W : World, Below W.heap.size W W.drew := fun W => zr.drew
 have e0 := t83.cell 0
 have e1 := t83.cell 1
 have b0 := g33.cell 0
 have b1 := g33.cell 1
 simp only [List.getElem?_toArray, List.getElem?_cons_zero, List.getElem?_cons_succ] at e0 e1 b0 b1
 have h0 := g33.frozen 0
 have h1 := g33.frozen 1
 have l8 := t83.lt
 have l33 := g33.lt
 have v3 : VarT 31 2 (w.heap.size + 1 + 1) w3 := ⟨_, rfl, zee, g33⟩
 have hN3 : N ≤ w.heap.size + 1 + 1 := by omega
 have hA4 := zan (v3.clear hA3 hn32 hk0) [.int .i64 r, .slice pr2 T.n cr2] 0 hA3
 have hG4 := zbv (k := 0) hG3 hR3 v3 (by decide) hN3 [.int .i64 r, .slice pr2 T.n cr2]
 have hR4 := zba (k := 0) hR3 v3 (by decide) hN3 [.int .i64 r, .slice pr2 T.n cr2]
 have g04 := g03.of_block (zah (fun e => hB3 e.symm) [.int .i64 r, .slice pr2 T.n cr2] 0 w3)
 have hAs4 := (hAs3.setNew (g := w.heap.size + 1 + 1) (by omega) 0 (.int .i64 r)).setNew (g := w.heap.size + 1 + 1) (by omega) 1 (.slice pr2 T.n cr2)
 have hM4 := hM.aside vBw (by decide) (by decide) (by decide) hN hAs4
 simp only [putsL, Nat.reduceAdd] at hA4 hG4 hR4 g04
 clear hA3 hG3 hR3 g03 t83 g33 hAs3 v3 hM vBw
 cases hOV : m.ov with
 | true =>
  rw [hOV] at x7
  rw [show (m.ov || T.o) = true by rw [hOV]; rfl] at hw3
  clear hOV
  go_upto_region 2 with fail
  go_region
  rw [← hw3]
  clear hw3 a0 a1 a2 x7 x8 x9 x10 f7 f8 f9 f10 l7 hlB
  go_wp2
  refine bodyPost_ret (by simp [results, Tryz.results165, go_sem, *]; try rfl) rfl ?_
  exact ⟨pr2, cr2, rfl, hG4.below (hdr _), hR4.below (hdr _), ⟨p2, c2, q2, d2, pg, cg, pb, cb, pv, cv, g04.below (hdr _), hA4.below (hdr _), ⟨(hM4.below (hdr _)).g, (hM4.below (hdr _)).ge, (hM4.below (hdr _)).b, (hM4.below (hdr _)).be, (hM4.below (hdr _)).r, (hM4.below (hdr _)).re⟩⟩, hAs4.trans (Aside.of (hdr _))⟩
 | false =>
  rw [hOV] at x7
  rw [show (m.ov || T.o) = T.o by rw [hOV]; rfl] at hw3
  clear hOV
  go_upto_region 2 with fail
  go_region
  rw [← hw3]
  clear hw3 a0 a1 a2 x7 x8 x9 x10 f7 f8 f9 f10 l7 hlB
  go_wp2
  refine bodyPost_ret (by simp [results, Tryz.results165, go_sem, *]; try rfl) rfl ?_
  exact ⟨pr2, cr2, rfl, hG4.below (hdr _), hR4.below (hdr _), ⟨p2, c2, q2, d2, pg, cg, pb, cb, pv, cv, g04.below (hdr _), hA4.below (hdr _), ⟨(hM4.below (hdr _)).g, (hM4.below (hdr _)).ge, (hM4.below (hdr _)).b, (hM4.below (hdr _)).be, (hM4.below (hdr _)).r, (hM4.below (hdr _)).re⟩⟩, hAs4.trans (Aside.of (hdr _))⟩
end Go.Proofs.YtkehankfnkjnlaaGreatDoor
