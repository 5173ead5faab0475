import Derived.Test.YtkehankfnkjnlaaGreatDoorVxRef16
import Derived.Test.YtkehankfnkjnlaaGreatDoorVxLateV
import Derived.Test.YtkehankfnkjnlaaGreatDoorV35
namespace Go.Proofs.YtkehankfnkjnlaaGreatDoor
set_option linter.unusedSimpArgs false
set_option linter.unusedVariables false
set_option maxHeartbeats 16000000
set_option maxRecDepth 20000
open Go.ChangeAt Go.ChangeShapes Go.Joins Go.RowKit Go.WideShapes
variable {h : Hp} {w w' W W' : World} {p q : Option Addr} {n g : Nat} {a : Int} {v : Value}
def SgV (N : Nat) (r : Int) (B n m : Nat) (b : Bool) (s : Sd) (w : World) : Prop :=
 ∃ p c q d pr cr, TBox 227 B #[.slice p n c, .slice q m d, .bool b, .int .i64 r, .slice pr s.n cr, .bool s.o] w ∧ HpIn w p n c q m d b s.h ∧ GrAt w pr cr s.n s.z ∧ RowE N 3 s.n pr w
theorem SgV.below {N : Nat} {r : Int} {B n m : Nat} {b : Bool} {s : Sd} (h : SgV N r B n m b s w) (hb : Below w.heap.size w w') : SgV N r B n m b s w' := by
 obtain ⟨p, c, q, d, pr, cr, h1, h2, h3, h4⟩ := h
 exact ⟨p, c, q, d, pr, cr, h1.below hb, h2.below hb, h3.below hb, h4.below hb⟩
theorem zik (p : Option Addr) (n c : Nat) (q : Option Addr) (m d : Nat) (b : Bool) (r : Int) (pr : Option Addr) (k cr : Nat) (o : Bool) : PlainC #[.slice p n c, .slice q m d, .bool b, .int .i64 r, .slice pr k cr, .bool o] := ⟨by show 6 < 32; decide, fun i x e => by
 match i, e with
 | 0, e => simp at e
 | 1, e => simp at e
 | 2, e => simp at e
 | 3, e => simp at e
 | 4, e => simp at e
 | 5, e => simp at e
 | i + 6, e => simp at e⟩
theorem zdg {B : Nat} {x0 x1 x2 x3 x4 x5 : Value} {T : TypeId} (h : TBox T B #[x0, x1, x2, x3, x4, x5] w) :
  B < w.heap.size ∧ w.cell? ⟨B, 0, none⟩ = some x0 ∧ w.cell? ⟨B, 1, none⟩ = some x1 ∧ w.cell? ⟨B, 2, none⟩ = some x2 ∧ w.cell? ⟨B, 3, none⟩ = some x3 ∧ w.cell? ⟨B, 4, none⟩ = some x4 ∧ w.cell? ⟨B, 5, none⟩ = some x5 :=
 ⟨h.lt, h.cell 0, h.cell 1, h.cell 2, h.cell 3, h.cell 4, h.cell 5⟩
theorem zgm {B : Nat} {x0 x1 x2 x3 x4 x5 : Value} {T : TypeId} (h : TBox T B #[x0, x1, x2, x3, x4, x5] w) :
  w.frozen? ⟨B, 0, none⟩ = false ∧ w.frozen? ⟨B, 1, none⟩ = false ∧ w.frozen? ⟨B, 2, none⟩ = false ∧ w.frozen? ⟨B, 3, none⟩ = false ∧ w.frozen? ⟨B, 4, none⟩ = false ∧ w.frozen? ⟨B, 5, none⟩ = false :=
 ⟨h.frozen 0, h.frozen 1, h.frozen 2, h.frozen 3, h.frozen 4, h.frozen 5⟩
theorem zth {N : Nat} {r a : Int} {k : Nat} {pr p' : Option Addr} (hR : RowE N 3 k pr w) (hb : Below w.heap.size w w') 
  (hT : ∀ b off sp, p' = some ⟨b, off, sp⟩ → (gpB r k a = false ∧ p' = pr) ∨ ∃ cs, w'.heap[b]? = some (.cells cs 3 (0, 0))) : RowE N 3 (gpN r k a) p' w' := fun h0 b off sp e => by
 rcases hT b off sp e with ⟨h1, h2⟩ | ⟨cs, h1⟩
 ·have e1 : gpN r k a = k := by unfold gpN; rw [if_neg (by simp [h1])]
  rw [e1] at h0
  rw [h2] at e
  exact (hR.below hb) h0 b off sp e
 ·exact ⟨(Array.getElem?_eq_some_iff.1 h1).1, .inr ⟨cs, h1⟩⟩
theorem zo7 (N : Nat) (r a : Int) (p : Option Addr) (n c : Nat) (z : Nat → Int) (w : World) (hz : GrAt w p c n z) (hR : RowE N 3 n p w) (hr : r ≤ 1000000) (ha : (Lit.int .i64 a).wf = true) :
  Calls Tryz.prog 208 #[.agg #[.int .i64 r, .slice p n c], .int .i64 a] w fun e w' => ∃ p' c', e = .returned (.tuple #[.agg #[.int .i64 r, .slice p' (gpN r n a) c'], .bool (gpB r n a)]) ∧ GrAt w' p' c' (gpN r n a) (gpZ r n z a) ∧ RowE N 3 (gpN r n a) p' w' ∧ Below w.heap.size w w' := by
 refine zm (zru r a p n c z w hz hr ha) ?_
 rintro e w' ⟨p', c', h1, h2, -, h4, h5⟩
 exact ⟨p', c', h1, h2, zth hR h4 h5, h4⟩
theorem zro (N : Nat) (r : Int) (B n m : Nat) (b : Bool) (s : Sd) (v : Vl) (w : World) (hS : Sz w) (h : SgV N r B n m b s w) (hF : formB s.h = true) (e : shB s.h v = false) :
  Calls Tryz.prog 204 #[.pointer (some ⟨B, 0, none⟩), v.agg] w fun e w' => e = .returned (.tuple #[]) ∧ Below w.heap.size w w' := by
 obtain ⟨sh, sn, sz, so⟩ := s
 obtain ⟨vk, vn⟩ := v
 obtain ⟨p, c, q, d, pr, cr, g0, hh, hg, hR⟩ := h
 dsimp only at hF g0 hh hg hR
 obtain ⟨w0, hw0⟩ : ∃ w0, w0 = w.alloc (.cells #[.int .i64 vk, .int .i64 vn] 70) := ⟨_, rfl⟩
 have hb0 : Below w.heap.size w w0 := by rw [hw0]; exact zr.alloc (Nat.le_refl _) _
 have g1 : TBox 70 w.heap.size #[.int .i64 vk, .int .i64 vn] w0 := by rw [hw0]; exact TBox.new _ _ _
 have hS0 := hS.below hb0
 have hh0 := hh.below hb0
 obtain ⟨hn32, hm0, -⟩ := zcf hF
 have hn0 : 0 < n := by have := hh.n_eq; omega
 have hmm : 0 < m := by have := hh.m_eq; omega
 have hF' : Hid (formB sh = true) := hF
 have g0' := g0.below hb0
 have hcase : (vk != 2) = true ∨ ((vk != 2) = false ∧ blB sh vn = true) ∨ ((vk != 2) = false ∧ blB sh vn = false ∧ obB sh vn = false) := by
  have e' : (decide (vk = 2) && (obB sh vn && !blB sh vn)) = false := e
  by_cases hk : vk = 2
  ·right
   subst hk
   cases h1 : blB sh vn
   ·right
    rw [h1] at e'
    simpa using e'
   ·left
    simp
  ·left
   simp [hk]
 have hlB := g0'.lt
 have hlV := g1.lt
 obtain ⟨-, x0, x1, x2, -, -, -⟩ := zdg g0'
 have u0 := g1.cell 0
 have u1 := g1.cell 1
 simp only [List.getElem?_toArray, List.getElem?_cons_zero, List.getElem?_cons_succ] at u0 u1
 have hBl := fun W (hW : Below w0.heap.size w0 W) => zdo (a := vn) (hS0.below hW) (hh0.below hW) hF
 have hPa := fun W (hW : Below w0.heap.size w0 W) => zk8 (a := vn) (hS0.below hW) (hh0.below hW) hF
 generalize blB sh vn = BK at hBl hcase
 generalize obB sh vn = O at hPa hcase
 clear e hF g0 hh hg hR hS hS0 hh0 hn32 hm0
 unfold Vl.agg
 dsimp only
 go_enter Tryz.func204, Tryz.ntmps204
 go_upto_region 1 with fail
 rw [← hw0]
 clear hw0
 rcases hcase with hk | ⟨hk, rfl⟩ | ⟨hk, rfl, rfl⟩
 ·skip
  refine zbg [some 7, some 8, some 9, some 10, some 11, some 12, some 13, some 14, some 15, some 16, some 17, some 18] [7, 8, 9, 10, 11, 12, 13, 14, 15, 16, 17, 18] [(fun v _ => v = .pointer (some ⟨w.heap.size, 0, none⟩)), (fun v _ => v = .int .i64 vk), (fun v _ => v = .bool true), (fun v _ => v = .bool true), (fun _ _ => True), (fun _ _ => True), (fun _ _ => True), (fun _ _ => True), (fun _ _ => True), (fun _ _ => True), (fun _ _ => True), (fun v _ => v = .bool true)] (fun i => ([4, 5, 6, 7, 8, 9, 10] : List Nat).contains i) 19 (by kernel_rfl) (by kernel_rfl) rfl rfl (by decide) (by decide) (by simp) ⟨kv, kv, kv, kv, fun _ _ _ h _ => h, fun _ _ _ h _ => h, fun _ _ _ h _ => h, fun _ _ _ h _ => h, fun _ _ _ h _ => h, fun _ _ _ h _ => h, fun _ _ _ h _ => h, kv, trivial⟩ ⟨rfl, rfl, rfl, rfl, ⟨rfl, ⟨_, rfl⟩, fun _ _ h => h⟩, ⟨rfl, ⟨_, rfl⟩, fun _ _ h => h⟩, ⟨rfl, ⟨_, rfl⟩, fun _ _ h => h⟩, ⟨rfl, ⟨_, rfl⟩, fun _ _ h => h⟩, ⟨rfl, ⟨_, rfl⟩, fun _ _ h => h⟩, ⟨rfl, ⟨_, rfl⟩, fun _ _ h => h⟩, ⟨rfl, ⟨_, rfl⟩, fun _ _ h => h⟩, rfl, trivial⟩ ?_ ?_
  ·refine ⟨?_, ?_, ?_, ?_, ?_, ?_, ?_, ?_, ?_, ?_, ?_, ?_, trivial⟩
   ·intro _ a' w' hb' hs hd Kc hK
    have f3 : a'.tmps[3]?.getD undef = .pointer (some ⟨w.heap.size, 0, none⟩) := (hs 3 (by decide)).trans rfl
    clear hs hd
    unfold Oper.wp
    go_simp
    try go_bits
    exact hK _ _ zr rfl
   ·intro _ a' w' hb' hs hd Kc hK
    have f7 : a'.tmps[7]?.getD undef = .pointer (some ⟨w.heap.size, 0, none⟩) := hd 0 7 zt rfl rfl
    clear hs hd
    have u0' := zcl hb' hlV u0
    unfold Oper.wp
    go_simp
    try go_bits
    exact hK _ _ zr rfl
   ·intro _ a' w' hb' hs hd Kc hK
    have f8 : a'.tmps[8]?.getD undef = .int .i64 vk := hd 1 8 zt rfl rfl
    clear hs hd
    unfold Oper.wp
    go_simp
    try go_bits
    exact hK _ _ zr zl
   ·intro _ a' w' hb' hs hd Kc hK
    have f9 : a'.tmps[9]?.getD undef = .bool true := hd 2 9 zt rfl rfl
    clear hs hd
    unfold Oper.wp
    go_simp
    try go_bits
    exact hK _ _ zr rfl
   ·exact fun h => absurd h (by decide)
   ·exact fun h => absurd h (by decide)
   ·exact fun h => absurd h (by decide)
   ·exact fun h => absurd h (by decide)
   ·exact fun h => absurd h (by decide)
   ·exact fun h => absurd h (by decide)
   ·exact fun h => absurd h (by decide)
   ·intro _ a' w' hb' hs hd Kc hK
    have f10 : a'.tmps[10]?.getD undef = .bool true := hd 3 10 zt rfl rfl
    clear hs hd
    unfold Oper.wp
    go_simp
    try go_bits
    exact hK _ _ zr zl
  intro Xf w' hb hv
  have q18 : Xf 18 = .bool true := hv 11 18 rfl rfl
  clear hv
  simp only [List.map_cons, List.map_nil, q18, puts, Act.put, Nat.reduceAdd, List.setIfInBounds_toArray, List.set_cons_succ, List.set_cons_zero]
  go_wp2
  go_returns
  exact ⟨rfl, bjoin hb hb0⟩
 ·skip
  refine zbg [some 7, some 8, some 9, some 10, some 11, some 12, some 13, some 14, some 15, some 16, some 17, some 18] [7, 8, 9, 10, 11, 12, 13, 14, 15, 16, 17, 18] [(fun v _ => v = .pointer (some ⟨w.heap.size, 0, none⟩)), (fun v _ => v = .int .i64 vk), (fun v _ => v = .bool false), (fun v _ => v = .bool false), (fun v _ => v = .pointer (some ⟨B, 0, none⟩)), (fun v _ => v = .pointer (some ⟨B, 0, none⟩)), (fun v _ => v = .pointer (some ⟨B, 0, none⟩)), (fun v _ => v = .agg #[.slice p n c, .slice q m d, .bool b]), (fun v _ => v = .pointer (some ⟨w.heap.size, 1, none⟩)), (fun v _ => v = .int .i64 vn), (fun v _ => v = .bool true), (fun v _ => v = .bool true)] (fun _ => false) 19 (by kernel_rfl) (by kernel_rfl) rfl rfl (by decide) (by decide) (by simp) ⟨kv, kv, kv, kv, kv, kv, kv, kv, kv, kv, kv, kv, trivial⟩ ⟨rfl, rfl, rfl, rfl, ⟨rfl, ⟨_, rfl⟩, fun _ _ h => h⟩, ⟨rfl, ⟨_, rfl⟩, fun _ _ h => h⟩, ⟨rfl, ⟨_, rfl⟩, fun _ _ h => h⟩, ⟨rfl, ⟨_, rfl⟩, fun _ _ h => h⟩, ⟨rfl, ⟨_, rfl⟩, fun _ _ h => h⟩, ⟨rfl, ⟨_, rfl⟩, fun _ _ h => h⟩, ⟨rfl, ⟨_, rfl⟩, fun _ _ h => h⟩, rfl, trivial⟩ ?_ ?_
  ·refine ⟨?_, ?_, ?_, ?_, ?_, ?_, ?_, ?_, ?_, ?_, ?_, ?_, trivial⟩
   ·intro _ a' w' hb' hs hd Kc hK
    have f3 : a'.tmps[3]?.getD undef = .pointer (some ⟨w.heap.size, 0, none⟩) := (hs 3 (by decide)).trans rfl
    clear hs hd
    unfold Oper.wp
    go_simp
    try go_bits
    exact hK _ _ zr rfl
   ·intro _ a' w' hb' hs hd Kc hK
    have f7 : a'.tmps[7]?.getD undef = .pointer (some ⟨w.heap.size, 0, none⟩) := hd 0 7 zt rfl rfl
    clear hs hd
    have u0' := zcl hb' hlV u0
    have u1' := zcl hb' hlV u1
    have x0' := zcl hb' hlB x0
    have x1' := zcl hb' hlB x1
    have x2' := zcl hb' hlB x2
    unfold Oper.wp
    go_simp
    try go_bits
    exact hK _ _ zr rfl
   ·intro _ a' w' hb' hs hd Kc hK
    have f8 : a'.tmps[8]?.getD undef = .int .i64 vk := hd 1 8 zt rfl rfl
    clear hs hd
    unfold Oper.wp
    go_simp
    try go_bits
    exact hK _ _ zr zl
   ·intro _ a' w' hb' hs hd Kc hK
    have f9 : a'.tmps[9]?.getD undef = .bool false := hd 2 9 zt rfl rfl
    clear hs hd
    unfold Oper.wp
    go_simp
    try go_bits
    exact hK _ _ zr rfl
   ·intro _ a' w' hb' hs hd Kc hK
    have f0 : a'.tmps[0]?.getD undef = .pointer (some ⟨B, 0, none⟩) := (hs 0 (by decide)).trans rfl
    clear hs hd
    unfold Oper.wp
    go_simp
    try go_bits
    exact hK _ _ zr rfl
   ·intro _ a' w' hb' hs hd Kc hK
    have f11 : a'.tmps[11]?.getD undef = .pointer (some ⟨B, 0, none⟩) := hd 4 11 zt rfl rfl
    clear hs hd
    have u0' := zcl hb' hlV u0
    have u1' := zcl hb' hlV u1
    have x0' := zcl hb' hlB x0
    have x1' := zcl hb' hlB x1
    have x2' := zcl hb' hlB x2
    unfold Oper.wp
    go_simp
    try go_bits
    exact hK _ _ zr zl
   ·intro _ a' w' hb' hs hd Kc hK
    have f12 : a'.tmps[12]?.getD undef = .pointer (some ⟨B, 0, none⟩) := hd 5 12 zt rfl rfl
    clear hs hd
    unfold Oper.wp
    go_simp
    try go_bits
    exact hK _ _ zr rfl
   ·intro _ a' w' hb' hs hd Kc hK
    have f13 : a'.tmps[13]?.getD undef = .pointer (some ⟨B, 0, none⟩) := hd 6 13 zt rfl rfl
    clear hs hd
    have u0' := zcl hb' hlV u0
    have u1' := zcl hb' hlV u1
    have x0' := zcl hb' hlB x0
    have x1' := zcl hb' hlB x1
    have x2' := zcl hb' hlB x2
    unfold Oper.wp
    go_simp
    try go_bits
    exact hK _ _ zr rfl
   ·intro _ a' w' hb' hs hd Kc hK
    have f3 : a'.tmps[3]?.getD undef = .pointer (some ⟨w.heap.size, 0, none⟩) := (hs 3 (by decide)).trans rfl
    clear hs hd
    unfold Oper.wp
    go_simp
    try go_bits
    exact hK _ _ zr rfl
   ·intro _ a' w' hb' hs hd Kc hK
    have f15 : a'.tmps[15]?.getD undef = .pointer (some ⟨w.heap.size, 1, none⟩) := hd 8 15 zt rfl rfl
    clear hs hd
    have u0' := zcl hb' hlV u0
    have u1' := zcl hb' hlV u1
    have x0' := zcl hb' hlB x0
    have x1' := zcl hb' hlB x1
    have x2' := zcl hb' hlB x2
    unfold Oper.wp
    go_simp
    try go_bits
    exact hK _ _ zr rfl
   ·intro _ a' w' hb' hs hd Kc hK
    have f14 : a'.tmps[14]?.getD undef = .agg #[.slice p n c, .slice q m d, .bool b] := hd 7 14 zt rfl rfl
    have f16 : a'.tmps[16]?.getD undef = .int .i64 vn := hd 9 16 zt rfl rfl
    clear hs hd
    have u0' := zcl hb' hlV u0
    have u1' := zcl hb' hlV u1
    have x0' := zcl hb' hlB x0
    have x1' := zcl hb' hlB x1
    have x2' := zcl hb' hlB x2
    unfold Oper.wp
    go_simp
    try go_bits
    refine zm (hBl w' hb') ?_
    rintro e w'' ⟨rfl, hb2⟩
    exact hK _ _ hb2 rfl
   ·intro _ a' w' hb' hs hd Kc hK
    have f10 : a'.tmps[10]?.getD undef = .bool false := hd 3 10 zt rfl rfl
    have f17 : a'.tmps[17]?.getD undef = .bool true := hd 10 17 zt rfl rfl
    clear hs hd
    unfold Oper.wp
    go_simp
    try go_bits
    exact hK _ _ zr zl
  intro Xf w' hb hv
  have q18 : Xf 18 = .bool true := hv 11 18 rfl rfl
  clear hv
  simp only [List.map_cons, List.map_nil, q18, puts, Act.put, Nat.reduceAdd, List.setIfInBounds_toArray, List.set_cons_succ, List.set_cons_zero]
  go_wp2
  go_returns
  exact ⟨rfl, bjoin hb hb0⟩
 ·skip
  refine zbg [some 7, some 8, some 9, some 10, some 11, some 12, some 13, some 14, some 15, some 16, some 17, some 18] [7, 8, 9, 10, 11, 12, 13, 14, 15, 16, 17, 18] [(fun v _ => v = .pointer (some ⟨w.heap.size, 0, none⟩)), (fun v _ => v = .int .i64 vk), (fun v _ => v = .bool false), (fun v _ => v = .bool false), (fun v _ => v = .pointer (some ⟨B, 0, none⟩)), (fun v _ => v = .pointer (some ⟨B, 0, none⟩)), (fun v _ => v = .pointer (some ⟨B, 0, none⟩)), (fun v _ => v = .agg #[.slice p n c, .slice q m d, .bool b]), (fun v _ => v = .pointer (some ⟨w.heap.size, 1, none⟩)), (fun v _ => v = .int .i64 vn), (fun v _ => v = .bool false), (fun v _ => v = .bool false)] (fun _ => false) 19 (by kernel_rfl) (by kernel_rfl) rfl rfl (by decide) (by decide) (by simp) ⟨kv, kv, kv, kv, kv, kv, kv, kv, kv, kv, kv, kv, trivial⟩ ⟨rfl, rfl, rfl, rfl, ⟨rfl, ⟨_, rfl⟩, fun _ _ h => h⟩, ⟨rfl, ⟨_, rfl⟩, fun _ _ h => h⟩, ⟨rfl, ⟨_, rfl⟩, fun _ _ h => h⟩, ⟨rfl, ⟨_, rfl⟩, fun _ _ h => h⟩, ⟨rfl, ⟨_, rfl⟩, fun _ _ h => h⟩, ⟨rfl, ⟨_, rfl⟩, fun _ _ h => h⟩, ⟨rfl, ⟨_, rfl⟩, fun _ _ h => h⟩, rfl, trivial⟩ ?_ ?_
  ·refine ⟨?_, ?_, ?_, ?_, ?_, ?_, ?_, ?_, ?_, ?_, ?_, ?_, trivial⟩
   ·intro _ a' w' hb' hs hd Kc hK
    have f3 : a'.tmps[3]?.getD undef = .pointer (some ⟨w.heap.size, 0, none⟩) := (hs 3 (by decide)).trans rfl
    clear hs hd
    unfold Oper.wp
    go_simp
    try go_bits
    exact hK _ _ zr rfl
   ·intro _ a' w' hb' hs hd Kc hK
    have f7 : a'.tmps[7]?.getD undef = .pointer (some ⟨w.heap.size, 0, none⟩) := hd 0 7 zt rfl rfl
    clear hs hd
    have u0' := zcl hb' hlV u0
    have u1' := zcl hb' hlV u1
    have x0' := zcl hb' hlB x0
    have x1' := zcl hb' hlB x1
    have x2' := zcl hb' hlB x2
    unfold Oper.wp
    go_simp
    try go_bits
    exact hK _ _ zr rfl
   ·intro _ a' w' hb' hs hd Kc hK
    have f8 : a'.tmps[8]?.getD undef = .int .i64 vk := hd 1 8 zt rfl rfl
    clear hs hd
    unfold Oper.wp
    go_simp
    try go_bits
    exact hK _ _ zr zl
   ·intro _ a' w' hb' hs hd Kc hK
    have f9 : a'.tmps[9]?.getD undef = .bool false := hd 2 9 zt rfl rfl
    clear hs hd
    unfold Oper.wp
    go_simp
    try go_bits
    exact hK _ _ zr rfl
   ·intro _ a' w' hb' hs hd Kc hK
    have f0 : a'.tmps[0]?.getD undef = .pointer (some ⟨B, 0, none⟩) := (hs 0 (by decide)).trans rfl
    clear hs hd
    unfold Oper.wp
    go_simp
    try go_bits
    exact hK _ _ zr rfl
   ·intro _ a' w' hb' hs hd Kc hK
    have f11 : a'.tmps[11]?.getD undef = .pointer (some ⟨B, 0, none⟩) := hd 4 11 zt rfl rfl
    clear hs hd
    have u0' := zcl hb' hlV u0
    have u1' := zcl hb' hlV u1
    have x0' := zcl hb' hlB x0
    have x1' := zcl hb' hlB x1
    have x2' := zcl hb' hlB x2
    unfold Oper.wp
    go_simp
    try go_bits
    exact hK _ _ zr zl
   ·intro _ a' w' hb' hs hd Kc hK
    have f12 : a'.tmps[12]?.getD undef = .pointer (some ⟨B, 0, none⟩) := hd 5 12 zt rfl rfl
    clear hs hd
    unfold Oper.wp
    go_simp
    try go_bits
    exact hK _ _ zr rfl
   ·intro _ a' w' hb' hs hd Kc hK
    have f13 : a'.tmps[13]?.getD undef = .pointer (some ⟨B, 0, none⟩) := hd 6 13 zt rfl rfl
    clear hs hd
    have u0' := zcl hb' hlV u0
    have u1' := zcl hb' hlV u1
    have x0' := zcl hb' hlB x0
    have x1' := zcl hb' hlB x1
    have x2' := zcl hb' hlB x2
    unfold Oper.wp
    go_simp
    try go_bits
    exact hK _ _ zr rfl
   ·intro _ a' w' hb' hs hd Kc hK
    have f3 : a'.tmps[3]?.getD undef = .pointer (some ⟨w.heap.size, 0, none⟩) := (hs 3 (by decide)).trans rfl
    clear hs hd
    unfold Oper.wp
    go_simp
    try go_bits
    exact hK _ _ zr rfl
   ·intro _ a' w' hb' hs hd Kc hK
    have f15 : a'.tmps[15]?.getD undef = .pointer (some ⟨w.heap.size, 1, none⟩) := hd 8 15 zt rfl rfl
    clear hs hd
    have u0' := zcl hb' hlV u0
    have u1' := zcl hb' hlV u1
    have x0' := zcl hb' hlB x0
    have x1' := zcl hb' hlB x1
    have x2' := zcl hb' hlB x2
    unfold Oper.wp
    go_simp
    try go_bits
    exact hK _ _ zr rfl
   ·intro _ a' w' hb' hs hd Kc hK
    have f14 : a'.tmps[14]?.getD undef = .agg #[.slice p n c, .slice q m d, .bool b] := hd 7 14 zt rfl rfl
    have f16 : a'.tmps[16]?.getD undef = .int .i64 vn := hd 9 16 zt rfl rfl
    clear hs hd
    have u0' := zcl hb' hlV u0
    have u1' := zcl hb' hlV u1
    have x0' := zcl hb' hlB x0
    have x1' := zcl hb' hlB x1
    have x2' := zcl hb' hlB x2
    unfold Oper.wp
    go_simp
    try go_bits
    refine zm (hBl w' hb') ?_
    rintro e w'' ⟨rfl, hb2⟩
    exact hK _ _ hb2 rfl
   ·intro _ a' w' hb' hs hd Kc hK
    have f10 : a'.tmps[10]?.getD undef = .bool false := hd 3 10 zt rfl rfl
    have f17 : a'.tmps[17]?.getD undef = .bool false := hd 10 17 zt rfl rfl
    clear hs hd
    unfold Oper.wp
    go_simp
    try go_bits
    exact hK _ _ zr zl
  intro Xf w' hb hv
  have q18 : Xf 18 = .bool false := hv 11 18 rfl rfl
  clear hv
  simp only [List.map_cons, List.map_nil, q18, puts, Act.put, Nat.reduceAdd, List.setIfInBounds_toArray, List.set_cons_succ, List.set_cons_zero]
  replace hPa := fun W hW => hPa W (hb.trans (Below.mono hW hb.size))
  have hbw := bjoin hb hb0
  replace u1 := zcl hb hlV u1
  replace x0 := zcl hb hlB x0
  replace x1 := zcl hb hlB x1
  replace x2 := zcl hb hlB x2
  replace hlB := Nat.lt_of_lt_of_le hlB hb.size
  replace hlV := Nat.lt_of_lt_of_le hlV hb.size
  clear hb u0 g0' g1 hBl
  generalize w' = w1 at *
  go_upto_region 2 with fail
  refine zdx (ds := [some 20, some 21, some 22, some 23, some 24, some 25, some 26, some 19, some 27, some 28, some 4, none, some 5]) (ts := [20, 21, 22, 23, 24, 25, 26, 19, 27, 28, 4, 5]) (pv := [(fun v _ => v = .pointer (some ⟨B, 0, none⟩)), (fun v _ => v = .pointer (some ⟨B, 0, none⟩)), (fun v _ => v = .pointer (some ⟨B, 0, none⟩)), (fun v _ => v = .agg #[.slice p n c, .slice q m d, .bool b]), (fun v _ => v = .pointer (some ⟨w.heap.size, 1, none⟩)), (fun v _ => v = .int .i64 vn), HpT (n) (m) (b) (paH sh vn) (.bool false), HpT (n) (m) (b) (paH sh vn) (.bool false), HpV (n) (m) (b) (paH sh vn), (fun v _ => v = .bool false), (fun _ _ => True), (fun _ _ => True), (fun v _ => v = .bool false)]) (skip := fun i => ([] : List Nat).contains i) (ia := 10) (is := 11) (k := 29) (Shape := ShapeH) (Full := (FullH (n) (m) (b) (paH sh vn))) (by kernel_rfl) (by kernel_rfl) rfl rfl (by decide) (by decide) (by simp) ?_ (by decide) zf1 zg3 ?_ ?_ ?_ ?_
  ·exact .inr ⟨⟨_, rfl⟩, rfl, _, rfl, zt, by decide, rfl⟩
  ·exact ⟨fun _ _ _ h _ => h, fun _ _ _ h _ => h, fun _ _ _ h _ => h, fun _ _ _ h _ => h, fun _ _ _ h _ => h, fun _ _ _ h _ => h, fun _ _ _ h hb => h.below hb, fun _ _ _ h hb => h.below hb, fun _ _ _ h hb => h.below hb, fun _ _ _ h _ => h, fun _ _ _ h _ => h, fun _ _ _ h _ => h, fun _ _ _ h _ => h, trivial⟩
  ·exact ⟨rfl, rfl, rfl, rfl, rfl, rfl, rfl, rfl, rfl, rfl, rfl, rfl, rfl, trivial⟩
  ·refine ⟨?_, ?_, ?_, ?_, ?_, ?_, ?_, ?_, ?_, ?_, ?_, ?_, ?_, trivial⟩
   ·intro _ a' w' hb' hs hd hn Kc hK
    have f0 : a'.tmps[0]?.getD undef = .pointer (some ⟨B, 0, none⟩) := (hs 0 (by decide)).trans rfl
    clear hs hd hn
    rw [if_neg (by decide), if_neg (by decide)] at hK
    unfold Oper.wp
    go_simp
    try go_bits
    exact hK _ _ zr rfl
   ·intro _ a' w' hb' hs hd hn Kc hK
    have f20 : a'.tmps[20]?.getD undef = .pointer (some ⟨B, 0, none⟩) := hd 0 20 zt rfl (by decide) (by decide) rfl
    clear hs hd hn
    rw [if_neg (by decide), if_neg (by decide)] at hK
    have u1' := zcl hb' hlV u1
    have x0' := zcl hb' hlB x0
    have x1' := zcl hb' hlB x1
    have x2' := zcl hb' hlB x2
    unfold Oper.wp
    go_simp
    try go_bits
    exact hK _ _ zr zl
   ·intro _ a' w' hb' hs hd hn Kc hK
    have f21 : a'.tmps[21]?.getD undef = .pointer (some ⟨B, 0, none⟩) := hd 1 21 zt rfl (by decide) (by decide) rfl
    clear hs hd hn
    rw [if_neg (by decide), if_neg (by decide)] at hK
    unfold Oper.wp
    go_simp
    try go_bits
    exact hK _ _ zr rfl
   ·intro _ a' w' hb' hs hd hn Kc hK
    have f22 : a'.tmps[22]?.getD undef = .pointer (some ⟨B, 0, none⟩) := hd 2 22 zt rfl (by decide) (by decide) rfl
    clear hs hd hn
    rw [if_neg (by decide), if_neg (by decide)] at hK
    have u1' := zcl hb' hlV u1
    have x0' := zcl hb' hlB x0
    have x1' := zcl hb' hlB x1
    have x2' := zcl hb' hlB x2
    unfold Oper.wp
    go_simp
    try go_bits
    exact hK _ _ zr rfl
   ·intro _ a' w' hb' hs hd hn Kc hK
    have f3 : a'.tmps[3]?.getD undef = .pointer (some ⟨w.heap.size, 0, none⟩) := (hs 3 (by decide)).trans rfl
    clear hs hd hn
    rw [if_neg (by decide), if_neg (by decide)] at hK
    unfold Oper.wp
    go_simp
    try go_bits
    exact hK _ _ zr rfl
   ·intro _ a' w' hb' hs hd hn Kc hK
    have f24 : a'.tmps[24]?.getD undef = .pointer (some ⟨w.heap.size, 1, none⟩) := hd 4 24 zt rfl (by decide) (by decide) rfl
    clear hs hd hn
    rw [if_neg (by decide), if_neg (by decide)] at hK
    have u1' := zcl hb' hlV u1
    have x0' := zcl hb' hlB x0
    have x1' := zcl hb' hlB x1
    have x2' := zcl hb' hlB x2
    unfold Oper.wp
    go_simp
    try go_bits
    exact hK _ _ zr rfl
   ·intro _ a' w' hb' hs hd hn Kc hK
    have f23 : a'.tmps[23]?.getD undef = .agg #[.slice p n c, .slice q m d, .bool b] := hd 3 23 zt rfl (by decide) (by decide) rfl
    have f25 : a'.tmps[25]?.getD undef = .int .i64 vn := hd 5 25 zt rfl (by decide) (by decide) rfl
    clear hs hd hn
    rw [if_neg (by decide), if_neg (by decide)] at hK
    have u1' := zcl hb' hlV u1
    have x0' := zcl hb' hlB x0
    have x1' := zcl hb' hlB x1
    have x2' := zcl hb' hlB x2
    unfold Oper.wp
    go_simp
    try go_bits
    refine zm (hPa w' hb') ?_
    rintro e w'' ⟨p', c', q', d', rfl, hA, -, hb2⟩
    exact hK _ _ hb2 ⟨_, _, _, _, rfl, hA⟩
   ·intro _ a' w' hb' hs hd hn Kc hK
    obtain ⟨p', c', q', d', f26, hA⟩ := hd 6 26 zt rfl (by decide) (by decide) rfl
    clear hs hd hn
    rw [if_neg (by decide), if_neg (by decide)] at hK
    unfold Oper.wp
    go_simp
    try go_bits
    exact hK _ _ zr ⟨_, _, _, _, rfl, hA⟩
   ·intro _ a' w' hb' hs hd hn Kc hK
    obtain ⟨p', c', q', d', f19, hA⟩ := hd 7 19 zt rfl (by decide) (by decide) rfl
    clear hs hd hn
    rw [if_neg (by decide), if_neg (by decide)] at hK
    unfold Oper.wp
    go_simp
    try go_bits
    exact hK _ _ zr ⟨_, _, _, _, rfl, hA⟩
   ·intro _ a' w' hb' hs hd hn Kc hK
    obtain ⟨p', c', q', d', f19, hA⟩ := hd 7 19 zt rfl (by decide) (by decide) rfl
    clear hs hd hn
    rw [if_neg (by decide), if_neg (by decide)] at hK
    unfold Oper.wp
    go_simp
    try go_bits
    exact hK _ _ zr rfl
   ·intro _ a' w' hb' hs hd hn Kc hK
    clear hs hd hn
    rw [if_pos rfl] at hK
    unfold Oper.wp
    go_simp
    exact hK _ _ (zr.alloc (Nat.le_refl _) _) (Nat.le_refl _) (zh0 _ _)
   ·intro _ a' w' hb' hs hd hn Kc hK
    obtain ⟨g, f4, hg, hsh⟩ := hn 4 zt rfl rfl
    obtain ⟨p', c', q', d', f27, hA⟩ := hd 8 27 zt rfl (by decide) (by decide) rfl
    obtain ⟨⟨_, _, _, _, _, _, _, h3⟩, hk3⟩ := id hsh
    rw [if_neg (by decide), if_pos rfl] at hK
    have hfin := hK g (.tuple #[]) (puts3 g (.slice p' (n) c') (.slice q' (m) d') (.bool (b)) w') (fun d hd => by obtain rfl : 4 = d := Option.some.inj (Option.some.inj hd); exact f4) (zhd hg _ _ _ w') hg ⟨p', c', q', d', h3.puts (.slice p' (n) c') (.slice q' (m) d') (.bool (b)), hA.stores (zcs hsh hA (hn0) (hmm)) _ _ _⟩ (zgu h3 hk3 _ _ _ _ _ _ _) ⟨fun _ h => h, fun _ h => h, fun _ h => h, fun _ h => h, fun _ h => h, fun _ h => h, fun _ h => h.puts hsh (hn0) (hmm) _ _ _, fun _ h => h.puts hsh (hn0) (hmm) _ _ _, fun _ h => h.puts hsh (hn0) (hmm) _ _ _, fun _ h => h, fun _ h => h, fun _ h => h, fun _ h => h, trivial⟩
    clear hs hd hn hK
    obtain ⟨h0, c0, c1, c2, g0, g1, g2⟩ := h3
    unfold puts3 at hfin
    unfold Oper.wp
    go_simp
    exact hfin
   ·intro _ a' w' hb' hs hd hn Kc hK
    have f28 : a'.tmps[28]?.getD undef = .bool false := hd 9 28 zt rfl (by decide) (by decide) rfl
    clear hs hd hn
    rw [if_neg (by decide), if_neg (by decide)] at hK
    unfold Oper.wp
    go_simp
    try go_bits
    exact hK _ _ zr rfl
  intro Xf g w' hX hb hv
  obtain ⟨hg, gX, hgp⟩ := hX (by decide)
  have q4 : Xf 4 = .pointer (some ⟨g, 0, none⟩) := hgp 4 rfl
  have q5 : Xf 5 = .bool false := hv 12 5 rfl rfl (by decide) (by decide)
  clear hX hv hgp
  simp only [List.map_cons, List.map_nil, q4, q5, puts, Act.put, Nat.reduceAdd, List.setIfInBounds_toArray, List.set_cons_succ, List.set_cons_zero]
  go_wp2
  go_returns
  exact ⟨rfl, bjoin hb hbw⟩
theorem zpf (N : Nat) (r : Int) (B n m : Nat) (b : Bool) (s : Sd) (v : Vl) (w : World) (hS : Sz w) (hN : N ≤ B) (h : SgV N r B n m b s w) (hF : formB s.h = true) (hr : r ≤ 1000000) (hk : s.n ≤ 1000000) (hv : v.wf) (e : shB s.h v = true) :
  Calls Tryz.prog 204 #[.pointer (some ⟨B, 0, none⟩), v.agg] w fun e w' => e = .returned (.tuple #[]) ∧ SgV N r B n m b ⟨paH s.h v.n, gpN r s.n v.n, gpZ r s.n s.z v.n, s.o || !gpB r s.n v.n⟩ w' ∧ Aside (fun k => k = B) w w' := by
 obtain ⟨sh, sn, sz, so⟩ := s
 obtain ⟨vk, vn⟩ := v
 obtain ⟨p, c, q, d, pr, cr, g0, hh, hg, hR⟩ := h
 dsimp only at hF g0 hh hg hR hk ⊢
 have hwv := hv.2
 obtain ⟨w0, hw0⟩ : ∃ w0, w0 = w.alloc (.cells #[.int .i64 vk, .int .i64 vn] 70) := ⟨_, rfl⟩
 have hb0 : Below w.heap.size w w0 := by rw [hw0]; exact zr.alloc (Nat.le_refl _) _
 have g1 : TBox 70 w.heap.size #[.int .i64 vk, .int .i64 vn] w0 := by rw [hw0]; exact TBox.new _ _ _
 have hlBw := g0.lt
 have hS0 := hS.below hb0
 have hh0 := hh.below hb0
 have hg0 := hg.below hb0
 have hR0 := hR.below hb0
 obtain ⟨hn32, hm0, -⟩ := zcf hF
 have hn32' : 32 ≤ n := by have := hh.n_eq; omega
 have hn0 : 0 < n := by omega
 have hmm : 0 < m := by have := hh.m_eq; omega
 have hF' : Hid (formB sh = true) := hF
 replace g0 := g0.below hb0
 have hcase : (vk != 2) = false ∧ blB sh vn = false ∧ obB sh vn = true := by
  have e' : (decide (vk = 2) && (obB sh vn && !blB sh vn)) = true := e
  simp only [Bool.and_eq_true, decide_eq_true_eq, Bool.not_eq_true'] at e'
  obtain ⟨e1, e2, e3⟩ := e'
  exact ⟨by simp [e1], e3, e2⟩
 obtain ⟨hkk, hbk, hob⟩ := hcase
 have hlB := g0.lt
 have hlV := g1.lt
 obtain ⟨-, x0, x1, x2, -, -, -⟩ := zdg g0
 have u0 := g1.cell 0
 have u1 := g1.cell 1
 simp only [List.getElem?_toArray, List.getElem?_cons_zero, List.getElem?_cons_succ] at u0 u1
 have hBl := fun W (hW : Below w0.heap.size w0 W) => zdo (a := vn) (hS0.below hW) (hh0.below hW) hF
 have hPa := fun W (hW : Below w0.heap.size w0 W) => zk8 (a := vn) (hS0.below hW) (hh0.below hW) hF
 have hPu := fun W p c (h1 : GrAt W p c sn sz) (h2 : RowE N 3 sn p W) => zo7 N r vn p sn c sz W h1 h2 hr hwv
 have hNK : gpB r sn vn = false → gpN r sn vn = sn := fun e => by unfold gpN; rw [if_neg (by simp [e])]
 have hwz := fun (e : gpB r sn vn = false) (i : Nat) (hi : i < gpN r sn vn) => show (Lit.int .i64 (gpZ r sn sz vn i)).wf = true by
  rw [hNK e] at hi
  unfold gpZ; rw [if_neg (by simp [e])]
  exact hg.ints.wf i hi
 rw [hbk] at hBl
 rw [hob] at hPa
 generalize gpN r sn vn = K at *
 generalize gpZ r sn sz vn = Z at *
 generalize gpB r sn vn = G at *
 have hform := zxj hF vn
 generalize paH sh vn = H at *
 clear e hF hh hg hR hS hS0 hbk hob
 unfold Vl.agg
 dsimp only
 go_enter Tryz.func204, Tryz.ntmps204
 go_upto_region 1 with fail
 rw [← hw0]
 clear hw0
 refine zbg [some 7, some 8, some 9, some 10, some 11, some 12, some 13, some 14, some 15, some 16, some 17, some 18] [7, 8, 9, 10, 11, 12, 13, 14, 15, 16, 17, 18] [(fun v _ => v = .pointer (some ⟨w.heap.size, 0, none⟩)), (fun v _ => v = .int .i64 vk), (fun v _ => v = .bool false), (fun v _ => v = .bool false), (fun v _ => v = .pointer (some ⟨B, 0, none⟩)), (fun v _ => v = .pointer (some ⟨B, 0, none⟩)), (fun v _ => v = .pointer (some ⟨B, 0, none⟩)), (fun v _ => v = .agg #[.slice p n c, .slice q m d, .bool b]), (fun v _ => v = .pointer (some ⟨w.heap.size, 1, none⟩)), (fun v _ => v = .int .i64 vn), (fun v _ => v = .bool false), (fun v _ => v = .bool false)] (fun _ => false) 19 (by kernel_rfl) (by kernel_rfl) rfl rfl (by decide) (by decide) (by simp) ⟨kv, kv, kv, kv, kv, kv, kv, kv, kv, kv, kv, kv, trivial⟩ ⟨rfl, rfl, rfl, rfl, ⟨rfl, ⟨_, rfl⟩, fun _ _ h => h⟩, ⟨rfl, ⟨_, rfl⟩, fun _ _ h => h⟩, ⟨rfl, ⟨_, rfl⟩, fun _ _ h => h⟩, ⟨rfl, ⟨_, rfl⟩, fun _ _ h => h⟩, ⟨rfl, ⟨_, rfl⟩, fun _ _ h => h⟩, ⟨rfl, ⟨_, rfl⟩, fun _ _ h => h⟩, ⟨rfl, ⟨_, rfl⟩, fun _ _ h => h⟩, rfl, trivial⟩ ?_ ?_
 ·refine ⟨?_, ?_, ?_, ?_, ?_, ?_, ?_, ?_, ?_, ?_, ?_, ?_, trivial⟩
  ·intro _ a' w' hb' hs hd Kc hK
   have f3 : a'.tmps[3]?.getD undef = .pointer (some ⟨w.heap.size, 0, none⟩) := (hs 3 (by decide)).trans rfl
   clear hs hd
   unfold Oper.wp
   go_simp
   try go_bits
   exact hK _ _ zr rfl
  ·intro _ a' w' hb' hs hd Kc hK
   have f7 : a'.tmps[7]?.getD undef = .pointer (some ⟨w.heap.size, 0, none⟩) := hd 0 7 zt rfl rfl
   clear hs hd
   have u0' := zcl hb' hlV u0
   have u1' := zcl hb' hlV u1
   have x0' := zcl hb' hlB x0
   have x1' := zcl hb' hlB x1
   have x2' := zcl hb' hlB x2
   unfold Oper.wp
   go_simp
   try go_bits
   exact hK _ _ zr rfl
  ·intro _ a' w' hb' hs hd Kc hK
   have f8 : a'.tmps[8]?.getD undef = .int .i64 vk := hd 1 8 zt rfl rfl
   clear hs hd
   unfold Oper.wp
   go_simp
   try go_bits
   exact hK _ _ zr zl
  ·intro _ a' w' hb' hs hd Kc hK
   have f9 : a'.tmps[9]?.getD undef = .bool false := hd 2 9 zt rfl rfl
   clear hs hd
   unfold Oper.wp
   go_simp
   try go_bits
   exact hK _ _ zr rfl
  ·intro _ a' w' hb' hs hd Kc hK
   have f0 : a'.tmps[0]?.getD undef = .pointer (some ⟨B, 0, none⟩) := (hs 0 (by decide)).trans rfl
   clear hs hd
   unfold Oper.wp
   go_simp
   try go_bits
   exact hK _ _ zr rfl
  ·intro _ a' w' hb' hs hd Kc hK
   have f11 : a'.tmps[11]?.getD undef = .pointer (some ⟨B, 0, none⟩) := hd 4 11 zt rfl rfl
   clear hs hd
   have u0' := zcl hb' hlV u0
   have u1' := zcl hb' hlV u1
   have x0' := zcl hb' hlB x0
   have x1' := zcl hb' hlB x1
   have x2' := zcl hb' hlB x2
   unfold Oper.wp
   go_simp
   try go_bits
   exact hK _ _ zr zl
  ·intro _ a' w' hb' hs hd Kc hK
   have f12 : a'.tmps[12]?.getD undef = .pointer (some ⟨B, 0, none⟩) := hd 5 12 zt rfl rfl
   clear hs hd
   unfold Oper.wp
   go_simp
   try go_bits
   exact hK _ _ zr rfl
  ·intro _ a' w' hb' hs hd Kc hK
   have f13 : a'.tmps[13]?.getD undef = .pointer (some ⟨B, 0, none⟩) := hd 6 13 zt rfl rfl
   clear hs hd
   have u0' := zcl hb' hlV u0
   have u1' := zcl hb' hlV u1
   have x0' := zcl hb' hlB x0
   have x1' := zcl hb' hlB x1
   have x2' := zcl hb' hlB x2
   unfold Oper.wp
   go_simp
   try go_bits
   exact hK _ _ zr rfl
  ·intro _ a' w' hb' hs hd Kc hK
   have f3 : a'.tmps[3]?.getD undef = .pointer (some ⟨w.heap.size, 0, none⟩) := (hs 3 (by decide)).trans rfl
   clear hs hd
   unfold Oper.wp
   go_simp
   try go_bits
   exact hK _ _ zr rfl
  ·intro _ a' w' hb' hs hd Kc hK
   have f15 : a'.tmps[15]?.getD undef = .pointer (some ⟨w.heap.size, 1, none⟩) := hd 8 15 zt rfl rfl
   clear hs hd
   have u0' := zcl hb' hlV u0
   have u1' := zcl hb' hlV u1
   have x0' := zcl hb' hlB x0
   have x1' := zcl hb' hlB x1
   have x2' := zcl hb' hlB x2
   unfold Oper.wp
   go_simp
   try go_bits
   exact hK _ _ zr rfl
  ·intro _ a' w' hb' hs hd Kc hK
   have f14 : a'.tmps[14]?.getD undef = .agg #[.slice p n c, .slice q m d, .bool b] := hd 7 14 zt rfl rfl
   have f16 : a'.tmps[16]?.getD undef = .int .i64 vn := hd 9 16 zt rfl rfl
   clear hs hd
   have u0' := zcl hb' hlV u0
   have u1' := zcl hb' hlV u1
   have x0' := zcl hb' hlB x0
   have x1' := zcl hb' hlB x1
   have x2' := zcl hb' hlB x2
   unfold Oper.wp
   go_simp
   try go_bits
   refine zm (hBl w' hb') ?_
   rintro e w'' ⟨rfl, hb2⟩
   exact hK _ _ hb2 rfl
  ·intro _ a' w' hb' hs hd Kc hK
   have f10 : a'.tmps[10]?.getD undef = .bool false := hd 3 10 zt rfl rfl
   have f17 : a'.tmps[17]?.getD undef = .bool false := hd 10 17 zt rfl rfl
   clear hs hd
   unfold Oper.wp
   go_simp
   try go_bits
   exact hK _ _ zr zl
 intro Xf w' hb hv
 have q18 : Xf 18 = .bool false := hv 11 18 rfl rfl
 clear hv
 simp only [List.map_cons, List.map_nil, q18, puts, Act.put, Nat.reduceAdd, List.setIfInBounds_toArray, List.set_cons_succ, List.set_cons_zero]
 replace hPa := fun W hW => hPa W (hb.trans (Below.mono hW hb.size))
 have hbw := bjoin hb hb0
 replace u1 := zcl hb hlV u1
 replace x0 := zcl hb hlB x0
 replace x1 := zcl hb hlB x1
 replace x2 := zcl hb hlB x2
 replace hlB := Nat.lt_of_lt_of_le hlB hb.size
 replace hlV := Nat.lt_of_lt_of_le hlV hb.size
 replace g0 := g0.below hb
 replace g1 := g1.below hb
 replace hg0 := hg0.below hb
 replace hR0 := hR0.below hb
 clear hb u0 hBl hh0 hb0 hkk
 generalize w' = w1 at *
 go_upto_region 2 with fail
 refine zdx (ds := [some 20, some 21, some 22, some 23, some 24, some 25, some 26, some 19, some 27, some 28, some 4, none, some 5]) (ts := [20, 21, 22, 23, 24, 25, 26, 19, 27, 28, 4, 5]) (pv := [(fun v _ => v = .pointer (some ⟨B, 0, none⟩)), (fun v _ => v = .pointer (some ⟨B, 0, none⟩)), (fun v _ => v = .pointer (some ⟨B, 0, none⟩)), (fun v _ => v = .agg #[.slice p n c, .slice q m d, .bool b]), (fun v _ => v = .pointer (some ⟨w.heap.size, 1, none⟩)), (fun v _ => v = .int .i64 vn), HpT (n) (m) (b) (H) (.bool true), HpT (n) (m) (b) (H) (.bool true), HpV (n) (m) (b) (H), (fun v _ => v = .bool true), (fun _ _ => True), (fun _ _ => True), (fun v _ => v = .bool true)]) (skip := fun i => ([] : List Nat).contains i) (ia := 10) (is := 11) (k := 29) (Shape := ShapeH) (Full := (FullH (n) (m) (b) (H))) (by kernel_rfl) (by kernel_rfl) rfl rfl (by decide) (by decide) (by simp) ?_ (by decide) zf1 zg3 ?_ ?_ ?_ ?_
 ·exact .inr ⟨⟨_, rfl⟩, rfl, _, rfl, zt, by decide, rfl⟩
 ·exact ⟨fun _ _ _ h _ => h, fun _ _ _ h _ => h, fun _ _ _ h _ => h, fun _ _ _ h _ => h, fun _ _ _ h _ => h, fun _ _ _ h _ => h, fun _ _ _ h hb => h.below hb, fun _ _ _ h hb => h.below hb, fun _ _ _ h hb => h.below hb, fun _ _ _ h _ => h, fun _ _ _ h _ => h, fun _ _ _ h _ => h, fun _ _ _ h _ => h, trivial⟩
 ·exact ⟨rfl, rfl, rfl, rfl, rfl, rfl, rfl, rfl, rfl, rfl, rfl, rfl, rfl, trivial⟩
 ·refine ⟨?_, ?_, ?_, ?_, ?_, ?_, ?_, ?_, ?_, ?_, ?_, ?_, ?_, trivial⟩
  ·intro _ a' w' hb' hs hd hn Kc hK
   have f0 : a'.tmps[0]?.getD undef = .pointer (some ⟨B, 0, none⟩) := (hs 0 (by decide)).trans rfl
   clear hs hd hn
   rw [if_neg (by decide), if_neg (by decide)] at hK
   unfold Oper.wp
   go_simp
   try go_bits
   exact hK _ _ zr rfl
  ·intro _ a' w' hb' hs hd hn Kc hK
   have f20 : a'.tmps[20]?.getD undef = .pointer (some ⟨B, 0, none⟩) := hd 0 20 zt rfl (by decide) (by decide) rfl
   clear hs hd hn
   rw [if_neg (by decide), if_neg (by decide)] at hK
   have u1' := zcl hb' hlV u1
   have x0' := zcl hb' hlB x0
   have x1' := zcl hb' hlB x1
   have x2' := zcl hb' hlB x2
   unfold Oper.wp
   go_simp
   try go_bits
   exact hK _ _ zr zl
  ·intro _ a' w' hb' hs hd hn Kc hK
   have f21 : a'.tmps[21]?.getD undef = .pointer (some ⟨B, 0, none⟩) := hd 1 21 zt rfl (by decide) (by decide) rfl
   clear hs hd hn
   rw [if_neg (by decide), if_neg (by decide)] at hK
   unfold Oper.wp
   go_simp
   try go_bits
   exact hK _ _ zr rfl
  ·intro _ a' w' hb' hs hd hn Kc hK
   have f22 : a'.tmps[22]?.getD undef = .pointer (some ⟨B, 0, none⟩) := hd 2 22 zt rfl (by decide) (by decide) rfl
   clear hs hd hn
   rw [if_neg (by decide), if_neg (by decide)] at hK
   have u1' := zcl hb' hlV u1
   have x0' := zcl hb' hlB x0
   have x1' := zcl hb' hlB x1
   have x2' := zcl hb' hlB x2
   unfold Oper.wp
   go_simp
   try go_bits
   exact hK _ _ zr rfl
  ·intro _ a' w' hb' hs hd hn Kc hK
   have f3 : a'.tmps[3]?.getD undef = .pointer (some ⟨w.heap.size, 0, none⟩) := (hs 3 (by decide)).trans rfl
   clear hs hd hn
   rw [if_neg (by decide), if_neg (by decide)] at hK
   unfold Oper.wp
   go_simp
   try go_bits
   exact hK _ _ zr rfl
  ·intro _ a' w' hb' hs hd hn Kc hK
   have f24 : a'.tmps[24]?.getD undef = .pointer (some ⟨w.heap.size, 1, none⟩) := hd 4 24 zt rfl (by decide) (by decide) rfl
   clear hs hd hn
   rw [if_neg (by decide), if_neg (by decide)] at hK
   have u1' := zcl hb' hlV u1
   have x0' := zcl hb' hlB x0
   have x1' := zcl hb' hlB x1
   have x2' := zcl hb' hlB x2
   unfold Oper.wp
   go_simp
   try go_bits
   exact hK _ _ zr rfl
  ·intro _ a' w' hb' hs hd hn Kc hK
   have f23 : a'.tmps[23]?.getD undef = .agg #[.slice p n c, .slice q m d, .bool b] := hd 3 23 zt rfl (by decide) (by decide) rfl
   have f25 : a'.tmps[25]?.getD undef = .int .i64 vn := hd 5 25 zt rfl (by decide) (by decide) rfl
   clear hs hd hn
   rw [if_neg (by decide), if_neg (by decide)] at hK
   have u1' := zcl hb' hlV u1
   have x0' := zcl hb' hlB x0
   have x1' := zcl hb' hlB x1
   have x2' := zcl hb' hlB x2
   unfold Oper.wp
   go_simp
   try go_bits
   refine zm (hPa w' hb') ?_
   rintro e w'' ⟨p', c', q', d', rfl, hA, -, hb2⟩
   exact hK _ _ hb2 ⟨_, _, _, _, rfl, hA⟩
  ·intro _ a' w' hb' hs hd hn Kc hK
   obtain ⟨p', c', q', d', f26, hA⟩ := hd 6 26 zt rfl (by decide) (by decide) rfl
   clear hs hd hn
   rw [if_neg (by decide), if_neg (by decide)] at hK
   unfold Oper.wp
   go_simp
   try go_bits
   exact hK _ _ zr ⟨_, _, _, _, rfl, hA⟩
  ·intro _ a' w' hb' hs hd hn Kc hK
   obtain ⟨p', c', q', d', f19, hA⟩ := hd 7 19 zt rfl (by decide) (by decide) rfl
   clear hs hd hn
   rw [if_neg (by decide), if_neg (by decide)] at hK
   unfold Oper.wp
   go_simp
   try go_bits
   exact hK _ _ zr ⟨_, _, _, _, rfl, hA⟩
  ·intro _ a' w' hb' hs hd hn Kc hK
   obtain ⟨p', c', q', d', f19, hA⟩ := hd 7 19 zt rfl (by decide) (by decide) rfl
   clear hs hd hn
   rw [if_neg (by decide), if_neg (by decide)] at hK
   unfold Oper.wp
   go_simp
   try go_bits
   exact hK _ _ zr rfl
  ·intro _ a' w' hb' hs hd hn Kc hK
   clear hs hd hn
   rw [if_pos rfl] at hK
   unfold Oper.wp
   go_simp
   exact hK _ _ (zr.alloc (Nat.le_refl _) _) (Nat.le_refl _) (zh0 _ _)
  ·intro _ a' w' hb' hs hd hn Kc hK
   obtain ⟨g, f4, hg, hsh⟩ := hn 4 zt rfl rfl
   obtain ⟨p', c', q', d', f27, hA⟩ := hd 8 27 zt rfl (by decide) (by decide) rfl
   obtain ⟨⟨_, _, _, _, _, _, _, h3⟩, hk3⟩ := id hsh
   rw [if_neg (by decide), if_pos rfl] at hK
   have hfin := hK g (.tuple #[]) (puts3 g (.slice p' (n) c') (.slice q' (m) d') (.bool (b)) w') (fun d hd => by obtain rfl : 4 = d := Option.some.inj (Option.some.inj hd); exact f4) (zhd hg _ _ _ w') hg ⟨p', c', q', d', h3.puts (.slice p' (n) c') (.slice q' (m) d') (.bool (b)), hA.stores (zcs hsh hA (hn0) (hmm)) _ _ _⟩ (zgu h3 hk3 _ _ _ _ _ _ _) ⟨fun _ h => h, fun _ h => h, fun _ h => h, fun _ h => h, fun _ h => h, fun _ h => h, fun _ h => h.puts hsh (hn0) (hmm) _ _ _, fun _ h => h.puts hsh (hn0) (hmm) _ _ _, fun _ h => h.puts hsh (hn0) (hmm) _ _ _, fun _ h => h, fun _ h => h, fun _ h => h, fun _ h => h, trivial⟩
   clear hs hd hn hK
   obtain ⟨h0, c0, c1, c2, g0, g1, g2⟩ := h3
   unfold puts3 at hfin
   unfold Oper.wp
   go_simp
   exact hfin
  ·intro _ a' w' hb' hs hd hn Kc hK
   have f28 : a'.tmps[28]?.getD undef = .bool true := hd 9 28 zt rfl (by decide) (by decide) rfl
   clear hs hd hn
   rw [if_neg (by decide), if_neg (by decide)] at hK
   unfold Oper.wp
   go_simp
   try go_bits
   exact hK _ _ zr rfl
 intro Xf g w' hX hb hv
 obtain ⟨hg, gX, hgp⟩ := hX (by decide)
 have q4 : Xf 4 = .pointer (some ⟨g, 0, none⟩) := hgp 4 rfl
 have q5 : Xf 5 = .bool true := hv 12 5 rfl rfl (by decide) (by decide)
 clear hX hv hgp
 simp only [List.map_cons, List.map_nil, q4, q5, puts, Act.put, Nat.reduceAdd, List.setIfInBounds_toArray, List.set_cons_succ, List.set_cons_zero]
 obtain ⟨p1, c1, q1, d1, gH, hA⟩ := gX
 replace hbw := bjoin hb hbw
 replace g0 := g0.below hb
 replace g1 := g1.below hb
 replace hg0 := hg0.below hb
 replace hR0 := hR0.below hb
 clear hb u1 x0 x1 x2 hlB hlV hPa
 generalize w' = w2 at *
 obtain ⟨hlB, x0, x1, x2, -, -, -⟩ := zdg g0
 obtain ⟨f0, f1, f2, -, -, -⟩ := zgm g0
 obtain ⟨lH, y0, y1, y2, -, -, -⟩ := gH
 go_upto_region 5 with fail
 have vB : VarT 227 6 B w2 := ⟨_, rfl, zik _ _ _ _ _ _ _ _ _ _ _ _, g0⟩
 have hA4 := zan (vB.clear hA hn32' hmm) [.slice p1 n c1, .slice q1 m d1, .bool b] 0 hA
 have hg4 := zbv (k := 0) hg0 hR0 vB (by decide) hN [.slice p1 n c1, .slice q1 m d1, .bool b]
 have hR4 := zba (k := 0) hR0 vB (by decide) hN [.slice p1 n c1, .slice q1 m d1, .bool b]
 have g04 := g0.putsL [.slice p1 n c1, .slice q1 m d1, .bool b] 0
 have g14 := g1.of_block (zah (g := B) (b := w.heap.size) (by omega) [.slice p1 n c1, .slice q1 m d1, .bool b] 0 w2)
 have hAs : Aside (fun k => k = B) w (putsL B 0 [.slice p1 n c1, .slice q1 m d1, .bool b] w2) := (Aside.of hbw).trans (zay (T := fun k => k = B) rfl _ 0 w2)
 simp only [setFrom, List.setIfInBounds_toArray, List.set_cons_succ, List.set_cons_zero, Nat.reduceAdd] at g04
 simp only [putsL, Nat.reduceAdd] at hA4 hg4 hR4 g04 g14 hAs
 clear vB hA hg0 hR0 g0 g1 hbw x0 x1 x2 f0 f1 f2 y0 y1 y2 lH hlB
 generalize ((w2.setCell ⟨B, 0, none⟩ (.slice p1 n c1)).setCell ⟨B, 1, none⟩ (.slice q1 m d1)).setCell ⟨B, 2, none⟩ (.bool b) = w4 at *
 obtain ⟨hlB, -, -, -, x3, x4, x5⟩ := zdg g04
 have hlV := g14.lt
 have u1 := g14.cell 1
 simp only [List.getElem?_toArray, List.getElem?_cons_zero, List.getElem?_cons_succ] at u1
 have hNw : N ≤ w4.heap.size := by omega
 have hAsz := hAs.size
 replace hPu := fun W (hW : Below w4.heap.size w4 W) => hPu W pr cr (hg4.below hW) (hR4.below hW)
 refine zdx (ds := [some 36, some 37, some 38, some 39, some 40, some 41, some 42, some 35, some 43, some 44, some 6, none, some 5]) (ts := [36, 37, 38, 39, 40, 41, 42, 35, 43, 44, 6, 5]) (pv := [(fun v _ => v = .pointer (some ⟨B, 0, none⟩)), (fun v _ => v = .pointer (some ⟨B, 0, none⟩)), (fun v _ => v = .pointer (some ⟨B, 3, none⟩)), (fun v _ => v = .agg #[.int .i64 r, .slice pr sn cr]), (fun v _ => v = .pointer (some ⟨w.heap.size, 1, none⟩)), (fun v _ => v = .int .i64 vn), GreyTE (N) (r) (K) (Z) [.bool G], GreyTE (N) (r) (K) (Z) [.bool G], GreyE (N) (r) (K) (Z), (fun v _ => v = .bool G), (fun _ _ => True), (fun _ _ => True), (fun v _ => v = .bool G)]) (skip := fun i => ([] : List Nat).contains i) (ia := 10) (is := 11) (k := 45) (Shape := (VarT 31 2)) (Full := (FullGE (31) (N) (r) (K) (Z))) (by kernel_rfl) (by kernel_rfl) rfl rfl (by decide) (by decide) (by simp) ?_ (by decide) (fun _ _ _ h hb => VarT.below h hb) (fun _ _ _ h hb => FullGE.below h hb) ?_ ?_ ?_ ?_
 ·exact .inr ⟨⟨_, rfl⟩, rfl, _, rfl, zt, by decide, rfl⟩
 ·exact ⟨fun _ _ _ h _ => h, fun _ _ _ h _ => h, fun _ _ _ h _ => h, fun _ _ _ h _ => h, fun _ _ _ h _ => h, fun _ _ _ h _ => h, fun _ _ _ h hb => h.below hb, fun _ _ _ h hb => h.below hb, fun _ _ _ h hb => h.below hb, fun _ _ _ h _ => h, fun _ _ _ h _ => h, fun _ _ _ h _ => h, fun _ _ _ h _ => h, trivial⟩
 ·exact ⟨rfl, rfl, rfl, rfl, rfl, rfl, rfl, rfl, rfl, rfl, rfl, rfl, rfl, trivial⟩
 ·refine ⟨?_, ?_, ?_, ?_, ?_, ?_, ?_, ?_, ?_, ?_, ?_, ?_, ?_, trivial⟩
  ·intro _ a' w' hb' hs hd hn Kc hK
   have f0 : a'.tmps[0]?.getD undef = .pointer (some ⟨B, 0, none⟩) := (hs 0 (by decide)).trans rfl
   clear hs hd hn
   rw [if_neg (by decide), if_neg (by decide)] at hK
   unfold Oper.wp
   go_simp
   try go_bits
   exact hK _ _ zr rfl
  ·intro _ a' w' hb' hs hd hn Kc hK
   have f36 : a'.tmps[36]?.getD undef = .pointer (some ⟨B, 0, none⟩) := hd 0 36 zt rfl (by decide) (by decide) rfl
   clear hs hd hn
   rw [if_neg (by decide), if_neg (by decide)] at hK
   have u1' := zcl hb' hlV u1
   have x3' := zcl hb' hlB x3
   have x4' := zcl hb' hlB x4
   unfold Oper.wp
   go_simp
   try go_bits
   exact hK _ _ zr zl
  ·intro _ a' w' hb' hs hd hn Kc hK
   have f37 : a'.tmps[37]?.getD undef = .pointer (some ⟨B, 0, none⟩) := hd 1 37 zt rfl (by decide) (by decide) rfl
   clear hs hd hn
   rw [if_neg (by decide), if_neg (by decide)] at hK
   unfold Oper.wp
   go_simp
   try go_bits
   exact hK _ _ zr rfl
  ·intro _ a' w' hb' hs hd hn Kc hK
   have f38 : a'.tmps[38]?.getD undef = .pointer (some ⟨B, 3, none⟩) := hd 2 38 zt rfl (by decide) (by decide) rfl
   clear hs hd hn
   rw [if_neg (by decide), if_neg (by decide)] at hK
   have u1' := zcl hb' hlV u1
   have x3' := zcl hb' hlB x3
   have x4' := zcl hb' hlB x4
   unfold Oper.wp
   go_simp
   try go_bits
   exact hK _ _ zr rfl
  ·intro _ a' w' hb' hs hd hn Kc hK
   have f3 : a'.tmps[3]?.getD undef = .pointer (some ⟨w.heap.size, 0, none⟩) := (hs 3 (by decide)).trans rfl
   clear hs hd hn
   rw [if_neg (by decide), if_neg (by decide)] at hK
   unfold Oper.wp
   go_simp
   try go_bits
   exact hK _ _ zr rfl
  ·intro _ a' w' hb' hs hd hn Kc hK
   have f40 : a'.tmps[40]?.getD undef = .pointer (some ⟨w.heap.size, 1, none⟩) := hd 4 40 zt rfl (by decide) (by decide) rfl
   clear hs hd hn
   rw [if_neg (by decide), if_neg (by decide)] at hK
   have u1' := zcl hb' hlV u1
   have x3' := zcl hb' hlB x3
   have x4' := zcl hb' hlB x4
   unfold Oper.wp
   go_simp
   try go_bits
   exact hK _ _ zr rfl
  ·intro _ a' w' hb' hs hd hn Kc hK
   have f39 : a'.tmps[39]?.getD undef = .agg #[.int .i64 r, .slice pr sn cr] := hd 3 39 zt rfl (by decide) (by decide) rfl
   have f41 : a'.tmps[41]?.getD undef = .int .i64 vn := hd 5 41 zt rfl (by decide) (by decide) rfl
   clear hs hd hn
   rw [if_neg (by decide), if_neg (by decide)] at hK
   have u1' := zcl hb' hlV u1
   have x3' := zcl hb' hlB x3
   have x4' := zcl hb' hlB x4
   unfold Oper.wp
   go_simp
   try go_bits
   refine zm (hPu w' hb') ?_
   rintro e w'' ⟨p', c', rfl, hA, hT, hb2⟩
   exact hK _ _ hb2 ⟨_, _, rfl, hA, hT⟩
  ·intro _ a' w' hb' hs hd hn Kc hK
   obtain ⟨p', c', f42, hA, hT⟩ := hd 6 42 zt rfl (by decide) (by decide) rfl
   clear hs hd hn
   rw [if_neg (by decide), if_neg (by decide)] at hK
   unfold Oper.wp
   go_simp
   try go_bits
   exact hK _ _ zr ⟨_, _, rfl, hA, hT⟩
  ·intro _ a' w' hb' hs hd hn Kc hK
   obtain ⟨p', c', f35, hA, hT⟩ := hd 7 35 zt rfl (by decide) (by decide) rfl
   clear hs hd hn
   rw [if_neg (by decide), if_neg (by decide)] at hK
   unfold Oper.wp
   go_simp
   try go_bits
   exact hK _ _ zr ⟨_, _, rfl, hA, hT⟩
  ·intro _ a' w' hb' hs hd hn Kc hK
   obtain ⟨p', c', f35, hA, hT⟩ := hd 7 35 zt rfl (by decide) (by decide) rfl
   clear hs hd hn
   rw [if_neg (by decide), if_neg (by decide)] at hK
   unfold Oper.wp
   go_simp
   try go_bits
   exact hK _ _ zr rfl
  ·intro _ a' w' hb' hs hd hn Kc hK
   clear hs hd hn
   rw [if_pos rfl] at hK
   unfold Oper.wp
   go_simp
   exact hK _ _ (zr.alloc (Nat.le_refl _) _) (Nat.le_refl _) (VarT.new _ _ _ zee)
  ·intro _ a' w' hb' hs hd hn Kc hK
   obtain ⟨g, f6, hg, hsh⟩ := hn 6 zt rfl rfl
   obtain ⟨p', c', f43, hA, hT⟩ := hd 8 43 zt rfl (by decide) (by decide) rfl
   rw [if_neg (by decide), if_pos rfl] at hK
   have hfin := hK g (.tuple #[]) (putsL g 0 [.int .i64 (r), .slice p' (K) c'] w') (fun d hd => by obtain rfl : 6 = d := Option.some.inj (Option.some.inj hd); exact f6) (zao hg _ _ _) hg ⟨p', c', hsh.shape.full2 _ _, zbt hA hT hsh (by decide) (Nat.le_trans hNw hg) _, hT.puts hsh (by decide) (Nat.le_trans hNw hg) _⟩ (fun g' h => h.puts (zgl _ _ _ _)) ⟨fun _ h => h, fun _ h => h, fun _ h => h, fun _ h => h, fun _ h => h, fun _ h => h, fun _ h => h.putsV hsh (by decide) (Nat.le_trans hNw hg) _, fun _ h => h.putsV hsh (by decide) (Nat.le_trans hNw hg) _, fun _ h => h.putsV hsh (by decide) (Nat.le_trans hNw hg) _, fun _ h => h, fun _ h => h, fun _ h => h, fun _ h => h, trivial⟩
   clear hs hd hn hK
   obtain ⟨x0, x1, h0, c0, c1, g0, g1⟩ := hsh.shape.two
   simp only [putsL] at hfin
   unfold Oper.wp
   go_simp
   exact hfin
  ·intro _ a' w' hb' hs hd hn Kc hK
   have f44 : a'.tmps[44]?.getD undef = .bool G := hd 9 44 zt rfl (by decide) (by decide) rfl
   clear hs hd hn
   rw [if_neg (by decide), if_neg (by decide)] at hK
   unfold Oper.wp
   go_simp
   try go_bits
   exact hK _ _ zr rfl
 intro Xf g w' hX hb hv
 obtain ⟨hg, gX, hgp⟩ := hX (by decide)
 have q6 : Xf 6 = .pointer (some ⟨g, 0, none⟩) := hgp 6 rfl
 have q5 : Xf 5 = .bool G := hv 12 5 rfl rfl (by decide) (by decide)
 clear hX hv hgp
 simp only [List.map_cons, List.map_nil, q6, q5, puts, Act.put, Nat.reduceAdd, List.setIfInBounds_toArray, List.set_cons_succ, List.set_cons_zero]
 obtain ⟨p2, c2, gG, hZ, hE⟩ := gX
 replace hA4 := hA4.below hb
 replace g04 := g04.below hb
 replace hAs := hAs.trans (Aside.of hb)
 have hBg : ¬ B = g := by omega
 have hNg : N ≤ g := Nat.le_trans hNw hg
 have hwg : w.heap.size ≤ g := by have := hAsz; omega
 clear hb hPu u1 x3 x4 x5 hlV g14 hg4 hR4 hNw hlB hAsz
 generalize w' = w6 at *
 have vB : VarT 227 6 B w6 := ⟨_, rfl, zik _ _ _ _ _ _ _ _ _ _ _ _, g04⟩
 obtain ⟨hlB, -, -, -, x3, x4, x5⟩ := zdg g04
 obtain ⟨-, -, -, f3, f4, f5⟩ := zgm g04
 have lG := gG.lt
 have e0 := gG.cell 0
 have e1 := gG.cell 1
 simp only [List.getElem?_toArray, List.getElem?_cons_zero, List.getElem?_cons_succ] at e0 e1
 cases hG : G with
 | true =>
  have hA6 := zan (vB.clear hA4 hn32' hmm) [.int .i64 r, .slice p2 K c2] 3 hA4
  have hZ6 := zbv (k := 3) hZ hE vB (by decide) hN [.int .i64 r, .slice p2 K c2]
  have hE6 := zba (k := 3) hE vB (by decide) hN [.int .i64 r, .slice p2 K c2]
  have g06 := g04.putsL [.int .i64 r, .slice p2 K c2] 3
  have hAs6 := hAs.trans (zay (T := fun k => k = B) rfl [.int .i64 r, .slice p2 K c2] 3 w6)
  simp only [setFrom, List.setIfInBounds_toArray, List.set_cons_succ, List.set_cons_zero, Nat.reduceAdd] at g06
  simp only [putsL, Nat.reduceAdd] at hA6 hZ6 hE6 g06 hAs6
  clear hA4 hZ hE g04 hAs vB hNK
  go_wp2
  go_returns
  exact ⟨rfl, ⟨p1, c1, q1, d1, p2, c2, by simpa using g06, hA6, hZ6, hE6⟩, hAs6⟩
 | false =>
  have hKb : K ≤ 1000000 := by have := hNK hG; omega
  clear hNK
  have hA7 := zan (vB.clear hA4 hn32' hmm) [.bool true] 5 hA4
  have hZ7 := zbv (k := 5) hZ hE vB (by decide) hN [.bool true]
  have g07 := g04.putsL [.bool true] 5
  have gG7 := gG.of_block (zah (g := B) (b := g) (fun e => hBg e.symm) [.bool true] 5 w6)
  have hAs7 := hAs.trans (zay (T := fun k => k = B) rfl [.bool true] 5 w6)
  simp only [setFrom, List.setIfInBounds_toArray, List.set_cons_succ, List.set_cons_zero, Nat.reduceAdd] at g07
  simp only [putsL, Nat.reduceAdd] at hA7 hZ7 g07 gG7 hAs7
  go_upto_region 8 with fail
  clear hA4 hZ hE g04 hAs vB gG x3 x4 x5 f3 f4 f5 e0 e1 hlB lG
  generalize w6.setCell ⟨B, 5, none⟩ (.bool true) = w7 at *
  have lB := g07.lt
  have lG := gG7.lt
  have e0 := gG7.cell 0
  have e1 := gG7.cell 1
  simp only [List.getElem?_toArray, List.getElem?_cons_zero, List.getElem?_cons_succ] at e0 e1
  have k1 := gG7.frozen 1
  obtain ⟨-, -, -, -, b3, b4, -⟩ := zdg g07
  obtain ⟨-, -, -, f3, f4, -⟩ := zgm g07
  obtain ⟨i0, hj0, hj1, hj2, hj3⟩ := info_parts zb5
  have hx1 : 0 + K ≤ maxLen := by simp only [maxLen]; omega
  have hx2 : (0 + K) * 8 ≤ 140737488355328 := by omega
  have hin7 := hZ7.ints
  have hpn7 := hZ7.pnil
  refine wp_region_lit ?_
  go_wp2_with (first
   | (at_builtin; refine za7 rfl (.const (.slice none 0 0)) (.tmp 51) 29 rfl w7.heap.size 3 i0 (.int .i64 0) 8 Tryz.underlying29 hj0 hj1 hj2 hj3 rfl (.slice none 0 0) 0 [] rfl (World.ownsRow_nil w7 _ _ _) .i64 p2 K c2 Z rfl hin7 hpn7 hx1 hx2 (Nat.le_refl _) ?_; intro ov w8 ho hgr; rw [Nat.zero_add, List.nil_append] at ho; obtain ⟨pp, cc, rfl, hnew⟩ := zaf ho; have hb1 : Below w7.heap.size w7 w8 := zr.grown hgr (Nat.le_refl _) (fun k hk => by cases hk); have e0' := zcl hb1 lG e0; have e1' := zcl hb1 lG e1; have k1' := (hb1.frozen (p := ⟨g, 1, none⟩) lG).trans k1; have lG' := Nat.lt_of_lt_of_le lG hb1.size; have lB' := Nat.lt_of_lt_of_le lB hb1.size; have b3' := zcl hb1 lB b3; have b4' := zcl hb1 lB b4; have f3' := (hb1.frozen (p := ⟨B, 3, none⟩) lB).trans f3; have f4' := (hb1.frozen (p := ⟨B, 4, none⟩) lB).trans f4)
  )
  have hZ8 : GrAt w8 pp cc K Z := zed ho (by simp only [maxLen]; omega) fun i hi => hwz hG i hi
  have hE8 : RowE N 3 K pp w8 := zhq ho
  have vG : VarT 31 2 g w8 := ⟨_, rfl, zlr _ _ _ _, gG7.below hb1⟩
  have hA8 := zan (vG.clear (hA7.below hb1) hn32' hmm) [.slice pp K cc] 1 (hA7.below hb1)
  have hZ9 := zbv (k := 1) hZ8 hE8 vG (by decide) hNg [.slice pp K cc]
  have hE9 := zba (k := 1) hE8 vG (by decide) hNg [.slice pp K cc]
  have g09 := (g07.below hb1).of_block (zah (g := g) (b := B) hBg [.slice pp K cc] 1 w8)
  have vB9 : VarT 227 6 B (putsL g 1 [.slice pp K cc] w8) := ⟨_, rfl, zik _ _ _ _ _ _ _ _ _ _ _ _, g09⟩
  have hA10 := zan (vB9.clear hA8 hn32' hmm) [.int .i64 r, .slice pp K cc] 3 hA8
  have hZ10 := zbv (k := 3) hZ9 hE9 vB9 (by decide) hN [.int .i64 r, .slice pp K cc]
  have hE10 := zba (k := 3) hE9 vB9 (by decide) hN [.int .i64 r, .slice pp K cc]
  have g010 := g09.putsL [.int .i64 r, .slice pp K cc] 3
  have hAs10 := ((hAs7.trans (Aside.of hb1)).setNew hwg 1 (.slice pp K cc)).trans (zay (T := fun k => k = B) rfl [.int .i64 r, .slice pp K cc] 3 _)
  simp only [setFrom, List.setIfInBounds_toArray, List.set_cons_succ, List.set_cons_zero, Nat.reduceAdd] at g010
  simp only [putsL, Nat.reduceAdd] at hA10 hZ10 hE10 g010 hAs10
  go_returns
  exact ⟨rfl, ⟨p1, c1, q1, d1, pp, cc, by simpa [hG] using g010, hA10, hZ10, hE10⟩, hAs10⟩
theorem zp7 (N : Nat) (r : Int) (B n m : Nat) (b : Bool) (s : Sd) (v : Vl) (w : World) (hS : Sz w) (hN : N ≤ B) (h : SgV N r B n m b s w) (hF : formB s.h = true) (hr : r ≤ 1000000) (hk : s.n ≤ 1000000) (hv : v.wf) :
  Calls Tryz.prog 204 #[.pointer (some ⟨B, 0, none⟩), v.agg] w fun e w' => e = .returned (.tuple #[]) ∧ SgV N r B n m b (sdS r s v) w' ∧ Aside (fun k => k = B) w w' := by
 cases e : shB s.h v with
 | false =>
  rw [sh_no e]
  exact (zro N r B n m b s v w hS h hF e).mono fun e w' ⟨h1, h2⟩ => ⟨h1, h.below h2, Aside.of h2⟩
 | true =>
  rw [sh_yes e]
  exact zpf N r B n m b s v w hS hN h hF hr hk hv e
theorem Sz.aside {T : Nat → Prop} (h : Sz w) (ha : Aside T w w') (hT : ¬ T 0) : Sz w' := by
 obtain ⟨hl, h0, h1, h2, h3⟩ := h
 have hb := ha.block _ hl hT
 exact ⟨Nat.lt_of_lt_of_le hl ha.size, (World.cell?_of_block (w := w) (a := ⟨0, 0, none⟩) hb).trans h0, (World.cell?_of_block (w := w) (a := ⟨0, 1, none⟩) hb).trans h1, (World.cell?_of_block (w := w) (a := ⟨0, 2, none⟩) hb).trans h2, (World.cell?_of_block (w := w) (a := ⟨0, 3, none⟩) hb).trans h3⟩
theorem zuf (N : Nat) (r : Int) {n c : Nat} {m d : Nat} {b : Bool} {pr : Option Addr} {k cr : Nat} {z : Nat → Int} {v : Vl} 
  (hS : Sz w) (hh : HpIn w p n c q m d b h) (hF : formB h = true) (hg : GrAt w pr cr k z) (hR : RowE N 3 k pr w) (hN : N ≤ w.heap.size) (hr : r ≤ 1000000) (hk : k ≤ 1000000) (hv : v.wf) :
  Calls Tryz.prog 192 #[.agg #[.slice p n c, .slice q m d, .bool b], .agg #[.int .i64 r, .slice pr k cr], v.agg] w fun e w' => ∃ p' c' q' d' pr' cr', e = .returned (.tuple #[.agg #[.slice p' n c', .slice q' m d', .bool b], .agg #[.int .i64 r, .slice pr' (sdS r ⟨h, k, z, false⟩ v).n cr'], .bool (sdS r ⟨h, k, z, false⟩ v).o]) ∧
   HpIn w' p' n c' q' m d' b (sdS r ⟨h, k, z, false⟩ v).h ∧ GrAt w' pr' cr' (sdS r ⟨h, k, z, false⟩ v).n (sdS r ⟨h, k, z, false⟩ v).z ∧ RowE N 3 (sdS r ⟨h, k, z, false⟩ v).n pr' w' ∧ Below w.heap.size w w' := by
 have hC := fun (B : Nat) (W : World) (h1 : Sz W) (h2 : N ≤ B) (h3 : SgV N r B n m b ⟨h, k, z, false⟩ W) => zp7 N r B n m b ⟨h, k, z, false⟩ v W h1 h2 h3 hF hr hk hv
 generalize sdS r ⟨h, k, z, false⟩ v = S at *
 obtain ⟨sh, sn, sz, so⟩ := S
 obtain ⟨vk, vn⟩ := v
 dsimp only [Vl.agg] at hC ⊢
 obtain ⟨w0, hw0⟩ : ∃ w0, w0 = ((((w.alloc (.cells #[.slice p n c, .slice q m d, .bool b] 27)).alloc (.cells #[.int .i64 r, .slice pr k cr] 31)).alloc (.cells #[.int .i64 vk, .int .i64 vn] 70)).alloc (.cells #[.slice none 0 0, .slice none 0 0, .bool false] 27)).alloc (.cells #[.int .i64 0, .slice none 0 0] 31) := ⟨_, rfl⟩
 obtain ⟨g0, g1, g2, g3, g4, hb0⟩ := zsn hw0
 go_enter Tryz.func192, Tryz.ntmps192
 go_upto_region 1 with fail
 rw [← hw0]
 clear hw0
 have x0 := g0.cell 0
 have x1 := g0.cell 1
 have x2 := g0.cell 2
 have y0 := g1.cell 0
 have y1 := g1.cell 1
 have u0 := g2.cell 0
 have u1 := g2.cell 1
 simp only [List.getElem?_toArray, List.getElem?_cons_zero, List.getElem?_cons_succ] at x0 x1 x2 y0 y1 u0 u1
 have l0 := g0.lt
 have l1 := g1.lt
 have l2 := g2.lt
 have l40 := g4.lt
 go_upto_region 2 with fail
 obtain ⟨w1, hw1⟩ : ∃ W, W = w0.alloc (.cells #[.slice p n c, .slice q m d, .bool b, .int .i64 r, .slice pr k cr, .bool false] 227) := ⟨_, rfl⟩
 rw [← hw1]
 have hb1 : Below w0.heap.size w0 w1 := by rw [hw1]; exact zr.alloc (Nat.le_refl _) _
 have gS : TBox 227 w0.heap.size #[.slice p n c, .slice q m d, .bool b, .int .i64 r, .slice pr k cr, .bool false] w1 := by rw [hw1]; exact TBox.new _ _ _
 clear hw1
 have hbw := bjoin hb1 hb0
 have hs : SgV N r w0.heap.size n m b ⟨h, k, z, false⟩ w1 := ⟨p, c, q, d, pr, cr, gS, hh.below hbw, hg.below hbw, hR.below hbw⟩
 have hNB : N ≤ w0.heap.size := Nat.le_trans hN hb0.size
 replace g2 := g2.below hb1
 replace g3 := g3.below hb1
 replace g4 := g4.below hb1
 have hwB := hb0.size
 have hSB : ¬ 0 = w0.heap.size := by have := hS.1; omega
 have l4 := hb1.size
 have hlB := gS.lt
 have hlN : w.heap.size + 1 + 1 + 1 + 1 < w0.heap.size := by omega
 clear x0 x1 x2 y0 y1 l0 l1 l2 g0 g1 u0 u1 gS
 replace hC := hC w0.heap.size w1 (hS.below hbw) hNB hs
 have u0 := g2.cell 0
 have u1 := g2.cell 1
 simp only [List.getElem?_toArray, List.getElem?_cons_zero, List.getElem?_cons_succ] at u0 u1
 have l2 := g2.lt
 clear hs
 go_upto_region 3 with (first
  | (go_at_call 204; refine zm hC ?_; rintro e w2 ⟨rfl, hs2, hA2⟩)
 )
 obtain ⟨p', c', q', d', pr', cr', gS, hI, hG, hE⟩ := hs2
 dsimp only at gS hI hG hE
 have v3 : VarT 27 3 (w.heap.size + 1 + 1 + 1) w2 := ⟨_, rfl, zbn, g3.of_block (hA2.block _ g3.lt (by omega))⟩
 have v4 : VarT 31 2 (w.heap.size + 1 + 1 + 1 + 1) w2 := ⟨_, rfl, zee, g4.of_block (hA2.block _ g4.lt (by omega))⟩
 have g3' := g3.of_block (hA2.block _ g3.lt (by omega))
 have g4' := g4.of_block (hA2.block _ g4.lt (by omega))
 obtain ⟨hn32, hm0, -⟩ := zcf hF
 have hn32' : 32 ≤ n := by have := hh.n_eq; omega
 have hmm : 0 < m := by have := hh.m_eq; omega
 have hI2 := zan (v3.clear hI hn32' hmm) [.slice p' n c', .slice q' m d', .bool b] 0 hI
 have v4' : VarT 31 2 (w.heap.size + 1 + 1 + 1 + 1) (putsL (w.heap.size + 1 + 1 + 1) 0 [.slice p' n c', .slice q' m d', .bool b] w2) := v4.puts (zes _ _ _ _ _ _ _)
 have hI3 := zan (v4'.clear hI2 hn32' hmm) [.int .i64 r, .slice pr' sn cr'] 0 hI2
 have hG2 := zbt hG hE v3 (by decide) (by omega) [.slice p' n c', .slice q' m d', .bool b]
 have hE2 := hE.puts v3 (by decide) (by omega) [.slice p' n c', .slice q' m d', .bool b]
 have hG3 := zbt hG2 hE2 v4' (by decide) (by omega) [.int .i64 r, .slice pr' sn cr']
 have hE3 := hE2.puts v4' (by decide) (by omega) [.int .i64 r, .slice pr' sn cr']
 have hb2 : Below w.heap.size w w2 := hbw.trans (hA2.below (by omega) fun k e => by omega)
 have hbE := (zry (B := (w.heap.size + 1 + 1 + 1)) (B' := (w.heap.size + 1 + 1 + 1 + 1)) hb2 (by omega) (by omega) (.slice p' n c') (.slice q' m d') (.bool b) (.int .i64 r) (.slice pr' sn cr')).drew
 have hdr : ∀ W : World, Below W.heap.size W W.drew := fun W => zr.drew
 obtain ⟨lS, s0, s1, s2, s3, s4, s5⟩ := zdg gS
 have a0 := g3'.cell 0
 have a1 := g3'.cell 1
 have a2 := g3'.cell 2
 have b0 := g4'.cell 0
 have b1 := g4'.cell 1
 simp only [List.getElem?_toArray, List.getElem?_cons_zero, List.getElem?_cons_succ] at a0 a1 a2 b0 b1
 have fa0 := g3'.frozen 0
 have fa1 := g3'.frozen 1
 have fa2 := g3'.frozen 2
 have fb0 := g4'.frozen 0
 have fb1 := g4'.frozen 1
 have l3 := g3'.lt
 have l4 := g4'.lt
 generalize w0.heap.size = BB at *
 clear hI hI2 hG hE hG2 hE2 v3 v4 v4' g3 g4 g3' g4' gS hA2 hh hg hR hS hC hF hb0 hb1 hbw hb2
 go_region
 all_goals
  go_wp2
  refine bodyPost_ret (by simp [results, Tryz.results192, go_sem, *]; try rfl) rfl ?_
  exact ⟨p', c', q', d', pr', cr', rfl, hI3.below (hdr _), hG3.below (hdr _), hE3.below (hdr _), hbE⟩
end Go.Proofs.YtkehankfnkjnlaaGreatDoor
