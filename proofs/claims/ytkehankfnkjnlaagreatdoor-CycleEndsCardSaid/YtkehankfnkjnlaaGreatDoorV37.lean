import Derived.Test.YtkehankfnkjnlaaGreatDoorV32
import Derived.Test.YtkehankfnkjnlaaGreatDoorV36
namespace Go.Proofs.YtkehankfnkjnlaaGreatDoor
set_option linter.unusedSimpArgs false
set_option linter.unusedVariables false
set_option maxHeartbeats 16000000
set_option maxRecDepth 20000
open Go.ChangeAt Go.ChangeShapes Go.Joins Go.RowKit Go.WideShapes
variable {h : Hp} {w w' W W' : World} {p q : Option Addr} {n g : Nat} {a : Int} {v : Value}
def HeV (Z : Wd) (v : Value) (w : World) : Prop := ∃ p c, v = .slice p (heldL Z.z Z.n).length c ∧ VAt w p c (heldL Z.z Z.n).length (lvF (heldL Z.z Z.n))
theorem HeV.below {Z : Wd} (h : HeV Z v w) (hb : Below w.heap.size w w') : HeV Z v w' := by
 obtain ⟨p, c, e, h⟩ := h
 exact ⟨p, c, e, h.below hb⟩
theorem zkr (Z : Wd) (q : Wp) (w : World) (hS : Sz w) (hv : WdIn w Z q) (hF : FormW Z) :
  Calls Tryz.prog 14 #[.agg (Z.cells q).toArray] w fun e w' => e = .returned (.agg #[.int .i64 (teW Z).c, .int .i64 (teW Z).f, .int .i64 (teW Z).l, .int .i64 (teW Z).o, .int .i64 (teW Z).d]) ∧ Below w.heap.size w w' := by
 obtain ⟨hn8, hst8⟩ := ze9 hF
 replace hF := hF.hF
 have hn512 : Z.h.n ≤ 512 := by have := zad.1 hF; omega
 have hub := zd7 hF hv.heap.wf
 have hhl := zce (z := Z.z) (n := Z.n) hst8
 have hbl : (bkL Z.h).length ≤ 512 := by
  have h1 : (bkL Z.h).length ≤ (obL Z.h Z.h.n).length := List.length_filter_le _ _
  have h2 := zb1 Z.h Z.h.n
  omega
 have hB := fun W (hW : Below w.heap.size w W) => zty (hS.below hW) (hv.heap.below hW).in hF
 have hU := fun W (hW : Below w.heap.size w W) => zte q.h q.hc q.s q.sc Z.h W (hS.below hW) (hv.heap.below hW) hF
 have hH : ∀ W, Below w.heap.size w W → Calls Tryz.prog 43 #[.slice q.m Z.n q.mc] W fun e w' => ∃ v, e = .returned v ∧ HeV Z v w' ∧ Below W.heap.size W w' := fun W hW => by
  refine zm (zlh Z.n Z.z q.m q.mc W (hv.muts.below zat hW) (by omega) (fun i hi => by have := hst8 i hi; omega)) ?_
  rintro e w' ⟨p', c', rfl, hA, hb⟩
  exact ⟨_, rfl, ⟨p', c', rfl, hA⟩, hb⟩
 have hW1 : ∀ (L : List Int), L.length ≤ 1000 → ∀ W x, Below w.heap.size w W → RowV L.length (fun i => L[i]?.getD 0) x W → Calls Tryz.prog 40 #[.agg #[.slice q.h Z.h.n q.hc, .slice q.s Z.h.m q.sc, .bool Z.h.b], x] W fun e w' => e = .returned (.int .i64 (wdL Z.h L)) ∧ Below W.heap.size W w' := fun L hL W x hW hx => by
  obtain ⟨p, c, rfl, hi⟩ := hx
  exact zqp (hS.below hW) (hv.heap.below hW).in hF hi hL
 have hFr : ∀ W x, Below w.heap.size w W → HeV Z x W → Calls Tryz.prog 42 #[.agg #[.slice q.h Z.h.n q.hc, .slice q.s Z.h.m q.sc, .bool Z.h.b], x] W fun e w' => ∃ v, e = .returned v ∧ RowV (rcL Z.h (vrL (lvF (heldL Z.z Z.n)) (heldL Z.z Z.n).length)).length (fun i => (rcL Z.h (vrL (lvF (heldL Z.z Z.n)) (heldL Z.z Z.n).length))[i]?.getD 0) v w' ∧ Below W.heap.size W w' := fun W x hW hx => by
  obtain ⟨p, c, rfl, hi⟩ := hx
  refine zm (zue (hS.below hW) (hv.heap.below hW).in hF hi (by omega)) ?_
  rintro e w' ⟨pl, cl, rfl, hA, hb⟩
  exact ⟨_, rfl, ⟨pl, cl, rfl, hA.ints⟩, hb⟩
 have hrl : (rcL Z.h (vrL (lvF (heldL Z.z Z.n)) (heldL Z.z Z.n).length)).length ≤ 1000 := Nat.le_trans (rc_len _) (by omega)
 have hWb := hW1 (bkL Z.h) (by omega)
 have hWr := hW1 (rcL Z.h (vrL (lvF (heldL Z.z Z.n)) (heldL Z.z Z.n).length)) hrl
 have hb1 := zf9 (h := Z.h) (bkL Z.h) hn512
 have hb2 := zf9 (h := Z.h) (rcL Z.h (vrL (lvF (heldL Z.z Z.n)) (heldL Z.z Z.n).length)) hn512
 obtain ⟨T, hT⟩ : ∃ T, T = teW Z := ⟨_, rfl⟩
 rw [← hT]
 have hTe : Hid (T = ⟨Z.cy, (Z.h.n : Int) - usH Z.h, wdL Z.h (bkL Z.h), wdL Z.h (bkL Z.h) - wdL Z.h (rcL Z.h (vrL (lvF (heldL Z.z Z.n)) (heldL Z.z Z.n).length)), usH Z.h - wdL Z.h (bkL Z.h)⟩) := hT
 clear hT hW1
 obtain ⟨LB, hLB⟩ : ∃ L, L = bkL Z.h := ⟨_, rfl⟩
 obtain ⟨LR, hLR⟩ : ∃ L, L = rcL Z.h (vrL (lvF (heldL Z.z Z.n)) (heldL Z.z Z.n).length) := ⟨_, rfl⟩
 rw [← hLB] at hB hWb hb1 hTe hbl
 rw [← hLR] at hFr hWr hb2 hTe hrl
 clear hLB hLR
 generalize wdL Z.h LB = wb at *
 generalize wdL Z.h LR = wr at *
 generalize usH Z.h = us at *
 obtain ⟨wB, hwB⟩ : ∃ W, W = (w.alloc (.cells (Z.cells q).toArray 38)).alloc (.cells #[.int .i64 0, .int .i64 0, .int .i64 0, .int .i64 0, .int .i64 0] 47) := ⟨_, rfl⟩
 obtain ⟨gA, gR, hBB⟩ := zbw hwB
 go_enter Tryz.func14, Tryz.ntmps14
 go_upto_region 1 with fail
 rw [← hwB]
 clear hwB
 refine zbg [some 6, some 7, some 8, some 9, some 10, some 11, some 12, some 13, some 14, some 3, some 4] [6, 7, 8, 9, 10, 11, 12, 13, 14, 3, 4] [(fun v _ => v = .pointer (some ⟨w.heap.size, 5, none⟩)), (fun v _ => v = .agg #[.slice q.h Z.h.n q.hc, .slice q.s Z.h.m q.sc, .bool Z.h.b]), (fun v _ => v = .int .i64 us), (fun v _ => v = .pointer (some ⟨w.heap.size, 5, none⟩)), (fun v _ => v = .agg #[.slice q.h Z.h.n q.hc, .slice q.s Z.h.m q.sc, .bool Z.h.b]), (fun v _ => v = .pointer (some ⟨w.heap.size, 5, none⟩)), (fun v _ => v = .agg #[.slice q.h Z.h.n q.hc, .slice q.s Z.h.m q.sc, .bool Z.h.b]), (RowV LB.length (fun i => LB[i]?.getD 0)), (fun v _ => v = .int .i64 wb), (fun v _ => v = .int .i64 us), (fun v _ => v = .int .i64 wb)] (fun _ => false) 15 (by kernel_rfl) (by kernel_rfl) rfl rfl (by decide) (by decide) (by simp) ⟨kv, kv, kv, kv, kv, kv, kv, fun _ _ _ h hb => h.below hb, kv, kv, kv, trivial⟩ ⟨rfl, rfl, rfl, rfl, rfl, rfl, rfl, rfl, rfl, rfl, rfl, trivial⟩ ?_ ?_
 ·refine ⟨?_, ?_, ?_, ?_, ?_, ?_, ?_, ?_, ?_, ?_, ?_, trivial⟩
  ·intro _ a' w' hb' hs hd Kc hK
   have f1 : a'.tmps[1]?.getD undef = .pointer (some ⟨w.heap.size, 0, none⟩) := (hs 1 (by decide)).trans rfl
   clear hs hd
   unfold Oper.wp
   go_simp
   try go_bits
   exact hK _ _ zr rfl
  ·intro _ a' w' hb' hs hd Kc hK
   have f6 : a'.tmps[6]?.getD undef = .pointer (some ⟨w.heap.size, 5, none⟩) := hd 0 6 zt rfl rfl
   clear hs hd
   have hbW := bjoin hb' hBB
   obtain ⟨l0, -, ⟨a5, a6, a7, a8⟩, -⟩ := zac (gA.below hb')
   unfold Oper.wp
   go_simp
   try go_bits
   exact hK _ _ zr rfl
  ·intro _ a' w' hb' hs hd Kc hK
   have f7 : a'.tmps[7]?.getD undef = .agg #[.slice q.h Z.h.n q.hc, .slice q.s Z.h.m q.sc, .bool Z.h.b] := hd 1 7 zt rfl rfl
   clear hs hd
   have hbW := bjoin hb' hBB
   obtain ⟨l0, -, ⟨a5, a6, a7, a8⟩, -⟩ := zac (gA.below hb')
   unfold Oper.wp
   go_simp
   try go_bits
   refine zm (hU _ hbW) ?_
   rintro e w'' ⟨rfl, hb2⟩
   exact hK _ _ hb2 rfl
  ·intro _ a' w' hb' hs hd Kc hK
   have f1 : a'.tmps[1]?.getD undef = .pointer (some ⟨w.heap.size, 0, none⟩) := (hs 1 (by decide)).trans rfl
   clear hs hd
   unfold Oper.wp
   go_simp
   try go_bits
   exact hK _ _ zr rfl
  ·intro _ a' w' hb' hs hd Kc hK
   have f9 : a'.tmps[9]?.getD undef = .pointer (some ⟨w.heap.size, 5, none⟩) := hd 3 9 zt rfl rfl
   clear hs hd
   have hbW := bjoin hb' hBB
   obtain ⟨l0, -, ⟨a5, a6, a7, a8⟩, -⟩ := zac (gA.below hb')
   unfold Oper.wp
   go_simp
   try go_bits
   exact hK _ _ zr rfl
  ·intro _ a' w' hb' hs hd Kc hK
   have f1 : a'.tmps[1]?.getD undef = .pointer (some ⟨w.heap.size, 0, none⟩) := (hs 1 (by decide)).trans rfl
   clear hs hd
   unfold Oper.wp
   go_simp
   try go_bits
   exact hK _ _ zr rfl
  ·intro _ a' w' hb' hs hd Kc hK
   have f11 : a'.tmps[11]?.getD undef = .pointer (some ⟨w.heap.size, 5, none⟩) := hd 5 11 zt rfl rfl
   clear hs hd
   have hbW := bjoin hb' hBB
   obtain ⟨l0, -, ⟨a5, a6, a7, a8⟩, -⟩ := zac (gA.below hb')
   unfold Oper.wp
   go_simp
   try go_bits
   exact hK _ _ zr rfl
  ·intro _ a' w' hb' hs hd Kc hK
   have f12 : a'.tmps[12]?.getD undef = .agg #[.slice q.h Z.h.n q.hc, .slice q.s Z.h.m q.sc, .bool Z.h.b] := hd 6 12 zt rfl rfl
   clear hs hd
   have hbW := bjoin hb' hBB
   obtain ⟨l0, -, ⟨a5, a6, a7, a8⟩, -⟩ := zac (gA.below hb')
   unfold Oper.wp
   go_simp
   refine zm (hB _ hbW) ?_
   rintro e w'' ⟨p9, c9, rfl, hA, hb2⟩
   exact hK _ _ hb2 ⟨p9, c9, rfl, hA.ints⟩
  ·intro _ a' w' hb' hs hd Kc hK
   have f10 : a'.tmps[10]?.getD undef = .agg #[.slice q.h Z.h.n q.hc, .slice q.s Z.h.m q.sc, .bool Z.h.b] := hd 4 10 zt rfl rfl
   have f13 : (RowV LB.length (fun i => LB[i]?.getD 0)) (a'.tmps[13]?.getD undef) w' := hd 7 13 zt rfl rfl
   clear hs hd
   have hbW := bjoin hb' hBB
   obtain ⟨l0, -, ⟨a5, a6, a7, a8⟩, -⟩ := zac (gA.below hb')
   unfold Oper.wp
   go_simp
   refine zm (hWb _ _ hbW f13) ?_
   rintro e w'' ⟨rfl, hb2⟩
   exact hK _ _ hb2 rfl
  ·intro _ a' w' hb' hs hd Kc hK
   have f8 : a'.tmps[8]?.getD undef = .int .i64 us := hd 2 8 zt rfl rfl
   clear hs hd
   unfold Oper.wp
   go_simp
   try go_bits
   exact hK _ _ zr rfl
  ·intro _ a' w' hb' hs hd Kc hK
   have f14 : a'.tmps[14]?.getD undef = .int .i64 wb := hd 8 14 zt rfl rfl
   clear hs hd
   unfold Oper.wp
   go_simp
   try go_bits
   exact hK _ _ zr rfl
 intro Xf w' hb hv
 have q3 : Xf 3 = .int .i64 us := hv 9 3 rfl rfl
 have q4 : Xf 4 = .int .i64 wb := hv 10 4 rfl rfl
 clear hv
 simp only [List.map_cons, List.map_nil, q3, q4, puts, Act.put, Nat.reduceAdd, List.setIfInBounds_toArray, List.set_cons_succ, List.set_cons_zero]
 replace gA := gA.below hb
 replace gR := gR.below hb
 replace hBB := bjoin hb hBB
 clear hb hB hU hWb
 generalize w' = wC at *
 go_upto_region 2 with fail
 refine zbg [some 15, some 16, some 17, some 18, some 19, some 20, some 21, some 22, some 23, some 5] [15, 16, 17, 18, 19, 20, 21, 22, 23, 5] [(fun v _ => v = .pointer (some ⟨w.heap.size, 5, none⟩)), (fun v _ => v = .agg #[.slice q.h Z.h.n q.hc, .slice q.s Z.h.m q.sc, .bool Z.h.b]), (fun v _ => v = .pointer (some ⟨w.heap.size, 5, none⟩)), (fun v _ => v = .agg #[.slice q.h Z.h.n q.hc, .slice q.s Z.h.m q.sc, .bool Z.h.b]), (fun v _ => v = .pointer (some ⟨w.heap.size, 8, none⟩)), (fun v _ => v = .slice q.m Z.n q.mc), (HeV Z), (RowV LR.length (fun i => LR[i]?.getD 0)), (fun v _ => v = .int .i64 wr), (fun v _ => v = .int .i64 wr)] (fun _ => false) 24 (by kernel_rfl) (by kernel_rfl) rfl rfl (by decide) (by decide) (by simp) ⟨kv, kv, kv, kv, kv, kv, fun _ _ _ h hb => h.below hb, fun _ _ _ h hb => h.below hb, kv, kv, trivial⟩ ⟨rfl, rfl, rfl, rfl, rfl, rfl, rfl, rfl, rfl, rfl, trivial⟩ ?_ ?_
 ·refine ⟨?_, ?_, ?_, ?_, ?_, ?_, ?_, ?_, ?_, ?_, trivial⟩
  ·intro _ a' w' hb' hs hd Kc hK
   have f1 : a'.tmps[1]?.getD undef = .pointer (some ⟨w.heap.size, 0, none⟩) := (hs 1 (by decide)).trans rfl
   clear hs hd
   unfold Oper.wp
   go_simp
   try go_bits
   exact hK _ _ zr rfl
  ·intro _ a' w' hb' hs hd Kc hK
   have f15 : a'.tmps[15]?.getD undef = .pointer (some ⟨w.heap.size, 5, none⟩) := hd 0 15 zt rfl rfl
   clear hs hd
   have hbW := bjoin hb' hBB
   obtain ⟨l0, -, ⟨a5, a6, a7, a8⟩, -⟩ := zac (gA.below hb')
   unfold Oper.wp
   go_simp
   try go_bits
   exact hK _ _ zr rfl
  ·intro _ a' w' hb' hs hd Kc hK
   have f1 : a'.tmps[1]?.getD undef = .pointer (some ⟨w.heap.size, 0, none⟩) := (hs 1 (by decide)).trans rfl
   clear hs hd
   unfold Oper.wp
   go_simp
   try go_bits
   exact hK _ _ zr rfl
  ·intro _ a' w' hb' hs hd Kc hK
   have f17 : a'.tmps[17]?.getD undef = .pointer (some ⟨w.heap.size, 5, none⟩) := hd 2 17 zt rfl rfl
   clear hs hd
   have hbW := bjoin hb' hBB
   obtain ⟨l0, -, ⟨a5, a6, a7, a8⟩, -⟩ := zac (gA.below hb')
   unfold Oper.wp
   go_simp
   try go_bits
   exact hK _ _ zr rfl
  ·intro _ a' w' hb' hs hd Kc hK
   have f1 : a'.tmps[1]?.getD undef = .pointer (some ⟨w.heap.size, 0, none⟩) := (hs 1 (by decide)).trans rfl
   clear hs hd
   unfold Oper.wp
   go_simp
   try go_bits
   exact hK _ _ zr rfl
  ·intro _ a' w' hb' hs hd Kc hK
   have f19 : a'.tmps[19]?.getD undef = .pointer (some ⟨w.heap.size, 8, none⟩) := hd 4 19 zt rfl rfl
   clear hs hd
   have hbW := bjoin hb' hBB
   obtain ⟨l0, -, ⟨a5, a6, a7, a8⟩, -⟩ := zac (gA.below hb')
   unfold Oper.wp
   go_simp
   try go_bits
   exact hK _ _ zr rfl
  ·intro _ a' w' hb' hs hd Kc hK
   have f20 : a'.tmps[20]?.getD undef = .slice q.m Z.n q.mc := hd 5 20 zt rfl rfl
   clear hs hd
   have hbW := bjoin hb' hBB
   obtain ⟨l0, -, ⟨a5, a6, a7, a8⟩, -⟩ := zac (gA.below hb')
   unfold Oper.wp
   go_simp
   refine zm (hH _ hbW) ?_
   rintro e w'' ⟨v9, rfl, hA, hb2⟩
   exact hK _ _ hb2 hA
  ·intro _ a' w' hb' hs hd Kc hK
   have f18 : a'.tmps[18]?.getD undef = .agg #[.slice q.h Z.h.n q.hc, .slice q.s Z.h.m q.sc, .bool Z.h.b] := hd 3 18 zt rfl rfl
   have f21 : (HeV Z) (a'.tmps[21]?.getD undef) w' := hd 6 21 zt rfl rfl
   clear hs hd
   have hbW := bjoin hb' hBB
   obtain ⟨l0, -, ⟨a5, a6, a7, a8⟩, -⟩ := zac (gA.below hb')
   unfold Oper.wp
   go_simp
   refine zm (hFr _ _ hbW f21) ?_
   rintro e w'' ⟨v9, rfl, hA, hb2⟩
   exact hK _ _ hb2 hA
  ·intro _ a' w' hb' hs hd Kc hK
   have f16 : a'.tmps[16]?.getD undef = .agg #[.slice q.h Z.h.n q.hc, .slice q.s Z.h.m q.sc, .bool Z.h.b] := hd 1 16 zt rfl rfl
   have f22 : (RowV LR.length (fun i => LR[i]?.getD 0)) (a'.tmps[22]?.getD undef) w' := hd 7 22 zt rfl rfl
   clear hs hd
   have hbW := bjoin hb' hBB
   obtain ⟨l0, -, ⟨a5, a6, a7, a8⟩, -⟩ := zac (gA.below hb')
   unfold Oper.wp
   go_simp
   refine zm (hWr _ _ hbW f22) ?_
   rintro e w'' ⟨rfl, hb2⟩
   exact hK _ _ hb2 rfl
  ·intro _ a' w' hb' hs hd Kc hK
   have f23 : a'.tmps[23]?.getD undef = .int .i64 wr := hd 8 23 zt rfl rfl
   clear hs hd
   unfold Oper.wp
   go_simp
   try go_bits
   exact hK _ _ zr rfl
 intro Xf w' hb hv
 have q5 : Xf 5 = .int .i64 wr := hv 9 5 rfl rfl
 clear hv
 simp only [List.map_cons, List.map_nil, q5, puts, Act.put, Nat.reduceAdd, List.setIfInBounds_toArray, List.set_cons_succ, List.set_cons_zero]
 replace gA := gA.below hb
 replace gR := gR.below hb
 replace hBB := bjoin hb hBB
 clear hb hH hFr hWr
 generalize w' = wD at *
 obtain ⟨l0, -, ⟨a5, a6, a7, a8⟩, -, -, -, a19, -⟩ := zac gA
 have lR := gR.lt
 have r0 := gR.cell 0
 have r1 := gR.cell 1
 have r2 := gR.cell 2
 have r3 := gR.cell 3
 have r4 := gR.cell 4
 have j0 := gR.frozen 0
 have j1 := gR.frozen 1
 have j2 := gR.frozen 2
 have j3 := gR.frozen 3
 have j4 := gR.frozen 4
 simp only [List.getElem?_toArray, List.getElem?_cons_zero, List.getElem?_cons_succ] at r0 r1 r2 r3 r4
 go_wp2
 refine bodyPost_ret (by simp [results, Tryz.results14, go_sem, *]; try rfl) rfl ?_
 exact ⟨by rw [hTe.out], by go_grown⟩
theorem zii {N N' : Nat} {E : TypeId} (h : RowE N' E n p W) (hn : ∀ b off sp, p = some ⟨b, off, sp⟩ → N' ≤ b) : RowE N E n p W := fun h0 b off sp e => by
 obtain ⟨hl, h1⟩ := h h0 b off sp e
 refine ⟨hl, ?_⟩
 rcases h1 with h1 | h1
 ·have := hn b off sp e; omega
 ·exact .inr h1
theorem zc5 {N : Nat} {E : TypeId} : RowE N E 0 p W := fun h0 => absurd h0 (Nat.lt_irrefl 0)
theorem zuj {N N' : Nat} {r : Int} {nb : Nat} {br : Nat → Int} {nr : Nat} {ro : Nat → Vl} {pg : Option Addr} {cg : Nat} {pb : Option Addr} {cb : Nat} {pr : Option Addr} {cr : Nat} 
  (h : MAtE N' W (newM r nb br nr ro) pg cg pb cb pr cr) (hr : ∀ b off sp, pr = some ⟨b, off, sp⟩ → N' ≤ b) (hb : ∀ b off sp, pb = some ⟨b, off, sp⟩ → N' ≤ b) : MAtE N W (newM r nb br nr ro) pg cg pb cb pr cr where
 g := h.g
 ge := zc5
 b := ⟨fun i hi => by
  obtain ⟨bb, off, L, e, hl, hL, hc, p2, c2, eL, hg, -, hw⟩ := h.b.row i hi
  exact ⟨bb, off, L, e, hl, hL, hc, p2, c2, eL, hg, zc5, hw⟩, h.b.nle, h.b.pnil, h.b.ncap⟩
 be := zii h.be hb
 r := h.r
 re := zii h.re hr
theorem zxy {r : Int} {nb : Nat} {br : Nat → Int} {nr : Nat} {ro : Nat → Vl} (h0 : 0 ≤ r) (h1 : r ≤ 16) : In64 (newM r nb br nr ro).g.r ∧ In64 (newM r nb br nr ro).ob ∧ In64 (newM r nb br nr ro).fi ∧ In64 (newM r nb br nr ro).cu :=
 ⟨(show In64 r from ⟨by omega, by omega⟩), (show In64 (-1) from ⟨by decide, by decide⟩), (show In64 0 from ⟨by decide, by decide⟩), (show In64 (-1) from ⟨by decide, by decide⟩)⟩
theorem WdE.marked {N : Nat} {Z : Wd} {q : Wp} (hv : WdE N W Z q) {m : Mk} {pg : Option Addr} {cg : Nat} {pb : Option Addr} {cb : Nat} {pr : Option Addr} {cr : Nat} (hm : MAtE N W m pg cg pb cb pr cr) (hw : In64 m.g.r ∧ In64 m.ob ∧ In64 m.fi ∧ In64 m.cu) :
  WdE N W { Z with m := m } { q with g := pg, gc := cg, b := pb, bc := cb, r := pr, rc := cr } :=
 ⟨hv.heap, hv.muts, hv.me, hm, hv.reps, hv.oe, hv.conf, hw, hv.own⟩
theorem WdE.owned {N : Nat} {Z : Wd} {q : Wp} (hv : WdE N W Z q) {ph : Int} {wa : Bool} {cy : Int} (h1 : In64 ph) (h2 : In64 cy) : WdE N W { Z with ph := ph, wa := wa, cy := cy } q :=
 ⟨hv.heap, hv.muts, hv.me, hv.mark, hv.reps, hv.oe, hv.conf, hv.wm, ⟨h1, h2⟩⟩
theorem CyS.carry {N : Nat} {Z Y : Wd} {q qy : Wp} {R : Array Value} (h : CyS N w Z q R W) (hN : N ≤ w.heap.size) (hX : WdE N W Y qy) (hF : formB Y.h = true) (k : Nat) (vs : List Value) : WdE N (putsL w.heap.size k vs W) Y qy :=
 have hm := zad.1 hF
 hX.aside h.x.varW hN (by omega) (by omega) (zay (T := fun k => k = w.heap.size) rfl vs k W)
theorem zle (x : Int) : In64 (wrap64 x) := by unfold In64 wrap64; omega
noncomputable def biM (W : Wd) : Wd × Int :=
 if W.wa = true then ({ W with h := flipB W.h, m := newM W.c3 W.n (fun _ => W.c4) (rootL W.h W.z W.n).length (lvF (rootL W.h W.z W.n)), wa := false, ph := 1, cy := wrap64 (W.cy + 1) }, 3) else (W, 0)
theorem zo1 (N : Nat) (Z : Wd) (q : Wp) (w : World) (hN : N ≤ w.heap.size) (hS : Sz w) (hv : WdE N w Z q) (hFW : FormW Z) :
  Calls Tryz.prog 59 #[.agg (Z.cells q).toArray] w fun e w' => ∃ q', e = .returned (.tuple #[.agg ((biM Z).1.cells q').toArray, .int .i64 (biM Z).2]) ∧ WdE N w' (biM Z).1 q' ∧ Below w.heap.size w w' := by
 obtain ⟨hn8, hst8⟩ := ze9 hFW
 obtain ⟨-, -, -, ⟨k0, k1⟩, k2, k3⟩ := zgo.1 hFW.may
 have hF := hFW.hF
 obtain ⟨SW, hSW⟩ : ∃ x, x = biM Z := ⟨_, rfl⟩
 rw [← hSW]
 obtain ⟨R0, hR0⟩ : ∃ R : Array Value, R = #[.int .i64 0, .int .i64 0, .int .i64 0, .int .i64 0, .int .i64 0, .slice none 0 0, .slice none 0 0, .bool false, .slice none 0 0, .int .i64 0, .slice none 0 0, .slice none 0 0, .slice none 0 0, .int .i64 0, .int .i64 0, .int .i64 0, .bool false, .int .i64 0, .bool false, .int .i64 0, .slice none 0 0] := ⟨_, rfl⟩
 have hRs : R0.size = 21 := by rw [hR0]; rfl
 have hRp : PlainC R0 := by rw [hR0]; exact zbh zeW zeP
 obtain ⟨wB, hwB⟩ : ∃ W, W = (w.alloc (.cells (Z.cells q).toArray 38)).alloc (.cells R0 38) := ⟨_, rfl⟩
 have hC := zfr hv hwB
 obtain ⟨lx, ⟨a0, a1, a2, a3, a4⟩, ⟨a5, a6, a7, a8⟩, -, -, a18, -, -⟩ := zac hC.x
 cases hwa : Z.wa with
 | false =>
  have hR : Hid (SW = (Z, 0)) := by show SW = _; rw [hSW]; unfold biM; rw [hwa, if_neg (by decide)]
  clear hSW
  rw [hwa] at a18
  go_enter Tryz.func59, Tryz.ntmps59
  go_upto_region 1 with fail
  rw [← hR0, ← hwB]
  clear hwB hR0
  go_upto_region 2 with fail
  refine wp_region_lit ?_
  refine ld_w hC.x rfl ?_
  refine st_w hC.r hRs rfl rfl fun wz gZ hst => ?_
  obtain ⟨hEz, hbz⟩ := hC.fin hN hF hRs hRp hst
  go_wp2
  refine bodyPost_ret (zdr rfl rfl gZ) rfl ?_
  exact ⟨q, by rw [hR.out]; rfl, by rw [hR.out]; exact hEz, hbz⟩
 | true =>
  have hR : Hid (SW = ({ Z with h := flipB Z.h, m := newM Z.c3 Z.n (fun _ => Z.c4) (rootL Z.h Z.z Z.n).length (lvF (rootL Z.h Z.z Z.n)), wa := false, ph := 1, cy := wrap64 (Z.cy + 1) }, 3)) := by show SW = _; rw [hSW]; unfold biM; rw [if_pos hwa]
  clear hSW
  rw [hwa] at a18
  have hBg := fun W (hW : Below wB.heap.size wB W) => zod Z.c0 Z.c1 Z.c2 Z.c3 Z.c4 q.h q.hc q.s q.sc Z.h Z.n Z.z q.m q.mc W ((hS.below hC.b).below hW) ⟨k0, k1⟩ ⟨k2, by omega⟩ (hC.below hW).e.heap hF (hC.below hW).e.in.muts (by omega) (fun i hi => by have := hst8 i hi; omega)
  obtain ⟨RN, hRN⟩ : ∃ R, R = (rootL Z.h Z.z Z.n).length := ⟨_, rfl⟩
  obtain ⟨RF, hRF⟩ : ∃ R, R = lvF (rootL Z.h Z.z Z.n) := ⟨_, rfl⟩
  rw [← hRN, ← hRF] at hR hBg
  clear hRN hRF
  go_enter Tryz.func59, Tryz.ntmps59
  go_upto_region 1 with fail
  rw [← hR0, ← hwB]
  clear hwB hR0
  go_upto_region 3 with fail
  have hcell := fun (W : World) (h : CyS N w Z q R0 W) => zac h.x
  have j5 := fun (W : World) (h : CyS N w Z q R0 W) k => h.x.frozen k
  go_upto_region 4 with (first
  | (go_at_call 93; refine zm (hBg _ (by go_grown)) ?_; rintro e w4 ⟨p4, c4, q4, d4, pg, cg, pb, cb, pr, cr, rfl, hI4, hM4, ⟨-, -, hnr, hnb⟩, hb4⟩; have hC4 := hC.below hb4; obtain ⟨lx4, -, ⟨b5, b6, b7, b8⟩, ⟨b9, b10, b11, b12, b13, b14, b15, b16⟩, b17, b18, b19, -⟩ := zac hC4.x; have z5 := hC4.x.frozen 5; have z6 := hC4.x.frozen 6; have z7 := hC4.x.frozen 7; have z9 := hC4.x.frozen 9; have z10 := hC4.x.frozen 10; have z11 := hC4.x.frozen 11; have z12 := hC4.x.frozen 12; have z13 := hC4.x.frozen 13; have z14 := hC4.x.frozen 14; have z15 := hC4.x.frozen 15; have z16 := hC4.x.frozen 16)
  )
  have hFf : formB (flipB Z.h) = true := hF
  have hE1 := hC4.e.heaped hI4.at'
  have hE2 := hE1.marked (zuj hM4 hnr hnb) (zxy k0 k1)
  have h5 := hC4.puts hN hE1 hFf 5 [.slice p4 Z.h.n c4, .slice q4 Z.h.m d4, .bool (!Z.h.b)] rfl
  have hE3 := hC4.carry hN hE2 hFf 5 [.slice p4 Z.h.n c4, .slice q4 Z.h.m d4, .bool (!Z.h.b)]
  have h6 := h5.puts hN hE3 hFf 9 [.int .i64 Z.c3, .slice pg 0 cg, .slice pb Z.n cb, .slice pr RN cr, .int .i64 (-1), .int .i64 0, .int .i64 (-1), .bool false] (by simp only [setFrom, List.setIfInBounds_toArray, List.set_cons_zero, List.set_cons_succ]; rfl)
  obtain ⟨Z2, hZ2⟩ : ∃ Y, Y = ({ Z with h := flipB Z.h, m := newM Z.c3 Z.n (fun _ => Z.c4) RN RF } : Wd) := ⟨_, rfl⟩
  obtain ⟨q2, hq2⟩ : ∃ y, y = ({ q with h := p4, hc := c4, s := q4, sc := d4, g := pg, gc := cg, b := pb, bc := cb, r := pr, rc := cr } : Wp) := ⟨_, rfl⟩
  replace h6 : CyS N w Z2 q2 R0 (putsL w.heap.size 9 [.int .i64 Z.c3, .slice pg 0 cg, .slice pb Z.n cb, .slice pr RN cr, .int .i64 (-1), .int .i64 0, .int .i64 (-1), .bool false] (putsL w.heap.size 5 [.slice p4 Z.h.n c4, .slice q4 Z.h.m d4, .bool (!Z.h.b)] w4)) := by rw [hZ2, hq2]; exact h6
  have hF2 : formB Z2.h = true := by rw [hZ2]; exact hFf
  have e19 : Z2.cy = Z.cy := by rw [hZ2]
  have hR2 : Hid (SW = ({ Z2 with ph := 1, wa := false, cy := wrap64 (Z.cy + 1) }, 3)) := by show SW = _; rw [hR.out, hZ2]
  obtain ⟨w5, hw5⟩ : ∃ W, W = putsL w.heap.size 9 [.int .i64 Z.c3, .slice pg 0 cg, .slice pb Z.n cb, .slice pr RN cr, .int .i64 (-1), .int .i64 0, .int .i64 (-1), .bool false] (putsL w.heap.size 5 [.slice p4 Z.h.n c4, .slice q4 Z.h.m d4, .bool (!Z.h.b)] w4) := ⟨_, rfl⟩
  rw [← hw5] at h6
  simp only [putsL, Nat.reduceAdd] at hw5
  rw [← hw5]
  clear hw5 hZ2 hq2 hE1 hE2 hE3 h5 hC4 hI4 hM4 hnr hnb hR hBg hcell j5 b5 b6 b7 b8 b9 b10 b11 b12 b13 b14 b15 b16 b17 b18 b19 z5 z6 z7 z9 z10 z11 z12 z13 z14 z15 z16 lx4 hb4 a0 a1 a2 a3 a4 a5 a6 a7 a8 a18 hC lx
  obtain ⟨lx, -, -, -, b17, b18, b19, -⟩ := zac h6.x
  have z17 := h6.x.frozen 17
  have z18 := h6.x.frozen 18
  have z19 := h6.x.frozen 19
  rw [e19] at b19
  go_upto_region 5 with fail
  have h7 := h6.puts hN (h6.e.owned (ph := Z2.ph) (wa := false) (cy := Z2.cy) h6.e.own.1 h6.e.own.2) hF2 18 [.bool false] rfl
  have h8 := h7.puts hN (h7.e.owned (ph := Z2.ph) (wa := false) (cy := wrap64 (Z.cy + 1)) h6.e.own.1 (zle _)) hF2 19 [.int .i64 (wrap64 (Z.cy + 1))] rfl
  have h9 := h8.puts hN (h8.e.owned (ph := 1) (wa := false) (cy := wrap64 (Z.cy + 1)) ⟨by decide, by decide⟩ (zle _)) hF2 17 [.int .i64 1] rfl
  simp only [putsL] at h9
  clear h7 h8 lx b17 b18 b19 z17 z18 z19 h6
  generalize ((w5.setCell ⟨w.heap.size, 18, none⟩ (.bool false)).setCell ⟨w.heap.size, 19, none⟩ (.int .i64 (wrap64 (Z.cy + 1)))).setCell ⟨w.heap.size, 17, none⟩ (.int .i64 1) = w6 at *
  refine wp_region_lit ?_
  refine ld_w h9.x rfl ?_
  refine st_w h9.r hRs rfl rfl fun wz gZ hst => ?_
  obtain ⟨hEz, hbz⟩ := h9.fin hN hF2 hRs hRp hst
  go_wp2
  refine bodyPost_ret (zdr rfl rfl gZ) rfl ?_
  exact ⟨q2, by rw [hR2.out]; rfl, by rw [hR2.out]; exact hEz, hbz⟩
theorem znt : (Tryz.prog.info? 47).map (fun i => (i.zero, i.size, i.bytes)) = some (some (.agg #[.int .i64 0, .int .i64 0, .int .i64 0, .int .i64 0, .int .i64 0]), 5, 40) := by kernel_rfl
theorem zrt (n : Nat) (w : World) (h1 : n ≤ 1000001) :
  Calls Tryz.prog 169 #[.slice none 0 0, .int .i64 n] w fun e w' => ∃ p' c', e = .returned (.slice p' 0 c') ∧ w'.ownsRow w.heap.size 47 5 (.slice p' 0 c') 0 [] ∧ Below w.heap.size w w' := by
 by_cases h0 : n = 0
 ·subst h0
  go_enter Tryz.func169, Tryz.ntmps169
  go_wp2
  go_returns
  exact ⟨none, 0, rfl, World.ownsRow_nil _ _ _ _, zr⟩
 replace h0 : 1 ≤ n := by omega
 obtain ⟨i0, hi, hz0, hz1, hz2⟩ := info_parts znt
 have hrz : ∀ ty, (Builtin.append_ #[36, 3] ty #[.slice none 0 0, .int .i64 n]).run Tryz.prog w = _ := fun ty =>
  Lib.run_append_nil_zeros w 36 3 ty 47 i0 (.agg #[.int .i64 0, .int .i64 0, .int .i64 0, .int .i64 0, .int .i64 0]) .i64 .i64 Tryz.underlying36 Tryz.underlying3 hi hz0 n h0 (by rw [hz1]; decide) (by omega) (by rw [hz2]; omega)
 have hG := grownCap_ge w n 0 47
 have hG2 := grownCap_le_maxLen w n 0 47 (by unfold maxLen; omega)
 generalize grownCap w n 0 47 = G at *
 obtain ⟨w2, hw2⟩ : ∃ w2, w2 = w.drew.alloc (.cells (Builtin.zeroCells (Value.agg #[.int .i64 0, .int .i64 0, .int .i64 0, .int .i64 0, .int .i64 0]).cells n ++ Builtin.zeroCells (Value.agg #[.int .i64 0, .int .i64 0, .int .i64 0, .int .i64 0, .int .i64 0]).cells (G - n)) 47) := ⟨_, rfl⟩
 have hsz : (Builtin.zeroCells (Value.agg #[.int .i64 0, .int .i64 0, .int .i64 0, .int .i64 0, .int .i64 0]).cells n ++ Builtin.zeroCells (Value.agg #[.int .i64 0, .int .i64 0, .int .i64 0, .int .i64 0, .int .i64 0]).cells (G - n)).size = G * 5 := by
  simp only [Array.size_append, Go.size_zeroCells]; show n * 5 + (G - n) * 5 = G * 5; omega
 have hown : w2.ownsRow w.heap.size 47 5 (.slice (some ⟨w.heap.size, 0, none⟩) 0 G) 0 [] := by
  rw [hw2]
  exact World.ownsRow_made w.drew _ G (Nat.le_refl _) hG2 hsz
 have hb : Below w.heap.size w w2 := by rw [hw2]; exact (show Below w.heap.size w w.drew from ⟨rfl, rfl, rfl, Nat.le_refl _, fun _ _ => rfl⟩).alloc (Nat.le_refl _) _
 rw [← hw2] at hrz
 simp only [maxLen] at hG2
 clear hw2 hsz
 go_enter Tryz.func169, Tryz.ntmps169
 go_wp2_with (at_builtin; refine Lib.wpList_append_run _ rfl _ _ _ _ rfl _ _ rfl rfl _ _ (hrz _) ?_)
 go_returns
 exact ⟨_, _, rfl, hown, hb⟩
theorem zlw (b : Nat) (p q : Option Addr) (n c m d : Nat) (xs ys : List Value) (w : World) (hlt : b < w.heap.size) (g0 : w.cell? ⟨b, 0, none⟩ = some (.slice p n c)) (g1 : w.cell? ⟨b, 1, none⟩ = some (.slice q m d)) 
  (hp : xs.length = n * 5 ∧ (∀ ad, p = some ad → ∀ j u, xs[j]? = some u → w.cell? (ad.add j) = some u) ∧ (∀ u ∈ xs, u.oneCell' = true) ∧ (p = none → n = 0 ∧ c = 0))
  (hq : ys.length = m * 5 ∧ (∀ ad, q = some ad → ∀ j u, ys[j]? = some u → w.cell? (ad.add j) = some u) ∧ (∀ u ∈ ys, u.oneCell' = true) ∧ (q = none → m = 0 ∧ d = 0))
  (h1 : n + m ≤ 1000001) :
  Calls Tryz.prog 137 #[.slice (some ⟨b, 0, none⟩) 2 2] w fun e w' => ∃ p' c', e = .returned (.slice p' (n + m : Nat) c') ∧ w'.ownsRow w.heap.size 47 5 (.slice p' (n + m) c') (n + m) (xs ++ ys) ∧ Below w.heap.size w w' := by
 obtain ⟨i0, hi, hz0, hz1, hz2⟩ := info_parts znt
 obtain ⟨x1, x2, x3, x4⟩ := hp
 obtain ⟨y1, y2, y3, y4⟩ := hq
 have x2' : ∀ {W : World}, Below w.heap.size w W → ∀ ad, p = some ad → ∀ j u, xs[j]? = some u → W.cell? (ad.add j) = some u := fun hb ad e j u hj => by
  have := x2 ad e j u hj
  exact (hb.cell (World.block_lt_of_cell? _ _ this)).trans this
 have y2' : ∀ {W : World}, Below w.heap.size w W → ∀ ad, q = some ad → ∀ j u, ys[j]? = some u → W.cell? (ad.add j) = some u := fun hb ad e j u hj => by
  have := y2 ad e j u hj
  exact (hb.cell (World.block_lt_of_cell? _ _ this)).trans this
 clear x2 y2
 go_enter Tryz.func137, Tryz.ntmps137
 go_wp2
 go_loopg [3, 11] 2 (fun g sv iv wr => (g = 2 ∧ iv = .int .i64 0 ∧ sv = .int .i64 0 ∨ g = 1 ∧ iv = .int .i64 1 ∧ sv = .int .i64 n ∨ g = 0 ∧ iv = .int .i64 2 ∧ sv = .int .i64 ((n : Int) + m)) ∧ Below w.heap.size w wr)
 case atStart => exact ⟨.inl ⟨rfl, rfl, rfl⟩, zr⟩
 case round =>
  obtain ⟨hcase, hbw⟩ := hrel
  have e0 := zcl hbw hlt g0
  have e1 := zcl hbw hlt g1
  rcases hcase with ⟨rfl, rfl, rfl⟩ | ⟨rfl, rfl, rfl⟩ | ⟨rfl, rfl, rfl⟩
  ·go_wp2
   go_roundg 1
   case measure => omega
   case rel => exact ⟨.inr (.inl ⟨rfl, rfl, rfl⟩), hbw⟩
  ·have hnn : ¬ (n : Int) + m < 0 := by omega
   go_wp2
   go_roundg 0
   case measure => omega
   case rel => exact ⟨.inr (.inr ⟨rfl, rfl, rfl⟩), hbw⟩
  ·have hG := zrt (n + m) wr (by omega)
   rw [Int.natCast_add] at hG
   go_upto_region 10 with (first
  | (go_at_call 169; refine zm (hG) ?_; rintro e w' ⟨p9, c9, rfl, ho9, hb⟩; obtain ⟨hc, hf, hb, hz⟩ := bstep hb (w := wr) (by go_grown); try simp only [za, zb, zd] at hc hf hz)
   )
   have hsz := hbw.size
   have hbx : Below w.heap.size w w' := hbw.trans (hb.mono hsz)
   have hox := zag ho9 hsz
   clear hb hc hf hbw ho9 e0 e1 hG
   generalize w' = w9 at *
   go_wp2
   go_loopg [6, 27] 2 (fun g ov iv wr => (g = 2 ∧ iv = .int .i64 0 ∧ wr.ownsRow w.heap.size 47 5 ov 0 [] ∨ g = 1 ∧ iv = .int .i64 1 ∧ wr.ownsRow w.heap.size 47 5 ov n xs ∨ g = 0 ∧ iv = .int .i64 2 ∧ wr.ownsRow w.heap.size 47 5 ov (n + m) (xs ++ ys)) ∧ Below w.heap.size w wr)
   case atStart => exact ⟨.inl ⟨rfl, rfl, hox⟩, hbx⟩
   case round =>
    obtain ⟨hcase, hbw⟩ := hrel
    have hsz := hbw.size
    have e0 := zcl hbw hlt g0
    have e1 := zcl hbw hlt g1
    rcases hcase with ⟨rfl, rfl, ho⟩ | ⟨rfl, rfl, ho⟩ | ⟨rfl, rfl, ho⟩
    ·go_wp2_with (first
      | (at_builtin; refine zai rfl (.tmp 31) (.tmp 32) 36 rfl w.heap.size 47 i0 (.agg #[.int .i64 0, .int .i64 0, .int .i64 0, .int .i64 0, .int .i64 0]) 5 40 Tryz.underlying36 hi hz0 hz1 hz2 rfl (by decide) _ _ _ rfl ho p n c xs rfl x1 (x2' hbw) x3 x4 (by simp only [maxLen]; omega) (by omega) hsz ?_; intro ov w1 ho1 hgrow)
     )
     have hb1 := hbw.grown hgrow hsz (fun k hk => (ho.lt k hk).1)
     rw [List.nil_append, Nat.zero_add] at ho1
     go_roundg 1
     case measure => omega
     case rel => exact ⟨.inr (.inl ⟨rfl, rfl, ho1⟩), hb1⟩
    ·go_wp2_with (first
      | (at_builtin; refine zai rfl (.tmp 31) (.tmp 32) 36 rfl w.heap.size 47 i0 (.agg #[.int .i64 0, .int .i64 0, .int .i64 0, .int .i64 0, .int .i64 0]) 5 40 Tryz.underlying36 hi hz0 hz1 hz2 rfl (by decide) _ _ _ rfl ho q m d ys rfl y1 (y2' hbw) y3 y4 (by simp only [maxLen]; omega) (by omega) hsz ?_; intro ov w1 ho1 hgrow)
     )
     have hb1 := hbw.grown hgrow hsz (fun k hk => (ho.lt k hk).1)
     go_roundg 0
     case measure => omega
     case rel => exact ⟨.inr (.inr ⟨rfl, rfl, ho1⟩), hb1⟩
    ·obtain ⟨pp, cc, ff, -⟩ := zaf ho
     rw [ff] at ho ⊢
     clear ff
     go_wp2
     go_returns
     exact ⟨pp, cc, rfl, ho, hbw⟩
end Go.Proofs.YtkehankfnkjnlaaGreatDoor
