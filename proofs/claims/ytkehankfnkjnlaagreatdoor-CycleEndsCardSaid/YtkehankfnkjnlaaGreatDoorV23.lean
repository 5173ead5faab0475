import Derived.Test.YtkehankfnkjnlaaGreatDoorV22
namespace Go.Proofs.YtkehankfnkjnlaaGreatDoor
set_option linter.unusedSimpArgs false
set_option linter.unusedVariables false
set_option maxHeartbeats 16000000
set_option maxRecDepth 20000
open Go.ChangeAt Go.ChangeShapes Go.Joins Go.RowKit Go.WideShapes
variable {h : Hp} {w w' W W' : World} {p q : Option Addr} {n g : Nat} {a : Int} {v : Value}
theorem zxz (hF : formB h = true) (hw : h.wf) (a i : Int) : (⟨getK (fdX h a i), getN (fdX h a i)⟩ : Vl).wf := by
 have hx : 0 ≤ fdX h a i ∧ fdX h a i ≤ 18446744073709551615 := by
  rcases ze4 h a i with ⟨ho, i0, i1, -, e⟩ | ⟨-, -, -, e⟩ | ⟨-, -, e⟩
  ·rw [e]
   obtain ⟨-, -, a0, a1, a5, a6, -, -, eN, -⟩ := zbj hF ho
   rw [eN] at i1
   have hlt : (a + 1 + i).toNat < h.n := by omega
   have := hw.1 _ hlt
   have e2 : woH h (a + 1 + i) = h.z (a + 1 + i).toNat := rfl
   rw [e2]
   simp [Lit.wf, IntKind.min, IntKind.max, IntKind.signed, IntKind.bits] at this
   omega
  ·rw [e]; omega
  ·rw [e]; omega
 generalize fdX h a i = x at *
 refine ⟨za6 ?_ ?_, za6 ?_ ?_⟩ <;> unfold getK <;> (try unfold getN) <;> dsimp only <;> (repeat (first | split | omega))
def LV (L : List Vl) : List Value := vlVals L.length fun i => L[i]?.getD ⟨0, 0⟩
theorem zx1 (L : List Vl) (v : Vl) : LV L ++ v.vals = LV (L ++ [v]) := by
 unfold LV
 rw [List.length_append, List.length_singleton, ← zcp]
 congr 1
 ·exact zj3 fun i hi => by rw [List.getElem?_append_left hi]
 ·rw [List.getElem?_append_right (Nat.le_refl _), Nat.sub_self]; rfl
theorem zi3 {N : Nat} {c : Nat} {L : List Vl} (h : W.ownsRow N 70 2 (.slice p L.length c) L.length (LV L)) (hn : L.length ≤ maxLen) (hw : ∀ v ∈ L, v.wf) : VAt W p c L.length fun i => L[i]?.getD ⟨0, 0⟩ :=
 zf4 h hn fun i hi => by rw [List.getElem?_eq_getElem hi]; exact hw _ (List.getElem_mem hi)
theorem zja : ∀ (k : Nat) (L : List Vl), L.length = k → LV L = L.flatMap Vl.vals
 | 0, L, h => by
  obtain rfl := List.eq_nil_of_length_eq_zero h
  rfl
 | k + 1, L, h => by
  obtain ⟨L', v, rfl⟩ : ∃ L' v, L = L' ++ [v] := ⟨L.dropLast, L.getLast (by intro e; rw [e] at h; cases h), (List.dropLast_concat_getLast _).symm⟩
  rw [← zx1, zja k L' (by simpa using h)]
  simp
theorem zju (A B : List Vl) : LV A ++ LV B = LV (A ++ B) := by
 rw [zja _ A rfl, zja _ B rfl, zja _ _ rfl, List.flatMap_append]
theorem zj2 (L : List Vl) : (LV L).length = L.length * 2 := za8 _ _
theorem LV_one (L : List Vl) : ∀ u ∈ LV L, u.oneCell' = true := zcd _ _
theorem ztu {m : Mu} (h : m.wf) : ∀ v ∈ regL m, v.wf := fun v hv => by
 unfold regL at hv
 rcases List.mem_append.1 hv with hv | hv
 ·split at hv
  ·rw [List.mem_singleton.1 hv]; exact ⟨(show (Lit.int .i64 2).wf = true by decide), za6 h.o.1 h.o.2⟩
  ·cases hv
 ·split at hv
  ·rw [List.mem_singleton.1 hv]; exact h.v
  ·cases hv
theorem zcu {T g : Nat} {x0 x1 x2 x3 x4 x5 x6 x7 x8 x9 x10 x11 x12 : Value} (h : TBox T g #[x0, x1, x2, x3, x4, x5, x6, x7, x8, x9, x10, x11, x12] w) :
  g < w.heap.size ∧ w.cell? ⟨g, 0, none⟩ = some x0 ∧ w.cell? ⟨g, 1, none⟩ = some x1 ∧ w.cell? ⟨g, 2, none⟩ = some x2 ∧ w.cell? ⟨g, 3, none⟩ = some x3 ∧ w.cell? ⟨g, 4, none⟩ = some x4 ∧ w.cell? ⟨g, 5, none⟩ = some x5 ∧ w.cell? ⟨g, 6, none⟩ = some x6 ∧ w.cell? ⟨g, 7, none⟩ = some x7 ∧ w.cell? ⟨g, 8, none⟩ = some x8 ∧ w.cell? ⟨g, 9, none⟩ = some x9 ∧ w.cell? ⟨g, 10, none⟩ = some x10 ∧ w.cell? ⟨g, 11, none⟩ = some x11 ∧ w.cell? ⟨g, 12, none⟩ = some x12 :=
 ⟨h.lt, h.cell 0, h.cell 1, h.cell 2, h.cell 3, h.cell 4, h.cell 5, h.cell 6, h.cell 7, h.cell 8, h.cell 9, h.cell 10, h.cell 11, h.cell 12⟩
def fewU (z : Nat → Mu) (n : Nat) : Bool := decide ((∀ i, i < n → i < 20 → (z i).n ≤ 20) ∧ n ≤ 10)
theorem few_u {z : Nat → Mu} (h : fewU z n = true) : n ≤ 10 ∧ ∀ i, i < n → (z i).n ≤ 20 := by
 simp only [fewU, decide_eq_true_eq] at h
 exact ⟨h.2, fun i hi => h.1 i hi (by omega)⟩
theorem RAt.mu {c n : Nat} {z : Nat → Mu} (h : RAt MuC 13 W p c n z) {i : Nat} (hi : i < n) :
  ∃ bb off ps cs, p = some ⟨bb, off, none⟩ ∧ bb < W.heap.size ∧ (∀ k u, ((z i).cells ps cs)[k]? = some u → W.cell? ⟨bb, off + i * 13 + k, none⟩ = some u) ∧ VAt W ps cs (z i).n (z i).st ∧ (z i).wf := by
 obtain ⟨bb, off, L, e, hl, -, hc, ps, cs, rfl, hv, hw⟩ := h.row i hi
 exact ⟨bb, off, ps, cs, e, hl, hc, hv, hw⟩
theorem zo5 (n : Nat) (z : Nat → Mu) (p : Option Addr) (c : Nat) (w : World) (hz : RAt MuC 13 w p c n z) :
  Calls Tryz.prog 55 #[.slice p n c] w fun e w' => e = .returned (.bool (fewU z n)) ∧ Below w.heap.size w w' := by
 go_enter Tryz.func55, Tryz.ntmps55
 go_wp2
 go_loopg [3] n (fun g iv wr => ∃ i : Nat, i ≤ n ∧ i ≤ 20 ∧ g = n - i ∧ iv = .int .i64 i ∧ (∀ j, j < i → (z j).n ≤ 20) ∧ Below w.heap.size w wr)
 case atStart => exact ⟨0, by omega, by omega, by omega, rfl, fun j hj => absurd hj (Nat.not_lt_zero _), zr⟩
 case round =>
  obtain ⟨i, ih, i20, rfl, rfl, hall, hbw⟩ := hrel
  by_cases hi : i < n ∧ i < 20
  ·obtain ⟨hi, hi2⟩ := hi
   obtain ⟨bb, off, ps, cs, rfl, hlt, hc, -, -⟩ := (hz.below zat hbw).mu hi
   have v0 := hc 0 _ rfl
   rw [Nat.add_zero] at v0
   clear hc
   by_cases e : (z i).n ≤ 20
   ·have hall2 : Hid (∀ j, j < i + 1 → (z j).n ≤ 20) := fun j hj => by
     by_cases e' : j = i
     ·subst e'; exact e
     ·exact hall j (by omega)
    clear hall
    generalize (z i).n = k at *
    go_wp2
    go_roundg (n - (i + 1))
    case measure => omega
    case rel => exact ⟨i + 1, by omega, by omega, rfl, by go_num, hall2.out, hbw⟩
   ·have hF : Hid (fewU z n = false) := by
     show fewU z n = false
     simp only [fewU, decide_eq_false_iff_not]
     exact fun h => e (h.1 i hi hi2)
    clear hall
    generalize (z i).n = k at *
    go_wp2
    go_returns
    exact ⟨zab hF.out.symm, hbw⟩
  ·have hF : Hid (fewU z n = decide (n ≤ 10)) := by
    show fewU z n = _
    rw [Bool.eq_iff_iff]
    simp only [fewU, decide_eq_true_eq]
    constructor
    ·rintro ⟨-, h2⟩; exact h2
    ·intro h2; exact ⟨fun j hj hj2 => hall j (by omega), h2⟩
   clear hall
   have hor : n ≤ i ∨ 20 ≤ i := by omega
   clear hi
   rcases hor with hor | hor
   ·obtain rfl : i = n := by omega
    go_wp2
    all_goals
     go_returns
     exact ⟨zab (by rw [hF.out]; first | (rw [Bool.eq_iff_iff]; simp only [decide_eq_true_eq, Bool.and_eq_true, Bool.false_eq_true]; omega) | (simp; omega) | (simp; done) | (simp_all; done)), hbw⟩
   ·obtain rfl : i = 20 := by omega
    go_wp2
    all_goals
     go_returns
     exact ⟨zab (by rw [hF.out]; first | (rw [Bool.eq_iff_iff]; simp only [decide_eq_true_eq, Bool.and_eq_true, Bool.false_eq_true]; omega) | (simp; omega) | (simp; done) | (simp_all; done)), hbw⟩
theorem zui {P : Program} (w : World) {t e : TypeId} {i : TypeInfo} (hu : P.underlying t = some (.array 4 e)) (hi : P.info? e = some i) (hk : P.plainKey e = true) (he : P.underlying e = some (.int .i64)) (hc : P.cellsOf e = 1) (a b c d : Int) :
  (Op.equalIn 10000 t (.agg #[.int .i64 a, .int .i64 b, .int .i64 c, .int .i64 d]) (.agg #[.int .i64 a, .int .i64 b, .int .i64 c, .int .i64 d])).run P w = .ok true w := by
 rw [run_equalIn_array w 9999 _ _ hu hi, hc]
 have key : ∀ (x : Int) (k : Nat), (#[.int .i64 a, .int .i64 b, .int .i64 c, .int .i64 d] : Array Value)[k]? = some (.int .i64 x) → (part e #[.int .i64 a, .int .i64 b, .int .i64 c, .int .i64 d] k).run P w = .ok (.int .i64 x) w := fun x k h => run_part_plain w hk h
 have hq : ∀ x : Int, (Op.equalIn 9999 e (.int .i64 x) (.int .i64 x)).run P w = .ok true w := fun x => by
  have := run_equalIn_int w 9998 e .i64 .i64 x x he
  rwa [show (x == x) = true by simp] at this
 rw [show List.range 4 = [0, 1, 2, 3] from rfl]
 simp only [Op.eqItems, Nat.mul_one, Sem.run_bind, key a 0 rfl, key b 1 rfl, key c 2 rfl, key d 3 rfl, hq, Result.andThen_ok, Bool.not_true, Bool.false_eq_true, if_false, Sem.run_pure]
theorem zko (m : Mu) (p : Option Addr) (c : Nat) (p' : Option Addr) (c' : Nat) (w : World) (hv : VAt w p c m.n m.st) (hv' : VAt w p' c' m.n m.st) :
  Calls Tryz.prog 81 #[.agg #[.slice p m.n c, .int .i64 m.s, .int .i64 m.ok, .int .i64 m.oa, .int .i64 m.ob, .int .i64 m.oc, .int .i64 m.o, .int .i64 m.v.k, .int .i64 m.v.n, .int .i64 m.c0, .int .i64 m.c1, .int .i64 m.c2, .int .i64 m.c3], .agg #[.slice p' m.n c', .int .i64 m.s, .int .i64 m.ok, .int .i64 m.oa, .int .i64 m.ob, .int .i64 m.oc, .int .i64 m.o, .int .i64 m.v.k, .int .i64 m.v.n, .int .i64 m.c0, .int .i64 m.c1, .int .i64 m.c2, .int .i64 m.c3]] w fun e w' => e = .returned (.bool true) ∧ Below w.heap.size w w' := by
 obtain ⟨w0, hw0⟩ : ∃ w0, w0 = (w.alloc (.cells #[.slice p m.n c, .int .i64 m.s, .int .i64 m.ok, .int .i64 m.oa, .int .i64 m.ob, .int .i64 m.oc, .int .i64 m.o, .int .i64 m.v.k, .int .i64 m.v.n, .int .i64 m.c0, .int .i64 m.c1, .int .i64 m.c2, .int .i64 m.c3] 73)).alloc (.cells #[.slice p' m.n c', .int .i64 m.s, .int .i64 m.ok, .int .i64 m.oa, .int .i64 m.ob, .int .i64 m.oc, .int .i64 m.o, .int .i64 m.v.k, .int .i64 m.v.n, .int .i64 m.c0, .int .i64 m.c1, .int .i64 m.c2, .int .i64 m.c3] 73) := ⟨_, rfl⟩
 obtain ⟨gA, gB, hst⟩ := zbw hw0
 have hSv : ∀ W, Below w0.heap.size w0 W → Calls Tryz.prog 83 #[.slice p m.n c, .slice p' m.n c'] W fun e w' => e = .returned (.bool true) ∧ Below W.heap.size W w' := fun W hW => by
  have := zhx p p' m.n c m.n c' m.st m.st W ((hv.below hst).below hW) ((hv'.below hst).below hW)
  rwa [zie] at this
 clear hv hv'
 obtain ⟨n, st, s, ok, oa, ob, oc, o, ⟨vk, vn⟩, c0, c1, c2, c3⟩ := m
 dsimp only at *
 go_enter Tryz.func81, Tryz.ntmps81
 go_upto_region 1 with fail
 rw [← hw0]
 clear hw0
 obtain ⟨l0, x0, x1, x2, x3, x4, x5, x6, x7, x8, x9, x10, x11, x12⟩ := zcu gA
 obtain ⟨l1, y0, y1, y2, y3, y4, y5, y6, y7, y8, y9, y10, y11, y12⟩ := zcu gB
 clear gA gB
 have hAr : ∀ W, (Op.equalIn 10000 71 (.agg #[.int .i64 c0, .int .i64 c1, .int .i64 c2, .int .i64 c3]) (.agg #[.int .i64 c0, .int .i64 c1, .int .i64 c2, .int .i64 c3])).run Tryz.prog W = .ok true W := fun W => by
  obtain ⟨ii, hi0, -, -, -⟩ := info_parts zgz
  exact zui W (by kernel_rfl) hi0 (by kernel_rfl) Tryz.underlying3 (by kernel_rfl) c0 c1 c2 c3
 go_wp2_with (first
  | (go_at_call 83; refine zm (hSv _ (by go_grown)) ?_; rintro e w' ⟨rfl, hb⟩; obtain ⟨hc, hf, hb, hz⟩ := bstep hb (w := w0) (by go_grown); try simp only [za, zb, zd] at hc hf hz)
 )
 all_goals
  go_returns
  exact ⟨rfl, bjoin hb hst⟩
theorem zac {T g : Nat} {v : Wd} {q : Wp} (h : TBox T g (v.cells q).toArray w) : g < w.heap.size ∧
  (w.cell? ⟨g, 0, none⟩ = some (.int .i64 v.c0) ∧ w.cell? ⟨g, 1, none⟩ = some (.int .i64 v.c1) ∧ w.cell? ⟨g, 2, none⟩ = some (.int .i64 v.c2) ∧ w.cell? ⟨g, 3, none⟩ = some (.int .i64 v.c3) ∧ w.cell? ⟨g, 4, none⟩ = some (.int .i64 v.c4)) ∧
  (w.cell? ⟨g, 5, none⟩ = some (.slice q.h v.h.n q.hc) ∧ w.cell? ⟨g, 6, none⟩ = some (.slice q.s v.h.m q.sc) ∧ w.cell? ⟨g, 7, none⟩ = some (.bool v.h.b) ∧ w.cell? ⟨g, 8, none⟩ = some (.slice q.m v.n q.mc)) ∧
  (w.cell? ⟨g, 9, none⟩ = some (.int .i64 v.m.g.r) ∧ w.cell? ⟨g, 10, none⟩ = some (.slice q.g v.m.g.n q.gc) ∧ w.cell? ⟨g, 11, none⟩ = some (.slice q.b v.m.nb q.bc) ∧ w.cell? ⟨g, 12, none⟩ = some (.slice q.r v.m.nr q.rc) ∧ w.cell? ⟨g, 13, none⟩ = some (.int .i64 v.m.ob) ∧ w.cell? ⟨g, 14, none⟩ = some (.int .i64 v.m.fi) ∧ w.cell? ⟨g, 15, none⟩ = some (.int .i64 v.m.cu) ∧ w.cell? ⟨g, 16, none⟩ = some (.bool v.m.ov)) ∧
  w.cell? ⟨g, 17, none⟩ = some (.int .i64 v.ph) ∧ w.cell? ⟨g, 18, none⟩ = some (.bool v.wa) ∧ w.cell? ⟨g, 19, none⟩ = some (.int .i64 v.cy) ∧ w.cell? ⟨g, 20, none⟩ = some (.slice q.o v.nr q.oc) :=
 ⟨h.lt, ⟨h.cell 0, h.cell 1, h.cell 2, h.cell 3, h.cell 4⟩, ⟨h.cell 5, h.cell 6, h.cell 7, h.cell 8⟩, ⟨h.cell 9, h.cell 10, h.cell 11, h.cell 12, h.cell 13, h.cell 14, h.cell 15, h.cell 16⟩, h.cell 17, h.cell 18, h.cell 19, h.cell 20⟩
def fewW (v : Wd) : Bool := decide (v.h.n ≤ 160) && (decide (v.h.m ≤ 10) && (fewU v.z v.n && (fewM v.m && decide (v.nr ≤ 50))))
theorem zhj {v : Wd} (h : fewW v = true) : v.h.n ≤ 160 ∧ v.h.m ≤ 10 ∧ (v.n ≤ 10 ∧ ∀ i, i < v.n → (v.z i).n ≤ 20) ∧ fewM v.m = true ∧ v.nr ≤ 50 := by
 simp only [fewW, Bool.and_eq_true, decide_eq_true_eq] at h
 exact ⟨h.1, h.2.1, few_u h.2.2.1, h.2.2.2.1, h.2.2.2.2⟩
theorem zo2 (v : Wd) (q : Wp) (w : World) (hv : WdIn w v q) :
  Calls Tryz.prog 23 #[.agg (v.cells q).toArray] w fun e w' => e = .returned (.bool (fewW v)) ∧ Below w.heap.size w w' := by
 obtain ⟨w0, hw0⟩ : ∃ w0, w0 = w.alloc (.cells (v.cells q).toArray 38) := ⟨_, rfl⟩
 have gW : TBox 38 w.heap.size (v.cells q).toArray w0 := by rw [hw0]; exact TBox.new _ _ _
 have hst : Below w.heap.size w w0 := by rw [hw0]; exact zr.alloc (Nat.le_refl _) _
 obtain ⟨l0, ⟨a0, a1, a2, a3, a4⟩, ⟨a5, a6, a7, a8⟩, ⟨a9, a10, a11, a12, a13, a14, a15, a16⟩, a17, a18, a19, a20⟩ := zac gW
 have hU := fun W (hW : Below w.heap.size w W) => zo5 v.n v.z q.m q.mc W (hv.muts.below zat hW)
 have hM := fun W (hW : Below w.heap.size w W) => zqb v.m q.g q.gc q.b q.bc q.r q.rc W (hv.bars.below za2 hW)
 have hF : fewW v = (decide (v.h.n ≤ 160) && (decide (v.h.m ≤ 10) && (fewU v.z v.n && (fewM v.m && decide (v.nr ≤ 50))))) := rfl
 generalize fewU v.z v.n = FU at *
 generalize fewM v.m = FM at *
 have hcase : ¬ v.h.n ≤ 160 ∨ (v.h.n ≤ 160 ∧ ¬ v.h.m ≤ 10) ∨ (v.h.n ≤ 160 ∧ v.h.m ≤ 10 ∧ FU = false) ∨ (v.h.n ≤ 160 ∧ v.h.m ≤ 10 ∧ FU = true ∧ FM = false) ∨ (v.h.n ≤ 160 ∧ v.h.m ≤ 10 ∧ FU = true ∧ FM = true ∧ v.nr ≤ 50) ∨ (v.h.n ≤ 160 ∧ v.h.m ≤ 10 ∧ FU = true ∧ FM = true ∧ ¬ v.nr ≤ 50) := by
  cases FU <;> cases FM <;> simp <;> omega
 rcases hcase with h1 | ⟨h1, h2⟩ | ⟨h1, h2, rfl⟩ | ⟨h1, h2, rfl, rfl⟩ | ⟨h1, h2, rfl, rfl, h5⟩ | ⟨h1, h2, rfl, rfl, h5⟩
 all_goals
  obtain ⟨R, hR⟩ : ∃ R, R = fewW v := ⟨_, rfl⟩
  rw [← hR]
  rw [hF] at hR
  simp only [h1, decide_true, decide_false, Bool.true_and, Bool.false_and] at hR
  try simp only [h2, decide_true, decide_false, Bool.true_and, Bool.false_and] at hR
  try simp only [h5, decide_true, decide_false] at hR
  subst hR
  clear hF
  go_enter Tryz.func23, Tryz.ntmps23
  go_upto_region 1 with fail
  rw [← hw0]
  clear hw0
  go_wp2_with (first
  | (go_at_call 55; refine zm (hU _ (bjoin (by go_grown) hst)) ?_; rintro e w' ⟨rfl, hb⟩; obtain ⟨hc, hf, hb, hz⟩ := bstep hb (w := w0) (by go_grown); try simp only [za, zb, zd] at hc hf hz)
  | (go_at_call 56; refine zm (hM _ (bjoin (by go_grown) hst)) ?_; rintro e w' ⟨rfl, hb⟩; obtain ⟨hc, hf, hb, hz⟩ := bstep hb (w := w0) (by go_grown); try simp only [za, zb, zd] at hc hf hz)
  )
  all_goals
   go_returns
   exact ⟨zab (by first | rfl | (simp; omega) | (simp; done)), bjoin (by go_grown) hst⟩
noncomputable def fmW (v : Wd) : Bool := @decide (FormW v) (Classical.propDecidable _)
theorem zby {v : Wd} : fmW v = true ↔ FormW v := @decide_eq_true_iff _ (Classical.propDecidable _)
theorem zk6 {v : Wd} (h : ¬ FormW v) : fmW v = false := by
 cases e : fmW v with
 | false => rfl
 | true => exact absurd (zby.1 e) h
theorem zxq {v : Wd} {q : Wp} (hv : WdIn w v q) : ∀ i, i < v.n * 4 → (Lit.int .i64 (caY v.z i)).wf = true := fun i hi => by
 obtain ⟨bb, off, ps, cs, -, -, -, -, hw⟩ := hv.muts.mu (i := i / 4) (by omega)
 obtain ⟨h0, h1, h2, h3⟩ := hw.c
 unfold caY
 split
 ·exact za6 h0.1 h0.2
 ·split
  ·exact za6 h1.1 h1.2
  ·split
   ·exact za6 h2.1 h2.2
   ·exact za6 h3.1 h3.2
theorem zhp (v : Wd) (q : Wp) (w : World) (hv : WdIn w v q) (hn : v.n ≤ 10) :
  Calls Tryz.prog 30 #[.agg (v.cells q).toArray] w fun e w' => ∃ p' c', e = .returned (.slice p' v.n c') ∧ Ints .i64 w' p' (v.n * 4) (caY v.z) ∧ Below w.heap.size w w' := by
 refine zm (zi8 v q w hv hn) ?_
 rintro e w' ⟨p', c', rfl, hown, hb⟩
 exact ⟨p', c', rfl, (zfj hown (zxq hv)).1, hb⟩
def CaV (n : Nat) (z : Nat → Mu) (v : Value) (w : World) : Prop := ∃ p c, v = .slice p n c ∧ Ints .i64 w p (n * 4) (caY z)
theorem CaV.below {z : Nat → Mu} (h : CaV n z v w) (hb : Below w.heap.size w w') : CaV n z v w' := by
 obtain ⟨p, c, e, h⟩ := h
 exact ⟨p, c, e, h.below hb⟩
theorem ze0 (Z : Wd) (q : Wp) (w : World) (hv : WdIn w Z q) (f3 : Z.n ≤ 10) :
  Calls Tryz.prog 12 #[.agg (Z.cells q).toArray] w fun e w' => e = .returned (.bool (fmW Z)) ∧ Below w.heap.size w w' := by
 obtain ⟨w0, hw0⟩ : ∃ w0, w0 = w.alloc (.cells (Z.cells q).toArray 38) := ⟨_, rfl⟩
 have gW : TBox 38 w.heap.size (Z.cells q).toArray w0 := by rw [hw0]; exact TBox.new _ _ _
 have hst : Below w.heap.size w w0 := by rw [hw0]; exact zr.alloc (Nat.le_refl _) _
 obtain ⟨l0, ⟨a0, a1, a2, a3, a4⟩, ⟨a5, a6, a7, a8⟩, ⟨a9, a10, a11, a12, a13, a14, a15, a16⟩, a17, a18, a19, a20⟩ := zac gW
 have hMay := fun W => zpa Z.c0 Z.c1 Z.c2 Z.c3 Z.c4 W
 have hFm := fun W (hW : Below w.heap.size w W) => zus (hv.heap.below hW).in
 by_cases hok : mayC Z.c0 Z.c1 Z.c2 Z.c3 Z.c4 = true ∧ formB Z.h = true ∧ (Z.h.m : Int) = Z.c0 ∧ (Z.n : Int) = Z.c1 ∧ 0 ≤ Z.ph ∧ Z.ph ≤ 2
 ·obtain ⟨k1, k2, k3, k4, k5, k6⟩ := hok
  rw [k1] at hMay
  rw [k2] at hFm
  have k5' : ¬ Z.ph < 0 := by omega
  have k6' : ¬ Z.ph > 2 := by omega
  have k1' : Hid (mayC Z.c0 Z.c1 Z.c2 Z.c3 Z.c4 = true) := k1
  have k2' : Hid (formB Z.h = true) := k2
  have k3' : Hid ((Z.h.m : Int) = Z.c0) := k3
  have k4' : Hid ((Z.n : Int) = Z.c1) := k4
  have k3b : ((Z.h.m : Int) != Z.c0) = false := by simpa using k3
  have k4b : ((Z.n : Int) != Z.c1) = false := by simpa using k4
  clear k1 k2 k3 k4
  go_enter Tryz.func12, Tryz.ntmps12
  go_upto_region 1 with fail
  rw [← hw0]
  clear hw0
  go_upto_region 3 with (first
  | (go_at_call 27; refine zm (hMay _) ?_; rintro e w' ⟨rfl, hb⟩; obtain ⟨hc, hf, hb, hz⟩ := bstep hb (w := w0) (by go_grown); try simp only [za, zb, zd] at hc hf hz)
  | (go_at_call 28; refine zm (hFm _ (bjoin (by go_grown) hst)) ?_; rintro e w' ⟨rfl, hb⟩; obtain ⟨hc, hf, hb, hz⟩ := bstep hb (w := w0) (by go_grown); try simp only [za, zb, zd] at hc hf hz)
  )
  have hb3 : Below w.heap.size w w' := bjoin hb hst
  have gW3 := gW.below hb
  have hv3 := hv.below hb3
  clear hb hc hf hz a0 a1 a2 a3 a4 a5 a6 a7 a8 a9 a10 a11 a12 a13 a14 a15 a16 a17 a18 a19 a20 l0 hMay hFm gW hst
  generalize w' = w3 at *
  have c2r := (hv.conf).2.2.1
  obtain ⟨l0, ⟨a0, a1, a2, a3, a4⟩, ⟨a5, a6, a7, a8⟩, ⟨a9, a10, a11, a12, a13, a14, a15, a16⟩, a17, a18, a19, a20⟩ := zac gW3
  go_wp2
  go_loopg [3] Z.n (fun g iv wr => ∃ i : Nat, i ≤ Z.n ∧ g = Z.n - i ∧ iv = .int .i64 i ∧ (∀ j, j < i → ((Z.z j).n : Int) ≤ Z.c2) ∧ Below w3.heap.size w3 wr)
  case atStart => exact ⟨0, by omega, by omega, rfl, fun j hj => absurd hj (Nat.not_lt_zero _), zr⟩
  case round =>
   clear a0 a1 a2 a3 a4 a5 a6 a7 a8 a9 a10 a11 a12 a13 a14 a15 a16 a17 a18 a19 a20 l0
   obtain ⟨i, ih, rfl, rfl, hall, hbw⟩ := hrel
   have hbR := bjoin hbw hb3
   have gWr := gW3.below hbw
   obtain ⟨l0, ⟨a0, a1, a2, a3, a4⟩, ⟨a5, a6, a7, a8⟩, ⟨a9, a10, a11, a12, a13, a14, a15, a16⟩, a17, a18, a19, a20⟩ := zac gWr
   by_cases hi : i < Z.n
   ·obtain ⟨bb, off, ps, cs, eq, hlt, hcc, -, -⟩ := (hv3.muts.below zat hbw).mu hi
    have v0 := hcc 0 _ rfl
    rw [Nat.add_zero] at v0
    rw [eq] at a8
    clear hcc eq
    by_cases e : ((Z.z i).n : Int) ≤ Z.c2
    ·have hall2 : Hid (∀ j, j < i + 1 → ((Z.z j).n : Int) ≤ Z.c2) := fun j hj => by
      by_cases e' : j = i
      ·subst e'; exact e
      ·exact hall j (by omega)
     clear hall
     have e' : ¬ ((Z.z i).n : Int) > Z.c2 := by omega
     generalize (Z.z i).n = k at *
     go_wp2
     go_region
     go_wp2
     go_roundg (Z.n - (i + 1))
     case measure => omega
     case rel => exact ⟨i + 1, by omega, rfl, by go_num, hall2.out, by go_grown⟩
    ·have hR : Hid (fmW Z = false) := zk6 fun F => e (F.st i hi)
     have e' : ((Z.z i).n : Int) > Z.c2 := by omega
     clear hall
     generalize (Z.z i).n = k at *
     go_wp2
     go_region
     go_wp2
     go_returns
     exact ⟨zab hR.out.symm, bjoin (by go_grown) hb3⟩
   ·obtain rfl : i = Z.n := by omega
    have hall' : Hid (∀ j, j < Z.n → ((Z.z j).n : Int) ≤ Z.c2) := hall
    clear hall
    have hvr := hv3.below hbw
    have hHr : ∀ W x, Below wr.heap.size wr W → CaV Z.n Z.z x W → Calls Tryz.prog 29 #[.agg #[.slice q.h Z.h.n q.hc, .slice q.s Z.h.m q.sc, .bool Z.h.b], x] W fun e w' => e = .returned (.bool (rightY Z.h Z.n (caY Z.z))) ∧ Below W.heap.size W w' := fun W x hW hx => by
     obtain ⟨pc, cc, rfl, hin⟩ := hx
     exact zk9 q.h q.hc q.s q.sc Z.h pc Z.n cc (caY Z.z) W (hvr.heap.below hW) hin (by omega)
    have hCr : ∀ W, Below wr.heap.size wr W → Calls Tryz.prog 30 #[.agg (Z.cells q).toArray] W fun e w' => ∃ x, e = .returned x ∧ CaV Z.n Z.z x w' ∧ Below W.heap.size W w' := fun W hW => by
     refine zm (zhp Z q W (hvr.below hW) f3) ?_
     rintro e w' ⟨p', c', rfl, hin, hb⟩
     exact ⟨_, rfl, ⟨p', c', rfl, hin⟩, hb⟩
    have hRi : Hid (rightY Z.h Z.n (caY Z.z) = true → ∀ (_ : Z.ph = 1 → rightM Z.h Z.m ∧ Z.m.nb = Z.n), fmW Z = true) := fun e em => zby.2 ⟨k1'.out, k2'.out, k3'.out, k4'.out, ⟨k5, k6⟩, hall'.out, e, em⟩
    have hRn : Hid (rightY Z.h Z.n (caY Z.z) = false → fmW Z = false) := fun e => zk6 fun F => by rw [F.ca] at e; cases e
    generalize rightY Z.h Z.n (caY Z.z) = RI at *
    go_upto_region 8 with fail
    refine zbg [some 61, some 62, some 63, some 64, some 65, some 66] [61, 62, 63, 64, 65, 66] [(fun v _ => v = .pointer (some ⟨w.heap.size, 5, none⟩)), (fun v _ => v = .agg #[.slice q.h Z.h.n q.hc, .slice q.s Z.h.m q.sc, .bool Z.h.b]), (fun v _ => v = .agg (Z.cells q).toArray), (CaV Z.n Z.z), (fun v _ => v = .bool RI), (fun v _ => v = .bool (!RI))] (fun _ => false) 67 (by kernel_rfl) (by kernel_rfl) rfl rfl (by decide) (by decide) (by simp) ⟨kv, kv, kv, fun _ _ _ h hb => h.below hb, kv, kv, trivial⟩ ⟨rfl, rfl, rfl, rfl, rfl, rfl, trivial⟩ ?_ ?_
    ·refine ⟨?_, ?_, ?_, ?_, ?_, ?_, trivial⟩
     ·intro _ a' w' hb' hs hd Kc hK
      have f1 : a'.tmps[1]?.getD undef = .pointer (some ⟨w.heap.size, 0, none⟩) := (hs 1 (by decide)).trans rfl
      clear hs hd
      unfold Oper.wp
      go_simp
      try go_bits
      exact hK _ _ zr rfl
     ·intro _ a' w' hb' hs hd Kc hK
      have f61 : a'.tmps[61]?.getD undef = .pointer (some ⟨w.heap.size, 5, none⟩) := hd 0 61 zt rfl rfl
      clear hs hd
      obtain ⟨l0, ⟨a0, a1, a2, a3, a4⟩, ⟨a5, a6, a7, a8⟩, ⟨a9, a10, a11, a12, a13, a14, a15, a16⟩, a17, a18, a19, a20⟩ := zac (gWr.below hb')
      unfold Oper.wp
      go_simp
      try go_bits
      exact hK _ _ zr rfl
     ·intro _ a' w' hb' hs hd Kc hK
      have f1 : a'.tmps[1]?.getD undef = .pointer (some ⟨w.heap.size, 0, none⟩) := (hs 1 (by decide)).trans rfl
      clear hs hd
      obtain ⟨l0, ⟨a0, a1, a2, a3, a4⟩, ⟨a5, a6, a7, a8⟩, ⟨a9, a10, a11, a12, a13, a14, a15, a16⟩, a17, a18, a19, a20⟩ := zac (gWr.below hb')
      refine wp_load_mid 38 (.tmp 1) rfl w.heap.size 0 (by simp [Act.eval, f1]) (Z.cells q) _ (gWr.below hb').range Tryz.underlying38 rfl zfu ?_
      exact hK _ _ zr rfl
     ·intro _ a' w' hb' hs hd Kc hK
      have f63 : a'.tmps[63]?.getD undef = .agg (Z.cells q).toArray := hd 2 63 zt rfl rfl
      clear hs hd
      obtain ⟨l0, ⟨a0, a1, a2, a3, a4⟩, ⟨a5, a6, a7, a8⟩, ⟨a9, a10, a11, a12, a13, a14, a15, a16⟩, a17, a18, a19, a20⟩ := zac (gWr.below hb')
      unfold Oper.wp
      go_simp
      refine zm (hCr _ hb') ?_
      rintro e w'' ⟨v9, rfl, hA, hb2⟩
      exact hK _ _ hb2 hA
     ·intro _ a' w' hb' hs hd Kc hK
      have f62 : a'.tmps[62]?.getD undef = .agg #[.slice q.h Z.h.n q.hc, .slice q.s Z.h.m q.sc, .bool Z.h.b] := hd 1 62 zt rfl rfl
      have f64 : (CaV Z.n Z.z) (a'.tmps[64]?.getD undef) w' := hd 3 64 zt rfl rfl
      clear hs hd
      obtain ⟨l0, ⟨a0, a1, a2, a3, a4⟩, ⟨a5, a6, a7, a8⟩, ⟨a9, a10, a11, a12, a13, a14, a15, a16⟩, a17, a18, a19, a20⟩ := zac (gWr.below hb')
      unfold Oper.wp
      go_simp
      try go_bits
      refine zm (hHr _ _ hb' (by assumption)) ?_
      rintro e w'' ⟨rfl, hb2⟩
      exact hK _ _ hb2 rfl
     ·intro _ a' w' hb' hs hd Kc hK
      have f65 : a'.tmps[65]?.getD undef = .bool RI := hd 4 65 zt rfl rfl
      clear hs hd
      unfold Oper.wp
      go_simp
      try go_bits
      exact hK _ _ zr zl
    intro Xf w' hb hv
    have q66 : Xf 66 = .bool (!RI) := hv 5 66 rfl rfl
    clear hv
    simp only [List.map_cons, List.map_nil, q66, puts, Act.put, Nat.reduceAdd, List.setIfInBounds_toArray, List.set_cons_succ, List.set_cons_zero]
    have hb9 := bjoin hb hbR
    replace gWr := gWr.below hb
    have hv9 := hvr.below hb
    clear hb hHr hCr hvr a0 a1 a2 a3 a4 a5 a6 a7 a8 a9 a10 a11 a12 a13 a14 a15 a16 a17 a18 a19 a20 l0
    generalize w' = w9 at *
    obtain ⟨l0, ⟨a0, a1, a2, a3, a4⟩, ⟨a5, a6, a7, a8⟩, ⟨a9, a10, a11, a12, a13, a14, a15, a16⟩, a17, a18, a19, a20⟩ := zac gWr
    cases RI with
    | false =>
     have hR : Hid (fmW Z = false) := hRn.out rfl
     clear hRi hRn
     go_wp2
     go_returns
     exact ⟨zab hR.out.symm, bjoin (by go_grown) hb9⟩
    | true =>
     have hY : Hid (∀ (_ : Z.ph = 1 → rightM Z.h Z.m ∧ Z.m.nb = Z.n), fmW Z = true) := hRi.out rfl
     clear hRi hRn
     by_cases hp : Z.ph = 1
     ·have hRt := fun W (hW : Below w9.heap.size w9 W) => zld q.h q.hc q.s q.sc Z.h Z.m q.g q.gc q.b q.bc q.r q.rc W (hv9.heap.below hW) k2'.out (hv9.grey.below hW) (hv9.bars.below za2 hW)
      rw [hp] at a17
      by_cases ho : rtD Z.h Z.m = true ∧ Z.m.nb = Z.n
      ·obtain ⟨o1, o2⟩ := ho
       have hR : Hid (fmW Z = true) := hY.out fun _ => ⟨zsx.1 o1, o2⟩
       rw [o1] at hRt
       have o2' : ((Z.m.nb : Int) == (Z.n : Int)) = true := by simp [o2]
       clear hY o1 o2
       go_wp2_with (first
  | (go_at_call 31; refine zm (hRt _ (by go_grown)) ?_; rintro e w' ⟨rfl, hb⟩; obtain ⟨hc, hf, hb, hz⟩ := bstep hb (w := w9) (by go_grown); try simp only [za, zb, zd] at hc hf hz)
       )
       go_returns
       exact ⟨zab hR.out.symm, bjoin (by go_grown) hb9⟩
      ·have hR : Hid (fmW Z = false) := zk6 fun F => ho ⟨zsx.2 (F.mr hp).1, (F.mr hp).2⟩
       clear hY
       cases o1 : rtD Z.h Z.m with
       | false =>
        rw [o1] at hRt
        clear ho o1
        go_wp2_with (first
  | (go_at_call 31; refine zm (hRt _ (by go_grown)) ?_; rintro e w' ⟨rfl, hb⟩; obtain ⟨hc, hf, hb, hz⟩ := bstep hb (w := w9) (by go_grown); try simp only [za, zb, zd] at hc hf hz)
        )
        go_returns
        exact ⟨zab hR.out.symm, bjoin (by go_grown) hb9⟩
       | true =>
        rw [o1] at hRt
        have o2' : ((Z.m.nb : Int) == (Z.n : Int)) = false := by
         have : ¬ Z.m.nb = Z.n := fun e => ho ⟨o1, e⟩
         simp
         omega
        clear ho o1
        go_wp2_with (first
  | (go_at_call 31; refine zm (hRt _ (by go_grown)) ?_; rintro e w' ⟨rfl, hb⟩; obtain ⟨hc, hf, hb, hz⟩ := bstep hb (w := w9) (by go_grown); try simp only [za, zb, zd] at hc hf hz)
        )
        go_returns
        exact ⟨zab hR.out.symm, bjoin (by go_grown) hb9⟩
     ·have hR : Hid (fmW Z = true) := hY.out fun e => absurd e hp
      have hp' : (Z.ph == 1) = false := by simpa using hp
      clear hY
      go_wp2
      go_returns
      exact ⟨zab hR.out.symm, bjoin (by go_grown) hb9⟩
 ·have hR : fmW Z = false := zk6 fun F => hok ⟨F.may, F.hF, F.hm, F.hn, F.ph.1, F.ph.2⟩
  rw [hR]
  have hcase : mayC Z.c0 Z.c1 Z.c2 Z.c3 Z.c4 = false ∨ (mayC Z.c0 Z.c1 Z.c2 Z.c3 Z.c4 = true ∧ formB Z.h = false) ∨ (mayC Z.c0 Z.c1 Z.c2 Z.c3 Z.c4 = true ∧ formB Z.h = true ∧ ((Z.h.m : Int) != Z.c0) = true) ∨ (mayC Z.c0 Z.c1 Z.c2 Z.c3 Z.c4 = true ∧ formB Z.h = true ∧ ((Z.h.m : Int) != Z.c0) = false ∧ ((Z.n : Int) != Z.c1) = true) ∨
    (mayC Z.c0 Z.c1 Z.c2 Z.c3 Z.c4 = true ∧ formB Z.h = true ∧ ((Z.h.m : Int) != Z.c0) = false ∧ ((Z.n : Int) != Z.c1) = false ∧ Z.ph < 0) ∨ (mayC Z.c0 Z.c1 Z.c2 Z.c3 Z.c4 = true ∧ formB Z.h = true ∧ ((Z.h.m : Int) != Z.c0) = false ∧ ((Z.n : Int) != Z.c1) = false ∧ ¬ Z.ph < 0 ∧ Z.ph > 2) := by
   cases e1 : mayC Z.c0 Z.c1 Z.c2 Z.c3 Z.c4
   ·exact .inl rfl
   cases e2 : formB Z.h
   ·exact .inr (.inl ⟨rfl, rfl⟩)
   by_cases e3 : (Z.h.m : Int) = Z.c0
   ·by_cases e4 : (Z.n : Int) = Z.c1
    ·by_cases e5 : Z.ph < 0
     ·exact .inr (.inr (.inr (.inr (.inl ⟨rfl, rfl, by simpa using e3, by simpa using e4, e5⟩))))
     ·by_cases e6 : Z.ph > 2
      ·exact .inr (.inr (.inr (.inr (.inr ⟨rfl, rfl, by simpa using e3, by simpa using e4, e5, e6⟩))))
      ·exact absurd ⟨e1, e2, e3, e4, by omega, by omega⟩ hok
    ·exact .inr (.inr (.inr (.inl ⟨rfl, rfl, by simpa using e3, by simpa using e4⟩)))
   ·exact .inr (.inr (.inl ⟨rfl, rfl, by simpa using e3⟩))
  clear hok hR
  rcases hcase with b1 | ⟨b1, b2⟩ | ⟨b1, b2, b3⟩ | ⟨b1, b2, b3, b4⟩ | ⟨b1, b2, b3, b4, b5⟩ | ⟨b1, b2, b3, b4, b5, b6⟩
  all_goals
   rw [b1] at hMay
   try rw [b2] at hFm
   go_enter Tryz.func12, Tryz.ntmps12
   go_upto_region 1 with fail
   rw [← hw0]
   clear hw0
   go_wp2_with (first
  | (go_at_call 27; refine zm (hMay _) ?_; rintro e w' ⟨rfl, hb⟩; obtain ⟨hc, hf, hb, hz⟩ := bstep hb (w := w0) (by go_grown); try simp only [za, zb, zd] at hc hf hz)
  | (go_at_call 28; refine zm (hFm _ (bjoin (by go_grown) hst)) ?_; rintro e w' ⟨rfl, hb⟩; obtain ⟨hc, hf, hb, hz⟩ := bstep hb (w := w0) (by go_grown); try simp only [za, zb, zd] at hc hf hz)
   )
   go_returns
   exact ⟨rfl, bjoin (by go_grown) hst⟩
end Go.Proofs.YtkehankfnkjnlaaGreatDoor
