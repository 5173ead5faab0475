import Derived.Test.YtkehankfnkjnlaaGreatDoorV20
import Derived.Deep.CutRange
namespace Go.Proofs.YtkehankfnkjnlaaGreatDoor
set_option linter.unusedSimpArgs false
set_option linter.unusedVariables false
set_option maxHeartbeats 16000000
set_option maxRecDepth 20000
open Go.ChangeAt Go.ChangeShapes Go.Joins Go.RowKit Go.WideShapes
variable {h : Hp} {w w' W W' : World} {p q : Option Addr} {n g : Nat} {a : Int} {v : Value}
theorem zpa (c0 c1 c2 c3 c4 : Int) (w : World) :
  Calls Tryz.prog 27 #[.agg #[.int .i64 c0, .int .i64 c1, .int .i64 c2, .int .i64 c3, .int .i64 c4]] w fun e w' => e = .returned (.bool (mayC c0 c1 c2 c3 c4)) ∧ Below w.heap.size w w' := by
 by_cases h : mayC c0 c1 c2 c3 c4 = true
 ·have h' := h
  simp only [mayC, decide_eq_true_eq] at h'
  obtain ⟨⟨a0, a1⟩, ⟨b0, b1⟩, ⟨d0, d1⟩, ⟨e0, e1⟩, f0, f1⟩ := h'
  go_enter Tryz.func27, Tryz.ntmps27
  go_wp2
  all_goals (go_returns; exact ⟨zab (by first | rfl | (rw [h]; done) | (rw [h]; rfl) | (exfalso; omega) | (simp only [h]; simp; omega)), by go_grown⟩)
 ·have h' := h
  simp only [mayC, decide_eq_true_eq] at h'
  replace h : mayC c0 c1 c2 c3 c4 = false := by simpa using h
  go_enter Tryz.func27, Tryz.ntmps27
  go_wp2
  all_goals (go_returns; exact ⟨zab (by first | rfl | (rw [h]; done) | (rw [h]; rfl) | (exfalso; omega) | (simp only [h]; simp; omega)), by go_grown⟩)
theorem zs8 (z : Nat → Mu) (j : Nat) : caY z (j * 4) = (z j).c0 ∧ caY z (j * 4 + 1) = (z j).c1 ∧ caY z (j * 4 + 2) = (z j).c2 ∧ caY z (j * 4 + 3) = (z j).c3 := by
 unfold caY
 have h1 : ∀ k, k < 4 → (j * 4 + k) % 4 = k ∧ (j * 4 + k) / 4 = j := fun k hk => by omega
 have h0 := h1 0 (by omega)
 have h2 := h1 1 (by omega)
 have h3 := h1 2 (by omega)
 have h4 := h1 3 (by omega)
 rw [Nat.add_zero] at h0
 simp [h0, h2, h3, h4]
theorem zi8 (v : Wd) (q : Wp) (w : World) (hv : WdIn w v q) (hn : v.n ≤ 10) :
  Calls Tryz.prog 30 #[.agg (v.cells q).toArray] w fun e w' => ∃ p' c', e = .returned (.slice p' v.n c') ∧ w'.ownsRow w.heap.size 71 4 (.slice p' v.n c') v.n (vals .i64 (v.n * 4) (caY v.z)) ∧ Below w.heap.size w w' := by
 obtain ⟨i0, hi, hz0, hz1, hz2⟩ := info_parts zlc
 obtain ⟨w0, hw0⟩ : ∃ w0, w0 = w.alloc (.cells (v.cells q).toArray 38) := ⟨_, rfl⟩
 have gW : TBox 38 w.heap.size (v.cells q).toArray w0 := by rw [hw0]; exact TBox.new _ _ _
 have hst : Below w.heap.size w w0 := by rw [hw0]; exact zr.alloc (Nat.le_refl _) _
 have hm := hv.muts.below zat hst
 generalize hY : caY v.z = Y
 have h4 : ∀ j, Y (j * 4) = (v.z j).c0 ∧ Y (j * 4 + 1) = (v.z j).c1 ∧ Y (j * 4 + 2) = (v.z j).c2 ∧ Y (j * 4 + 3) = (v.z j).c3 := fun j => by rw [← hY]; exact zs8 v.z j
 go_enter Tryz.func30, Tryz.ntmps30
 go_upto_region 1 with fail
 rw [← hw0]
 clear hw0
 have g8 : ∀ wr, Below w0.heap.size w0 wr → w.heap.size < wr.heap.size ∧ wr.cell? ⟨w.heap.size, 8, none⟩ = some (.slice q.m v.n q.mc) := fun wr hb => by
  have := gW.below hb
  exact ⟨this.lt, by rw [this.cell 8]; rfl⟩
 go_wp2
 go_loopg [3, 4] v.n (fun g ov iv wr => ∃ j : Nat, j ≤ v.n ∧ g = v.n - j ∧ iv = .int .i64 j ∧ wr.ownsRow w0.heap.size 71 4 ov j (vals .i64 (j * 4) Y) ∧ Below w0.heap.size w0 wr)
 case atStart => exact ⟨0, by omega, by omega, rfl, World.ownsRow_nil _ _ _ _, zr⟩
 case round =>
  obtain ⟨j, jh, rfl, rfl, hown, hbw⟩ := hrel
  obtain ⟨lW, x8⟩ := g8 wr hbw
  by_cases hj : j < v.n
  ·obtain ⟨bb, off, L, hq, hlt, -, hc, ps, cs, rfl, -, -⟩ := (hm.below zat hbw).row j hj
   rw [hq] at x8
   have v9 := hc 9 _ rfl
   have v10 := hc 10 _ rfl
   have v11 := hc 11 _ rfl
   have v12 := hc 12 _ rfl
   clear hc hq
   obtain ⟨y0, y1, y2, y3⟩ := h4 j
   rw [← y0] at v9
   rw [← y1] at v10
   rw [← y2] at v11
   rw [← y3] at v12
   clear y0 y1 y2 y3 h4 g8 gW hY
   have hlb := hbw.size
   go_wp2_with (first
    | (at_builtin; refine wpList_append_own _ rfl (.tmp 12) (.tmp 19) 56 rfl w0.heap.size 71 i0 (.agg #[.int .i64 0, .int .i64 0, .int .i64 0, .int .i64 0]) 4 32 Tryz.underlying56 hi hz0 hz1 hz2 rfl (by decide) _ _ _ rfl (hown.alloc _) ⟨wr.heap.size, 0, none⟩ 1 1 [.int .i64 (Y (j * 4)), .int .i64 (Y (j * 4 + 1)), .int .i64 (Y (j * 4 + 2)), .int .i64 (Y (j * 4 + 3))] rfl rfl (zm0 _ _ _ _ _ _) (by simp [Value.oneCell']) (by simp only [maxLen]; omega) (by omega) (by simp; omega) ?_; intro ov9 w9 hown9 hgrow9 _)
   )
   rw [zkq] at hown9
   have hb9 : Below w0.heap.size w0 w9 := (hbw.alloc hbw.size (.cells _ 71)).grown hgrow9 (by simp; omega) (fun k hk => (hown.lt k hk).1)
   go_roundg (v.n - (j + 1))
   case measure => omega
   case rel => exact ⟨j + 1, by omega, rfl, by go_num, hown9, hb9⟩
  ·obtain rfl : v.n = j := by omega
   obtain ⟨pn, cn, rfl, -⟩ := zaf hown
   go_wp2
   go_returns
   exact ⟨pn, cn, rfl, zag hown hst.size, bjoin hbw hst⟩
theorem zbh (v : Wd) (q : Wp) : PlainC (v.cells q).toArray := ⟨by show 21 < 32; decide, fun i x e => by
 match i, e with
 | 0, e => simp at e
 | 1, e => simp at e
 | 2, e => simp at e
 | 3, e => simp at e
 | 4, e => simp at e
 | 5, e => simp at e
 | 6, e => simp at e
 | 7, e => simp at e
 | 8, e => simp at e
 | 9, e => simp at e
 | 10, e => simp at e
 | 11, e => simp at e
 | 12, e => simp at e
 | 13, e => simp at e
 | 14, e => simp at e
 | 15, e => simp at e
 | 16, e => simp at e
 | 17, e => simp at e
 | 18, e => simp at e
 | 19, e => simp at e
 | 20, e => simp at e
 | i + 21, e => simp at e⟩
theorem TBox.varW {T g : Nat} {v : Wd} {q : Wp} (h : TBox T g (v.cells q).toArray w) : VarT T 21 g w := ⟨_, rfl, zbh _ _, h⟩
theorem wd_one (v : Wd) (q : Wp) : ∀ u ∈ v.cells q, u.oneCell' = true := fun u hu => by
 simp only [Wd.cells, List.mem_cons, List.not_mem_nil, or_false] at hu
 rcases hu with rfl | rfl | rfl | rfl | rfl | rfl | rfl | rfl | rfl | rfl | rfl | rfl | rfl | rfl | rfl | rfl | rfl | rfl | rfl | rfl | rfl <;> rfl
theorem TBox.range {T g : Nat} {xs : List Value} (h : TBox T g xs.toArray w) : w.rangeAt g 0 xs := fun j v hv => by
 rw [Nat.zero_add, h.cell]
 simpa using hv
theorem zen {b : Nat} : ∀ (vs : List Value) (o : Nat) (w : World) {k : Nat}, ¬ k = b → (w.setCells b o vs).heap[k]? = w.heap[k]?
 | [], _, _, _, _ => rfl
 | v :: vs, o, w, k, h => by
  show ((w.setCell ⟨b, o, none⟩ v).setCells b (o + 1) vs).heap[k]? = _
  rw [zen vs (o + 1) _ h]
  exact Below.heap_setCell w _ v k fun e => h e
theorem ze7 {b : Nat} : ∀ (vs : List Value) (o : Nat) (w : World), (w.setCells b o vs).heap.size = w.heap.size
 | [], _, _ => rfl
 | v :: vs, o, w => by
  show ((w.setCell ⟨b, o, none⟩ v).setCells b (o + 1) vs).heap.size = _
  rw [ze7 vs]
  exact World.size_setCell _ _ _
theorem zek {b N : Nat} (hN : N ≤ b) : ∀ (vs : List Value) (o : Nat) (w : World), Below N w (w.setCells b o vs)
 | [], _, w => zr
 | v :: vs, o, w => (Below.setCell (p := ⟨b, o, none⟩) (Below.refl N w) hN v).trans (zek hN vs (o + 1) _)
theorem zep {T b : Nat} : ∀ (vs : List Value) (o : Nat) (w : World) (xs : Array Value), TBox T b xs w → ∃ ys : Array Value, TBox T b ys (w.setCells b o vs) ∧ ys.size = xs.size ∧ (∀ k, k < o → ys[k]? = xs[k]?) ∧ ∀ k u, vs[k]? = some u → o + k < xs.size → ys[o + k]? = some u
 | [], o, w, xs, h => ⟨xs, h, rfl, fun _ _ => rfl, fun k u e => by simp at e⟩
 | v :: vs, o, w, xs, h => by
  obtain ⟨ys, h1, h2, h3, h4⟩ := zep vs (o + 1) (w.setCell ⟨b, o, none⟩ v) _ (h.set o v)
  refine ⟨ys, h1, by simpa using h2, fun k hk => ?_, fun k u e hk => ?_⟩
  ·rw [h3 k (by omega), Array.getElem?_setIfInBounds, if_neg (by omega)]
  ·match k, e with
   | 0, e =>
    simp at e
    subst e
    rw [Nat.add_zero, h3 o (by omega), Array.getElem?_setIfInBounds, if_pos rfl, if_pos (by omega)]
   | k + 1, e =>
    have := h4 k u (by simpa using e) (by simpa using (by omega : o + 1 + k < xs.size))
    rwa [show o + (k + 1) = o + 1 + k by omega]
theorem TBox.whole {T b : Nat} {xs : Array Value} {ys : List Value} (h : TBox T b xs w) (hs : xs.size = ys.length) : TBox T b ys.toArray (w.setCells b 0 ys) := by
 obtain ⟨zs, h1, h2, -, h4⟩ := zep ys 0 w xs h
 have : zs = ys.toArray := by
  refine Array.ext' (List.ext_getElem? fun k => ?_)
  rw [Array.getElem?_toList]
  by_cases hk : k < ys.length
  ·have := h4 k ys[k] (List.getElem?_eq_getElem hk) (by omega)
   rw [Nat.zero_add] at this
   rw [this]
   exact (List.getElem?_eq_getElem hk).symm
  ·rw [Array.getElem?_eq_none (by omega)]
   exact (List.getElem?_eq_none (by simpa using Nat.le_of_not_lt hk)).symm
 rwa [← this]
theorem TBox.there {T b n : Nat} {xs : Array Value} (h : TBox T b xs w) (hs : xs.size = n) : w.there b 0 n := fun j hj => by
 rw [Nat.zero_add, h.cell, h.frozen]
 exact ⟨by rw [Array.getElem?_eq_getElem (by omega)]; rfl, rfl⟩
structure StW (g : Nat) (w w' : World) : Prop where
 size : w'.heap.size = w.heap.size
 other : ∀ k, ¬ k = g → w'.heap[k]? = w.heap[k]?
 below : ∀ N, N ≤ g → Below N w w'
theorem StW.tbox {g T b : Nat} {xs : Array Value} (h : StW g w w') (hb : TBox T b xs w) (hne : ¬ b = g) : TBox T b xs w' := hb.of_block (h.other b hne)
theorem StW.aside (h : StW g w w') : Aside (fun k => k = g) w w' :=
 have b := h.below 0 (Nat.zero_le _)
 ⟨b.os, b.tape, b.output, b.size, fun k _ hk => h.other k hk⟩
section
variable {ops : Array Oper} {rest : List Oper} {d : Nat} {x y : Operand} {ty : TypeId} {pos : String} {aft aft' : Array Edge} {a : Act} {w : World} {Q : Exit → Act → World → Prop}
theorem zfu : (Tryz.prog.info? 38).map (·.size) = some 21 := by kernel_rfl
theorem ld_w {v : Wd} {q : Wp} (hB : TBox 38 g (v.cells q).toArray w) (hx : a.eval x = .pointer (some ⟨g, 0, none⟩)) 
  (h : wpList Tryz.prog ops Q rest (a.put (some d) (.agg (v.cells q).toArray)) w) : wpList Tryz.prog ops Q ({ dst := some d, op := .load 38 x, type := ty, pos := pos, after := aft, guard := none } :: rest) a w :=
 wpList_load_mid rfl 38 x rfl g 0 hx (v.cells q) _ hB.range Tryz.underlying38 rfl zfu h
theorem zss {P : Program} {o : Oper} (hw : Region.wanted o (yielded ops a.tmps) = true) (h : wpList P ops Q ({ o with guard := none } :: rest) a w) : wpList P ops Q (o :: rest) a w := by
 unfold wpList at h ⊢
 rw [if_pos (by rfl)] at h
 rw [if_pos hw]
 exact h
theorem zbx {v : Wd} {q : Wp} {gd : Nat × Bool} (hB : TBox 38 g (v.cells q).toArray w) (hw : Region.wanted { dst := some d, op := .load 38 x, type := ty, pos := pos, after := aft, guard := some gd } (yielded ops a.tmps) = true) (hx : a.eval x = .pointer (some ⟨g, 0, none⟩)) 
  (h : wpList Tryz.prog ops Q rest (a.put (some d) (.agg (v.cells q).toArray)) w) : wpList Tryz.prog ops Q ({ dst := some d, op := .load 38 x, type := ty, pos := pos, after := aft, guard := some gd } :: rest) a w :=
 zss hw (ld_w hB hx h)
theorem st_w {xs : Array Value} {v : Wd} {q : Wp} (hB : TBox 38 g xs w) (hs : xs.size = 21) (hx : a.eval x = .pointer (some ⟨g, 0, none⟩)) (hy : a.eval y = .agg (v.cells q).toArray) 
  (h : ∀ w', TBox 38 g (v.cells q).toArray w' → StW g w w' → wpList Tryz.prog ops Q rest (a.put none undef) w') : wpList Tryz.prog ops Q ({ dst := none, op := .store 38 x y, type := ty, pos := pos, after := aft, guard := none } :: rest) a w :=
 wpList_store_mid rfl 38 x y rfl g 0 _ hx hy (hB.there hs) zfu (all_oneCell_toArray (wd_one v q)) (h _ (hB.whole hs) ⟨ze7 _ _ _, fun _ hk => zen _ _ _ hk, fun _ hN => zek hN _ _ _⟩)
def zeW : Wd := ⟨0, 0, 0, 0, 0, ⟨0, fun _ => 0, 0, fun _ => ⟨0, 0, 0⟩, false⟩, 0, fun _ => default, zeM, 0, false, 0, 0, fun _ => ⟨0, 0, 0, 0, 0⟩⟩
def zeP : Wp := ⟨none, 0, none, 0, none, 0, none, 0, none, 0, none, 0, none, 0⟩
theorem al_w (h : wpList Tryz.prog ops Q rest (a.put (some d) (.pointer (some ⟨w.heap.size, 0, none⟩))) (w.alloc (.cells (zeW.cells zeP).toArray 38))) : wpList Tryz.prog ops Q ({ dst := some d, op := .alloc 38, type := ty, pos := pos, after := aft, guard := none } :: rest) a w :=
 wpList_plain rfl fun K hK => by
  unfold Oper.wp
  go_simp
  exact hK _ _ h
theorem nw_w {v : Wd} {q : Wp} {ty' : TypeId} {pos' : String} (hy : ∀ p, (a.put (some d) p).eval y = .agg (v.cells q).toArray) (hd : ∀ p, (a.put (some d) p).eval (.tmp d) = p) 
  (h : ∀ w', TBox 38 w.heap.size (v.cells q).toArray w' → Below w.heap.size w w' → wpList Tryz.prog ops Q rest ((a.put (some d) (.pointer (some ⟨w.heap.size, 0, none⟩))).put none undef) w') :
  wpList Tryz.prog ops Q ({ dst := some d, op := .alloc 38, type := ty, pos := pos, after := aft, guard := none } :: { dst := none, op := .store 38 (.tmp d) y, type := ty', pos := pos', after := aft', guard := none } :: rest) a w :=
 al_w (st_w (TBox.new _ _ _) rfl (hd _) (hy _) fun w' g s => h w' g ((zr.alloc (Nat.le_refl _) _).trans (s.below _ (Nat.le_refl _))))
end
theorem zww {fn : Func} {r : Nat} {tmps : Array Value} {v : Wd} {q : Wp} (hf : fn.results = #[.cell r 38]) (hr : tmps.getD r undef = .pointer (some ⟨g, 0, none⟩)) (hB : TBox 38 g (v.cells q).toArray w) :
  (results fn tmps).run Tryz.prog w = .ok (.agg (v.cells q).toArray) w := by
 have := run_loadVar_mid w g 0 38 (v.cells q) _ hB.range Tryz.underlying38 rfl zfu
 generalize (v.cells q).toArray = X at *
 unfold results
 rw [hf]
 rw [Array.getD_eq_getD_getElem?] at hr
 simp [hr, asAddr, this]
theorem zdr {fn : Func} {r t : Nat} {tmps : Array Value} {v : Wd} {q : Wp} (hf : fn.results = #[.cell r 38, .tmp t]) (hr : tmps.getD r undef = .pointer (some ⟨g, 0, none⟩)) (hB : TBox 38 g (v.cells q).toArray w) :
  (results fn tmps).run Tryz.prog w = .ok (.tuple #[.agg (v.cells q).toArray, tmps.getD t undef]) w := by
 have := run_loadVar_mid w g 0 38 (v.cells q) _ hB.range Tryz.underlying38 rfl zfu
 generalize (v.cells q).toArray = X at *
 unfold results
 rw [hf]
 rw [Array.getD_eq_getD_getElem?] at hr
 simp [hr, asAddr, this]
theorem zht (r r' : Int) (p q : Option Addr) (n c m d : Nat) (z y : Nat → Int) (w : World) (hz : GrAt w p c n z) (hy : GrAt w q d m y) :
  Calls Tryz.prog 82 #[.agg #[.int .i64 r, .slice p n c], .agg #[.int .i64 r', .slice q m d]] w fun e w' => e = .returned (.bool (sameG r n z r' m y)) ∧ Below w.heap.size w w' := by
 by_cases e : r = r'
 ·subst e
  have hI := fun W (hW : Below w.heap.size w W) => zo8 p q n c m d z y W (hz.ints.below hW) (hy.ints.below hW) hz.nle hy.nle
  have e' : sameG r n z r m y = sameI n z m y := by simp [sameG]
  rw [e']
  generalize sameI n z m y = S at *
  go_enter Tryz.func82, Tryz.ntmps82
  go_wp2_with (first
  | (go_at_call 115; refine zm (hI _ (by go_grown)) ?_; rintro e w' ⟨rfl, hb⟩; obtain ⟨hc, hf, hb, hz⟩ := bstep hb (w := w) (by go_grown); try simp only [za, zb, zd] at hc hf hz)
  )
  go_returns
  exact ⟨zab (by simp), hb⟩
 ·have e' : sameG r n z r' m y = false := by simp [sameG, e]
  rw [e']
  have d0 : (r == r') = false := by simp [e]
  go_enter Tryz.func82, Tryz.ntmps82
  go_wp2
  go_returns
  exact ⟨rfl, by go_grown⟩
theorem zgd (r : Int) (p : Option Addr) (n c : Nat) (z : Nat → Int) (w : World) (hz : GrAt w p c n z) :
  Calls Tryz.prog 62 #[.agg #[.int .i64 r, .slice p n c]] w fun e w' => e = .returned (.bool (rightG r n z)) ∧ Below w.heap.size w w' := by
 by_cases h0 : r < 0
 ·have e : rightG r n z = false := by simp [rightG]; omega
  rw [e]
  go_enter Tryz.func62, Tryz.ntmps62
  go_wp2
  go_returns
  exact ⟨rfl, by go_grown⟩
 by_cases h1 : 16 < r
 ·have e : rightG r n z = false := by simp [rightG]; omega
  rw [e]
  go_enter Tryz.func62, Tryz.ntmps62
  go_wp2
  go_returns
  exact ⟨rfl, by go_grown⟩
 by_cases h2 : r < n
 ·have e : rightG r n z = false := by simp [rightG]; omega
  rw [e]
  go_enter Tryz.func62, Tryz.ntmps62
  go_wp2
  go_returns
  exact ⟨rfl, by go_grown⟩
 obtain ⟨w0, hw0⟩ : ∃ w0, w0 = w.alloc (.cells #[.int .i64 r, .slice p n c] 31) := ⟨_, rfl⟩
 have hB0 : Below w.heap.size w w0 := by rw [hw0]; exact zr.alloc (Nat.le_refl _) _
 have g2 : w.heap.size < w0.heap.size ∧ w0.cell? ⟨w.heap.size, 0, none⟩ = some (.int .i64 r) ∧ w0.cell? ⟨w.heap.size, 1, none⟩ = some (.slice p n c) := by rw [hw0]; simp [go_sem]
 have hin := hz.ints.below hB0
 obtain ⟨l0, x0, x1⟩ := g2
 go_enter Tryz.func62, Tryz.ntmps62
 go_upto_region 1 with fail
 rw [← hw0]
 clear hw0
 go_wp2
 go_loopg [3] n (fun g iv wr => ∃ i : Nat, i ≤ n ∧ g = n - i ∧ iv = .int .i64 i ∧ (∀ j, j < i → 0 ≤ z j) ∧ Below w0.heap.size w0 wr)
 case atStart => exact ⟨0, by omega, by omega, rfl, fun j hj => absurd hj (Nat.not_lt_zero _), zr⟩
 case round =>
  obtain ⟨i, ih, rfl, rfl, hall, hbw⟩ := hrel
  have x1' := zcl hbw l0 x1
  by_cases hi : i < n
  ·obtain ⟨⟨b, off, rfl, hlt, v0⟩, -⟩ := (hin.below hbw) i hi
   by_cases e : 0 ≤ z i
   ·have hnx : Hid (∀ j, j < i + 1 → 0 ≤ z j) := fun j hj => by
     by_cases e' : j = i
     ·subst e'; exact e
     ·exact hall j (by omega)
    clear hall
    generalize z i = x at *
    go_wp2
    go_roundg (n - (i + 1))
    case measure => omega
    case rel => exact ⟨i + 1, by omega, rfl, by go_num, hnx.out, hbw⟩
   ·have hno : Hid (rightG r n z = false) := by
     show rightG r n z = false
     simp only [rightG, Bool.and_eq_false_iff, decide_eq_false_iff_not]
     exact .inr fun h => e (h i hi)
    clear hall
    generalize z i = x at *
    go_wp2
    go_returns
    exact ⟨zab hno.out.symm, bjoin hbw hB0⟩
  ·obtain rfl : i = n := by omega
   have hyes : Hid (rightG r i z = true) := zbe.2 ⟨by omega, hall⟩
   clear hall
   go_wp2
   go_returns
   exact ⟨zab hyes.out.symm, bjoin hbw hB0⟩
theorem boxed2g {v0 v1 u0 u1 : Value} {t : TypeId} : ∃ w0, w0 = (w.alloc (.cells #[v0, v1] t)).alloc (.cells #[u0, u1] t) ∧ (w.heap.size < w0.heap.size ∧ w0.cell? ⟨w.heap.size, 0, none⟩ = some v0 ∧ w0.cell? ⟨w.heap.size, 1, none⟩ = some v1) ∧ (w.heap.size + 1 < w0.heap.size ∧ w0.cell? ⟨w.heap.size + 1, 0, none⟩ = some u0 ∧ w0.cell? ⟨w.heap.size + 1, 1, none⟩ = some u1 ∧ w0.frozen? ⟨w.heap.size + 1, 0, none⟩ = false ∧ w0.frozen? ⟨w.heap.size + 1, 1, none⟩ = false) ∧ Below w.heap.size w w0 := by
 refine ⟨_, rfl, ?_, ?_, (zr.alloc (Nat.le_refl _) _).alloc (by simp) _⟩
 ·have h1 := heap_alloc_new w (.cells #[v0, v1] t)
  refine ⟨by simp; omega, ?_, ?_⟩
  ·exact ((zr.alloc (Nat.le_refl _) _).cell (p := ⟨w.heap.size, 0, none⟩) (by simp)).trans (cell_of_row _ _ _ _ _ _ h1)
  ·exact ((zr.alloc (Nat.le_refl _) _).cell (p := ⟨w.heap.size, 1, none⟩) (by simp)).trans (cell_of_row _ _ _ _ _ _ h1)
 ·have h1 := heap_alloc_new (w.alloc (.cells #[v0, v1] t)) (.cells #[u0, u1] t)
  rw [World.size_alloc] at h1
  exact ⟨by simp, cell_of_row _ _ _ _ _ _ h1, cell_of_row _ _ _ _ _ _ h1, frozen_of_row _ _ _ _ _ h1, frozen_of_row _ _ _ _ _ h1⟩
end Go.Proofs.YtkehankfnkjnlaaGreatDoor
