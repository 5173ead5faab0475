import Derived.Test.YtkehankfnkjnlaaGreatDoorV14
import Derived.Deep.RegionLaw
import Derived.Laws.OwnMore
namespace Go.Proofs.YtkehankfnkjnlaaGreatDoor
set_option linter.unusedSimpArgs false
set_option linter.unusedVariables false
set_option maxHeartbeats 16000000
set_option maxRecDepth 20000
open Go.ChangeAt Go.ChangeShapes Go.Joins Go.RowKit Go.WideShapes
variable {h : Hp} {w w' W W' : World} {p q : Option Addr} {n g : Nat} {a : Int} {v : Value}
section
variable {P : Program} {l : List Oper} {Q : Exit → Act → World → Prop} {a : Act} {ds : List Nat} {Φ : Nat → Value → World → Prop} {W : World} {n : Nat} {S : World → World → Prop}
end
def NilsV (N : Nat) (e : TypeId) (size : Nat) (v : Value) (w : World) : Prop := w.ownsRow N e size v 0 [] ∧ ∃ ao, v = .slice ao 0 0
def OwnV (N : Nat) (e : TypeId) (size n : Nat) (xs : List Value) (v : Value) (w : World) : Prop := w.ownsRow N e size v n xs
theorem zdu {P : Program} (t ty e : TypeId) (i : TypeInfo) (ht : P.underlying t = some (.slice e)) (hi : P.info? e = some i) (ao : Option Addr) (n cap : Nat) (hnc : n ≤ cap) (q : Option Addr) (c : Nat) :
  (Builtin.append_ #[t, t] ty #[.slice ao n cap, .slice q 0 c]).run P w = .ok (.slice ao n cap) w := by
 have hfc : (Builtin.firstCells i.size 0 (.slice q 0 c)).run P w = .ok #[] w := by
  cases q with
  | none => simp [Builtin.firstCells]
  | some a => exact run_firstCells_some (P := P) w i.size 0 a 0 c [] (by simp) (fun j u hj => by simp at hj)
 cases ao <;> simp [Builtin.append_, run_underlying ht, sizeOf, typeInfo, hi, Builtin.lenOf, hnc, hfc, storeCells]
theorem OwnV.under {N : Nat} {e : TypeId} {size n : Nat} {xs : List Value} (h : OwnV N e size n xs v w) (hg : g < N) (k : Nat) (u : Value) : OwnV N e size n xs v (w.setCell ⟨g, k, none⟩ u) :=
 za0 h (fun e => by have := (World.ownsRow.lt h g e).1; omega) k u
theorem zsh (N : Nat) (e : TypeId) (size : Nat) (w : World) : NilsV N e size (.slice none 0 0) w := ⟨⟨by simp, .inl ⟨rfl, rfl⟩⟩, none, rfl⟩
def TBox (T : TypeId) (g : Nat) (xs : Array Value) (w : World) : Prop := w.heap[g]? = some (.cells xs T (0, 0))
theorem TBox.lt {T : TypeId} {xs : Array Value} (h : TBox T g xs w) : g < w.heap.size := (Array.getElem?_eq_some_iff.1 h).1
theorem TBox.cell {T : TypeId} {xs : Array Value} (h : TBox T g xs w) (k : Nat) : w.cell? ⟨g, k, none⟩ = xs[k]? := cell_of_row _ _ _ _ _ _ h
theorem TBox.frozen {T : TypeId} {xs : Array Value} (h : TBox T g xs w) (k : Nat) : w.frozen? ⟨g, k, none⟩ = false := frozen_of_row _ _ _ _ _ h
theorem TBox.of_block {T : TypeId} {xs : Array Value} (h : TBox T g xs w) (e : w'.heap[g]? = w.heap[g]?) : TBox T g xs w' := e.trans h
theorem TBox.below {T : TypeId} {xs : Array Value} (h : TBox T g xs w) (hb : Below w.heap.size w w') : TBox T g xs w' := (hb.block g h.lt).trans h
theorem TBox.new (T : TypeId) (W : World) (xs : Array Value) : TBox T W.heap.size xs (W.alloc (.cells xs T)) := heap_alloc_new W (.cells xs T)
theorem TBox.other {T : TypeId} {xs : Array Value} (h : TBox T g xs w) {b : Nat} (hb : ¬ b = g) (k : Nat) (u : Value) : TBox T g xs (w.setCell ⟨b, k, none⟩ u) := (Below.heap_setCell w _ u g (fun e => hb e.symm)).trans h
theorem TBox.set {T : TypeId} {xs : Array Value} (h : TBox T g xs w) (k : Nat) (u : Value) : TBox T g (xs.setIfInBounds k u) (w.setCell ⟨g, k, none⟩ u) := heap_setCell_same w g k xs T u h
def putsL (g : Nat) : Nat → List Value → World → World
 | _, [], w => w
 | k, x :: xs, w => putsL g (k + 1) xs (w.setCell ⟨g, k, none⟩ x)
def setFrom : Array Value → Nat → List Value → Array Value
 | ys, _, [] => ys
 | ys, k, x :: xs => setFrom (ys.setIfInBounds k x) (k + 1) xs
theorem TBox.putsL {T : TypeId} : ∀ (xs : List Value) (k : Nat) {ys : Array Value} {w : World}, TBox T g ys w → TBox T g (setFrom ys k xs) (putsL g k xs w)
 | [], _, _, _, h => h
 | x :: xs, k, _, _, h => TBox.putsL xs (k + 1) (h.set k x)
theorem zah {g b : Nat} (hb : ¬ b = g) : ∀ (xs : List Value) (k : Nat) (w : World), (putsL g k xs w).heap[b]? = w.heap[b]?
 | [], _, _ => rfl
 | x :: xs, k, w => (zah hb xs (k + 1) _).trans (Below.heap_setCell w _ x b hb)
theorem zbf : ∀ (xs : List Value) (k : Nat) (w : World), (putsL g k xs w).heap.size = w.heap.size
 | [], _, _ => rfl
 | x :: xs, k, w => (zbf xs (k + 1) _).trans (by simp [World.setCell])
theorem zao (hn : n ≤ g) : ∀ (xs : List Value) (k : Nat) (w : World), Below n w (putsL g k xs w)
 | [], _, _ => zr
 | x :: xs, k, w => ((Below.refl n w).setCell hn x).trans (zao hn xs (k + 1) _)
theorem zb7 : ∀ (xs : List Value) (k : Nat) (ys : Array Value), (setFrom ys k xs).size = ys.size
 | [], _, _ => rfl
 | x :: xs, k, ys => (zb7 xs (k + 1) _).trans (by simp)
def ShapeT (T : TypeId) (m : Nat) (g : Nat) (w : World) : Prop := ∃ xs : Array Value, xs.size = m ∧ TBox T g xs w
theorem zkb {T : TypeId} {m : Nat} (g : Nat) (w w' : World) (h : ShapeT T m g w) (hb : Below w.heap.size w w') : ShapeT T m g w' := by
 obtain ⟨xs, e, h⟩ := h
 exact ⟨xs, e, h.below hb⟩
theorem zpg {T : TypeId} {m : Nat} (W : World) (xs : Array Value) (e : xs.size = m) : ShapeT T m W.heap.size (W.alloc (.cells xs T)) := ⟨xs, e, TBox.new _ _ _⟩
theorem zmj {T : TypeId} {m g : Nat} (xs : List Value) (g' : Nat) (h : ShapeT T m g' w) : ShapeT T m g' (putsL g 0 xs w) := by
 obtain ⟨ys, e, h⟩ := h
 by_cases hg : g' = g
 ·subst hg
  exact ⟨_, (zb7 xs 0 ys).trans e, h.putsL xs 0⟩
 ·exact ⟨ys, e, h.of_block (zah hg xs 0 w)⟩
theorem ShapeT.two {T : TypeId} (h : ShapeT T 2 g w) : ∃ x0 x1, g < w.heap.size ∧ w.cell? ⟨g, 0, none⟩ = some x0 ∧ w.cell? ⟨g, 1, none⟩ = some x1 ∧ w.frozen? ⟨g, 0, none⟩ = false ∧ w.frozen? ⟨g, 1, none⟩ = false := by
 obtain ⟨xs, e, h⟩ := h
 match xs, e with
 | ⟨[x, y]⟩, _ => exact ⟨x, y, h.lt, by rw [h.cell]; rfl, by rw [h.cell]; rfl, h.frozen 0, h.frozen 1⟩
theorem ShapeT.full2 {T : TypeId} (h : ShapeT T 2 g w) (a b : Value) : TBox T g #[a, b] (putsL g 0 [a, b] w) := by
 obtain ⟨xs, e, h⟩ := h
 match xs, e with
 | ⟨[x, y]⟩, _ => exact h.putsL [a, b] 0
theorem Ints.of_block {k : IntKind} {z : Nat → Int} (h : Ints k w p n z) (hl : w.heap.size ≤ w'.heap.size) (e : 0 < n → ∀ b off sp, p = some ⟨b, off, sp⟩ → w'.heap[b]? = w.heap[b]?) : Ints k w' p n z := fun i hi => by
 obtain ⟨⟨b, off, ep, hlt, hc⟩, hw⟩ := h i hi
 exact ⟨⟨b, off, ep, Nat.lt_of_lt_of_le hlt hl, by rw [World.cell?_of_block (w := w) (a := ⟨b, off + i, none⟩) (e (by omega) b off none ep)]; exact hc⟩, hw⟩
theorem zdy {base : Nat} {e : TypeId} {size : Nat} {n c m : Nat} {xs : List Value} (h : w.ownsRow base e size (.slice p n c) m xs) : ∀ b off sp, p = some ⟨b, off, sp⟩ → ∃ cs, w.heap[b]? = some (.cells cs e (0, 0)) := fun b off sp ep => by
 subst ep
 rcases h.2 with ⟨hv, -⟩ | ⟨g, cap', cur, hv, -, hg, -⟩
 ·cases hv
 ·injection hv with hv
  injection hv with hv
  injection hv with h1 h2 h3
  subst h1
  exact ⟨cur, hg⟩
theorem zil (w : World) (x : Value) (t : TypeId) : ∀ j u, [x][j]? = some u → (w.alloc (.cells #[x] t)).cell? ((⟨w.heap.size, 0, none⟩ : Addr).add j) = some u := by
 intro j u h
 match j, h with
 | 0, h =>
  obtain rfl : x = u := by simpa using h
  exact cell_of_row _ _ _ _ _ _ (heap_alloc_new w (.cells #[x] t))
theorem zej (g : Nat) : ∀ (xs : List Value) (k : Nat) (w : World), w.setCells g k xs = putsL g k xs w
 | [], _, _ => rfl
 | x :: xs, k, w => zej g xs (k + 1) _
structure Vl where
 k : Int
 n : Int
instance : Inhabited Vl := ⟨⟨0, 0⟩⟩
def Vl.wf (v : Vl) : Prop := (Lit.int .i64 v.k).wf = true ∧ (Lit.int .i64 v.n).wf = true
def Vl.agg (v : Vl) : Value := .agg #[.int .i64 v.k, .int .i64 v.n]
def Vl.vals (v : Vl) : List Value := [.int .i64 v.k, .int .i64 v.n]
def Valr (W : World) (p : Option Addr) (n : Nat) (s : Nat → Vl) : Prop :=
 ∀ i, i < n → (∃ b off, p = some ⟨b, off, none⟩ ∧ b < W.heap.size ∧ W.cell? ⟨b, off + i * 2, none⟩ = some (.int .i64 (s i).k) ∧ W.cell? ⟨b, off + i * 2 + 1, none⟩ = some (.int .i64 (s i).n)) ∧ (s i).wf
theorem Valr.below {s : Nat → Vl} (h : Valr W p n s) (hb : Below W.heap.size W W') : Valr W' p n s := fun i hi => by
 obtain ⟨⟨b, off, e, hlt, h0, h1⟩, hw⟩ := h i hi
 exact ⟨⟨b, off, e, Nat.lt_of_lt_of_le hlt hb.size, by rw [hb.cell (p := ⟨b, _, none⟩) hlt]; exact h0, by rw [hb.cell (p := ⟨b, _, none⟩) hlt]; exact h1⟩, hw⟩
theorem Valr.congr {s s' : Nat → Vl} (h : Valr W p n s) (e : ∀ i, i < n → s i = s' i) : Valr W p n s' := fun i hi => by rw [← e i hi]; exact h i hi
theorem Valr.wf {s : Nat → Vl} (h : Valr W p n s) : ∀ i, i < n → (s i).wf := fun i hi => (h i hi).2
theorem Valr.of_block {s : Nat → Vl} (h : Valr w p n s) (hl : w.heap.size ≤ w'.heap.size) (e : 0 < n → ∀ b off sp, p = some ⟨b, off, sp⟩ → w'.heap[b]? = w.heap[b]?) : Valr w' p n s := fun i hi => by
 obtain ⟨⟨b, off, ep, hlt, h0, h1⟩, hw⟩ := h i hi
 have hb := e (by omega) b off none ep
 exact ⟨⟨b, off, ep, Nat.lt_of_lt_of_le hlt hl, by rw [World.cell?_of_block (w := w) (a := ⟨b, _, none⟩) hb]; exact h0, by rw [World.cell?_of_block (w := w) (a := ⟨b, _, none⟩) hb]; exact h1⟩, hw⟩
def vlVals (n : Nat) (s : Nat → Vl) : List Value := (List.range n).flatMap fun i => (s i).vals
theorem zcp (n : Nat) (s : Nat → Vl) : vlVals n s ++ (s n).vals = vlVals (n + 1) s := by simp [vlVals, List.range_succ]
theorem za8 (n : Nat) (s : Nat → Vl) : (vlVals n s).length = n * 2 := by
 induction n with
 | zero => rfl
 | succ n ih => rw [← zcp, List.length_append, ih]; simp [Vl.vals]; omega
theorem zfk (s : Nat → Vl) : ∀ {n i : Nat}, i < n → (vlVals n s)[i * 2]? = some (.int .i64 (s i).k) ∧ (vlVals n s)[i * 2 + 1]? = some (.int .i64 (s i).n)
 | 0, i, h => by omega
 | n + 1, i, h => by
  rw [← zcp]
  have hl := za8 n s
  by_cases e : i = n
  ·subst e
   refine ⟨?_, ?_⟩
   ·rw [List.getElem?_append_right (by omega), hl]; simp [Vl.vals]
   ·rw [List.getElem?_append_right (by omega), hl, show i * 2 + 1 - i * 2 = 1 by omega]; rfl
  ·have ih := zfk s (n := n) (i := i) (by omega)
   exact ⟨by rw [List.getElem?_append_left (by omega)]; exact ih.1, by rw [List.getElem?_append_left (by omega)]; exact ih.2⟩
theorem zj3 {s t : Nat → Vl} (h : ∀ i, i < n → s i = t i) : vlVals n s = vlVals n t := by
 induction n with
 | zero => rfl
 | succ n ih => rw [← zcp, ← zcp, ih fun i hi => h i (by omega), h n (by omega)]
theorem vl_one (v : Vl) : ∀ u ∈ v.vals, u.oneCell' = true := by
 intro u hu
 simp [Vl.vals] at hu
 rcases hu with rfl | rfl <;> rfl
theorem zcd (n : Nat) (s : Nat → Vl) : ∀ u ∈ vlVals n s, u.oneCell' = true := by
 intro u hu
 obtain ⟨i, -, h⟩ := List.mem_flatMap.1 hu
 exact vl_one _ u h
theorem Valr.cells {s : Nat → Vl} (h : Valr W p n s) : ∀ ad, p = some ad → ∀ j u, (vlVals n s)[j]? = some u → W.cell? (ad.add j) = some u := fun ad e j u hj => by
 have hjn : j < n * 2 := by have := (List.getElem?_eq_some_iff.1 hj).1; rwa [za8] at this
 obtain ⟨⟨b, off, e', -, h0, h1⟩, -⟩ := h (j / 2) (by omega)
 rw [e] at e'
 injection e' with e'
 subst e'
 obtain ⟨g0, g1⟩ := zfk s (n := n) (i := j / 2) (by omega)
 rw [zdj]
 by_cases hj2 : j % 2 = 0
 ·have e2 : j = j / 2 * 2 := by omega
  rw [e2, g0] at hj
  rw [show off + j = off + j / 2 * 2 by omega]
  exact h0.trans hj
 ·have e2 : j = j / 2 * 2 + 1 := by omega
  rw [e2] at hj
  rw [g1] at hj
  rw [show off + j = off + j / 2 * 2 + 1 by omega]
  exact h1.trans hj
theorem zo4 {base : Nat} {e : TypeId} {n cap : Nat} {s : Nat → Vl} (h : w.ownsRow base e 2 (.slice p n cap) n (vlVals n s)) (hw : ∀ i, i < n → (s i).wf) : Valr w p n s := by
 intro i hi
 refine ⟨?_, hw i hi⟩
 rcases h.2 with ⟨-, h0⟩ | ⟨g, cap', cur, hv, hb, hg, hn, hm, hs, ht⟩
 ·omega
 ·have e0 : p = some ⟨g, 0, none⟩ := by injection hv
  subst e0
  have hlt : g < w.heap.size := (Array.getElem?_eq_some_iff.1 hg).1
  obtain ⟨a0, a1⟩ := zfk s hi
  rw [← ht] at a0 a1
  rw [List.getElem?_take, if_pos (by omega)] at a0 a1
  refine ⟨g, 0, rfl, hlt, ?_, ?_⟩
  ·rw [Nat.zero_add, cell_of_row w g _ cur e (0, 0) hg]; simpa using a0
  ·rw [Nat.zero_add, cell_of_row w g _ cur e (0, 0) hg]; simpa using a1
structure VAt (W : World) (p : Option Addr) (c n : Nat) (z : Nat → Vl) : Prop where
 row : Valr W p n z
 nle : n ≤ maxLen
 pnil : p = none → n = 0 ∧ c = 0
 ncap : n ≤ c ∧ c ≤ maxLen
theorem VAt.below {c n : Nat} {z : Nat → Vl} (h : VAt W p c n z) (hb : Below W.heap.size W W') : VAt W' p c n z := ⟨h.row.below hb, h.nle, h.pnil, h.ncap⟩
theorem VAt.of_block {c n : Nat} {z : Nat → Vl} (h : VAt w p c n z) (hl : w.heap.size ≤ w'.heap.size) (e : 0 < n → ∀ b off sp, p = some ⟨b, off, sp⟩ → w'.heap[b]? = w.heap[b]?) : VAt w' p c n z := ⟨h.row.of_block hl e, h.nle, h.pnil, h.ncap⟩
theorem zfw (W : World) (z : Nat → Vl) : VAt W none 0 0 z := ⟨fun i hi => by omega, by decide, fun _ => ⟨rfl, rfl⟩, Nat.le_refl _, by decide⟩
theorem zf4 {N : Nat} {c n : Nat} {z : Nat → Vl} (h : W.ownsRow N 70 2 (.slice p n c) n (vlVals n z)) (hn : n ≤ maxLen) (hw : ∀ i, i < n → (z i).wf) : VAt W p c n z where
 row := zo4 h hw
 nle := hn
 pnil := fun e => by
  subst e
  rcases h.2 with ⟨hv, h0⟩ | ⟨g, cap', cur, hv, -⟩
  ·injection hv with _ _ e; exact ⟨h0, e⟩
  ·injection hv with e; cases e
 ncap := by
  rcases h.2 with ⟨hv, h0⟩ | ⟨g, cap', cur, hv, -, -, h1, h2, -⟩
  ·injection hv with _ _ e; rw [h0, e]; exact ⟨Nat.le_refl _, by decide⟩
  ·injection hv with _ _ e; subst e; exact ⟨h1, h2⟩
section
variable {H : Type} {enc : TypeId × Value → H} {P : Program} {W : World} {base : Nat}
theorem zdp {t e : TypeId} {f0 f1 : Field} {fuel : Nat} {y : DataW H × List MemPlace} (ht : P.underlying t = some (.slice e)) (he : P.underlying e = some (.struct #[f0, f1])) (hc : P.cellsOf e = 2) 
  (hone : Go.Deep.oneCellFields P #[f0, f1] = true) (hu0 : P.underlying f0.type = some (.int .i64)) (hu1 : P.underlying f1.type = some (.int .i64))
  (hf : DataW.trod enc P W 0 (fun _ => true) true fuel t [v] = some y) :
  ∃ (p : Option Addr) (n cap : Nat) (s : Nat → Vl), v = .slice p n cap ∧ VAt W p cap n s := by
 rcases Go.Deep.open_slice ht hf with ⟨hcs, -⟩ | ⟨a, len, cap, m, nf, D, Pl, hcs, -, hl, hm, hmm, -, hx⟩
 ·simp at hcs
  subst hcs
  exact ⟨none, 0, 0, fun _ => ⟨0, 0⟩, rfl, zfw _ _⟩
 ·simp at hcs
  subst hcs
  simp only [if_true] at hmm
  rw [hc] at hx
  have each : ∀ i, i < len → ∃ q : Vl, q.wf ∧ W.cell? (a.add (i * 2)) = some (.int .i64 q.k) ∧ W.cell? (a.add (i * 2 + 1)) = some (.int .i64 q.n) := by
   intro i hi
   obtain ⟨cs', h1, h2⟩ := hx i (by omega)
   obtain ⟨-, hlen, hcell⟩ := World.cells?_some h1
   obtain ⟨xs, k, -, -, -, hxl, hfl⟩ := DataW.trod_struct he h2
   match xs, hxl, cs', hlen with
   | [y0, y1], _, [v0, v1], _ =>
    have g0 := hfl 0 f0 rfl
    have g1 := hfl 1 f1 rfl
    obtain ⟨o0, k0⟩ := Go.Deep.hone_of hone 0 f0 rfl
    obtain ⟨o1, k1⟩ := Go.Deep.hone_of hone 1 f1 rfl
    simp [o0, k0] at g0
    simp [o1, k1] at g1
    obtain ⟨a0, e', -, wa⟩ := DataW.trod_int hu0 g0
    simp at e'
    subst e'
    obtain ⟨b0, e, -, wb⟩ := DataW.trod_int hu1 g1
    simp at e
    subst e
    have e0 := hcell 0 (by omega)
    have e1 := hcell 1 (by omega)
    rw [Go.Deep.add_add] at e0 e1
    exact ⟨⟨a0, b0⟩, ⟨wa, wb⟩, by simpa using e0, by simpa using e1⟩
  obtain ⟨q, hq⟩ := Go.Deep.choose_lt (α := Vl) (h := each)
  refine ⟨some a, len, cap, q, rfl, fun i hi => ?_, by omega, fun h => (by cases h), hl, hm⟩
  obtain ⟨hw, h0, h1⟩ := hq i hi
  obtain ⟨b, off, sp⟩ := a
  have hz := (hq 0 (by omega)).2.1
  rw [Nat.zero_mul, zca] at hz
  obtain rfl := ziy hz
  rw [zdj] at h0 h1
  exact ⟨⟨b, off, rfl, World.block_lt_of_cell? W _ h0, h0, by rw [← Nat.add_assoc] at h1; exact h1⟩, hw⟩
end
def sameI (n : Nat) (z : Nat → Int) (m : Nat) (y : Nat → Int) : Bool := decide (n = m ∧ ∀ i, i < n → z i = y i)
theorem zpm (n : Nat) (z : Nat → Int) : sameI n z n z = true := by simp [sameI]
theorem zo8 (p q : Option Addr) (n cap m cap' : Nat) (z y : Nat → Int) (w : World) (hz : Ints .i64 w p n z) (hy : Ints .i64 w q m y) (hn : n ≤ maxLen) (hm : m ≤ maxLen) :
  Calls Tryz.prog 115 #[.slice p n cap, .slice q m cap'] w fun e w' => e = .returned (.bool (sameI n z m y)) ∧ Below w.heap.size w w' := by
 simp only [maxLen] at hn hm
 by_cases hnm : n = m
 ·subst hnm
  go_enter Tryz.func115, Tryz.ntmps115
  go_wp2
  go_loopg [5] n (fun g jv wr => ∃ j : Int, 0 ≤ j ∧ j ≤ n ∧ g = (n - j).toNat ∧ jv = .int .i64 j ∧ (∀ t : Nat, t < j → z t = y t) ∧ Below w.heap.size w wr)
  case atStart => exact ⟨0, by omega, by omega, by omega, rfl, fun t ht => by omega, zr⟩
  case round =>
   obtain ⟨j, jl, jh, rfl, rfl, hall, hbw⟩ := hrel
   by_cases hj : j < n
   ·obtain ⟨⟨b, off, rfl, hlt, hcell⟩, hwf⟩ := (hz.below hbw) j.toNat (by omega)
    obtain ⟨⟨b', off', rfl, hlt', hcell'⟩, hwf'⟩ := (hy.below hbw) j.toNat (by omega)
    by_cases e : z j.toNat = y j.toNat
    ·go_wp2
     go_region
     all_goals
      go_wp2
      go_roundg ((n : Int) - (j + 1)).toNat
      case measure => omega
      case rel => exact ⟨j + 1, by omega, by omega, rfl, rfl, fun t ht => by
       by_cases ht' : (t : Int) < j
       ·exact hall t ht'
       ·obtain rfl : t = j.toNat := by omega
        exact e, by go_grown⟩
    ·have e' : sameI n z n y = false := by
      simp only [sameI, decide_eq_false_iff_not]
      exact fun h => e (h.2 _ (by omega))
     go_wp2
     go_region
     all_goals
      go_wp2
      go_returns
      exact ⟨zab (by simp [e']), by go_grown⟩
   ·have e' : sameI n z n y = true := by
     simp only [sameI, decide_eq_true_eq]
     exact ⟨trivial, fun t ht => hall t (by omega)⟩
    go_wp2
    go_returns
    exact ⟨zab (by simp [e']), by go_grown⟩
 ·have e' : sameI n z m y = false := by simp [sameI, hnm]
  have hnm' : ¬ (n : Int) = m := by omega
  go_enter Tryz.func115, Tryz.ntmps115
  go_wp2
  go_returns
  exact ⟨zab (by simp [e']), by go_grown⟩
theorem zg4 : (Tryz.prog.info? 3).map (fun i => (i.zero, i.size, i.bytes)) = some (some (.int .i64 0), 1, 8) := by kernel_rfl
structure GrAt (W : World) (p : Option Addr) (c n : Nat) (z : Nat → Int) : Prop where
 ints : Ints .i64 W p n z
 nle : n ≤ maxLen
 pnil : p = none → n = 0 ∧ c = 0
 ncap : n ≤ c ∧ c ≤ maxLen
theorem GrAt.below {c n : Nat} {z : Nat → Int} (h : GrAt W p c n z) (hb : Below W.heap.size W W') : GrAt W' p c n z := ⟨h.ints.below hb, h.nle, h.pnil, h.ncap⟩
theorem GrAt.setCell {c n : Nat} {z : Nat → Int} (h : GrAt W p c n z) (hg : ∀ b off, p = some ⟨b, off, none⟩ → b ≠ g) (j : Nat) (u : Value) : GrAt (W.setCell ⟨g, j, none⟩ u) p c n z := ⟨h.ints.setCell hg j u, h.nle, h.pnil, h.ncap⟩
theorem zgt (W : World) (z : Nat → Int) : GrAt W none 0 0 z := ⟨fun i hi => by omega, by decide, fun _ => ⟨rfl, rfl⟩, Nat.le_refl _, by decide⟩
theorem zed {N : Nat} {c n : Nat} {z : Nat → Int} (h : W.ownsRow N 3 1 (.slice p n c) n (vals .i64 n z)) (hn : n ≤ maxLen) (hw : ∀ i, i < n → (Lit.int .i64 (z i)).wf = true) : GrAt W p c n z where
 ints := zd0 h hw
 nle := hn
 pnil := fun e => by
  subst e
  rcases h.2 with ⟨hv, h0⟩ | ⟨g, cap', cur, hv, -⟩
  ·injection hv with _ _ e; exact ⟨h0, e⟩
  ·injection hv with e; cases e
 ncap := by
  rcases h.2 with ⟨hv, h0⟩ | ⟨g, cap', cur, hv, -, -, h1, h2, -⟩
  ·injection hv with _ _ e; rw [h0, e]; exact ⟨Nat.le_refl _, by decide⟩
  ·injection hv with _ _ e; subst e; exact ⟨h1, h2⟩
section
variable {H : Type} {enc : TypeId × Value → H} {P : Program} {W : World} {base : Nat}
end
def rightG (r : Int) (n : Nat) (z : Nat → Int) : Bool := decide (0 ≤ r ∧ r ≤ 16 ∧ (n : Int) ≤ r) && decide (∀ i, i < n → 0 ≤ z i)
theorem zbe {r : Int} {z : Nat → Int} : rightG r n z = true ↔ (0 ≤ r ∧ r ≤ 16 ∧ (n : Int) ≤ r) ∧ ∀ i, i < n → 0 ≤ z i := by simp [rightG]
def pzZ (z : Nat → Int) (n : Nat) (a : Int) : Nat → Int := fun i => if i = n then a else z i
theorem zwt (z : Nat → Int) (n : Nat) (a : Int) : vals .i64 n z ++ [.int .i64 a] = vals .i64 (n + 1) (pzZ z n a) := by
 rw [← zr3]
 congr 1
 ·exact zfh .i64 fun i hi => by unfold pzZ; rw [if_neg (by omega)]
 ·unfold pzZ; rw [if_pos rfl]
theorem pz_wf {z : Nat → Int} (hz : ∀ i, i < n → (Lit.int .i64 (z i)).wf = true) (ha : (Lit.int .i64 a).wf = true) : ∀ i, i < n + 1 → (Lit.int .i64 (pzZ z n a i)).wf = true := fun i hi => by
 unfold pzZ
 split
 ·exact ha
 ·exact hz i (by omega)
def gpB (r : Int) (n : Nat) (a : Int) : Bool := decide (0 ≤ a) && decide ((n : Int) < r)
def gpN (r : Int) (n : Nat) (a : Int) : Nat := if gpB r n a = true then n + 1 else n
def gpZ (r : Int) (n : Nat) (z : Nat → Int) (a : Int) : Nat → Int := if gpB r n a = true then pzZ z n a else z
def gqX (n : Nat) (z : Nat → Int) : Int := if n = 0 then 0 else z (n - 1)
def sameG (r : Int) (n : Nat) (z : Nat → Int) (r' : Int) (n' : Nat) (z' : Nat → Int) : Bool := (r == r') && sameI n z n' z'
theorem zic (r : Int) (n : Nat) (z : Nat → Int) : sameG r n z r n z = true := by simp [sameG, zpm]
theorem zb5 : (Tryz.prog.info? 3).map (fun i => (i.zero, i.size, i.bytes)) = some (some (.int .i64 0), 1, 8) := by kernel_rfl
def apB (h : Hp) : Bool := (obL h h.n).all fun a => obK h a == (spH h (a / 32)).cl
theorem zda (hF : formB h = true) (ho : obB h a = true) : 0 ≤ a ∧ a < h.n := by
 obtain ⟨-, -, a0, a1, -⟩ := zbj hF ho
 exact ⟨a0, a1⟩
theorem zgy (hF : formB h = true) : a ∈ obL h h.n ↔ obB h a = true := by
 rw [zc6]
 exact ⟨fun h => h.2.2, fun ho => ⟨(zda hF ho).1, (zda hF ho).2, ho⟩⟩
def pnH (h : Hp) (P : Int → Bool) : Hp := { h with z := fun i => if (obB h i && P i) = true then hputW true h.b (obK h i) (obN h i) else h.z i }
theorem pn_n (h : Hp) (P : Int → Bool) : (pnH h P).n = h.n ∧ (pnH h P).m = h.m ∧ (pnH h P).b = h.b := ⟨rfl, rfl, rfl⟩
theorem zde {P : Int → Bool} (a0 : 0 ≤ a) : woH (pnH h P) a = if (obB h a && P a) = true then hputW true h.b (obK h a) (obN h a) else woH h a := by
 show (if (obB h (a.toNat : Int) && P (a.toNat : Int)) = true then hputW true h.b (obK h (a.toNat : Int)) (obN h (a.toNat : Int)) else h.z a.toNat) = _
 rw [show ((a.toNat : Nat) : Int) = a by omega]
 rfl
theorem zsu (a0 : ¬ 0 ≤ a) : obB h a = false := by
 have hf : fiB h a = false := by unfold fiB; rw [zgg (by omega)]; rfl
 unfold obB; rw [hf]; rfl
theorem ob_may (hF : formB h = true) (ho : obB h a = true) (c : Bool) : hmayB true c (obK h a) (obN h a) = true := by
 obtain ⟨-, -, -, -, -, -, -, eK, eN, hm⟩ := zbj hF ho
 rw [eK, eN]
 exact zel hm
theorem zq3 (hF : formB h = true) (P : Int → Bool) (a : Int) :
  obB (pnH h P) a = obB h a ∧ obK (pnH h P) a = obK h a ∧ obN (pnH h P) a = obN h a ∧ obC (pnH h P) a = if (obB h a && P a) = true then h.b else obC h a := by
 by_cases a0 : 0 ≤ a
 ·have hfi : fiB (pnH h P) a = fiB h a := rfl
  by_cases e : (obB h a && P a) = true
  ·have ho : obB h a = true := by simp only [Bool.and_eq_true] at e; exact e.1
   obtain ⟨o1, o2, o3, o4, o5, o6, oC, oK, oN, -⟩ := zbj hF ho
   obtain ⟨g1, g2, g3, g4⟩ := got_of (ob_may hF ho h.b)
   have hw : woH (pnH h P) a = hputW true h.b (obK h a) (obN h a) := by rw [zde a0, if_pos e]
   have hoa : obB (pnH h P) a = true := by
    unfold obB
    rw [hw, hfi, o1, g1, g4, oN]
    simp
    exact o5
   obtain ⟨-, -, -, -, -, -, pC, pK, pN, -⟩ := zbj (h := pnH h P) hF hoa
   rw [hw] at pC pK pN
   exact ⟨by rw [hoa, ho], by rw [pK, g3], by rw [pN, g4], by rw [pC, g2, if_pos e]⟩
  ·have hw : woH (pnH h P) a = woH h a := by rw [zde a0, if_neg e]
   have hob : obB (pnH h P) a = obB h a := by unfold obB; rw [hw, hfi]
   rw [if_neg e]
   exact ⟨hob, by unfold obK; rw [hob, hw], by unfold obN; rw [hob, hw], by unfold obC; rw [hob, hw]⟩
 ·have o1 := zsu (h := h) a0
  have o2 := zsu (h := pnH h P) a0
  obtain ⟨a1, a2, a3⟩ := zfn o1
  obtain ⟨b1, b2, b3⟩ := zfn o2
  rw [if_neg (by simp [o1])]
  exact ⟨by rw [o1, o2], by rw [a2, b2], by rw [a3, b3], by rw [a1, b1]⟩
theorem znw (hF : formB h = true) (P : Int → Bool) (a : Int) : blB (pnH h P) a = (blB h a || (obB h a && P a)) := by
 obtain ⟨e1, -, -, e4⟩ := zq3 hF P a
 unfold blB
 rw [e1, e4, (pn_n h P).2.2]
 cases obB h a <;> cases P a <;> simp
theorem zip (hF : formB h = true) (P : Int → Bool) (k : Nat) : obL (pnH h P) k = obL h k := zlk (fun b => (zq3 hF P b).1) k
theorem zpn (hF : formB h = true) (hb : blB h a = true) : woH h a = hputW true h.b (obK h a) (obN h a) := by
 simp only [blB, Bool.and_eq_true, beq_iff_eq] at hb
 obtain ⟨ho, hc⟩ := hb
 obtain ⟨-, o2, -, -, -, -, oC, oK, oN, -⟩ := zbj hF ho
 obtain ⟨-, -, -, -, hp⟩ := zi7 _ o2
 have e1 : gC (woH h a) = decide (woH h a / 64 % 2 = 1) := by unfold gC; rw [o2]; rfl
 have e2 : gK (woH h a) = woH h a / 16 % 4 := by unfold gK; rw [if_pos o2]
 have e3 : gN (woH h a) = woH h a % 16 := by unfold gN; rw [if_pos o2]
 rw [← hc, oC, oK, oN, e1, e2, e3]
 exact hp.symm
theorem zn0 {h g : Hp} (h1 : h.n = g.n) (h2 : h.z = g.z) (h3 : h.m = g.m) (h4 : h.s = g.s) (h5 : h.b = g.b) : h = g := by
 obtain ⟨_, _, _, _, _⟩ := h
 obtain ⟨_, _, _, _, _⟩ := g
 dsimp only at h1 h2 h3 h4 h5
 subst h1 h2 h3 h4 h5
 rfl
theorem zfx (h : Hp) (i : Nat) : woH h (i : Int) = h.z i := by unfold woH; rw [Int.toNat_natCast]
theorem zwb (hF : formB h = true) {P Q : Int → Bool} (e : ∀ a, obB h a = true → blB h a = false → P a = Q a) : pnH h P = pnH h Q := by
 refine zn0 rfl (funext fun i => ?_) rfl rfl rfl
 rw [← zfx, ← zfx, zde (by omega), zde (by omega)]
 cases ho : obB h i with
 | false => simp
 | true =>
  cases hb : blB h i with
  | false => rw [e _ ho hb]
  | true => simp only [Bool.true_and, zpn hF hb, ite_self]
theorem zl3 (hF : formB h = true) {P : Int → Bool} (e : ∀ a, obB h a = true → blB h a = false → P a = false) : pnH h P = h := by
 rw [zwb hF (Q := fun _ => false) e]
 refine zn0 rfl (funext fun i => ?_) rfl rfl rfl
 rw [← zfx, ← zfx, zde (by omega)]
 simp
theorem zvg (hF : formB h = true) (P Q : Int → Bool) : pnH (pnH h P) Q = pnH h (fun a => P a || Q a) := by
 refine zn0 rfl (funext fun i => ?_) rfl rfl rfl
 obtain ⟨e1, e2, e3, -⟩ := zq3 hF P (i : Int)
 rw [← zfx, ← zfx, zde (by omega), zde (by omega), zde (by omega), e1, e2, e3]
 show (if _ then hputW true h.b _ _ else _) = _
 cases obB h i <;> cases P i <;> cases Q i <;> simp
theorem pa_pn (hF : formB h = true) (a : Int) : paH h a = pnH h (fun x => x == a) := by
 unfold paH
 by_cases ho : obB h a = true
 ·rw [if_pos ho]
  obtain ⟨a0, a1⟩ := zda hF ho
  refine zn0 rfl (funext fun i => ?_) rfl rfl rfl
  rw [← zfx, ← zfx, zde (by omega)]
  by_cases e : (i : Int) = a
  ·rw [e, zxn a0, if_pos (by simp [ho])]
  ·rw [wo_put (by omega) e, if_neg (by simp [e])]
 ·rw [if_neg ho, zl3 hF fun x hx _ => ?_]
  simp only [beq_eq_false_iff_ne]
  rintro rfl
  exact ho hx
structure Sd where
 h : Hp
 n : Nat
 z : Nat → Int
 o : Bool
def shB (h : Hp) (v : Vl) : Bool := decide (v.k = 2) && (obB h v.n && !blB h v.n)
def sdS (r : Int) (s : Sd) (v : Vl) : Sd := if shB s.h v = true then ⟨paH s.h v.n, gpN r s.n v.n, gpZ r s.n s.z v.n, s.o || !gpB r s.n v.n⟩ else s
theorem zp5 {L : List Int} {p q : Int → Bool} (hn : L.Nodup) (ha : a ∈ L) (hp : p a = false) (hq : ∀ x, q x = (p x || x == a)) : L.countP q = L.countP p + 1 := by
 induction L with
 | nil => cases ha
 | cons x L ih =>
  obtain ⟨hx, hn⟩ := List.nodup_cons.1 hn
  rw [List.countP_cons, List.countP_cons, hq x]
  rcases List.mem_cons.1 ha with rfl | ha
  ·have : L.countP q = L.countP p := List.countP_congr fun y hy => by
    rw [hq y]
    have : ¬ y = a := fun e => hx (e ▸ hy)
    simp [this]
   rw [this, hp]
   simp
  ·have : ¬ x = a := fun e => hx (e ▸ ha)
   rw [ih hn ha]
   simp [this]
   omega
theorem zkv (h : Hp) (k : Nat) : (obL h k).Nodup := (zfa h k).imp fun hlt => by omega
end Go.Proofs.YtkehankfnkjnlaaGreatDoor
