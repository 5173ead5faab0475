/- api.Span and api.Heap by value, slices of spans: what a walk reads of them. -/
import Derived.Test.YtjlflbaglaillaaDoorInts
import Derived.Deep.Slices
import Derived.Lib.SmallJoins
namespace Go.Proofs.YtjlflbaglaillaaDoor
set_option linter.unusedSimpArgs false
set_option linter.unusedVariables false
open Go.ChangeShapes Go.WideShapes Go.ChangeAt Go.RowKit Go.Joins

/-- A span's data. -/
structure Sp where
  st : Int
  cl : Int
  fr : Int
def Sp.val (s : Sp) : Value := .agg #[.int .i64 s.st, .int .i64 s.cl, .int .u32 s.fr]
instance : Inhabited Sp := ⟨⟨0, 0, 0⟩⟩
/-- What Go's types say of them. -/
def Sp.wf (s : Sp) : Prop := (-9223372036854775808 ≤ s.st ∧ s.st ≤ 9223372036854775807) ∧ (-9223372036854775808 ≤ s.cl ∧ s.cl ≤ 9223372036854775807) ∧ (0 ≤ s.fr ∧ s.fr < 4294967296)
/-- A slice's n spans. -/
def Spans (W : World) (p : Option Addr) (n : Nat) (s : Nat → Sp) : Prop :=
  ∀ i, i < n → (∃ b off, p = some ⟨b, off, none⟩ ∧ b < W.heap.size ∧ W.cell? ⟨b, off + i * 3, none⟩ = some (.int .i64 (s i).st) ∧ W.cell? ⟨b, off + i * 3 + 1, none⟩ = some (.int .i64 (s i).cl) ∧ W.cell? ⟨b, off + i * 3 + 2, none⟩ = some (.int .u32 (s i).fr)) ∧ (s i).wf
theorem Spans.below {W W' : World} {p : Option Addr} {n : Nat} {s : Nat → Sp} (h : Spans W p n s) (hb : Below W.heap.size W W') : Spans W' p n s := fun i hi => by
  obtain ⟨⟨b, off, e, hlt, h0, h1, h2⟩, hw⟩ := h i hi
  exact ⟨⟨b, off, e, Nat.lt_of_lt_of_le hlt hb.size, by rw [hb.cell (p := ⟨b, _, none⟩) hlt]; exact h0, by rw [hb.cell (p := ⟨b, _, none⟩) hlt]; exact h1, by rw [hb.cell (p := ⟨b, _, none⟩) hlt]; exact h2⟩, hw⟩
theorem Spans.congr {W : World} {p : Option Addr} {n : Nat} {s s' : Nat → Sp} (h : Spans W p n s) (e : ∀ i, i < n → s i = s' i) : Spans W p n s' := fun i hi => by rw [← e i hi]; exact h i hi
theorem Spans.wf {W : World} {p : Option Addr} {n : Nat} {s : Nat → Sp} (h : Spans W p n s) : ∀ i, i < n → (s i).wf := fun i hi => (h i hi).2

theorem no_spot {W : World} {b off : Nat} {sp : Option Nat} {v : Value} (h : W.cell? ⟨b, off, sp⟩ = some v) : sp = none := by
  cases sp with
  | none => rfl
  | some s => unfold World.cell? at h; split at h <;> simp at h
theorem add_zero_self (a : Addr) : a.add 0 = a := rfl
theorem add_off (b off j : Nat) : (⟨b, off, none⟩ : Addr).add j = ⟨b, off + j, none⟩ := by unfold Addr.add; split <;> simp_all

section
variable {H : Type} {enc : TypeId × Value → H} {P : Program} {W : World} {base : Nat}

theorem trod_i64 {t : TypeId} {fuel : Nat} {v : Value} {y : DataW H × List MemPlace} (hu : P.underlying t = some (.int .i64)) (h : DataW.trod enc P W 0 (fun _ => true) true fuel t [v] = some y) : ∃ a : Int, v = .int .i64 a ∧ -9223372036854775808 ≤ a ∧ a ≤ 9223372036854775807 := by
  obtain ⟨a, e, -, wa⟩ := DataW.trod_int hu h
  simp at e
  exact ⟨a, e, wf_i64 wa⟩
theorem trod_u32 {t : TypeId} {fuel : Nat} {v : Value} {y : DataW H × List MemPlace} (hu : P.underlying t = some (.int .u32)) (h : DataW.trod enc P W 0 (fun _ => true) true fuel t [v] = some y) : ∃ a : Int, v = .int .u32 a ∧ 0 ≤ a ∧ a < 4294967296 := by
  obtain ⟨a, e, -, wa⟩ := DataW.trod_int hu h
  simp at e
  exact ⟨a, e, wf_u32 wa⟩
theorem trod_boolean {t : TypeId} {fuel : Nat} {v : Value} {y : DataW H × List MemPlace} (hu : P.underlying t = some .bool) (h : DataW.trod enc P W 0 (fun _ => true) true fuel t [v] = some y) : ∃ a : Bool, v = .bool a := by
  obtain ⟨a, e, -⟩ := DataW.trod_bool hu h
  simp at e
  exact ⟨a, e⟩

/-- A span by value, opened. -/
theorem open_span {t : TypeId} {f0 f1 f2 : Field} {v : Value} {d : DataW H} {p : List MemPlace}
    (hs : P.underlying t = some (.struct #[f0, f1, f2])) (hone : Go.Deep.oneCellFields P #[f0, f1, f2] = true) (hC : P.cellsOf t = 3)
    (hu0 : P.underlying f0.type = some (.int .i64)) (hu1 : P.underlying f1.type = some (.int .i64)) (hu2 : P.underlying f2.type = some (.int .u32))
    (hok : Value.okWide P W .any base t v) (h : DataW.Trod enc P W 0 (fun _ => true) true t v d p) : ∃ s : Sp, v = s.val ∧ s.wf := by
  obtain ⟨v0, v1, v2, y0, y1, y2, m, rfl, -, -, hy0, hy1, hy2⟩ := open_agg3 hs hone hC hok h
  obtain ⟨a, rfl, ha⟩ := trod_i64 hu0 hy0
  obtain ⟨b, rfl, hb⟩ := trod_i64 hu1 hy1
  obtain ⟨c, rfl, hc⟩ := trod_u32 hu2 hy2
  exact ⟨⟨a, b, c⟩, rfl, ha, hb, hc⟩

/-- A slice of integers, of cells. -/
theorem trod_slice_ints {t e : TypeId} {k : IntKind} {fuel : Nat} {v : Value} {y : DataW H × List MemPlace} (ht : P.underlying t = some (.slice e)) (he : P.underlying e = some (.int k)) (hc : P.cellsOf e = 1)
    (hf : DataW.trod enc P W 0 (fun _ => true) true fuel t [v] = some y) :
    ∃ (p : Option Addr) (n cap : Nat) (z : Nat → Int), v = .slice p n cap ∧ n ≤ maxLen ∧ Ints k W p n z ∧ (p = none → n = 0 ∧ cap = 0) := by
  rcases open_ints ht he hc hf with ⟨hcs, -⟩ | ⟨a, len, cap', zs, hcs, -, hl, hm, hz, -, hcell, hwz⟩
  · simp at hcs
    subst hcs
    exact ⟨none, 0, 0, fun _ => 0, rfl, by decide, fun i hi => by omega, fun _ => ⟨rfl, rfl⟩⟩
  · simp at hcs
    subst hcs
    simp only [if_true] at hz
    refine ⟨some a, len, cap', fun i => zs.getD i 0, rfl, by omega, fun i hi => ?_, fun h => by cases h⟩
    have h0 := hcell 0 (by omega)
    have hi' := hcell i (by omega)
    obtain ⟨b, off, sp⟩ := a
    rw [add_zero_self] at h0
    obtain rfl := no_spot h0
    rw [add_off] at hi'
    exact ⟨⟨b, off, rfl, World.block_lt_of_cell? W _ hi', hi'⟩, hwz _ (by
      have hlt : i < zs.length := by omega
      show zs.getD i 0 ∈ zs
      simp [List.getD, hlt])⟩
/-- A slice of spans, of cells. -/
theorem trod_slice_spans {t e : TypeId} {f0 f1 f2 : Field} {fuel : Nat} {v : Value} {y : DataW H × List MemPlace} (ht : P.underlying t = some (.slice e)) (he : P.underlying e = some (.struct #[f0, f1, f2])) (hc : P.cellsOf e = 3)
    (hone : Go.Deep.oneCellFields P #[f0, f1, f2] = true) (hu0 : P.underlying f0.type = some (.int .i64)) (hu1 : P.underlying f1.type = some (.int .i64)) (hu2 : P.underlying f2.type = some (.int .u32))
    (hf : DataW.trod enc P W 0 (fun _ => true) true fuel t [v] = some y) :
    ∃ (p : Option Addr) (n cap : Nat) (s : Nat → Sp), v = .slice p n cap ∧ n ≤ maxLen ∧ Spans W p n s ∧ (p = none → n = 0 ∧ cap = 0) := by
  rcases Go.Deep.open_slice ht hf with ⟨hcs, -⟩ | ⟨a, len, cap, m, nf, D, Pl, hcs, -, hl, hm, hmm, -, hx⟩
  · simp at hcs
    subst hcs
    exact ⟨none, 0, 0, fun _ => ⟨0, 0, 0⟩, rfl, by decide, fun i hi => by omega, fun _ => ⟨rfl, rfl⟩⟩
  · simp at hcs
    subst hcs
    simp only [if_true] at hmm
    rw [hc] at hx
    have each : ∀ i, i < len → ∃ q : Sp, q.wf ∧ W.cell? (a.add (i * 3)) = some (.int .i64 q.st) ∧ W.cell? (a.add (i * 3 + 1)) = some (.int .i64 q.cl) ∧ W.cell? (a.add (i * 3 + 2)) = some (.int .u32 q.fr) := by
      intro i hi
      obtain ⟨cs', h1, h2⟩ := hx i (by omega)
      obtain ⟨-, hlen, hcell⟩ := World.cells?_some h1
      obtain ⟨xs, k, -, -, -, hxl, hfl⟩ := DataW.trod_struct he h2
      match xs, hxl, cs', hlen with
      | [y0, y1, y2], _, [v0, v1, v2], _ =>
        have g0 := hfl 0 f0 rfl
        have g1 := hfl 1 f1 rfl
        have g2 := hfl 2 f2 rfl
        obtain ⟨o0, k0⟩ := Go.Deep.hone_of hone 0 f0 rfl
        obtain ⟨o1, k1⟩ := Go.Deep.hone_of hone 1 f1 rfl
        obtain ⟨o2, k2⟩ := Go.Deep.hone_of hone 2 f2 rfl
        simp [o0, k0] at g0
        simp [o1, k1] at g1
        simp [o2, k2] at g2
        obtain ⟨a0, rfl, ha⟩ := trod_i64 hu0 g0
        obtain ⟨b0, rfl, hb⟩ := trod_i64 hu1 g1
        obtain ⟨c0, rfl, hc⟩ := trod_u32 hu2 g2
        have e0 := hcell 0 (by omega)
        have e1 := hcell 1 (by omega)
        have e2 := hcell 2 (by omega)
        rw [Go.Deep.add_add] at e0 e1 e2
        exact ⟨⟨a0, b0, c0⟩, ⟨ha, hb, hc⟩, by simpa using e0, by simpa using e1, by simpa using e2⟩
    obtain ⟨q, hq⟩ := Go.Deep.choose_lt (α := Sp) (h := each)
    refine ⟨some a, len, cap, q, rfl, by omega, fun i hi => ?_, fun h => by cases h⟩
    obtain ⟨hw, h0, h1, h2⟩ := hq i hi
    obtain ⟨b, off, sp⟩ := a
    have hz := (hq 0 (by omega)).2.1
    rw [Nat.zero_mul, add_zero_self] at hz
    obtain rfl := no_spot hz
    rw [add_off] at h0 h1 h2
    exact ⟨⟨b, off, rfl, World.block_lt_of_cell? W _ h0, h0, by rw [← Nat.add_assoc] at h1; exact h1, by rw [← Nat.add_assoc] at h2; exact h2⟩, hw⟩

end

/-- A span in a variable of the call's own (its block). -/
def SpBox (b : Nat) (st cl fr : Int) (W : World) : Prop := b < W.heap.size ∧ W.cell? ⟨b, 0, none⟩ = some (.int .i64 st) ∧ W.cell? ⟨b, 1, none⟩ = some (.int .i64 cl) ∧ W.cell? ⟨b, 2, none⟩ = some (.int .u32 fr) ∧ W.frozen? ⟨b, 0, none⟩ = false ∧ W.frozen? ⟨b, 1, none⟩ = false ∧ W.frozen? ⟨b, 2, none⟩ = false
theorem SpBox.below {b : Nat} {st cl fr : Int} {W W' : World} (h : SpBox b st cl fr W) (hb : Below W.heap.size W W') : SpBox b st cl fr W' := by
  obtain ⟨h0, h1, h2, h3, h4, h5, h6⟩ := h
  refine ⟨Nat.lt_of_lt_of_le h0 hb.size, ?_, ?_, ?_, ?_, ?_, ?_⟩
  · rw [hb.cell (p := ⟨b, _, none⟩) h0]; exact h1
  · rw [hb.cell (p := ⟨b, _, none⟩) h0]; exact h2
  · rw [hb.cell (p := ⟨b, _, none⟩) h0]; exact h3
  · rw [hb.frozen (p := ⟨b, _, none⟩) h0]; exact h4
  · rw [hb.frozen (p := ⟨b, _, none⟩) h0]; exact h5
  · rw [hb.frozen (p := ⟨b, _, none⟩) h0]; exact h6
theorem SpBox.new (W : World) (st cl fr : Int) (t : TypeId) : SpBox W.heap.size st cl fr (W.alloc (.cells #[.int .i64 st, .int .i64 cl, .int .u32 fr] t)) := by
  refine ⟨by simp, ?_, ?_, ?_, ?_, ?_, ?_⟩ <;> simp [go_sem]
theorem SpBox.store {b : Nat} {st cl fr : Int} {W : World} (h : SpBox b st cl fr W) (st' cl' fr' : Int) : SpBox b st' cl' fr' (((W.setCell ⟨b, 0, none⟩ (.int .i64 st')).setCell ⟨b, 1, none⟩ (.int .i64 cl')).setCell ⟨b, 2, none⟩ (.int .u32 fr')) := by
  obtain ⟨h0, h1, h2, h3, h4, h5, h6⟩ := h
  refine ⟨by simpa [World.setCell] using h0, ?_, ?_, ?_, ?_, ?_, ?_⟩ <;> simp [go_sem, *]
/-- Three cells in a variable of the call's own (its block): a heap, say. -/
def Box3 (b : Nat) (x y z : Value) (W : World) : Prop := b < W.heap.size ∧ W.cell? ⟨b, 0, none⟩ = some x ∧ W.cell? ⟨b, 1, none⟩ = some y ∧ W.cell? ⟨b, 2, none⟩ = some z ∧ W.frozen? ⟨b, 0, none⟩ = false ∧ W.frozen? ⟨b, 1, none⟩ = false ∧ W.frozen? ⟨b, 2, none⟩ = false
theorem Box3.below {b : Nat} {x y z : Value} {W W' : World} (h : Box3 b x y z W) (hb : Below W.heap.size W W') : Box3 b x y z W' := by
  obtain ⟨h0, h1, h2, h3, h4, h5, h6⟩ := h
  refine ⟨Nat.lt_of_lt_of_le h0 hb.size, ?_, ?_, ?_, ?_, ?_, ?_⟩
  · rw [hb.cell (p := ⟨b, _, none⟩) h0]; exact h1
  · rw [hb.cell (p := ⟨b, _, none⟩) h0]; exact h2
  · rw [hb.cell (p := ⟨b, _, none⟩) h0]; exact h3
  · rw [hb.frozen (p := ⟨b, _, none⟩) h0]; exact h4
  · rw [hb.frozen (p := ⟨b, _, none⟩) h0]; exact h5
  · rw [hb.frozen (p := ⟨b, _, none⟩) h0]; exact h6
theorem Box3.new (W : World) (x y z : Value) (t : TypeId) : Box3 W.heap.size x y z (W.alloc (.cells #[x, y, z] t)) := by
  refine ⟨by simp, ?_, ?_, ?_, ?_, ?_, ?_⟩ <;> simp [go_sem]
theorem Box3.store0 {b : Nat} {x y z : Value} {W : World} (h : Box3 b x y z W) (x' : Value) : Box3 b x' y z (W.setCell ⟨b, 0, none⟩ x') := by
  obtain ⟨h0, h1, h2, h3, h4, h5, h6⟩ := h
  refine ⟨by simpa [World.setCell] using h0, ?_, ?_, ?_, ?_, ?_, ?_⟩ <;> simp [go_sem, *]
theorem Box3.store1 {b : Nat} {x y z : Value} {W : World} (h : Box3 b x y z W) (y' : Value) : Box3 b x y' z (W.setCell ⟨b, 1, none⟩ y') := by
  obtain ⟨h0, h1, h2, h3, h4, h5, h6⟩ := h
  refine ⟨by simpa [World.setCell] using h0, ?_, ?_, ?_, ?_, ?_, ?_⟩ <;> simp [go_sem, *]
theorem Box3.store2 {b : Nat} {x y z : Value} {W : World} (h : Box3 b x y z W) (z' : Value) : Box3 b x y z' (W.setCell ⟨b, 2, none⟩ z') := by
  obtain ⟨h0, h1, h2, h3, h4, h5, h6⟩ := h
  refine ⟨by simpa [World.setCell] using h0, ?_, ?_, ?_, ?_, ?_, ?_⟩ <;> simp [go_sem, *]
theorem Box3.other {b : Nat} {x y z : Value} {W : World} (h : Box3 b x y z W) {g : Nat} (hg : ¬ g = b) (o : Nat) (u : Value) : Box3 b x y z (W.setCell ⟨g, o, none⟩ u) := by
  obtain ⟨h0, h1, h2, h3, h4, h5, h6⟩ := h
  have e : (W.setCell ⟨g, o, none⟩ u).heap[b]? = W.heap[b]? := Below.heap_setCell W _ u b (fun h => hg h.symm)
  refine ⟨by simpa [World.setCell] using h0, ?_, ?_, ?_, ?_, ?_, ?_⟩
  · rw [World.cell?_of_block (w := W) (a := ⟨b, _, none⟩) e]; exact h1
  · rw [World.cell?_of_block (w := W) (a := ⟨b, _, none⟩) e]; exact h2
  · rw [World.cell?_of_block (w := W) (a := ⟨b, _, none⟩) e]; exact h3
  · rw [World.frozen?_of_block (w := W) (a := ⟨b, _, none⟩) e]; exact h4
  · rw [World.frozen?_of_block (w := W) (a := ⟨b, _, none⟩) e]; exact h5
  · rw [World.frozen?_of_block (w := W) (a := ⟨b, _, none⟩) e]; exact h6
/-- n Bools in a block. -/
def Bools (n b : Nat) (f : Nat → Bool) (W : World) : Prop := b < W.heap.size ∧ ∀ j, j < n → W.cell? ⟨b, j, none⟩ = some (.bool (f j)) ∧ W.frozen? ⟨b, j, none⟩ = false
theorem Bools.new (W : World) (n : Nat) (t : TypeId) : Bools n W.heap.size (fun _ => false) (W.alloc (.cells (Array.replicate n (.bool false)) t)) :=
  ⟨by simp, fun j hj => ⟨by simp [go_sem, hj], by simp [go_sem]⟩⟩
theorem Bools.below {n b : Nat} {f : Nat → Bool} {W W' : World} (h : Bools n b f W) (hb : Below W.heap.size W W') : Bools n b f W' :=
  ⟨Nat.lt_of_lt_of_le h.1 hb.size, fun j hj => by rw [hb.cell (p := ⟨b, j, none⟩) h.1, hb.frozen (p := ⟨b, j, none⟩) h.1]; exact h.2 j hj⟩
theorem Bools.other {n b : Nat} {f : Nat → Bool} {W : World} (h : Bools n b f W) {g : Nat} (hg : ¬ g = b) (o : Nat) (u : Value) : Bools n b f (W.setCell ⟨g, o, none⟩ u) :=
  ⟨by simpa [World.setCell] using h.1, fun j hj => by
    have e : (W.setCell ⟨g, o, none⟩ u).heap[b]? = W.heap[b]? := Below.heap_setCell W _ u b (fun h => hg h.symm)
    rw [World.cell?_of_block (w := W) (a := ⟨b, j, none⟩) e, World.frozen?_of_block (w := W) (a := ⟨b, j, none⟩) e]; exact h.2 j hj⟩
theorem Bools.set {n b : Nat} {f g : Nat → Bool} {W : World} {i : Nat} {v : Bool} (h : Bools n b f W) (hi : i < n) (e : ∀ j, j < n → g j = if j = i then v else f j) : Bools n b g (W.setCell ⟨b, i, none⟩ (.bool v)) :=
  ⟨by simpa [World.setCell] using h.1, fun j hj => by
    have h1 := h.2 j hj
    have h2 := h.2 i hi
    constructor
    · rw [e j hj]
      by_cases hji : j = i
      · subst hji; simp [go_sem, *]
      · simp [go_sem, *]
    · simp [go_sem, *]⟩
theorem SpBox.other {b : Nat} {st cl fr : Int} {W : World} (h : SpBox b st cl fr W) {g : Nat} (hg : ¬ g = b) (o : Nat) (u : Value) : SpBox b st cl fr (W.setCell ⟨g, o, none⟩ u) := by
  obtain ⟨h0, h1, h2, h3, h4, h5, h6⟩ := h
  have e : (W.setCell ⟨g, o, none⟩ u).heap[b]? = W.heap[b]? := Below.heap_setCell W _ u b (fun h => hg h.symm)
  refine ⟨by simpa [World.setCell] using h0, ?_, ?_, ?_, ?_, ?_, ?_⟩
  · rw [World.cell?_of_block (w := W) (a := ⟨b, _, none⟩) e]; exact h1
  · rw [World.cell?_of_block (w := W) (a := ⟨b, _, none⟩) e]; exact h2
  · rw [World.cell?_of_block (w := W) (a := ⟨b, _, none⟩) e]; exact h3
  · rw [World.frozen?_of_block (w := W) (a := ⟨b, _, none⟩) e]; exact h4
  · rw [World.frozen?_of_block (w := W) (a := ⟨b, _, none⟩) e]; exact h5
  · rw [World.frozen?_of_block (w := W) (a := ⟨b, _, none⟩) e]; exact h6

section
variable {H : Type} {enc : TypeId × Value → H} {P : Program} {W : World} {base : Nat}
/-- A heap's data. -/
structure Hp where
  n : Nat
  z : Nat → Int
  m : Nat
  s : Nat → Sp
  b : Bool
/-- What a heap's two slices read as. -/
structure HpAt (W : World) (p : Option Addr) (c : Nat) (q : Option Addr) (d : Nat) (h : Hp) : Prop where
  ints : Ints .u64 W p h.n h.z
  spans : Spans W q h.m h.s
  nle : h.n ≤ maxLen
  mle : h.m ≤ maxLen
  pnil : p = none → h.n = 0 ∧ c = 0
  qnil : q = none → h.m = 0 ∧ d = 0
theorem HpAt.below {W W' : World} {p : Option Addr} {c : Nat} {q : Option Addr} {d : Nat} {h : Hp} (hh : HpAt W p c q d h) (hb : Below W.heap.size W W') : HpAt W' p c q d h :=
  ⟨hh.ints.below hb, hh.spans.below hb, hh.nle, hh.mle, hh.pnil, hh.qnil⟩
theorem open_heap {t e1 e2 : TypeId} {f0 f1 f2 g0 g1 g2 : Field} {v : Value} {d : DataW H} {p : List MemPlace}
    (hs : P.underlying t = some (.struct #[f0, f1, f2])) (hone : Go.Deep.oneCellFields P #[f0, f1, f2] = true) (hC : P.cellsOf t = 3)
    (hu0 : P.underlying f0.type = some (.slice e1)) (he1 : P.underlying e1 = some (.int .u64)) (hc1 : P.cellsOf e1 = 1)
    (hu1 : P.underlying f1.type = some (.slice e2)) (he2 : P.underlying e2 = some (.struct #[g0, g1, g2])) (hc2 : P.cellsOf e2 = 3)
    (hone2 : Go.Deep.oneCellFields P #[g0, g1, g2] = true) (hg0 : P.underlying g0.type = some (.int .i64)) (hg1 : P.underlying g1.type = some (.int .i64)) (hg2 : P.underlying g2.type = some (.int .u32))
    (hu2 : P.underlying f2.type = some .bool)
    (hok : Value.okWide P W .any base t v) (h : DataW.Trod enc P W 0 (fun _ => true) true t v d p) : ∃ (x : Hp) (p : Option Addr) (c : Nat) (q : Option Addr) (d : Nat), v = .agg #[.slice p x.n c, .slice q x.m d, .bool x.b] ∧ HpAt W p c q d x := by
  obtain ⟨v0, v1, v2, y0, y1, y2, m, rfl, -, -, hy0, hy1, hy2⟩ := open_agg3 hs hone hC hok h
  obtain ⟨p, n, c, z, rfl, hn, hz, hp⟩ := trod_slice_ints hu0 he1 hc1 hy0
  obtain ⟨q, k, d, s, rfl, hk, hs', hq⟩ := trod_slice_spans hu1 he2 hc2 hone2 hg0 hg1 hg2 hy1
  obtain ⟨b, rfl⟩ := trod_boolean hu2 hy2
  exact ⟨⟨n, z, k, s, b⟩, p, c, q, d, rfl, hz, hs', hn, hk, hp, hq⟩
end
end Go.Proofs.YtjlflbaglaillaaDoor
