/- Rows of structs that hold rows of their own, as data; rows of rows of numbers with their rooms. -/
import Derived.Test.YtiofeebiejkajaaDoorB27
namespace Go.Proofs.YtiofeebiejkajaaDoor
set_option linter.unusedSimpArgs false
set_option linter.unusedVariables false
open Go.ChangeShapes Go.WideShapes Go.ChangeAt Go.RowKit Go.Joins

/-- A row of elements of s cells each: C tells what an element's cells are. -/
def RowsOf {α : Type} (C : World → α → List Value → Prop) (s : Nat) (W : World) (p : Option Addr) (n : Nat) (z : Nat → α) : Prop :=
  ∀ i, i < n → ∃ b off L, p = some ⟨b, off, none⟩ ∧ b < W.heap.size ∧ L.length = s ∧ (∀ k u, L[k]? = some u → W.cell? ⟨b, off + i * s + k, none⟩ = some u) ∧ C W (z i) L
/-- .. whose elements' own rows stay as memory grows. -/
def CBelow {α : Type} (C : World → α → List Value → Prop) : Prop := ∀ W W' x L, C W x L → Below W.heap.size W W' → C W' x L
section
variable {α : Type} {C : World → α → List Value → Prop} {s : Nat} {W W' : World} {p : Option Addr} {n c : Nat} {z y : Nat → α}
theorem RowsOf.below (hC : CBelow C) (h : RowsOf C s W p n z) (hb : Below W.heap.size W W') : RowsOf C s W' p n z := fun i hi => by
  obtain ⟨b, off, L, e, hl, hL, hc, hx⟩ := h i hi
  exact ⟨b, off, L, e, Nat.lt_of_lt_of_le hl hb.size, hL, fun k u hk => (hb.cell (p := ⟨b, _, none⟩) hl).trans (hc k u hk), hC _ _ _ _ hx hb⟩
theorem RowsOf.congr (h : RowsOf C s W p n z) (e : ∀ i, i < n → z i = y i) : RowsOf C s W p n y := fun i hi => by rw [← e i hi]; exact h i hi
theorem RowsOf.less (h : RowsOf C s W p n z) {m : Nat} (hm : m ≤ n) : RowsOf C s W p m z := fun i hi => h i (by omega)
/-- What a row's slice reads as. -/
structure RAt {α : Type} (C : World → α → List Value → Prop) (s : Nat) (W : World) (p : Option Addr) (c n : Nat) (z : Nat → α) : Prop where
  row : RowsOf C s W p n z
  nle : n ≤ maxLen
  pnil : p = none → n = 0 ∧ c = 0
  ncap : n ≤ c ∧ c ≤ maxLen
theorem RAt.below (hC : CBelow C) (h : RAt C s W p c n z) (hb : Below W.heap.size W W') : RAt C s W' p c n z := ⟨h.row.below hC hb, h.nle, h.pnil, h.ncap⟩
theorem rat_nil (W : World) (z : Nat → α) : RAt C s W none 0 0 z := ⟨fun i hi => absurd hi (Nat.not_lt_zero i), by decide, fun _ => ⟨rfl, rfl⟩, Nat.le_refl _, by decide⟩
theorem RAt.lt (h : RAt C s W p c n z) (h0 : 0 < n) : ∀ b off sp, p = some ⟨b, off, sp⟩ → b < W.heap.size := fun b off sp e => by
  obtain ⟨b1, o1, L, e1, hl1, -⟩ := h.row 0 h0
  rw [e] at e1
  injection e1 with e1
  injection e1 with e1
  omega
end
section
variable {H : Type} {enc : TypeId × Value → H} {P : Program} {W : World} {base : Nat}
/-- What comes in: such a row. -/
theorem trod_rows {α : Type} [Inhabited α] {C : World → α → List Value → Prop} {s : Nat} {t e : TypeId} {fuel : Nat} {v : Value} {y : DataW H × List MemPlace} (ht : P.underlying t = some (.slice e)) (hc : P.cellsOf e = s) (hs : 0 < s)
    (hel : ∀ fuel cs y, DataW.trod enc P W 0 (fun _ => true) true fuel e cs = some y → cs.length = s → ∃ x, C W x cs)
    (hf : DataW.trod enc P W 0 (fun _ => true) true fuel t [v] = some y) : ∃ (p : Option Addr) (n cap : Nat) (z : Nat → α), v = .slice p n cap ∧ RAt C s W p cap n z := by
  rcases Go.Deep.open_slice ht hf with ⟨hcs, -⟩ | ⟨a, len, cap, m, nf, D, Pl, hcs, -, hl, hm, hmm, -, hx⟩
  · simp at hcs
    subst hcs
    exact ⟨none, 0, 0, fun _ => default, rfl, rat_nil _ _⟩
  · simp at hcs
    subst hcs
    simp only [if_true] at hmm
    rw [hc] at hx
    have each : ∀ i, i < len → ∃ q : α × List Value, q.2.length = s ∧ (∀ k u, q.2[k]? = some u → W.cell? (a.add (i * s + k)) = some u) ∧ C W q.1 q.2 := by
      intro i hi
      obtain ⟨cs', h1, h2⟩ := hx i (by omega)
      obtain ⟨-, hlen, hcell⟩ := World.cells?_some h1
      obtain ⟨x, hxx⟩ := hel _ _ _ h2 hlen
      refine ⟨⟨x, cs'⟩, hlen, fun k u hk => ?_, hxx⟩
      have hk' : k < cs'.length := (List.getElem?_eq_some_iff.1 hk).1
      have := hcell k (by rw [← hlen]; exact hk')
      rw [Go.Deep.add_add] at this
      rw [this]
      exact hk
    obtain ⟨q, hq⟩ := Go.Deep.choose_lt (α := α × List Value) (h := each)
    refine ⟨some a, len, cap, fun i => (q i).1, rfl, fun i hi => ?_, by omega, fun h => (by cases h), hl, hm⟩
    obtain ⟨hL, hcl, hC⟩ := hq i hi
    obtain ⟨b, off, sp⟩ := a
    obtain ⟨u, hu⟩ : ∃ u, (q 0).2[0]? = some u := ⟨(q 0).2[0]'(by rw [(hq 0 (by omega)).1]; exact hs), List.getElem?_eq_getElem _⟩
    have hz := (hq 0 (by omega)).2.1 0 u hu
    rw [Nat.zero_mul, Nat.add_zero, add_zero_self] at hz
    obtain rfl := no_spot hz
    have hcl' : ∀ k u, (q i).2[k]? = some u → W.cell? ⟨b, off + i * s + k, none⟩ = some u := fun k u hk => by
      have := hcl k u hk
      rw [add_off] at this
      rw [Nat.add_assoc]
      exact this
    obtain ⟨u', hu'⟩ : ∃ u, (q i).2[0]? = some u := ⟨(q i).2[0]'(by rw [hL]; exact hs), List.getElem?_eq_getElem _⟩
    exact ⟨b, off, (q i).2, rfl, World.block_lt_of_cell? W _ (hcl' 0 u' hu'), hL, hcl', hC⟩
/-- A struct's fields, each of its own cells. -/
theorem trod_part {t : TypeId} {fs : Array Field} {fuel : Nat} {cs : List Value} {y : DataW H × List MemPlace} (hs : P.underlying t = some (.struct fs)) (h : DataW.trod enc P W 0 (fun _ => true) true fuel t cs = some y) :
    cs.length = P.cellsOf t ∧ ∀ (i : Nat) (f : Field), fs[i]? = some f → ∃ fuel' y', DataW.trod enc P W 0 (fun _ => true) true fuel' f.type ((cs.drop f.offset).take (P.cellsOf f.type)) = some y' := by
  obtain ⟨xs, k, -, -, hl, hxl, hfl⟩ := DataW.trod_struct hs h
  refine ⟨hl, fun i f hf => ⟨k, ?_⟩⟩
  have hi : i < xs.length := by rw [hxl]; exact (Array.getElem?_eq_some_iff.1 hf).1
  exact ⟨xs[i], by rw [hfl i f hf]; exact List.getElem?_eq_getElem hi⟩
end
/-! A row of numbers with its room, as an element of a row. -/
structure Gy where
  r : Int
  n : Nat
  z : Nat → Int
instance : Inhabited Gy := ⟨⟨0, 0, fun _ => 0⟩⟩
def GrC (W : World) (g : Gy) (L : List Value) : Prop := ∃ p c, L = [.int .i64 g.r, .slice p g.n c] ∧ GrAt W p c g.n g.z ∧ In64 g.r
theorem grC_below : CBelow GrC := fun _ _ _ _ h hb => by
  obtain ⟨p, c, e, h, hr⟩ := h
  exact ⟨p, c, e, h.below hb, hr⟩
section
variable {H : Type} {enc : TypeId × Value → H} {P : Program} {W : World} {base : Nat}
theorem trod_grey {t e : TypeId} {f0 f1 : Field} {fuel : Nat} {cs : List Value} {y : DataW H × List MemPlace} (hs : P.underlying t = some (.struct #[f0, f1])) (o0 : f0.offset = 0) (o1 : f1.offset = 1) (hC : P.cellsOf t = 2) (c0 : P.cellsOf f0.type = 1) (c1 : P.cellsOf f1.type = 1)
    (hu0 : P.underlying f0.type = some (.int .i64)) (hu1 : P.underlying f1.type = some (.slice e)) (he : P.underlying e = some (.int .i64)) (hc : P.cellsOf e = 1) (h : DataW.trod enc P W 0 (fun _ => true) true fuel t cs = some y) : ∃ g : Gy, GrC W g cs := by
  obtain ⟨hl, hp⟩ := trod_part hs h
  rw [hC] at hl
  match cs, hl with
  | [a, b], _ =>
    obtain ⟨k0, y0, h0⟩ := hp 0 f0 rfl
    obtain ⟨k1, y1, h1⟩ := hp 1 f1 rfl
    rw [o0, c0] at h0
    rw [o1, c1] at h1
    simp at h0 h1
    obtain ⟨x, e0, -, wx⟩ := DataW.trod_int hu0 h0
    simp at e0
    subst e0
    obtain ⟨p, n, c, z, rfl, hn, hz, hq, hc1, hc2⟩ := trod_slice_ints hu1 he hc h1
    exact ⟨⟨x, n, z⟩, p, c, rfl, ⟨hz, hn, hq, hc1, hc2⟩, wf_i64 wx⟩
theorem trod_greys {t t' e : TypeId} {f0 f1 : Field} {fuel : Nat} {v : Value} {y : DataW H × List MemPlace} (ht : P.underlying t' = some (.slice t)) (hs : P.underlying t = some (.struct #[f0, f1])) (o0 : f0.offset = 0) (o1 : f1.offset = 1) (hC : P.cellsOf t = 2) (c0 : P.cellsOf f0.type = 1) (c1 : P.cellsOf f1.type = 1)
    (hu0 : P.underlying f0.type = some (.int .i64)) (hu1 : P.underlying f1.type = some (.slice e)) (he : P.underlying e = some (.int .i64)) (hc : P.cellsOf e = 1) (h : DataW.trod enc P W 0 (fun _ => true) true fuel t' [v] = some y) : ∃ (p : Option Addr) (n cap : Nat) (z : Nat → Gy), v = .slice p n cap ∧ RAt GrC 2 W p cap n z :=
  trod_rows ht hC (by decide) (fun _ _ _ h _ => trod_grey hs o0 o1 hC c0 c1 hu0 hu1 he hc h) h
end
end Go.Proofs.YtiofeebiejkajaaDoor
