/- Rows of structs that hold rows of their own, as data; rows of rows of numbers with their rooms. -/
import Derived.Test.YtmbgodncagjncaaDoorB21
import Derived.Test.YtmbgodncagjncaaDoorB01
import Derived.Test.YtmbgodncagjncaaDoorProg
import Derived.Test.YtmbgodncagjncaaDoorB13
namespace Go.Proofs.YtmbgodncagjncaaDoor
set_option linter.unusedSimpArgs false
set_option linter.unusedVariables false
open Go.ChangeShapes Go.WideShapes Go.ChangeAt Go.RowKit Go.Joins

/-- A row of elements of s cells each: C tells what an element's cells are. -/
def RowsOf {α : Type} (C : World → α → List Value → Prop) (s : Nat) (W : World) (p : Option Addr) (n : Nat) (z : Nat → α) : Prop :=
  ∀ i, i < n → ∃ b off L, p = some ⟨b, off, none⟩ ∧ b < W.heap.size ∧ L.length = s ∧ (∀ k u, L[k]? = some u → W.cell? ⟨b, off + i * s + k, none⟩ = some u) ∧ C W (z i) L
/-- .. whose elements' own rows stay as memory grows. -/
def CBelow {α : Type} (C : World → α → List Value → Prop) : Prop := ∀ W W' x L, C W x L → Below W.heap.size W W' → C W' x L
section
variable {α : Type} {C : World → α → List Value → Prop} {s : Nat} {W W' : World} {p : Option Addr} {n c : Nat} {z y : Nat → α}
theorem RowsOf.below (hC : CBelow C) (h : RowsOf C s W p n z) (hb : Below W.heap.size W W') : RowsOf C s W' p n z := fun i hi => by
  obtain ⟨b, off, L, e, hl, hL, hc, hx⟩ := h i hi
  exact ⟨b, off, L, e, Nat.lt_of_lt_of_le hl hb.size, hL, fun k u hk => (hb.cell (p := ⟨b, _, none⟩) hl).trans (hc k u hk), hC _ _ _ _ hx hb⟩
theorem RowsOf.congr (h : RowsOf C s W p n z) (e : ∀ i, i < n → z i = y i) : RowsOf C s W p n y := fun i hi => by rw [← e i hi]; exact h i hi
/-- What a row's slice reads as. -/
structure RAt {α : Type} (C : World → α → List Value → Prop) (s : Nat) (W : World) (p : Option Addr) (c n : Nat) (z : Nat → α) : Prop where
  row : RowsOf C s W p n z
  nle : n ≤ maxLen
  pnil : p = none → n = 0 ∧ c = 0
  ncap : n ≤ c ∧ c ≤ maxLen
theorem RAt.below (hC : CBelow C) (h : RAt C s W p c n z) (hb : Below W.heap.size W W') : RAt C s W' p c n z := ⟨h.row.below hC hb, h.nle, h.pnil, h.ncap⟩
theorem rat_nil (W : World) (z : Nat → α) : RAt C s W none 0 0 z := ⟨fun i hi => absurd hi (Nat.not_lt_zero i), by decide, fun _ => ⟨rfl, rfl⟩, Nat.le_refl _, by decide⟩
theorem RAt.lt (h : RAt C s W p c n z) (h0 : 0 < n) : ∀ b off sp, p = some ⟨b, off, sp⟩ → b < W.heap.size := fun b off sp e => by
  obtain ⟨b1, o1, L, e1, hl1, -⟩ := h.row 0 h0
  rw [e] at e1
  injection e1 with e1
  injection e1 with e1
  omega
end
section
variable {H : Type} {enc : TypeId × Value → H} {P : Program} {W : World} {base : Nat}
/-- What comes in: such a row. -/
theorem trod_rows {α : Type} [Inhabited α] {C : World → α → List Value → Prop} {s : Nat} {t e : TypeId} {fuel : Nat} {v : Value} {y : DataW H × List MemPlace} (ht : P.underlying t = some (.slice e)) (hc : P.cellsOf e = s) (hs : 0 < s)
    (hel : ∀ fuel cs y, DataW.trod enc P W 0 (fun _ => true) true fuel e cs = some y → cs.length = s → ∃ x, C W x cs)
    (hf : DataW.trod enc P W 0 (fun _ => true) true fuel t [v] = some y) : ∃ (p : Option Addr) (n cap : Nat) (z : Nat → α), v = .slice p n cap ∧ RAt C s W p cap n z := by
  rcases Go.Deep.open_slice ht hf with ⟨hcs, -⟩ | ⟨a, len, cap, m, nf, D, Pl, hcs, -, hl, hm, hmm, -, hx⟩
  · simp at hcs
    subst hcs
    exact ⟨none, 0, 0, fun _ => default, rfl, rat_nil _ _⟩
  · simp at hcs
    subst hcs
    simp only [if_true] at hmm
    rw [hc] at hx
    have each : ∀ i, i < len → ∃ q : α × List Value, q.2.length = s ∧ (∀ k u, q.2[k]? = some u → W.cell? (a.add (i * s + k)) = some u) ∧ C W q.1 q.2 := by
      intro i hi
      obtain ⟨cs', h1, h2⟩ := hx i (by omega)
      obtain ⟨-, hlen, hcell⟩ := World.cells?_some h1
      obtain ⟨x, hxx⟩ := hel _ _ _ h2 hlen
      refine ⟨⟨x, cs'⟩, hlen, fun k u hk => ?_, hxx⟩
      have hk' : k < cs'.length := (List.getElem?_eq_some_iff.1 hk).1
      have := hcell k (by rw [← hlen]; exact hk')
      rw [Go.Deep.add_add] at this
      rw [this]
      exact hk
    obtain ⟨q, hq⟩ := Go.Deep.choose_lt (α := α × List Value) (h := each)
    refine ⟨some a, len, cap, fun i => (q i).1, rfl, fun i hi => ?_, by omega, fun h => (by cases h), hl, hm⟩
    obtain ⟨hL, hcl, hC⟩ := hq i hi
    obtain ⟨b, off, sp⟩ := a
    obtain ⟨u, hu⟩ : ∃ u, (q 0).2[0]? = some u := ⟨(q 0).2[0]'(by rw [(hq 0 (by omega)).1]; exact hs), List.getElem?_eq_getElem _⟩
    have hz := (hq 0 (by omega)).2.1 0 u hu
    rw [Nat.zero_mul, Nat.add_zero, add_zero_self] at hz
    obtain rfl := no_spot hz
    have hcl' : ∀ k u, (q i).2[k]? = some u → W.cell? ⟨b, off + i * s + k, none⟩ = some u := fun k u hk => by
      have := hcl k u hk
      rw [add_off] at this
      rw [Nat.add_assoc]
      exact this
    obtain ⟨u', hu'⟩ : ∃ u, (q i).2[0]? = some u := ⟨(q i).2[0]'(by rw [hL]; exact hs), List.getElem?_eq_getElem _⟩
    exact ⟨b, off, (q i).2, rfl, World.block_lt_of_cell? W _ (hcl' 0 u' hu'), hL, hcl', hC⟩
/-- A struct's fields, each of its own cells. -/
theorem trod_part {t : TypeId} {fs : Array Field} {fuel : Nat} {cs : List Value} {y : DataW H × List MemPlace} (hs : P.underlying t = some (.struct fs)) (h : DataW.trod enc P W 0 (fun _ => true) true fuel t cs = some y) :
    cs.length = P.cellsOf t ∧ ∀ (i : Nat) (f : Field), fs[i]? = some f → ∃ fuel' y', DataW.trod enc P W 0 (fun _ => true) true fuel' f.type ((cs.drop f.offset).take (P.cellsOf f.type)) = some y' := by
  obtain ⟨xs, k, -, -, hl, hxl, hfl⟩ := DataW.trod_struct hs h
  refine ⟨hl, fun i f hf => ⟨k, ?_⟩⟩
  have hi : i < xs.length := by rw [hxl]; exact (Array.getElem?_eq_some_iff.1 hf).1
  exact ⟨xs[i], by rw [hfl i f hf]; exact List.getElem?_eq_getElem hi⟩
end
/-! A row of numbers with its room, as an element of a row. -/
structure Gy where
  r : Int
  n : Nat
  z : Nat → Int
instance : Inhabited Gy := ⟨⟨0, 0, fun _ => 0⟩⟩
def GrC (W : World) (g : Gy) (L : List Value) : Prop := ∃ p c, L = [.int .i64 g.r, .slice p g.n c] ∧ GrAt W p c g.n g.z ∧ In64 g.r
theorem grC_below : CBelow GrC := fun _ _ _ _ h hb => by
  obtain ⟨p, c, e, h, hr⟩ := h
  exact ⟨p, c, e, h.below hb, hr⟩
section
variable {H : Type} {enc : TypeId × Value → H} {P : Program} {W : World} {base : Nat}
end
end Go.Proofs.YtmbgodncagjncaaDoor
namespace Go.Proofs.YtmbgodncagjncaaDoor
set_option linter.unusedSimpArgs false
set_option linter.unusedVariables false
open Go.ChangeShapes Go.WideShapes Go.ChangeAt Go.RowKit

def getK (x : Int) : Int := if x = 0 then 0 else if x % 2 = 1 then 1 else 2
def getN (x : Int) : Int := if x = 0 then 0 else if x % 2 = 1 then x / 2 else x / 2 - 1

set_option maxHeartbeats 400000 in
theorem get_any (x : Int) (w : World) (h0 : 0 ≤ x) (h1 : x < 18446744073709551616) :
    Calls Tryd.prog 81 #[.int .u64 x] w fun e w' => e = .returned (.agg #[.int .i64 (getK x), .int .i64 (getN x)]) ∧ Below w.heap.size w w' := by
  go_enter Tryd.func81, Tryd.ntmps81
  go_wp2
  all_goals
    go_returns
    exact ⟨ret_val (by simp_all [getK]) (by simp_all [getN]; try go_arith), by go_grown⟩

set_option maxHeartbeats 400000 in
theorem rget_any (x : Int) (w : World) (h0 : 0 ≤ x) (h1 : x < 18446744073709551616) :
    Calls Tryd.prog 74 #[.int .u64 x] w fun e w' => e = .returned (.agg #[.int .i64 (getK x), .int .i64 (getN x)]) ∧ Below w.heap.size w w' := by
  go_enter Tryd.func74, Tryd.ntmps74
  go_wp2
  all_goals
    go_returns
    exact ⟨ret_val (by simp_all [getK]) (by simp_all [getN]; try go_arith), by go_grown⟩

end Go.Proofs.YtmbgodncagjncaaDoor
namespace Go.Proofs.YtmbgodncagjncaaDoor
set_option linter.unusedSimpArgs false
set_option linter.unusedVariables false
open Go.ChangeShapes Go.WideShapes Go.ChangeAt Go.RowKit

/-- The word at an address. -/
def woH (h : Hp) (a : Int) : Int := h.z a.toNat
/-- An object is there. -/
def obB (h : Hp) (a : Int) : Bool := fiB h a && (gU (woH h a) && decide (a + gN (woH h a) < 32 * (a / 32) + 32))
def obC (h : Hp) (a : Int) : Bool := obB h a && gC (woH h a)
def obK (h : Hp) (a : Int) : Int := if obB h a = true then gK (woH h a) else 0
def obN (h : Hp) (a : Int) : Int := if obB h a = true then gN (woH h a) else 0
def fdE (h : Hp) (a i : Int) : Int := if obB h a = true then (if 0 ≤ i ∧ i < obN h a then 0 else 4) else 1
/-- The word of a field. -/
def fdX (h : Hp) (a i : Int) : Int := if fdE h a i = 0 then woH h (a + 1 + i) else 0
def putH (h : Hp) (p x : Int) : Hp := { h with z := putZ h.z p x }
def paH (h : Hp) (a : Int) : Hp := if obB h a = true then putH h a (hputW true h.b (obK h a) (obN h a)) else h
def blB (h : Hp) (a : Int) : Bool := obB h a && (obC h a == h.b)
theorem ob_no {h : Hp} {a : Int} (e : obB h a = false) : obC h a = false ∧ obK h a = 0 ∧ obN h a = 0 := by
  refine ⟨by unfold obC; rw [e]; rfl, ?_, ?_⟩
  · unfold obK; rw [if_neg (by simp [e])]
  · unfold obN; rw [if_neg (by simp [e])]
theorem gN_bound {X : Int} : 0 ≤ gN X ∧ gN X ≤ 15 := by
  unfold gN
  split
  · omega
  · omega
theorem wo_wf {h : Hp} (hw : h.wf) {a : Int} (a0 : 0 ≤ a) (a1 : a < h.n) : 0 ≤ woH h a ∧ woH h a < 18446744073709551616 := by
  have := hw.1 a.toNat (by omega)
  exact wf_u64 this
theorem ob_spec {h : Hp} {a : Int} (hf : formB h = true) (e : obB h a = true) :
    fiB h a = true ∧ gU (woH h a) = true ∧ 0 ≤ a ∧ a < h.n ∧ a + gN (woH h a) < 32 * (a / 32) + 32 ∧ 32 * (a / 32) + 32 ≤ h.n ∧ obC h a = gC (woH h a) ∧ obK h a = gK (woH h a) ∧ obN h a = gN (woH h a) ∧ hmayB true (gC (woH h a)) (gK (woH h a)) (gN (woH h a)) = true := by
  have e' := e
  simp only [obB, Bool.and_eq_true, decide_eq_true_eq] at e'
  obtain ⟨h1, h2, h3⟩ := e'
  obtain ⟨p0, p1, -⟩ := fi_spec hf h1
  have hn := (form_iff.1 hf).2.2.1
  refine ⟨h1, h2, by omega, by omega, h3, by omega, by unfold obC; rw [e]; rfl, by unfold obK; rw [if_pos e], by unfold obN; rw [if_pos e], ?_⟩
  obtain ⟨-, -, -, h4, -⟩ := raw_yes _ h2
  have e1 : gC (woH h a) = decide (woH h a / 64 % 2 = 1) := by unfold gC; rw [h2]; rfl
  have e2 : gK (woH h a) = woH h a / 16 % 4 := by unfold gK; rw [if_pos h2]
  have e3 : gN (woH h a) = woH h a % 16 := by unfold gN; rw [if_pos h2]
  rw [e1, e2, e3]
  exact h4
theorem may_any_colour {c c' : Bool} {k n : Int} (h : hmayB true c k n = true) : hmayB true c' k n = true := by simpa [hmayB] using h
theorem fd_cases (h : Hp) (a i : Int) : (obB h a = true ∧ 0 ≤ i ∧ i < obN h a ∧ fdE h a i = 0 ∧ fdX h a i = woH h (a + 1 + i)) ∨ (obB h a = true ∧ ¬ (0 ≤ i ∧ i < obN h a) ∧ fdE h a i = 4 ∧ fdX h a i = 0) ∨ (obB h a = false ∧ fdE h a i = 1 ∧ fdX h a i = 0) := by
  cases e : obB h a with
  | true =>
    by_cases h1 : 0 ≤ i ∧ i < obN h a
    · have e0 : fdE h a i = 0 := by unfold fdE; rw [if_pos e, if_pos h1]
      exact .inl ⟨rfl, h1.1, h1.2, e0, by unfold fdX; rw [if_pos e0]⟩
    · have e0 : fdE h a i = 4 := by unfold fdE; rw [if_pos e, if_neg h1]
      exact .inr (.inl ⟨rfl, h1, e0, by unfold fdX; rw [if_neg (by omega)]⟩)
  | false =>
    have e0 : fdE h a i = 1 := by unfold fdE; rw [if_neg (by simp [e])]
    exact .inr (.inr ⟨rfl, e0, by unfold fdX; rw [if_neg (by omega)]⟩)
theorem get_zero : getK 0 = 0 ∧ getN 0 = 0 := by decide
end Go.Proofs.YtmbgodncagjncaaDoor
