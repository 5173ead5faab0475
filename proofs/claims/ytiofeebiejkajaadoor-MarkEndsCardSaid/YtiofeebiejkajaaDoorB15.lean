/- Slices of deeds (three numbers each) that come in. -/
import Derived.Test.YtiofeebiejkajaaDoorB04
import Derived.Test.YtiofeebiejkajaaDoorB10
import Derived.Test.YtiofeebiejkajaaDoorB12
import Derived.Test.YtiofeebiejkajaaDoorB14
import Derived.Deep.AppendLies
import Derived.Test.YtiofeebiejkajaaDoorB01
import Derived.Test.YtiofeebiejkajaaDoorProg
import Derived.Test.YtiofeebiejkajaaDoorB06
namespace Go.Proofs.YtiofeebiejkajaaDoor
set_option linter.unusedSimpArgs false
set_option linter.unusedVariables false
open Go.ChangeShapes Go.WideShapes Go.ChangeAt Go.RowKit Go.Joins

structure Dd where
  k : Int
  a : Int
  b : Int
instance : Inhabited Dd := ⟨⟨0, 0, 0⟩⟩
def In64 (x : Int) : Prop := -9223372036854775808 ≤ x ∧ x ≤ 9223372036854775807
def Dd.wf (s : Dd) : Prop := In64 s.k ∧ In64 s.a ∧ In64 s.b
def Deeds (W : World) (p : Option Addr) (n : Nat) (s : Nat → Dd) : Prop :=
  ∀ i, i < n → (∃ b off, p = some ⟨b, off, none⟩ ∧ b < W.heap.size ∧ W.cell? ⟨b, off + i * 3, none⟩ = some (.int .i64 (s i).k) ∧ W.cell? ⟨b, off + i * 3 + 1, none⟩ = some (.int .i64 (s i).a) ∧ W.cell? ⟨b, off + i * 3 + 2, none⟩ = some (.int .i64 (s i).b)) ∧ (s i).wf
theorem Deeds.below {W W' : World} {p : Option Addr} {n : Nat} {s : Nat → Dd} (h : Deeds W p n s) (hb : Below W.heap.size W W') : Deeds W' p n s := fun i hi => by
  obtain ⟨⟨b, off, e, hlt, h0, h1, h2⟩, hw⟩ := h i hi
  exact ⟨⟨b, off, e, Nat.lt_of_lt_of_le hlt hb.size, by rw [hb.cell (p := ⟨b, _, none⟩) hlt]; exact h0, by rw [hb.cell (p := ⟨b, _, none⟩) hlt]; exact h1, by rw [hb.cell (p := ⟨b, _, none⟩) hlt]; exact h2⟩, hw⟩
section
variable {H : Type} {enc : TypeId × Value → H} {P : Program} {W : World} {base : Nat}
end
end Go.Proofs.YtiofeebiejkajaaDoor
/-! What HeapApart's first loop carries: a heap in a variable, and two rows of numbers that the call owns, apart from one another. -/
namespace Go.Proofs.YtiofeebiejkajaaDoor
set_option linter.unusedSimpArgs false
set_option linter.unusedVariables false
open Go.ChangeShapes Go.WideShapes Go.ChangeAt Go.RowKit Go.Joins

def i64s (l : List Int) : List Value := l.map (.int .i64)
theorem Src.keep {B : Nat} {ok : Bool} {n m : Nat} {p : Option Addr} {c : Nat} {q : Option Addr} {d : Nat} {p' : Option Addr} {c' : Nat} {q' : Option Addr} {d' : Nat} (s : Src B ok n m p c q d p' c' q' d') {g : Nat} (hg : Clear g p q) (h2 : g < B) : Clear g p' q' := by
  cases ok with
  | true =>
    obtain ⟨a, b⟩ := s.new rfl
    refine ⟨fun b' off sp e => ?_, fun b' off sp e => ?_⟩
    · have := a b' (by rw [e]; rfl); omega
    · have := b b' (by rw [e]; rfl); omega
  | false =>
    obtain ⟨rfl, -, rfl, -⟩ := s.old rfl
    exact hg
structure Ap (W : World) (B base N M : Nat) (p : Option Addr) (c : Nat) (q : Option Addr) (d : Nat) (va vs : Value) (H : Hp) (xs ys : List Int) : Prop where
  heap : HpIn W p N c q M d false H
  form : formB H = true
  clr : Clear B p q
  rowA : W.ownsRow base 3 1 va xs.length (i64s xs)
  rowS : W.ownsRow base 3 1 vs ys.length (i64s ys)
  box : Box3 B (.slice p N c) (.slice q M d) (.bool false) W
  ca : ∀ g, va.ownBlock = some g → Clear g p q
  cs : ∀ g, vs.ownBlock = some g → Clear g p q
  ne : ∀ g, va.ownBlock = some g → vs.ownBlock ≠ some g
  lo : B < base
section
variable {W W' : World} {B base N M : Nat} {p : Option Addr} {c : Nat} {q : Option Addr} {d : Nat} {va vs : Value} {H : Hp} {xs ys : List Int}
theorem Ap.below (a : Ap W B base N M p c q d va vs H xs ys) (hb : Below W.heap.size W W') : Ap W' B base N M p c q d va vs H xs ys :=
  ⟨a.heap.below hb, a.form, a.clr, owned_below a.rowA hb, owned_below a.rowS hb, a.box.below hb, a.ca, a.cs, a.ne, a.lo⟩
/-- Another heap is put into the variable. -/
theorem Ap.put (a : Ap W B base N M p c q d va vs H xs ys) {p' : Option Addr} {c' : Nat} {q' : Option Addr} {d' : Nat} {H' : Hp} {S : Nat} {ok : Bool} (hh : HpIn W p' N c' q' M d' false H') (hf : formB H' = true) (hs : Src S ok N M p c q d p' c' q' d')
    (hlA : ∀ g, va.ownBlock = some g → g < S) (hlS : ∀ g, vs.ownBlock = some g → g < S) (hB : B < S) :
    Ap (((W.setCell ⟨B, 0, none⟩ (.slice p' N c')).setCell ⟨B, 1, none⟩ (.slice q' M d')).setCell ⟨B, 2, none⟩ (.bool false)) B base N M p' c' q' d' va vs H' xs ys := by
  have hc := hs.keep a.clr hB
  have nA : va.ownBlock ≠ some B := fun e => by have := (a.rowA.lt B e).1; have := a.lo; omega
  have nS : vs.ownBlock ≠ some B := fun e => by have := (a.rowS.lt B e).1; have := a.lo; omega
  exact ⟨hh.stores hc _ _ _, hf, hc, owned_setCell (owned_setCell (owned_setCell a.rowA nA _ _) nA _ _) nA _ _, owned_setCell (owned_setCell (owned_setCell a.rowS nS _ _) nS _ _) nS _ _, a.box.stores _ _ _,
    fun g hg => hs.keep (a.ca g hg) (hlA g hg), fun g hg => hs.keep (a.cs g hg) (hlS g hg), a.ne, a.lo⟩
theorem HpIn.grown {b : Bool} {h : Hp} (hh : HpIn W p N c q M d b h) {row : Option Nat} (hg : W.grownBy W' row) (hc : ∀ g, row = some g → Clear g p q) : HpIn W' p N c q M d b h := by
  refine ⟨hh.n_eq, hh.m_eq, hh.b_eq, ⟨fun i hi => ?_, fun i hi => ?_, hh.at'.nle, hh.at'.mle, hh.at'.pnil, hh.at'.qnil, hh.at'.ncap, hh.at'.mcap⟩⟩
  · obtain ⟨⟨b', off, e, hlt, h0⟩, hw⟩ := hh.at'.ints i hi
    have hb : W'.heap[b']? = W.heap[b']? := hg.block b' hlt fun e' => (hc b' e'.symm).1 b' off none e rfl
    exact ⟨⟨b', off, e, Nat.lt_of_lt_of_le hlt hg.size, by rw [World.cell?_of_block (w := W) (a := ⟨b', _, none⟩) hb]; exact h0⟩, hw⟩
  · obtain ⟨⟨b', off, e, hlt, h0, h1, h2⟩, hw⟩ := hh.at'.spans i hi
    have hb : W'.heap[b']? = W.heap[b']? := hg.block b' hlt fun e' => (hc b' e'.symm).2 b' off none e rfl
    exact ⟨⟨b', off, e, Nat.lt_of_lt_of_le hlt hg.size, by rw [World.cell?_of_block (w := W) (a := ⟨b', _, none⟩) hb]; exact h0, by rw [World.cell?_of_block (w := W) (a := ⟨b', _, none⟩) hb]; exact h1, by rw [World.cell?_of_block (w := W) (a := ⟨b', _, none⟩) hb]; exact h2⟩, hw⟩
theorem Ap.lower (a : Ap W B base N M p c q d va vs H xs ys) {base' : Nat} (h : base' ≤ base) (h' : B < base') : Ap W B base' N M p c q d va vs H xs ys :=
  ⟨a.heap, a.form, a.clr, owned_base a.rowA h, owned_base a.rowS h, a.box, a.ca, a.cs, a.ne, h'⟩
end
/-- What stays of a row of objects. -/
def stay (a : Int) (L : List (Int × Int)) : List (Int × Int) := L.filter fun x => !decide (x.1 = a)
end Go.Proofs.YtiofeebiejkajaaDoor
/-! Which words are objects': what HeapApart's last loops carry. -/
namespace Go.Proofs.YtiofeebiejkajaaDoor
set_option linter.unusedSimpArgs false
set_option linter.unusedVariables false
open Go.ChangeShapes Go.WideShapes Go.ChangeAt Go.RowKit Go.Joins

theorem got_of {c : Bool} {k n : Int} (h : hmayB true c k n = true) : gU (hputW true c k n) = true ∧ gC (hputW true c k n) = c ∧ gK (hputW true c k n) = k ∧ gN (hputW true c k n) = n := by
  obtain ⟨a, b, d, e⟩ := raw_of (hputW true c k n) c k n h rfl
  refine ⟨a, ?_, ?_, ?_⟩
  · simp only [gC, a, Bool.true_and]; exact b.symm
  · simp only [gK, a, if_true]; exact d.symm
  · simp only [gN, a, if_true]; exact e.symm
end Go.Proofs.YtiofeebiejkajaaDoor
/-! 'g, ok := Get(h.Words[at[i]])' of HeapApart: one region that draws its order, stores into a new variable, and reads. -/
namespace Go.Proofs.YtiofeebiejkajaaDoor
set_option linter.unusedSimpArgs false
set_option linter.unusedVariables false
open Go.ChangeShapes Go.WideShapes Go.ChangeAt Go.RowKit Go.Joins

end Go.Proofs.YtiofeebiejkajaaDoor
namespace Go.Proofs.YtiofeebiejkajaaDoor
set_option linter.unusedSimpArgs false
set_option linter.unusedVariables false
open Go.ChangeShapes Go.WideShapes Go.ChangeAt Go.RowKit

def getK (x : Int) : Int := if x = 0 then 0 else if x % 2 = 1 then 1 else 2
def getN (x : Int) : Int := if x = 0 then 0 else if x % 2 = 1 then x / 2 else x / 2 - 1

set_option maxHeartbeats 400000 in
theorem get_any (x : Int) (w : World) (h0 : 0 ≤ x) (h1 : x < 18446744073709551616) :
    Calls Tryd.prog 74 #[.int .u64 x] w fun e w' => e = .returned (.agg #[.int .i64 (getK x), .int .i64 (getN x)]) ∧ Below w.heap.size w w' := by
  go_enter Tryd.func74, Tryd.ntmps74
  go_wp2
  all_goals
    go_returns
    exact ⟨ret_val (by simp_all [getK]) (by simp_all [getN]; try go_arith), by go_grown⟩

set_option maxHeartbeats 400000 in
theorem rget_any (x : Int) (w : World) (h0 : 0 ≤ x) (h1 : x < 18446744073709551616) :
    Calls Tryd.prog 57 #[.int .u64 x] w fun e w' => e = .returned (.agg #[.int .i64 (getK x), .int .i64 (getN x)]) ∧ Below w.heap.size w w' := by
  go_enter Tryd.func57, Tryd.ntmps57
  go_wp2
  all_goals
    go_returns
    exact ⟨ret_val (by simp_all [getK]) (by simp_all [getN]; try go_arith), by go_grown⟩

end Go.Proofs.YtiofeebiejkajaaDoor
namespace Go.Proofs.YtiofeebiejkajaaDoor
set_option linter.unusedSimpArgs false
set_option linter.unusedVariables false
open Go.ChangeShapes Go.WideShapes Go.ChangeAt Go.RowKit

/-- The word at an address. -/
def woH (h : Hp) (a : Int) : Int := h.z a.toNat
/-- An object is there. -/
def obB (h : Hp) (a : Int) : Bool := fiB h a && (gU (woH h a) && decide (a + gN (woH h a) < 32 * (a / 32) + 32))
def obC (h : Hp) (a : Int) : Bool := obB h a && gC (woH h a)
def obK (h : Hp) (a : Int) : Int := if obB h a = true then gK (woH h a) else 0
def obN (h : Hp) (a : Int) : Int := if obB h a = true then gN (woH h a) else 0
def fdE (h : Hp) (a i : Int) : Int := if obB h a = true then (if 0 ≤ i ∧ i < obN h a then 0 else 4) else 1
/-- The word of a field. -/
def fdX (h : Hp) (a i : Int) : Int := if fdE h a i = 0 then woH h (a + 1 + i) else 0
def putH (h : Hp) (p x : Int) : Hp := { h with z := putZ h.z p x }
def paH (h : Hp) (a : Int) : Hp := if obB h a = true then putH h a (hputW true h.b (obK h a) (obN h a)) else h
def blB (h : Hp) (a : Int) : Bool := obB h a && (obC h a == h.b)
theorem ob_no {h : Hp} {a : Int} (e : obB h a = false) : obC h a = false ∧ obK h a = 0 ∧ obN h a = 0 := by
  refine ⟨by unfold obC; rw [e]; rfl, ?_, ?_⟩
  · unfold obK; rw [if_neg (by simp [e])]
  · unfold obN; rw [if_neg (by simp [e])]
theorem gN_bound {X : Int} : 0 ≤ gN X ∧ gN X ≤ 15 := by
  unfold gN
  split
  · omega
  · omega
theorem wo_wf {h : Hp} (hw : h.wf) {a : Int} (a0 : 0 ≤ a) (a1 : a < h.n) : 0 ≤ woH h a ∧ woH h a < 18446744073709551616 := by
  have := hw.1 a.toNat (by omega)
  exact wf_u64 this
theorem ob_spec {h : Hp} {a : Int} (hf : formB h = true) (e : obB h a = true) :
    fiB h a = true ∧ gU (woH h a) = true ∧ 0 ≤ a ∧ a < h.n ∧ a + gN (woH h a) < 32 * (a / 32) + 32 ∧ 32 * (a / 32) + 32 ≤ h.n ∧ obC h a = gC (woH h a) ∧ obK h a = gK (woH h a) ∧ obN h a = gN (woH h a) ∧ hmayB true (gC (woH h a)) (gK (woH h a)) (gN (woH h a)) = true := by
  have e' := e
  simp only [obB, Bool.and_eq_true, decide_eq_true_eq] at e'
  obtain ⟨h1, h2, h3⟩ := e'
  obtain ⟨p0, p1, -⟩ := fi_spec hf h1
  have hn := (form_iff.1 hf).2.2.1
  refine ⟨h1, h2, by omega, by omega, h3, by omega, by unfold obC; rw [e]; rfl, by unfold obK; rw [if_pos e], by unfold obN; rw [if_pos e], ?_⟩
  obtain ⟨-, -, -, h4, -⟩ := raw_yes _ h2
  have e1 : gC (woH h a) = decide (woH h a / 64 % 2 = 1) := by unfold gC; rw [h2]; rfl
  have e2 : gK (woH h a) = woH h a / 16 % 4 := by unfold gK; rw [if_pos h2]
  have e3 : gN (woH h a) = woH h a % 16 := by unfold gN; rw [if_pos h2]
  rw [e1, e2, e3]
  exact h4
theorem may_any_colour {c c' : Bool} {k n : Int} (h : hmayB true c k n = true) : hmayB true c' k n = true := by simpa [hmayB] using h
theorem fd_cases (h : Hp) (a i : Int) : (obB h a = true ∧ 0 ≤ i ∧ i < obN h a ∧ fdE h a i = 0 ∧ fdX h a i = woH h (a + 1 + i)) ∨ (obB h a = true ∧ ¬ (0 ≤ i ∧ i < obN h a) ∧ fdE h a i = 4 ∧ fdX h a i = 0) ∨ (obB h a = false ∧ fdE h a i = 1 ∧ fdX h a i = 0) := by
  cases e : obB h a with
  | true =>
    by_cases h1 : 0 ≤ i ∧ i < obN h a
    · have e0 : fdE h a i = 0 := by unfold fdE; rw [if_pos e, if_pos h1]
      exact .inl ⟨rfl, h1.1, h1.2, e0, by unfold fdX; rw [if_pos e0]⟩
    · have e0 : fdE h a i = 4 := by unfold fdE; rw [if_pos e, if_neg h1]
      exact .inr (.inl ⟨rfl, h1, e0, by unfold fdX; rw [if_neg (by omega)]⟩)
  | false =>
    have e0 : fdE h a i = 1 := by unfold fdE; rw [if_neg (by simp [e])]
    exact .inr (.inr ⟨rfl, e0, by unfold fdX; rw [if_neg (by omega)]⟩)
theorem get_zero : getK 0 = 0 ∧ getN 0 = 0 := by decide
theorem pa_form {h : Hp} (hf : formB h = true) (a : Int) : formB (paH h a) = true := by
  unfold paH; split
  · exact hf
  · exact hf
end Go.Proofs.YtiofeebiejkajaaDoor
