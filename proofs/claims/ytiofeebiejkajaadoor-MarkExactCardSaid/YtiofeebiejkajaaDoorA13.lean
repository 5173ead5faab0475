/- Slices of deeds (three numbers each) that come in. -/
import Derived.Test.YtiofeebiejkajaaDoorA03
import Derived.Test.YtiofeebiejkajaaDoorA09
import Derived.Test.YtiofeebiejkajaaDoorA11
import Derived.Test.YtiofeebiejkajaaDoorA12
import Derived.Deep.AppendLies
import Derived.Test.YtiofeebiejkajaaDoorA01
import Derived.Test.YtiofeebiejkajaaDoorProg
import Derived.Test.YtiofeebiejkajaaDoorA05
namespace Go.Proofs.YtiofeebiejkajaaDoor
set_option linter.unusedSimpArgs false
set_option linter.unusedVariables false
open Go.ChangeShapes Go.WideShapes Go.ChangeAt Go.RowKit Go.Joins

structure Dd where
  k : Int
  a : Int
  b : Int
instance : Inhabited Dd := ⟨⟨0, 0, 0⟩⟩
def In64 (x : Int) : Prop := -9223372036854775808 ≤ x ∧ x ≤ 9223372036854775807
def Dd.wf (s : Dd) : Prop := In64 s.k ∧ In64 s.a ∧ In64 s.b
def Deeds (W : World) (p : Option Addr) (n : Nat) (s : Nat → Dd) : Prop :=
  ∀ i, i < n → (∃ b off, p = some ⟨b, off, none⟩ ∧ b < W.heap.size ∧ W.cell? ⟨b, off + i * 3, none⟩ = some (.int .i64 (s i).k) ∧ W.cell? ⟨b, off + i * 3 + 1, none⟩ = some (.int .i64 (s i).a) ∧ W.cell? ⟨b, off + i * 3 + 2, none⟩ = some (.int .i64 (s i).b)) ∧ (s i).wf
theorem Deeds.below {W W' : World} {p : Option Addr} {n : Nat} {s : Nat → Dd} (h : Deeds W p n s) (hb : Below W.heap.size W W') : Deeds W' p n s := fun i hi => by
  obtain ⟨⟨b, off, e, hlt, h0, h1, h2⟩, hw⟩ := h i hi
  exact ⟨⟨b, off, e, Nat.lt_of_lt_of_le hlt hb.size, by rw [hb.cell (p := ⟨b, _, none⟩) hlt]; exact h0, by rw [hb.cell (p := ⟨b, _, none⟩) hlt]; exact h1, by rw [hb.cell (p := ⟨b, _, none⟩) hlt]; exact h2⟩, hw⟩
section
variable {H : Type} {enc : TypeId × Value → H} {P : Program} {W : World} {base : Nat}
end
end Go.Proofs.YtiofeebiejkajaaDoor
/-! What HeapApart's first loop carries: a heap in a variable, and two rows of numbers that the call owns, apart from one another. -/
namespace Go.Proofs.YtiofeebiejkajaaDoor
set_option linter.unusedSimpArgs false
set_option linter.unusedVariables false
open Go.ChangeShapes Go.WideShapes Go.ChangeAt Go.RowKit Go.Joins

def i64s (l : List Int) : List Value := l.map (.int .i64)
theorem Src.keep {B : Nat} {ok : Bool} {n m : Nat} {p : Option Addr} {c : Nat} {q : Option Addr} {d : Nat} {p' : Option Addr} {c' : Nat} {q' : Option Addr} {d' : Nat} (s : Src B ok n m p c q d p' c' q' d') {g : Nat} (hg : Clear g p q) (h2 : g < B) : Clear g p' q' := by
  cases ok with
  | true =>
    obtain ⟨a, b⟩ := s.new rfl
    refine ⟨fun b' off sp e => ?_, fun b' off sp e => ?_⟩
    · have := a b' (by rw [e]; rfl); omega
    · have := b b' (by rw [e]; rfl); omega
  | false =>
    obtain ⟨rfl, -, rfl, -⟩ := s.old rfl
    exact hg
structure Ap (W : World) (B base N M : Nat) (p : Option Addr) (c : Nat) (q : Option Addr) (d : Nat) (va vs : Value) (H : Hp) (xs ys : List Int) : Prop where
  heap : HpIn W p N c q M d false H
  form : formB H = true
  clr : Clear B p q
  rowA : W.ownsRow base 3 1 va xs.length (i64s xs)
  rowS : W.ownsRow base 3 1 vs ys.length (i64s ys)
  box : Box3 B (.slice p N c) (.slice q M d) (.bool false) W
  ca : ∀ g, va.ownBlock = some g → Clear g p q
  cs : ∀ g, vs.ownBlock = some g → Clear g p q
  ne : ∀ g, va.ownBlock = some g → vs.ownBlock ≠ some g
  lo : B < base
section
variable {W W' : World} {B base N M : Nat} {p : Option Addr} {c : Nat} {q : Option Addr} {d : Nat} {va vs : Value} {H : Hp} {xs ys : List Int}
theorem Ap.below (a : Ap W B base N M p c q d va vs H xs ys) (hb : Below W.heap.size W W') : Ap W' B base N M p c q d va vs H xs ys :=
  ⟨a.heap.below hb, a.form, a.clr, owned_below a.rowA hb, owned_below a.rowS hb, a.box.below hb, a.ca, a.cs, a.ne, a.lo⟩
/-- Another heap is put into the variable. -/
theorem Ap.put (a : Ap W B base N M p c q d va vs H xs ys) {p' : Option Addr} {c' : Nat} {q' : Option Addr} {d' : Nat} {H' : Hp} {S : Nat} {ok : Bool} (hh : HpIn W p' N c' q' M d' false H') (hf : formB H' = true) (hs : Src S ok N M p c q d p' c' q' d')
    (hlA : ∀ g, va.ownBlock = some g → g < S) (hlS : ∀ g, vs.ownBlock = some g → g < S) (hB : B < S) :
    Ap (((W.setCell ⟨B, 0, none⟩ (.slice p' N c')).setCell ⟨B, 1, none⟩ (.slice q' M d')).setCell ⟨B, 2, none⟩ (.bool false)) B base N M p' c' q' d' va vs H' xs ys := by
  have hc := hs.keep a.clr hB
  have nA : va.ownBlock ≠ some B := fun e => by have := (a.rowA.lt B e).1; have := a.lo; omega
  have nS : vs.ownBlock ≠ some B := fun e => by have := (a.rowS.lt B e).1; have := a.lo; omega
  exact ⟨hh.stores hc _ _ _, hf, hc, owned_setCell (owned_setCell (owned_setCell a.rowA nA _ _) nA _ _) nA _ _, owned_setCell (owned_setCell (owned_setCell a.rowS nS _ _) nS _ _) nS _ _, a.box.stores _ _ _,
    fun g hg => hs.keep (a.ca g hg) (hlA g hg), fun g hg => hs.keep (a.cs g hg) (hlS g hg), a.ne, a.lo⟩
theorem HpIn.grown {b : Bool} {h : Hp} (hh : HpIn W p N c q M d b h) {row : Option Nat} (hg : W.grownBy W' row) (hc : ∀ g, row = some g → Clear g p q) : HpIn W' p N c q M d b h := by
  refine ⟨hh.n_eq, hh.m_eq, hh.b_eq, ⟨fun i hi => ?_, fun i hi => ?_, hh.at'.nle, hh.at'.mle, hh.at'.pnil, hh.at'.qnil, hh.at'.ncap, hh.at'.mcap⟩⟩
  · obtain ⟨⟨b', off, e, hlt, h0⟩, hw⟩ := hh.at'.ints i hi
    have hb : W'.heap[b']? = W.heap[b']? := hg.block b' hlt fun e' => (hc b' e'.symm).1 b' off none e rfl
    exact ⟨⟨b', off, e, Nat.lt_of_lt_of_le hlt hg.size, by rw [World.cell?_of_block (w := W) (a := ⟨b', _, none⟩) hb]; exact h0⟩, hw⟩
  · obtain ⟨⟨b', off, e, hlt, h0, h1, h2⟩, hw⟩ := hh.at'.spans i hi
    have hb : W'.heap[b']? = W.heap[b']? := hg.block b' hlt fun e' => (hc b' e'.symm).2 b' off none e rfl
    exact ⟨⟨b', off, e, Nat.lt_of_lt_of_le hlt hg.size, by rw [World.cell?_of_block (w := W) (a := ⟨b', _, none⟩) hb]; exact h0, by rw [World.cell?_of_block (w := W) (a := ⟨b', _, none⟩) hb]; exact h1, by rw [World.cell?_of_block (w := W) (a := ⟨b', _, none⟩) hb]; exact h2⟩, hw⟩
theorem Ap.lower (a : Ap W B base N M p c q d va vs H xs ys) {base' : Nat} (h : base' ≤ base) (h' : B < base') : Ap W B base' N M p c q d va vs H xs ys :=
  ⟨a.heap, a.form, a.clr, owned_base a.rowA h, owned_base a.rowS h, a.box, a.ca, a.cs, a.ne, h'⟩
end
/-- What stays of a row of objects. -/
def stay (a : Int) (L : List (Int × Int)) : List (Int × Int) := L.filter fun x => !decide (x.1 = a)
end Go.Proofs.YtiofeebiejkajaaDoor
/-! Which words are objects': what HeapApart's last loops carry. -/
namespace Go.Proofs.YtiofeebiejkajaaDoor
set_option linter.unusedSimpArgs false
set_option linter.unusedVariables false
open Go.ChangeShapes Go.WideShapes Go.ChangeAt Go.RowKit Go.Joins

theorem got_of {c : Bool} {k n : Int} (h : hmayB true c k n = true) : gU (hputW true c k n) = true ∧ gC (hputW true c k n) = c ∧ gK (hputW true c k n) = k ∧ gN (hputW true c k n) = n := by
  obtain ⟨a, b, d, e⟩ := raw_of (hputW true c k n) c k n h rfl
  refine ⟨a, ?_, ?_, ?_⟩
  · simp only [gC, a, Bool.true_and]; exact b.symm
  · simp only [gK, a, if_true]; exact d.symm
  · simp only [gN, a, if_true]; exact e.symm
end Go.Proofs.YtiofeebiejkajaaDoor
/-! 'g, ok := Get(h.Words[at[i]])' of HeapApart: one region that draws its order, stores into a new variable, and reads. -/
namespace Go.Proofs.YtiofeebiejkajaaDoor
set_option linter.unusedSimpArgs false
set_option linter.unusedVariables false
open Go.ChangeShapes Go.WideShapes Go.ChangeAt Go.RowKit Go.Joins

end Go.Proofs.YtiofeebiejkajaaDoor
namespace Go.Proofs.YtiofeebiejkajaaDoor
set_option linter.unusedSimpArgs false
set_option linter.unusedVariables false
open Go.ChangeShapes Go.WideShapes Go.ChangeAt Go.RowKit

def getK (x : Int) : Int := if x = 0 then 0 else if x % 2 = 1 then 1 else 2
def getN (x : Int) : Int := if x = 0 then 0 else if x % 2 = 1 then x / 2 else x / 2 - 1

set_option maxHeartbeats 400000 in
theorem get_any (x : Int) (w : World) (h0 : 0 ≤ x) (h1 : x < 18446744073709551616) :
    Calls Tryd.prog 74 #[.int .u64 x] w fun e w' => e = .returned (.agg #[.int .i64 (getK x), .int .i64 (getN x)]) ∧ Below w.heap.size w w' := by
  go_enter Tryd.func74, Tryd.ntmps74
  go_wp2
  all_goals
    go_returns
    exact ⟨ret_val (by simp_all [getK]) (by simp_all [getN]; try go_arith), by go_grown⟩

set_option maxHeartbeats 400000 in
theorem rget_any (x : Int) (w : World) (h0 : 0 ≤ x) (h1 : x < 18446744073709551616) :
    Calls Tryd.prog 57 #[.int .u64 x] w fun e w' => e = .returned (.agg #[.int .i64 (getK x), .int .i64 (getN x)]) ∧ Below w.heap.size w w' := by
  go_enter Tryd.func57, Tryd.ntmps57
  go_wp2
  all_goals
    go_returns
    exact ⟨ret_val (by simp_all [getK]) (by simp_all [getN]; try go_arith), by go_grown⟩

end Go.Proofs.YtiofeebiejkajaaDoor
namespace Go.Proofs.YtiofeebiejkajaaDoor
set_option linter.unusedSimpArgs false
set_option linter.unusedVariables false
open Go.ChangeShapes Go.WideShapes Go.ChangeAt Go.RowKit

/-- The word at an address. -/
def woH (h : Hp) (a : Int) : Int := h.z a.toNat
/-- An object is there. -/
def obB (h : Hp) (a : Int) : Bool := fiB h a && (gU (woH h a) && decide (a + gN (woH h a) < 32 * (a / 32) + 32))
def obC (h : Hp) (a : Int) : Bool := obB h a && gC (woH h a)
def obK (h : Hp) (a : Int) : Int := if obB h a = true then gK (woH h a) else 0
def obN (h : Hp) (a : Int) : Int := if obB h a = true then gN (woH h a) else 0
def fdE (h : Hp) (a i : Int) : Int := if obB h a = true then (if 0 ≤ i ∧ i < obN h a then 0 else 4) else 1
/-- The word of a field. -/
def fdX (h : Hp) (a i : Int) : Int := if fdE h a i = 0 then woH h (a + 1 + i) else 0
def putH (h : Hp) (p x : Int) : Hp := { h with z := putZ h.z p x }
def paH (h : Hp) (a : Int) : Hp := if obB h a = true then putH h a (hputW true h.b (obK h a) (obN h a)) else h
def blB (h : Hp) (a : Int) : Bool := obB h a && (obC h a == h.b)
theorem ob_no {h : Hp} {a : Int} (e : obB h a = false) : obC h a = false ∧ obK h a = 0 ∧ obN h a = 0 := by
  refine ⟨by unfold obC; rw [e]; rfl, ?_, ?_⟩
  · unfold obK; rw [if_neg (by simp [e])]
  · unfold obN; rw [if_neg (by simp [e])]
theorem gN_bound {X : Int} : 0 ≤ gN X ∧ gN X ≤ 15 := by
  unfold gN
  split
  · omega
  · omega
theorem wo_wf {h : Hp} (hw : h.wf) {a : Int} (a0 : 0 ≤ a) (a1 : a < h.n) : 0 ≤ woH h a ∧ woH h a < 18446744073709551616 := by
  have := hw.1 a.toNat (by omega)
  exact wf_u64 this
theorem ob_spec {h : Hp} {a : Int} (hf : formB h = true) (e : obB h a = true) :
    fiB h a = true ∧ gU (woH h a) = true ∧ 0 ≤ a ∧ a < h.n ∧ a + gN (woH h a) < 32 * (a / 32) + 32 ∧ 32 * (a / 32) + 32 ≤ h.n ∧ obC h a = gC (woH h a) ∧ obK h a = gK (woH h a) ∧ obN h a = gN (woH h a) ∧ hmayB true (gC (woH h a)) (gK (woH h a)) (gN (woH h a)) = true := by
  have e' := e
  simp only [obB, Bool.and_eq_true, decide_eq_true_eq] at e'
  obtain ⟨h1, h2, h3⟩ := e'
  obtain ⟨p0, p1, -⟩ := fi_spec hf h1
  have hn := (form_iff.1 hf).2.2.1
  refine ⟨h1, h2, by omega, by omega, h3, by omega, by unfold obC; rw [e]; rfl, by unfold obK; rw [if_pos e], by unfold obN; rw [if_pos e], ?_⟩
  obtain ⟨-, -, -, h4, -⟩ := raw_yes _ h2
  have e1 : gC (woH h a) = decide (woH h a / 64 % 2 = 1) := by unfold gC; rw [h2]; rfl
  have e2 : gK (woH h a) = woH h a / 16 % 4 := by unfold gK; rw [if_pos h2]
  have e3 : gN (woH h a) = woH h a % 16 := by unfold gN; rw [if_pos h2]
  rw [e1, e2, e3]
  exact h4
theorem may_any_colour {c c' : Bool} {k n : Int} (h : hmayB true c k n = true) : hmayB true c' k n = true := by simpa [hmayB] using h
theorem fd_cases (h : Hp) (a i : Int) : (obB h a = true ∧ 0 ≤ i ∧ i < obN h a ∧ fdE h a i = 0 ∧ fdX h a i = woH h (a + 1 + i)) ∨ (obB h a = true ∧ ¬ (0 ≤ i ∧ i < obN h a) ∧ fdE h a i = 4 ∧ fdX h a i = 0) ∨ (obB h a = false ∧ fdE h a i = 1 ∧ fdX h a i = 0) := by
  cases e : obB h a with
  | true =>
    by_cases h1 : 0 ≤ i ∧ i < obN h a
    · have e0 : fdE h a i = 0 := by unfold fdE; rw [if_pos e, if_pos h1]
      exact .inl ⟨rfl, h1.1, h1.2, e0, by unfold fdX; rw [if_pos e0]⟩
    · have e0 : fdE h a i = 4 := by unfold fdE; rw [if_pos e, if_neg h1]
      exact .inr (.inl ⟨rfl, h1, e0, by unfold fdX; rw [if_neg (by omega)]⟩)
  | false =>
    have e0 : fdE h a i = 1 := by unfold fdE; rw [if_neg (by simp [e])]
    exact .inr (.inr ⟨rfl, e0, by unfold fdX; rw [if_neg (by omega)]⟩)
theorem get_zero : getK 0 = 0 ∧ getN 0 = 0 := by decide
theorem pa_form {h : Hp} (hf : formB h = true) (a : Int) : formB (paH h a) = true := by
  unfold paH; split
  · exact hf
  · exact hf
end Go.Proofs.YtiofeebiejkajaaDoor
namespace Go.Proofs.YtiofeebiejkajaaDoor
set_option linter.unusedSimpArgs false
set_option linter.unusedVariables false
open Go.ChangeShapes Go.WideShapes Go.ChangeAt Go.RowKit Go.Joins

theorem boxed_hd {w : World} {v0 v1 v2 u0 u1 u2 u3 : Value} {t t' : TypeId} : ∃ w0, w0 = (w.alloc (.cells #[v0, v1, v2] t)).alloc (.cells #[u0, u1, u2, u3] t') ∧ Box3 w.heap.size v0 v1 v2 w0 ∧ Box4 (w.heap.size + 1) u0 u1 u2 u3 w0 ∧ Below w.heap.size w w0 := by
  refine ⟨_, rfl, (Box3.new w _ _ _ _).below ((Below.refl _ _).alloc (Nat.le_refl _) _), ?_, ?_⟩
  · have := Box4.new (w.alloc (.cells #[v0, v1, v2] t)) u0 u1 u2 u3 t'
    simpa using this
  · exact ((Below.refl _ _).alloc (Nat.le_refl _) _).alloc (by simp) _
theorem hd_none {X : Int} (h : gU X = false) : gC X = false ∧ gK X = 0 ∧ gN X = 0 := by
  refine ⟨by unfold gC; rw [h]; rfl, ?_, ?_⟩
  · unfold gK; rw [if_neg (by simp [h])]
  · unfold gN; rw [if_neg (by simp [h])]
set_option maxHeartbeats 2000000 in
theorem rget8_any (p : Option Addr) (c : Nat) (q : Option Addr) (d : Nat) (h : Hp) (a : Int) (w : World) (hh : HpAt w p c q d h) (hF : formB h = true) :
    Calls Tryd.prog 29 #[.agg #[.slice p h.n c, .slice q h.m d, .bool h.b], .int .i64 a] w fun e w' => e = .returned (.tuple #[.agg #[.bool (obB h a), .bool (obC h a), .int .i64 (obK h a), .int .i64 (obN h a)], .bool (obB h a)]) ∧ Below w.heap.size w w' := by
  obtain ⟨w0, hw0, gB, gR, hst⟩ := boxed_hd (w := w) (v0 := .slice p h.n c) (v1 := .slice q h.m d) (v2 := .bool h.b) (u0 := .bool false) (u1 := .bool false) (u2 := .int .i64 0) (u3 := .int .i64 0) (t := 25) (t' := 62)
  have hat := hh.below hst
  have hFi := rfind_any p c q d h a w0 hat hF
  obtain ⟨l0, x0, x1, x2, -, -, -⟩ := gB
  obtain ⟨l1, y0, y1, y2, y3, f0, f1, f2, f3⟩ := gR
  cases hf : fiB h a with
  | false =>
    have e : obB h a = false := by unfold obB; rw [hf]; rfl
    obtain ⟨e1, e2, e3⟩ := ob_no e
    rw [e, e1, e2, e3]
    rw [hf] at hFi
    clear e e1 e2 e3 hF
    go_enter Tryd.func29, Tryd.ntmps29
    go_upto_region 1 with fail
    rw [← hw0]
    clear hw0
    go_wp2_with (first
    | (go_at_call 50; refine Calls.mono (hFi) ?_; rintro e w' ⟨rfl, hb⟩; obtain ⟨hc, hf, hb, hz⟩ := bstep hb (w := w0) (by go_grown); try simp only [World.size_alloc, World.size_setCell, World.size_drew] at hc hf hz)
    )
    refine bodyPost_ret (by simp [results, Tryd.results29, go_sem, *]; try rfl) rfl ?_
    exact ⟨rfl, by go_grown; exact bjoin hb hst⟩
  | true =>
    obtain ⟨q0, q1, -⟩ := fi_spec hF hf
    have hnn := (form_iff.1 hF).2.2.1
    have a0 : 0 ≤ a := by omega
    have a1 : a < h.n := by omega
    have a2 : a ≤ 512 := by have := (form_iff.1 hF).2.1; omega
    have eB : obB h a = (gU (woH h a) && decide (a + gN (woH h a) < 32 * (a / 32) + 32)) := by unfold obB; rw [hf, Bool.true_and]
    have eC : obB h a = true → obC h a = gC (woH h a) := fun e => by unfold obC; rw [e]; rfl
    have eK : obB h a = true → obK h a = gK (woH h a) := fun e => by unfold obK; rw [if_pos e]
    have eN : obB h a = true → obN h a = gN (woH h a) := fun e => by unfold obN; rw [if_pos e]
    have hX := wo_wf hh.wf a0 a1
    have eO := ob_no (h := h) (a := a)
    have hNb := gN_bound (X := woH h a)
    rw [hf] at hFi
    obtain ⟨⟨b, off, rfl, hlt, v0⟩, -⟩ := hat.ints a.toNat (by omega)
    rw [show h.z a.toNat = woH h a from rfl] at v0
    have hG := rhget_any (woH h a)
    generalize woH h a = X at *
    obtain ⟨X0, X1⟩ := hX
    clear hF hnn hat hh
    cases hu : gU X with
    | false =>
      obtain ⟨u1, u2, u3⟩ := hd_none hu
      rw [hu, Bool.false_and] at eB
      obtain ⟨e1, e2, e3⟩ := eO eB
      rw [eB, e1, e2, e3]
      rw [hu, u1, u2, u3] at hG
      simp only [Bool.false_or] at hG
      clear eB eC eK eN eO e1 e2 e3 u1 u2 u3 hu hNb
      cases hx : (X == 0)
      all_goals
        rw [hx] at hG
        go_enter Tryd.func29, Tryd.ntmps29
        go_upto_region 1 with fail
        rw [← hw0]
        clear hw0
        go_wp2_with (first
    | (go_at_call 50; refine Calls.mono (hFi) ?_; rintro e w' ⟨rfl, hb⟩; obtain ⟨hc, hf, hb, hz⟩ := bstep hb (w := w0) (by go_grown); try simp only [World.size_alloc, World.size_setCell, World.size_drew] at hc hf hz)
    | (go_at_call 51; refine Calls.mono (hG _ X0 X1) ?_; rintro e w' ⟨rfl, hb⟩; obtain ⟨hc, hf, hb, hz⟩ := bstep hb (w := w0) (by go_grown); try simp only [World.size_alloc, World.size_setCell, World.size_drew] at hc hf hz)
        )
        refine bodyPost_ret (by simp [results, Tryd.results29, go_sem, *]; try rfl) rfl ?_
        exact ⟨rfl, by go_grown; exact bjoin hb hst⟩
    | true =>
      rw [hu, Bool.true_and] at eB
      rw [hu] at hG
      simp only [Bool.true_or] at hG
      obtain ⟨F0, F1⟩ := hNb
      by_cases hl : a + gN X < 32 * (a / 32) + 32
      · rw [decide_eq_true hl] at eB
        rw [eB, eC eB, eK eB, eN eB]
        have hd : decide (32 * (a / 32) + 32 ≤ a + gN X) = false := by simp; omega
        clear eB eC eK eN eO hu
        generalize gN X = F at *
        generalize gK X = K at *
        generalize gC X = C at *
        go_enter Tryd.func29, Tryd.ntmps29
        go_upto_region 1 with fail
        rw [← hw0]
        clear hw0
        go_wp2_with (first
    | (go_at_call 50; refine Calls.mono (hFi) ?_; rintro e w' ⟨rfl, hb⟩; obtain ⟨hc, hf, hb, hz⟩ := bstep hb (w := w0) (by go_grown); try simp only [World.size_alloc, World.size_setCell, World.size_drew] at hc hf hz)
    | (go_at_call 51; refine Calls.mono (hG _ X0 X1) ?_; rintro e w' ⟨rfl, hb⟩; obtain ⟨hc, hf, hb, hz⟩ := bstep hb (w := w0) (by go_grown); try simp only [World.size_alloc, World.size_setCell, World.size_drew] at hc hf hz)
        )
        refine bodyPost_ret (by simp [results, Tryd.results29, go_sem, *]; try rfl) rfl ?_
        exact ⟨rfl, by go_grown; exact bjoin hb hst⟩
      · rw [decide_eq_false hl] at eB
        obtain ⟨e1, e2, e3⟩ := eO eB
        rw [eB, e1, e2, e3]
        have hd : decide (32 * (a / 32) + 32 ≤ a + gN X) = true := by simp; omega
        clear eB eC eK eN eO hu e1 e2 e3
        generalize gN X = F at *
        generalize gK X = K at *
        generalize gC X = C at *
        go_enter Tryd.func29, Tryd.ntmps29
        go_upto_region 1 with fail
        rw [← hw0]
        clear hw0
        go_wp2_with (first
    | (go_at_call 50; refine Calls.mono (hFi) ?_; rintro e w' ⟨rfl, hb⟩; obtain ⟨hc, hf, hb, hz⟩ := bstep hb (w := w0) (by go_grown); try simp only [World.size_alloc, World.size_setCell, World.size_drew] at hc hf hz)
    | (go_at_call 51; refine Calls.mono (hG _ X0 X1) ?_; rintro e w' ⟨rfl, hb⟩; obtain ⟨hc, hf, hb, hz⟩ := bstep hb (w := w0) (by go_grown); try simp only [World.size_alloc, World.size_setCell, World.size_drew] at hc hf hz)
        )
        refine bodyPost_ret (by simp [results, Tryd.results29, go_sem, *]; try rfl) rfl ?_
        exact ⟨rfl, by go_grown; exact bjoin hb hst⟩

theorem boxed_val {w : World} {v0 v1 v2 u0 u1 : Value} {t t' : TypeId} : ∃ w0, w0 = (w.alloc (.cells #[v0, v1, v2] t)).alloc (.cells #[u0, u1] t') ∧ Box3 w.heap.size v0 v1 v2 w0 ∧ w.heap.size + 1 < w0.heap.size ∧ w0.cell? ⟨w.heap.size + 1, 0, none⟩ = some u0 ∧ w0.cell? ⟨w.heap.size + 1, 1, none⟩ = some u1 ∧ w0.frozen? ⟨w.heap.size + 1, 0, none⟩ = false ∧ w0.frozen? ⟨w.heap.size + 1, 1, none⟩ = false ∧ Below w.heap.size w w0 := by
  have hg := heap_alloc_new (w.alloc (.cells #[v0, v1, v2] t)) (.cells #[u0, u1] t')
  rw [World.size_alloc] at hg
  refine ⟨_, rfl, (Box3.new w _ _ _ _).below ((Below.refl _ _).alloc (Nat.le_refl _) _), by simp, ?_, ?_, ?_, ?_, ((Below.refl _ _).alloc (Nat.le_refl _) _).alloc (by simp) _⟩
  · rw [cell_of_row _ _ _ _ _ _ hg]; rfl
  · rw [cell_of_row _ _ _ _ _ _ hg]; rfl
  · exact frozen_of_row _ _ _ _ _ hg
  · exact frozen_of_row _ _ _ _ _ hg
set_option maxHeartbeats 2000000 in
theorem rfield8_any (p : Option Addr) (c : Nat) (q : Option Addr) (d : Nat) (h : Hp) (a i : Int) (w : World) (hh : HpAt w p c q d h) (hF : formB h = true) :
    Calls Tryd.prog 36 #[.agg #[.slice p h.n c, .slice q h.m d, .bool h.b], .int .i64 a, .int .i64 i] w fun e w' => e = .returned (.tuple #[.agg #[.int .i64 (getK (fdX h a i)), .int .i64 (getN (fdX h a i))], .int .i64 (fdE h a i)]) ∧ Below w.heap.size w w' := by
  obtain ⟨w0, hw0, gB, l1, y0, y1, f0, f1, hst⟩ := boxed_val (w := w) (v0 := .slice p h.n c) (v1 := .slice q h.m d) (v2 := .bool h.b) (u0 := .int .i64 0) (u1 := .int .i64 0) (t := 25) (t' := 38)
  have hat := hh.below hst
  have hG := rget8_any p c q d h a w0 hat hF
  obtain ⟨l0, x0, x1, x2, -, -, -⟩ := gB
  obtain ⟨z0, z1⟩ := get_zero
  rcases fd_cases h a i with ⟨e0, i0, i1, e1, e2⟩ | ⟨e0, hi, e1, e2⟩ | ⟨e0, e1, e2⟩
  · obtain ⟨-, -, a0, -, a2, a3, -, -, a4, -⟩ := ob_spec hF e0
    rw [a4] at i1
    rw [e1, e2]
    rw [e0] at hG
    have hm16 := (form_iff.1 hF).2.1
    have hnn := (form_iff.1 hF).2.2.1
    have a5 : a + 1 + i < h.n := by omega
    have a6 : a + 1 + i ≤ 512 := by omega
    have hX := wo_wf hh.wf (show 0 ≤ a + 1 + i by omega) a5
    obtain ⟨⟨b, off, rfl, hlt, v0⟩, -⟩ := hat.ints (a + 1 + i).toNat (by omega)
    rw [show h.z (a + 1 + i).toNat = woH h (a + 1 + i) from rfl] at v0
    have hV := rget_any (woH h (a + 1 + i))
    have hd : decide (obN h a ≤ i) = false := by simp; omega
    generalize woH h (a + 1 + i) = X at *
    obtain ⟨X0, X1⟩ := hX
    generalize obN h a = F at *
    generalize obC h a = C at *
    generalize obK h a = K at *
    clear hF hnn hat hh e0 e1 e2 a2 a3 a4 i1 z0 z1
    go_enter Tryd.func36, Tryd.ntmps36
    go_upto_region 1 with fail
    rw [← hw0]
    clear hw0
    go_wp2_with (first
    | (go_at_call 29; refine Calls.mono (hG) ?_; rintro e w' ⟨rfl, hb⟩; obtain ⟨hc, hf, hb, hz⟩ := bstep hb (w := w0) (by go_grown); try simp only [World.size_alloc, World.size_setCell, World.size_drew] at hc hf hz)
    | (go_at_call 57; refine Calls.mono (hV _ X0 X1) ?_; rintro e w' ⟨rfl, hb⟩; obtain ⟨hc, hf, hb, hz⟩ := bstep hb (w := w0) (by go_grown); try simp only [World.size_alloc, World.size_setCell, World.size_drew] at hc hf hz)
    )
    refine bodyPost_ret (by simp [results, Tryd.results36, go_sem, *]; try rfl) rfl ?_
    exact ⟨rfl, by go_grown; exact bjoin hb hst⟩
  · rw [e1, e2, z0, z1]
    rw [e0] at hG
    have hNb : 0 ≤ obN h a := by have := gN_bound (X := woH h a); rw [(ob_spec hF e0).2.2.2.2.2.2.2.2.1]; omega
    have hd : decide (obN h a ≤ i) = true ∨ decide (i < 0) = true := by
      by_cases h0 : i < 0
      · right; simp [h0]
      · left; simp; omega
    have hi' : ¬ (0 ≤ i ∧ i < obN h a) := hi
    generalize obN h a = F at *
    generalize obC h a = C at *
    generalize obK h a = K at *
    clear hF hat hh e0 e1 e2 z0 z1 hi
    by_cases h0 : i < 0
    · clear hd hi'
      go_enter Tryd.func36, Tryd.ntmps36
      go_upto_region 1 with fail
      rw [← hw0]
      clear hw0
      go_wp2_with (first
    | (go_at_call 29; refine Calls.mono (hG) ?_; rintro e w' ⟨rfl, hb⟩; obtain ⟨hc, hf, hb, hz⟩ := bstep hb (w := w0) (by go_grown); try simp only [World.size_alloc, World.size_setCell, World.size_drew] at hc hf hz)
      )
      refine bodyPost_ret (by simp [results, Tryd.results36, go_sem, *]; try rfl) rfl ?_
      exact ⟨rfl, by go_grown; exact bjoin hb hst⟩
    · have h1 : F ≤ i := by omega
      clear hd hi'
      go_enter Tryd.func36, Tryd.ntmps36
      go_upto_region 1 with fail
      rw [← hw0]
      clear hw0
      go_wp2_with (first
    | (go_at_call 29; refine Calls.mono (hG) ?_; rintro e w' ⟨rfl, hb⟩; obtain ⟨hc, hf, hb, hz⟩ := bstep hb (w := w0) (by go_grown); try simp only [World.size_alloc, World.size_setCell, World.size_drew] at hc hf hz)
      )
      refine bodyPost_ret (by simp [results, Tryd.results36, go_sem, *]; try rfl) rfl ?_
      exact ⟨rfl, by go_grown; exact bjoin hb hst⟩
  · obtain ⟨o1, o2, o3⟩ := ob_no e0
    rw [e1, e2, z0, z1]
    rw [e0, o1, o2, o3] at hG
    clear hF hat hh e0 e1 e2 z0 z1 o1 o2 o3
    go_enter Tryd.func36, Tryd.ntmps36
    go_upto_region 1 with fail
    rw [← hw0]
    clear hw0
    go_wp2_with (first
    | (go_at_call 29; refine Calls.mono (hG) ?_; rintro e w' ⟨rfl, hb⟩; obtain ⟨hc, hf, hb, hz⟩ := bstep hb (w := w0) (by go_grown); try simp only [World.size_alloc, World.size_setCell, World.size_drew] at hc hf hz)
    )
    refine bodyPost_ret (by simp [results, Tryd.results36, go_sem, *]; try rfl) rfl ?_
    exact ⟨rfl, by go_grown; exact bjoin hb hst⟩
def inZ (n : Nat) (z : Nat → Int) (x : Int) : Bool := (List.range n).any fun i => z i == x
theorem inZ_iff {n : Nat} {z : Nat → Int} {x : Int} : inZ n z x = true ↔ ∃ i, i < n ∧ z i = x := by simp [inZ]
set_option maxHeartbeats 1000000 in
theorem rin8_any (p : Option Addr) (n cap : Nat) (z : Nat → Int) (x : Int) (w : World) (hz : Ints .i64 w p n z) (hn : n ≤ maxLen) :
    Calls Tryd.prog 16 #[.slice p n cap, .int .i64 x] w fun e w' => e = .returned (.bool (inZ n z x)) ∧ Below w.heap.size w w' := by
  simp only [maxLen] at hn
  have hI : Hid (∀ e : Bool, (e = true ↔ ∃ i, i < n ∧ z i = x) → inZ n z x = e) := fun e h => by rw [Bool.eq_iff_iff, inZ_iff, h]
  go_enter Tryd.func16, Tryd.ntmps16
  go_wp2
  go_loopg [5] n (fun gg iv wr => ∃ i : Int, 0 ≤ i ∧ i ≤ n ∧ gg = (n - i).toNat ∧ iv = .int .i64 i ∧ (∀ j : Nat, (j : Int) < i → ¬ z j = x) ∧ Below w.heap.size w wr)
  case atStart => exact ⟨0, by omega, by omega, by omega, rfl, fun j hj => by omega, Below.refl _ _⟩
  case round =>
    obtain ⟨i, il, ih, rfl, rfl, hall, hbw⟩ := hrel
    by_cases hi : i < n
    · obtain ⟨⟨b, off, rfl, hlt, v0⟩, -⟩ := (hz.below hbw) i.toNat (by omega)
      by_cases e : z i.toNat = x
      · have e' : inZ n z x = true := hI.out true ⟨fun _ => ⟨i.toNat, by omega, e⟩, fun _ => rfl⟩
        rw [e] at v0
        clear e
        go_wp2
        go_returns
        exact ⟨ret_bool (by simp [e']), hbw⟩
      · have d0 : (z i.toNat == x) = false := by simp [e]
        have hall' : ∀ j : Nat, (j : Int) < i + 1 → ¬ z j = x := fun j hj => by
          by_cases ej : (j : Int) = i
          · rw [show j = i.toNat by omega]; exact e
          · exact hall j (by omega)
        clear e hall
        go_wp2
        go_roundg ((n : Int) - (i + 1)).toNat
        case measure => omega
        case rel => exact ⟨i + 1, by omega, by omega, rfl, by go_num, hall', hbw⟩
    · have e' : inZ n z x = false := hI.out false ⟨fun h => (by cases h), fun ⟨j, hj, h⟩ => absurd h (hall j (by omega))⟩
      go_wp2
      go_returns
      exact ⟨ret_bool (by simp [e']), hbw⟩
end Go.Proofs.YtiofeebiejkajaaDoor
