/- Slices of deeds (three numbers each) that come in. -/
import Derived.Test.YtmbgodncagjncaaDoorB05
import Derived.Test.YtmbgodncagjncaaDoorB16
import Derived.Test.YtmbgodncagjncaaDoorB17
import Derived.Test.YtmbgodncagjncaaDoorB06
import Derived.Deep.AppendLies
namespace Go.Proofs.YtmbgodncagjncaaDoor
set_option linter.unusedSimpArgs false
set_option linter.unusedVariables false
open Go.ChangeShapes Go.WideShapes Go.ChangeAt Go.RowKit Go.Joins

structure Dd where
  k : Int
  a : Int
  b : Int
instance : Inhabited Dd := ⟨⟨0, 0, 0⟩⟩
def In64 (x : Int) : Prop := -9223372036854775808 ≤ x ∧ x ≤ 9223372036854775807
def Dd.wf (s : Dd) : Prop := In64 s.k ∧ In64 s.a ∧ In64 s.b
def Deeds (W : World) (p : Option Addr) (n : Nat) (s : Nat → Dd) : Prop :=
  ∀ i, i < n → (∃ b off, p = some ⟨b, off, none⟩ ∧ b < W.heap.size ∧ W.cell? ⟨b, off + i * 3, none⟩ = some (.int .i64 (s i).k) ∧ W.cell? ⟨b, off + i * 3 + 1, none⟩ = some (.int .i64 (s i).a) ∧ W.cell? ⟨b, off + i * 3 + 2, none⟩ = some (.int .i64 (s i).b)) ∧ (s i).wf
theorem Deeds.below {W W' : World} {p : Option Addr} {n : Nat} {s : Nat → Dd} (h : Deeds W p n s) (hb : Below W.heap.size W W') : Deeds W' p n s := fun i hi => by
  obtain ⟨⟨b, off, e, hlt, h0, h1, h2⟩, hw⟩ := h i hi
  exact ⟨⟨b, off, e, Nat.lt_of_lt_of_le hlt hb.size, by rw [hb.cell (p := ⟨b, _, none⟩) hlt]; exact h0, by rw [hb.cell (p := ⟨b, _, none⟩) hlt]; exact h1, by rw [hb.cell (p := ⟨b, _, none⟩) hlt]; exact h2⟩, hw⟩
section
variable {H : Type} {enc : TypeId × Value → H} {P : Program} {W : World} {base : Nat}
end
end Go.Proofs.YtmbgodncagjncaaDoor
/-! What HeapApart's first loop carries: a heap in a variable, and two rows of numbers that the call owns, apart from one another. -/
namespace Go.Proofs.YtmbgodncagjncaaDoor
set_option linter.unusedSimpArgs false
set_option linter.unusedVariables false
open Go.ChangeShapes Go.WideShapes Go.ChangeAt Go.RowKit Go.Joins

def i64s (l : List Int) : List Value := l.map (.int .i64)
theorem Src.keep {B : Nat} {ok : Bool} {n m : Nat} {p : Option Addr} {c : Nat} {q : Option Addr} {d : Nat} {p' : Option Addr} {c' : Nat} {q' : Option Addr} {d' : Nat} (s : Src B ok n m p c q d p' c' q' d') {g : Nat} (hg : Clear g p q) (h2 : g < B) : Clear g p' q' := by
  cases ok with
  | true =>
    obtain ⟨a, b⟩ := s.new rfl
    refine ⟨fun b' off sp e => ?_, fun b' off sp e => ?_⟩
    · have := a b' (by rw [e]; rfl); omega
    · have := b b' (by rw [e]; rfl); omega
  | false =>
    obtain ⟨rfl, -, rfl, -⟩ := s.old rfl
    exact hg
structure Ap (W : World) (B base N M : Nat) (p : Option Addr) (c : Nat) (q : Option Addr) (d : Nat) (va vs : Value) (H : Hp) (xs ys : List Int) : Prop where
  heap : HpIn W p N c q M d false H
  form : formB H = true
  clr : Clear B p q
  rowA : W.ownsRow base 3 1 va xs.length (i64s xs)
  rowS : W.ownsRow base 3 1 vs ys.length (i64s ys)
  box : Box3 B (.slice p N c) (.slice q M d) (.bool false) W
  ca : ∀ g, va.ownBlock = some g → Clear g p q
  cs : ∀ g, vs.ownBlock = some g → Clear g p q
  ne : ∀ g, va.ownBlock = some g → vs.ownBlock ≠ some g
  lo : B < base
section
variable {W W' : World} {B base N M : Nat} {p : Option Addr} {c : Nat} {q : Option Addr} {d : Nat} {va vs : Value} {H : Hp} {xs ys : List Int}
theorem Ap.below (a : Ap W B base N M p c q d va vs H xs ys) (hb : Below W.heap.size W W') : Ap W' B base N M p c q d va vs H xs ys :=
  ⟨a.heap.below hb, a.form, a.clr, owned_below a.rowA hb, owned_below a.rowS hb, a.box.below hb, a.ca, a.cs, a.ne, a.lo⟩
/-- Another heap is put into the variable. -/
theorem Ap.put (a : Ap W B base N M p c q d va vs H xs ys) {p' : Option Addr} {c' : Nat} {q' : Option Addr} {d' : Nat} {H' : Hp} {S : Nat} {ok : Bool} (hh : HpIn W p' N c' q' M d' false H') (hf : formB H' = true) (hs : Src S ok N M p c q d p' c' q' d')
    (hlA : ∀ g, va.ownBlock = some g → g < S) (hlS : ∀ g, vs.ownBlock = some g → g < S) (hB : B < S) :
    Ap (((W.setCell ⟨B, 0, none⟩ (.slice p' N c')).setCell ⟨B, 1, none⟩ (.slice q' M d')).setCell ⟨B, 2, none⟩ (.bool false)) B base N M p' c' q' d' va vs H' xs ys := by
  have hc := hs.keep a.clr hB
  have nA : va.ownBlock ≠ some B := fun e => by have := (a.rowA.lt B e).1; have := a.lo; omega
  have nS : vs.ownBlock ≠ some B := fun e => by have := (a.rowS.lt B e).1; have := a.lo; omega
  exact ⟨hh.stores hc _ _ _, hf, hc, owned_setCell (owned_setCell (owned_setCell a.rowA nA _ _) nA _ _) nA _ _, owned_setCell (owned_setCell (owned_setCell a.rowS nS _ _) nS _ _) nS _ _, a.box.stores _ _ _,
    fun g hg => hs.keep (a.ca g hg) (hlA g hg), fun g hg => hs.keep (a.cs g hg) (hlS g hg), a.ne, a.lo⟩
theorem HpIn.grown {b : Bool} {h : Hp} (hh : HpIn W p N c q M d b h) {row : Option Nat} (hg : W.grownBy W' row) (hc : ∀ g, row = some g → Clear g p q) : HpIn W' p N c q M d b h := by
  refine ⟨hh.n_eq, hh.m_eq, hh.b_eq, ⟨fun i hi => ?_, fun i hi => ?_, hh.at'.nle, hh.at'.mle, hh.at'.pnil, hh.at'.qnil, hh.at'.ncap, hh.at'.mcap⟩⟩
  · obtain ⟨⟨b', off, e, hlt, h0⟩, hw⟩ := hh.at'.ints i hi
    have hb : W'.heap[b']? = W.heap[b']? := hg.block b' hlt fun e' => (hc b' e'.symm).1 b' off none e rfl
    exact ⟨⟨b', off, e, Nat.lt_of_lt_of_le hlt hg.size, by rw [World.cell?_of_block (w := W) (a := ⟨b', _, none⟩) hb]; exact h0⟩, hw⟩
  · obtain ⟨⟨b', off, e, hlt, h0, h1, h2⟩, hw⟩ := hh.at'.spans i hi
    have hb : W'.heap[b']? = W.heap[b']? := hg.block b' hlt fun e' => (hc b' e'.symm).2 b' off none e rfl
    exact ⟨⟨b', off, e, Nat.lt_of_lt_of_le hlt hg.size, by rw [World.cell?_of_block (w := W) (a := ⟨b', _, none⟩) hb]; exact h0, by rw [World.cell?_of_block (w := W) (a := ⟨b', _, none⟩) hb]; exact h1, by rw [World.cell?_of_block (w := W) (a := ⟨b', _, none⟩) hb]; exact h2⟩, hw⟩
theorem Ap.lower (a : Ap W B base N M p c q d va vs H xs ys) {base' : Nat} (h : base' ≤ base) (h' : B < base') : Ap W B base' N M p c q d va vs H xs ys :=
  ⟨a.heap, a.form, a.clr, owned_base a.rowA h, owned_base a.rowS h, a.box, a.ca, a.cs, a.ne, h'⟩
end
/-- What stays of a row of objects. -/
def stay (a : Int) (L : List (Int × Int)) : List (Int × Int) := L.filter fun x => !decide (x.1 = a)
end Go.Proofs.YtmbgodncagjncaaDoor
/-! Which words are objects': what HeapApart's last loops carry. -/
namespace Go.Proofs.YtmbgodncagjncaaDoor
set_option linter.unusedSimpArgs false
set_option linter.unusedVariables false
open Go.ChangeShapes Go.WideShapes Go.ChangeAt Go.RowKit Go.Joins

theorem got_of {c : Bool} {k n : Int} (h : hmayB true c k n = true) : gU (hputW true c k n) = true ∧ gC (hputW true c k n) = c ∧ gK (hputW true c k n) = k ∧ gN (hputW true c k n) = n := by
  obtain ⟨a, b, d, e⟩ := raw_of (hputW true c k n) c k n h rfl
  refine ⟨a, ?_, ?_, ?_⟩
  · simp only [gC, a, Bool.true_and]; exact b.symm
  · simp only [gK, a, if_true]; exact d.symm
  · simp only [gN, a, if_true]; exact e.symm
end Go.Proofs.YtmbgodncagjncaaDoor
/-! 'g, ok := Get(h.Words[at[i]])' of HeapApart: one region that draws its order, stores into a new variable, and reads. -/
namespace Go.Proofs.YtmbgodncagjncaaDoor
set_option linter.unusedSimpArgs false
set_option linter.unusedVariables false
open Go.ChangeShapes Go.WideShapes Go.ChangeAt Go.RowKit Go.Joins

end Go.Proofs.YtmbgodncagjncaaDoor
