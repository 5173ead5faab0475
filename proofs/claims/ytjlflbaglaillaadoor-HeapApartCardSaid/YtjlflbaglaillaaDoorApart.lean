/- What HeapApart's first loop carries: a heap in a variable, and two rows of numbers that the call owns, apart from one another. -/
import Derived.Test.YtjlflbaglaillaaDoorHeapIn
import Derived.Test.YtjlflbaglaillaaDoorDeeds
import Derived.Deep.AppendLies
namespace Go.Proofs.YtjlflbaglaillaaDoor
set_option linter.unusedSimpArgs false
set_option linter.unusedVariables false
open Go.ChangeShapes Go.WideShapes Go.ChangeAt Go.RowKit Go.Joins

def i64s (l : List Int) : List Value := l.map (.int .i64)
theorem Src.keep {B : Nat} {ok : Bool} {n m : Nat} {p : Option Addr} {c : Nat} {q : Option Addr} {d : Nat} {p' : Option Addr} {c' : Nat} {q' : Option Addr} {d' : Nat} (s : Src B ok n m p c q d p' c' q' d') {g : Nat} (hg : Clear g p q) (h2 : g < B) : Clear g p' q' := by
  cases ok with
  | true =>
    obtain ⟨a, b⟩ := s.new rfl
    refine ⟨fun b' off sp e => ?_, fun b' off sp e => ?_⟩
    · have := a b' (by rw [e]; rfl); omega
    · have := b b' (by rw [e]; rfl); omega
  | false =>
    obtain ⟨rfl, -, rfl, -⟩ := s.old rfl
    exact hg
structure Ap (W : World) (B base N M : Nat) (p : Option Addr) (c : Nat) (q : Option Addr) (d : Nat) (va vs : Value) (H : Hp) (xs ys : List Int) : Prop where
  heap : HpIn W p N c q M d false H
  form : formB H = true
  clr : Clear B p q
  rowA : W.ownsRow base 3 1 va xs.length (i64s xs)
  rowS : W.ownsRow base 3 1 vs ys.length (i64s ys)
  box : Box3 B (.slice p N c) (.slice q M d) (.bool false) W
  ca : ∀ g, va.ownBlock = some g → Clear g p q
  cs : ∀ g, vs.ownBlock = some g → Clear g p q
  ne : ∀ g, va.ownBlock = some g → vs.ownBlock ≠ some g
  lo : B < base
section
variable {W W' : World} {B base N M : Nat} {p : Option Addr} {c : Nat} {q : Option Addr} {d : Nat} {va vs : Value} {H : Hp} {xs ys : List Int}
theorem Ap.below (a : Ap W B base N M p c q d va vs H xs ys) (hb : Below W.heap.size W W') : Ap W' B base N M p c q d va vs H xs ys :=
  ⟨a.heap.below hb, a.form, a.clr, owned_below a.rowA hb, owned_below a.rowS hb, a.box.below hb, a.ca, a.cs, a.ne, a.lo⟩
/-- Another heap is put into the variable. -/
theorem Ap.put (a : Ap W B base N M p c q d va vs H xs ys) {p' : Option Addr} {c' : Nat} {q' : Option Addr} {d' : Nat} {H' : Hp} {S : Nat} {ok : Bool} (hh : HpIn W p' N c' q' M d' false H') (hf : formB H' = true) (hs : Src S ok N M p c q d p' c' q' d')
    (hlA : ∀ g, va.ownBlock = some g → g < S) (hlS : ∀ g, vs.ownBlock = some g → g < S) (hB : B < S) :
    Ap (((W.setCell ⟨B, 0, none⟩ (.slice p' N c')).setCell ⟨B, 1, none⟩ (.slice q' M d')).setCell ⟨B, 2, none⟩ (.bool false)) B base N M p' c' q' d' va vs H' xs ys := by
  have hc := hs.keep a.clr hB
  have nA : va.ownBlock ≠ some B := fun e => by have := (a.rowA.lt B e).1; have := a.lo; omega
  have nS : vs.ownBlock ≠ some B := fun e => by have := (a.rowS.lt B e).1; have := a.lo; omega
  exact ⟨hh.stores hc _ _ _, hf, hc, owned_setCell (owned_setCell (owned_setCell a.rowA nA _ _) nA _ _) nA _ _, owned_setCell (owned_setCell (owned_setCell a.rowS nS _ _) nS _ _) nS _ _, a.box.stores _ _ _,
    fun g hg => hs.keep (a.ca g hg) (hlA g hg), fun g hg => hs.keep (a.cs g hg) (hlS g hg), a.ne, a.lo⟩
theorem HpIn.grown {b : Bool} {h : Hp} (hh : HpIn W p N c q M d b h) {row : Option Nat} (hg : W.grownBy W' row) (hc : ∀ g, row = some g → Clear g p q) : HpIn W' p N c q M d b h := by
  refine ⟨hh.n_eq, hh.m_eq, hh.b_eq, ⟨fun i hi => ?_, fun i hi => ?_, hh.at'.nle, hh.at'.mle, hh.at'.pnil, hh.at'.qnil⟩⟩
  · obtain ⟨⟨b', off, e, hlt, h0⟩, hw⟩ := hh.at'.ints i hi
    have hb : W'.heap[b']? = W.heap[b']? := hg.block b' hlt fun e' => (hc b' e'.symm).1 b' off none e rfl
    exact ⟨⟨b', off, e, Nat.lt_of_lt_of_le hlt hg.size, by rw [World.cell?_of_block (w := W) (a := ⟨b', _, none⟩) hb]; exact h0⟩, hw⟩
  · obtain ⟨⟨b', off, e, hlt, h0, h1, h2⟩, hw⟩ := hh.at'.spans i hi
    have hb : W'.heap[b']? = W.heap[b']? := hg.block b' hlt fun e' => (hc b' e'.symm).2 b' off none e rfl
    exact ⟨⟨b', off, e, Nat.lt_of_lt_of_le hlt hg.size, by rw [World.cell?_of_block (w := W) (a := ⟨b', _, none⟩) hb]; exact h0, by rw [World.cell?_of_block (w := W) (a := ⟨b', _, none⟩) hb]; exact h1, by rw [World.cell?_of_block (w := W) (a := ⟨b', _, none⟩) hb]; exact h2⟩, hw⟩
/-- A number is appended to the first row. -/
theorem Ap.pushA (a : Ap W B base N M p c q d va vs H xs ys) {x : Int} {va' : Value} {g : Nat} (hg : W.grownBy W' va.ownBlock) (ho : W'.ownsRow base 3 1 va' (xs.length + 1) (i64s xs ++ [.int .i64 x])) (he : va'.ownBlock = some g) (hat : va.ownBlock = some g ∨ g = W.heap.size) :
    Ap W' B base N M p c q d va' vs H (xs ++ [x]) ys where
  heap := a.heap.grown hg a.ca
  form := a.form
  clr := a.clr
  rowA := by simpa [i64s] using ho
  rowS := a.rowS.kept hg (by
    cases hv : vs.ownBlock with
    | none => exact .inl rfl
    | some g' => exact .inr fun e => a.ne g' e.symm hv)
  box := a.box.grown hg fun e => by have := (a.rowA.lt B e).1; have := a.lo; omega
  ca := fun g' hg' => by
    rw [he] at hg'
    injection hg' with hg'
    subst hg'
    rcases hat with h | h
    · exact a.ca g h
    · rw [h]; exact (a.heap.lower a.form).clear (Nat.le_refl _)
  cs := a.cs
  ne := fun g' hg' => by
    rw [he] at hg'
    injection hg' with hg'
    subst hg'
    rcases hat with h | h
    · exact a.ne g h
    · intro e; have := (a.rowS.lt g e).2; omega
  lo := a.lo
/-- A number is appended to the second row. -/
theorem Ap.pushS (a : Ap W B base N M p c q d va vs H xs ys) {x : Int} {vs' : Value} {g : Nat} (hg : W.grownBy W' vs.ownBlock) (ho : W'.ownsRow base 3 1 vs' (ys.length + 1) (i64s ys ++ [.int .i64 x])) (he : vs'.ownBlock = some g) (hat : vs.ownBlock = some g ∨ g = W.heap.size) :
    Ap W' B base N M p c q d va vs' H xs (ys ++ [x]) where
  heap := a.heap.grown hg a.cs
  form := a.form
  clr := a.clr
  rowA := a.rowA.kept hg (by
    cases hv : va.ownBlock with
    | none => exact .inl rfl
    | some g' => exact .inr fun e => a.ne g' hv e.symm)
  rowS := by simpa [i64s] using ho
  box := a.box.grown hg fun e => by have := (a.rowS.lt B e).1; have := a.lo; omega
  ca := a.ca
  cs := fun g' hg' => by
    rw [he] at hg'
    injection hg' with hg'
    subst hg'
    rcases hat with h | h
    · exact a.cs g h
    · rw [h]; exact (a.heap.lower a.form).clear (Nat.le_refl _)
  ne := fun g' hg' e => by
    rw [he] at e
    injection e with e
    subst e
    rcases hat with h | h
    · exact a.ne g hg' h
    · have := (a.rowA.lt g hg').2; omega
  lo := a.lo
theorem Ap.lower (a : Ap W B base N M p c q d va vs H xs ys) {base' : Nat} (h : base' ≤ base) (h' : B < base') : Ap W B base' N M p c q d va vs H xs ys :=
  ⟨a.heap, a.form, a.clr, owned_base a.rowA h, owned_base a.rowS h, a.box, a.ca, a.cs, a.ne, h'⟩
/-- New rows, both nil. -/
theorem Ap.start (a : Ap W B base N M p c q d va vs H xs ys) {base' : Nat} (h' : B < base') : Ap W B base' N M p c q d (.slice none 0 0) (.slice none 0 0) H [] [] :=
  ⟨a.heap, a.form, a.clr, World.ownsRow_nil _ _ _ _, World.ownsRow_nil _ _ _ _, a.box, fun g hg => (by cases hg), fun g hg => (by cases hg), fun g hg => (by cases hg), h'⟩
end
/-- What stays of a row of objects. -/
def stay (a : Int) (L : List (Int × Int)) : List (Int × Int) := L.filter fun x => !decide (x.1 = a)
theorem stay_take {a : Int} {L : List (Int × Int)} {k : Nat} {x : Int × Int} (h : L[k]? = some x) : stay a (L.take (k + 1)) = if x.1 = a then stay a (L.take k) else stay a (L.take k) ++ [x] := by
  have hk := (List.getElem?_eq_some_iff.1 h).1
  have e : L.take (k + 1) = L.take k ++ [x] := by
    rw [List.take_add_one, h]; rfl
  unfold stay
  rw [e, List.filter_append]
  by_cases hx : x.1 = a
  · rw [if_pos hx]; simp [hx]
  · rw [if_neg hx]; simp [hx]
theorem stay_le (a : Int) (L : List (Int × Int)) : (stay a L).length ≤ L.length := List.length_filter_le _ _
theorem stay_all {a : Int} {L : List (Int × Int)} (h : ¬ a ∈ L.map Prod.fst) : stay a L = L := by
  unfold stay
  rw [List.filter_eq_self]
  intro x hx
  simp
  rintro rfl
  exact h (List.mem_map_of_mem hx)
theorem stay_less {a : Int} {L : List (Int × Int)} (h : a ∈ L.map Prod.fst) : (stay a L).length < L.length := by
  obtain ⟨x, hx, rfl⟩ := List.mem_map.1 h
  unfold stay
  rcases Nat.lt_or_ge (L.filter fun y => !decide (y.1 = x.1)).length L.length with h' | h'
  · exact h'
  · have := List.length_filter_eq_length_iff.1 (Nat.le_antisymm (List.length_filter_le _ _) h') x hx
    simp at this
theorem Laid.frees {h : Hp} {L : List (Int × Int)} (hl : Laid h L) (a : Int) : Laid (frH h a) (stay a L) ∧ decide (((stay a L).length : Int) < (L.length : Int)) = frB h a := by
  obtain ⟨h1, h2⟩ := hl.free a
  cases e : frB h a with
  | true =>
    rw [e, if_pos rfl] at h1
    have := stay_less (h2.1 e)
    exact ⟨h1, by simp; omega⟩
  | false =>
    rw [e, if_neg (by simp)] at h1
    have hn : ¬ a ∈ L.map Prod.fst := fun h => by rw [h2.2 h] at e; cases e
    rw [stay_all hn]
    exact ⟨h1, by simp⟩
end Go.Proofs.YtjlflbaglaillaaDoor
