/- Slices of deeds (three numbers each) that come in. -/
import Derived.Test.YtonjnedlnfdanaaDoorSpans
import Derived.Test.YtonjnedlnfdanaaDoorRef07
import Derived.Deep.AppendLies
import Derived.Test.YtonjnedlnfdanaaDoorHeapCopy
import Derived.Test.YtonjnedlnfdanaaDoorWhole
namespace Go.Proofs.YtonjnedlnfdanaaDoor
set_option linter.unusedSimpArgs false
set_option linter.unusedVariables false
open Go.ChangeShapes Go.WideShapes Go.ChangeAt Go.RowKit Go.Joins

structure Dd where
  k : Int
  a : Int
  b : Int
instance : Inhabited Dd := ⟨⟨0, 0, 0⟩⟩
def In64 (x : Int) : Prop := -9223372036854775808 ≤ x ∧ x ≤ 9223372036854775807
def Dd.wf (s : Dd) : Prop := In64 s.k ∧ In64 s.a ∧ In64 s.b
def Deeds (W : World) (p : Option Addr) (n : Nat) (s : Nat → Dd) : Prop :=
  ∀ i, i < n → (∃ b off, p = some ⟨b, off, none⟩ ∧ b < W.heap.size ∧ W.cell? ⟨b, off + i * 3, none⟩ = some (.int .i64 (s i).k) ∧ W.cell? ⟨b, off + i * 3 + 1, none⟩ = some (.int .i64 (s i).a) ∧ W.cell? ⟨b, off + i * 3 + 2, none⟩ = some (.int .i64 (s i).b)) ∧ (s i).wf
theorem Deeds.below {W W' : World} {p : Option Addr} {n : Nat} {s : Nat → Dd} (h : Deeds W p n s) (hb : Below W.heap.size W W') : Deeds W' p n s := fun i hi => by
  obtain ⟨⟨b, off, e, hlt, h0, h1, h2⟩, hw⟩ := h i hi
  exact ⟨⟨b, off, e, Nat.lt_of_lt_of_le hlt hb.size, by rw [hb.cell (p := ⟨b, _, none⟩) hlt]; exact h0, by rw [hb.cell (p := ⟨b, _, none⟩) hlt]; exact h1, by rw [hb.cell (p := ⟨b, _, none⟩) hlt]; exact h2⟩, hw⟩
section
variable {H : Type} {enc : TypeId × Value → H} {P : Program} {W : World} {base : Nat}
theorem trod_slice_deeds {t e : TypeId} {f0 f1 f2 : Field} {fuel : Nat} {v : Value} {y : DataW H × List MemPlace} (ht : P.underlying t = some (.slice e)) (he : P.underlying e = some (.struct #[f0, f1, f2])) (hc : P.cellsOf e = 3)
    (hone : Go.Deep.oneCellFields P #[f0, f1, f2] = true) (hu0 : P.underlying f0.type = some (.int .i64)) (hu1 : P.underlying f1.type = some (.int .i64)) (hu2 : P.underlying f2.type = some (.int .i64))
    (hf : DataW.trod enc P W 0 (fun _ => true) true fuel t [v] = some y) :
    ∃ (p : Option Addr) (n cap : Nat) (s : Nat → Dd), v = .slice p n cap ∧ n ≤ maxLen ∧ Deeds W p n s ∧ (p = none → n = 0 ∧ cap = 0) := by
  rcases Go.Deep.open_slice ht hf with ⟨hcs, -⟩ | ⟨a, len, cap, m, nf, D, Pl, hcs, -, hl, hm, hmm, -, hx⟩
  · simp at hcs
    subst hcs
    exact ⟨none, 0, 0, fun _ => ⟨0, 0, 0⟩, rfl, by decide, fun i hi => by omega, fun _ => ⟨rfl, rfl⟩⟩
  · simp at hcs
    subst hcs
    simp only [if_true] at hmm
    rw [hc] at hx
    have each : ∀ i, i < len → ∃ q : Dd, q.wf ∧ W.cell? (a.add (i * 3)) = some (.int .i64 q.k) ∧ W.cell? (a.add (i * 3 + 1)) = some (.int .i64 q.a) ∧ W.cell? (a.add (i * 3 + 2)) = some (.int .i64 q.b) := by
      intro i hi
      obtain ⟨cs', h1, h2⟩ := hx i (by omega)
      obtain ⟨-, hlen, hcell⟩ := World.cells?_some h1
      obtain ⟨xs, k, -, -, -, hxl, hfl⟩ := DataW.trod_struct he h2
      match xs, hxl, cs', hlen with
      | [y0, y1, y2], _, [v0, v1, v2], _ =>
        have g0 := hfl 0 f0 rfl
        have g1 := hfl 1 f1 rfl
        have g2 := hfl 2 f2 rfl
        obtain ⟨o0, k0⟩ := Go.Deep.hone_of hone 0 f0 rfl
        obtain ⟨o1, k1⟩ := Go.Deep.hone_of hone 1 f1 rfl
        obtain ⟨o2, k2⟩ := Go.Deep.hone_of hone 2 f2 rfl
        simp [o0, k0] at g0
        simp [o1, k1] at g1
        simp [o2, k2] at g2
        obtain ⟨a0, rfl, ha⟩ := trod_i64 hu0 g0
        obtain ⟨b0, rfl, hb⟩ := trod_i64 hu1 g1
        obtain ⟨c0, rfl, hc⟩ := trod_i64 hu2 g2
        have e0 := hcell 0 (by omega)
        have e1 := hcell 1 (by omega)
        have e2 := hcell 2 (by omega)
        rw [Go.Deep.add_add] at e0 e1 e2
        exact ⟨⟨a0, b0, c0⟩, ⟨ha, hb, hc⟩, by simpa using e0, by simpa using e1, by simpa using e2⟩
    obtain ⟨q, hq⟩ := Go.Deep.choose_lt (α := Dd) (h := each)
    refine ⟨some a, len, cap, q, rfl, by omega, fun i hi => ?_, fun h => by cases h⟩
    obtain ⟨hw, h0, h1, h2⟩ := hq i hi
    obtain ⟨b, off, sp⟩ := a
    have hz := (hq 0 (by omega)).2.1
    rw [Nat.zero_mul, add_zero_self] at hz
    obtain rfl := no_spot hz
    rw [add_off] at h0 h1 h2
    exact ⟨⟨b, off, rfl, World.block_lt_of_cell? W _ h0, h0, by rw [← Nat.add_assoc] at h1; exact h1, by rw [← Nat.add_assoc] at h2; exact h2⟩, hw⟩
theorem open_deeds {t e : TypeId} {f0 f1 f2 : Field} {v : Value} {d : DataW H} {p : List MemPlace} (ht : P.underlying t = some (.slice e)) (he : P.underlying e = some (.struct #[f0, f1, f2])) (hc : P.cellsOf e = 3)
    (hone : Go.Deep.oneCellFields P #[f0, f1, f2] = true) (hu0 : P.underlying f0.type = some (.int .i64)) (hu1 : P.underlying f1.type = some (.int .i64)) (hu2 : P.underlying f2.type = some (.int .i64))
    (hok : Value.okWide P W .any base t v) (h : DataW.Trod enc P W 0 (fun _ => true) true t v d p) : ∃ (p : Option Addr) (n cap : Nat) (s : Nat → Dd), v = .slice p n cap ∧ n ≤ maxLen ∧ Deeds W p n s ∧ (p = none → n = 0 ∧ cap = 0) := by
  obtain ⟨p, n, cap, rfl⟩ := okWide_slice ht hok
  obtain ⟨fuel, hf⟩ := h
  exact trod_slice_deeds ht he hc hone hu0 hu1 hu2 (by simpa [Value.cells] using hf)
end
end Go.Proofs.YtonjnedlnfdanaaDoor
/-! What HeapApart's first loop carries: a heap in a variable, and two rows of numbers that the call owns, apart from one another. -/
namespace Go.Proofs.YtonjnedlnfdanaaDoor
set_option linter.unusedSimpArgs false
set_option linter.unusedVariables false
open Go.ChangeShapes Go.WideShapes Go.ChangeAt Go.RowKit Go.Joins

def i64s (l : List Int) : List Value := l.map (.int .i64)
theorem Src.keep {B : Nat} {ok : Bool} {n m : Nat} {p : Option Addr} {c : Nat} {q : Option Addr} {d : Nat} {p' : Option Addr} {c' : Nat} {q' : Option Addr} {d' : Nat} (s : Src B ok n m p c q d p' c' q' d') {g : Nat} (hg : Clear g p q) (h2 : g < B) : Clear g p' q' := by
  cases ok with
  | true =>
    obtain ⟨a, b⟩ := s.new rfl
    refine ⟨fun b' off sp e => ?_, fun b' off sp e => ?_⟩
    · have := a b' (by rw [e]; rfl); omega
    · have := b b' (by rw [e]; rfl); omega
  | false =>
    obtain ⟨rfl, -, rfl, -⟩ := s.old rfl
    exact hg
structure Ap (W : World) (B base N M : Nat) (p : Option Addr) (c : Nat) (q : Option Addr) (d : Nat) (va vs : Value) (H : Hp) (xs ys : List Int) : Prop where
  heap : HpIn W p N c q M d false H
  form : formB H = true
  clr : Clear B p q
  rowA : W.ownsRow base 3 1 va xs.length (i64s xs)
  rowS : W.ownsRow base 3 1 vs ys.length (i64s ys)
  box : Box3 B (.slice p N c) (.slice q M d) (.bool false) W
  ca : ∀ g, va.ownBlock = some g → Clear g p q
  cs : ∀ g, vs.ownBlock = some g → Clear g p q
  ne : ∀ g, va.ownBlock = some g → vs.ownBlock ≠ some g
  lo : B < base
section
variable {W W' : World} {B base N M : Nat} {p : Option Addr} {c : Nat} {q : Option Addr} {d : Nat} {va vs : Value} {H : Hp} {xs ys : List Int}
theorem Ap.below (a : Ap W B base N M p c q d va vs H xs ys) (hb : Below W.heap.size W W') : Ap W' B base N M p c q d va vs H xs ys :=
  ⟨a.heap.below hb, a.form, a.clr, owned_below a.rowA hb, owned_below a.rowS hb, a.box.below hb, a.ca, a.cs, a.ne, a.lo⟩
/-- Another heap is put into the variable. -/
theorem Ap.put (a : Ap W B base N M p c q d va vs H xs ys) {p' : Option Addr} {c' : Nat} {q' : Option Addr} {d' : Nat} {H' : Hp} {S : Nat} {ok : Bool} (hh : HpIn W p' N c' q' M d' false H') (hf : formB H' = true) (hs : Src S ok N M p c q d p' c' q' d')
    (hlA : ∀ g, va.ownBlock = some g → g < S) (hlS : ∀ g, vs.ownBlock = some g → g < S) (hB : B < S) :
    Ap (((W.setCell ⟨B, 0, none⟩ (.slice p' N c')).setCell ⟨B, 1, none⟩ (.slice q' M d')).setCell ⟨B, 2, none⟩ (.bool false)) B base N M p' c' q' d' va vs H' xs ys := by
  have hc := hs.keep a.clr hB
  have nA : va.ownBlock ≠ some B := fun e => by have := (a.rowA.lt B e).1; have := a.lo; omega
  have nS : vs.ownBlock ≠ some B := fun e => by have := (a.rowS.lt B e).1; have := a.lo; omega
  exact ⟨hh.stores hc _ _ _, hf, hc, owned_setCell (owned_setCell (owned_setCell a.rowA nA _ _) nA _ _) nA _ _, owned_setCell (owned_setCell (owned_setCell a.rowS nS _ _) nS _ _) nS _ _, a.box.stores _ _ _,
    fun g hg => hs.keep (a.ca g hg) (hlA g hg), fun g hg => hs.keep (a.cs g hg) (hlS g hg), a.ne, a.lo⟩
theorem HpIn.grown {b : Bool} {h : Hp} (hh : HpIn W p N c q M d b h) {row : Option Nat} (hg : W.grownBy W' row) (hc : ∀ g, row = some g → Clear g p q) : HpIn W' p N c q M d b h := by
  refine ⟨hh.n_eq, hh.m_eq, hh.b_eq, ⟨fun i hi => ?_, fun i hi => ?_, hh.at'.nle, hh.at'.mle, hh.at'.pnil, hh.at'.qnil, hh.at'.ncap, hh.at'.mcap⟩⟩
  · obtain ⟨⟨b', off, e, hlt, h0⟩, hw⟩ := hh.at'.ints i hi
    have hb : W'.heap[b']? = W.heap[b']? := hg.block b' hlt fun e' => (hc b' e'.symm).1 b' off none e rfl
    exact ⟨⟨b', off, e, Nat.lt_of_lt_of_le hlt hg.size, by rw [World.cell?_of_block (w := W) (a := ⟨b', _, none⟩) hb]; exact h0⟩, hw⟩
  · obtain ⟨⟨b', off, e, hlt, h0, h1, h2⟩, hw⟩ := hh.at'.spans i hi
    have hb : W'.heap[b']? = W.heap[b']? := hg.block b' hlt fun e' => (hc b' e'.symm).2 b' off none e rfl
    exact ⟨⟨b', off, e, Nat.lt_of_lt_of_le hlt hg.size, by rw [World.cell?_of_block (w := W) (a := ⟨b', _, none⟩) hb]; exact h0, by rw [World.cell?_of_block (w := W) (a := ⟨b', _, none⟩) hb]; exact h1, by rw [World.cell?_of_block (w := W) (a := ⟨b', _, none⟩) hb]; exact h2⟩, hw⟩
/-- A number is appended to the first row. -/
theorem Ap.pushA (a : Ap W B base N M p c q d va vs H xs ys) {x : Int} {va' : Value} {g : Nat} (hg : W.grownBy W' va.ownBlock) (ho : W'.ownsRow base 3 1 va' (xs.length + 1) (i64s xs ++ [.int .i64 x])) (he : va'.ownBlock = some g) (hat : va.ownBlock = some g ∨ g = W.heap.size) :
    Ap W' B base N M p c q d va' vs H (xs ++ [x]) ys where
  heap := a.heap.grown hg a.ca
  form := a.form
  clr := a.clr
  rowA := by simpa [i64s] using ho
  rowS := a.rowS.kept hg (by
    cases hv : vs.ownBlock with
    | none => exact .inl rfl
    | some g' => exact .inr fun e => a.ne g' e.symm hv)
  box := a.box.grown hg fun e => by have := (a.rowA.lt B e).1; have := a.lo; omega
  ca := fun g' hg' => by
    rw [he] at hg'
    injection hg' with hg'
    subst hg'
    rcases hat with h | h
    · exact a.ca g h
    · rw [h]; exact (a.heap.lower a.form).clear (Nat.le_refl _)
  cs := a.cs
  ne := fun g' hg' => by
    rw [he] at hg'
    injection hg' with hg'
    subst hg'
    rcases hat with h | h
    · exact a.ne g h
    · intro e; have := (a.rowS.lt g e).2; omega
  lo := a.lo
/-- A number is appended to the second row. -/
theorem Ap.pushS (a : Ap W B base N M p c q d va vs H xs ys) {x : Int} {vs' : Value} {g : Nat} (hg : W.grownBy W' vs.ownBlock) (ho : W'.ownsRow base 3 1 vs' (ys.length + 1) (i64s ys ++ [.int .i64 x])) (he : vs'.ownBlock = some g) (hat : vs.ownBlock = some g ∨ g = W.heap.size) :
    Ap W' B base N M p c q d va vs' H xs (ys ++ [x]) where
  heap := a.heap.grown hg a.cs
  form := a.form
  clr := a.clr
  rowA := a.rowA.kept hg (by
    cases hv : va.ownBlock with
    | none => exact .inl rfl
    | some g' => exact .inr fun e => a.ne g' hv e.symm)
  rowS := by simpa [i64s] using ho
  box := a.box.grown hg fun e => by have := (a.rowS.lt B e).1; have := a.lo; omega
  ca := a.ca
  cs := fun g' hg' => by
    rw [he] at hg'
    injection hg' with hg'
    subst hg'
    rcases hat with h | h
    · exact a.cs g h
    · rw [h]; exact (a.heap.lower a.form).clear (Nat.le_refl _)
  ne := fun g' hg' e => by
    rw [he] at e
    injection e with e
    subst e
    rcases hat with h | h
    · exact a.ne g hg' h
    · have := (a.rowA.lt g hg').2; omega
  lo := a.lo
theorem Ap.lower (a : Ap W B base N M p c q d va vs H xs ys) {base' : Nat} (h : base' ≤ base) (h' : B < base') : Ap W B base' N M p c q d va vs H xs ys :=
  ⟨a.heap, a.form, a.clr, owned_base a.rowA h, owned_base a.rowS h, a.box, a.ca, a.cs, a.ne, h'⟩
/-- New rows, both nil. -/
theorem Ap.start (a : Ap W B base N M p c q d va vs H xs ys) {base' : Nat} (h' : B < base') : Ap W B base' N M p c q d (.slice none 0 0) (.slice none 0 0) H [] [] :=
  ⟨a.heap, a.form, a.clr, World.ownsRow_nil _ _ _ _, World.ownsRow_nil _ _ _ _, a.box, fun g hg => (by cases hg), fun g hg => (by cases hg), fun g hg => (by cases hg), h'⟩
end
/-- What stays of a row of objects. -/
def stay (a : Int) (L : List (Int × Int)) : List (Int × Int) := L.filter fun x => !decide (x.1 = a)
theorem stay_take {a : Int} {L : List (Int × Int)} {k : Nat} {x : Int × Int} (h : L[k]? = some x) : stay a (L.take (k + 1)) = if x.1 = a then stay a (L.take k) else stay a (L.take k) ++ [x] := by
  have hk := (List.getElem?_eq_some_iff.1 h).1
  have e : L.take (k + 1) = L.take k ++ [x] := by
    rw [List.take_add_one, h]; rfl
  unfold stay
  rw [e, List.filter_append]
  by_cases hx : x.1 = a
  · rw [if_pos hx]; simp [hx]
  · rw [if_neg hx]; simp [hx]
theorem stay_le (a : Int) (L : List (Int × Int)) : (stay a L).length ≤ L.length := List.length_filter_le _ _
theorem stay_all {a : Int} {L : List (Int × Int)} (h : ¬ a ∈ L.map Prod.fst) : stay a L = L := by
  unfold stay
  rw [List.filter_eq_self]
  intro x hx
  simp
  rintro rfl
  exact h (List.mem_map_of_mem hx)
theorem stay_less {a : Int} {L : List (Int × Int)} (h : a ∈ L.map Prod.fst) : (stay a L).length < L.length := by
  obtain ⟨x, hx, rfl⟩ := List.mem_map.1 h
  unfold stay
  rcases Nat.lt_or_ge (L.filter fun y => !decide (y.1 = x.1)).length L.length with h' | h'
  · exact h'
  · have := List.length_filter_eq_length_iff.1 (Nat.le_antisymm (List.length_filter_le _ _) h') x hx
    simp at this
theorem Laid.frees {h : Hp} {L : List (Int × Int)} (hl : Laid h L) (a : Int) : Laid (frH h a) (stay a L) ∧ decide (((stay a L).length : Int) < (L.length : Int)) = frB h a := by
  obtain ⟨h1, h2⟩ := hl.free a
  cases e : frB h a with
  | true =>
    rw [e, if_pos rfl] at h1
    have := stay_less (h2.1 e)
    exact ⟨h1, by simp; omega⟩
  | false =>
    rw [e, if_neg (by simp)] at h1
    have hn : ¬ a ∈ L.map Prod.fst := fun h => by rw [h2.2 h] at e; cases e
    rw [stay_all hn]
    exact ⟨h1, by simp⟩
end Go.Proofs.YtonjnedlnfdanaaDoor
/-! Which words are objects': what HeapApart's last loops carry. -/
namespace Go.Proofs.YtonjnedlnfdanaaDoor
set_option linter.unusedSimpArgs false
set_option linter.unusedVariables false
open Go.ChangeShapes Go.WideShapes Go.ChangeAt Go.RowKit Go.Joins

/-- 1 where an object of the list lies, or one of the first k words from a on. -/
def markZ (L : List (Int × Int)) (a k : Int) : Nat → Int := fun i => if (L.any fun x => decide (x.1 ≤ (i : Int)) && decide ((i : Int) < x.1 + x.2)) || (decide (a ≤ (i : Int)) && decide ((i : Int) < a + k)) then 1 else 0
theorem mark_off (a : Int) (i : Nat) : (decide (a ≤ (i : Int)) && decide ((i : Int) < a + 0)) = false := by
  by_cases h : a ≤ (i : Int)
  · rw [decide_eq_false (show ¬ (i : Int) < a + 0 by omega), Bool.and_false]
  · rw [decide_eq_false h, Bool.false_and]
theorem mark_start : markZ [] 0 0 = fun _ => 0 := by
  funext i; unfold markZ; simp; try omega
/-- The object's first word, before any of it is marked. -/
theorem mark_none (L : List (Int × Int)) (a b : Int) : markZ L a 0 = markZ L b 0 := by
  funext i; unfold markZ
  rw [mark_off a i, mark_off b i]
theorem mark_next (L : List (Int × Int)) (a k : Int) (h : 0 ≤ k) : putZ (markZ L a k) (a + k) 1 = markZ L a (k + 1) := by
  funext i; unfold putZ markZ
  by_cases e : (i : Int) = a + k
  · rw [if_pos e, if_pos]
    have h1 : decide (a ≤ (i : Int)) = true := by simp; omega
    have h2 : decide ((i : Int) < a + (k + 1)) = true := by simp; omega
    rw [h1, h2]; simp
  · rw [if_neg e]
    have : decide ((i : Int) < a + k) = decide ((i : Int) < a + (k + 1)) ∨ ¬ a ≤ (i : Int) := by
      by_cases h1 : a ≤ (i : Int)
      · left; rw [decide_eq_decide]; omega
      · exact .inr h1
    rcases this with h1 | h1
    · rw [h1]
    · rw [decide_eq_false h1, Bool.false_and, Bool.false_and]
theorem mark_whole (L : List (Int × Int)) (x : Int × Int) (b : Int) : markZ L x.1 x.2 = markZ (L ++ [x]) b 0 := by
  funext i; unfold markZ
  rw [mark_off b i]
  rw [List.any_append]
  simp only [List.any_cons, List.any_nil, Bool.or_false]
/-- A word of the next object isn't marked yet. -/
theorem mark_zero {h : Hp} {L : List (Int × Int)} (hl : Laid h L) {j : Nat} {x : Int × Int} (hx : L[j]? = some x) {k : Int} (k0 : 0 ≤ k) (k1 : k < x.2) : markZ (L.take j) x.1 k (x.1 + k).toNat = 0 := by
  have hjl := (List.getElem?_eq_some_iff.1 hx).1
  have hxm : x ∈ L := List.mem_of_getElem? hx
  have hbi := block_in hl.form (hl.fi hxm)
  unfold markZ
  rw [if_neg]
  have e : (((x.1 + k).toNat : Nat) : Int) = x.1 + k := by omega
  rw [e]
  simp only [Bool.or_eq_true, List.any_eq_true, Bool.and_eq_true, decide_eq_true_eq, not_or, not_exists, not_and]
  refine ⟨fun y hy h1 => ?_, fun _ => by omega⟩
  have hyL : y ∈ L := List.mem_of_mem_take hy
  have hne : ¬ y.1 = x.1 := fun e => by
    obtain ⟨i, hi, hiy⟩ := List.mem_iff_getElem.1 hy
    have hij : i < j := by simp at hi; omega
    have hyi : L[i]'(by omega) = y := by rw [← hiy]; simp
    have hn := hl.nodup
    have h3 : (L.map Prod.fst)[i]'(by simp; omega) = (L.map Prod.fst)[j]'(by simp; omega) := by
      rw [List.getElem_map, List.getElem_map, hyi, e]
      rw [List.getElem?_eq_getElem hjl] at hx
      injection hx with hx
      rw [hx]
    have := (List.getElem_inj hn).1 h3
    omega
  have := hl.apart hyL hxm hne
  omega
/-- What isn't marked at the end is no object's. -/
theorem mark_rest {h : Hp} {L : List (Int × Int)} (hl : Laid h L) {i : Nat} (hi : i < h.n) (e : markZ L 0 0 i = 0) : h.z i = 0 := by
  refine hl.rest i hi fun x hx hh => ?_
  unfold markZ at e
  rw [if_pos] at e
  · omega
  · simp only [Bool.or_eq_true, List.any_eq_true, Bool.and_eq_true, decide_eq_true_eq]
    exact .inl ⟨x, hx, hh⟩
theorem got_of {c : Bool} {k n : Int} (h : hmayB true c k n = true) : gU (hputW true c k n) = true ∧ gC (hputW true c k n) = c ∧ gK (hputW true c k n) = k ∧ gN (hputW true c k n) = n := by
  obtain ⟨a, b, d, e⟩ := raw_of (hputW true c k n) c k n h rfl
  refine ⟨a, ?_, ?_, ?_⟩
  · simp only [gC, a, Bool.true_and]; exact b.symm
  · simp only [gK, a, if_true]; exact d.symm
  · simp only [gN, a, if_true]; exact e.symm
/-- What is read of the next object's first word. -/
theorem mark_head {h : Hp} {L : List (Int × Int)} (hl : Laid h L) {x : Int × Int} (hx : x ∈ L) : ∃ X K : Int, ∃ C : Bool, ∃ F : Int, h.z x.1.toNat = X ∧ 0 ≤ X ∧ X < 256 ∧ gU X = true ∧ gC X = C ∧ gK X = K ∧ gN X = F ∧ (0 ≤ K ∧ K < 4 ∧ x.2 = szW K) := by
  obtain ⟨c, f, h1, h2⟩ := hl.head x hx
  obtain ⟨a, b, d, e⟩ := got_of h1
  obtain ⟨p0, p1⟩ := hput_lt h1
  refine ⟨_, _, _, _, h2, p0, p1, a, b, d, e, ?_⟩
  have hk := hmay_cases h1
  exact ⟨by omega, by omega, hl.size x hx⟩
theorem sums_bound : ∀ (M : List (Int × Int)), (∀ x ∈ M, 0 ≤ x.2 ∧ x.2 ≤ 16) → 0 ≤ (M.map Prod.snd).sum ∧ (M.map Prod.snd).sum ≤ 16 * (M.length : Int)
  | [], _ => by simp
  | x :: M, h => by
    have h1 := sums_bound M fun y hy => h y (by simp [hy])
    have h2 := h x (by simp)
    simp only [List.map_cons, List.sum_cons, List.length_cons]
    omega
theorem sums_next {L : List (Int × Int)} {j : Nat} {x : Int × Int} (h : L[j]? = some x) : L.take (j + 1) = L.take j ++ [x] ∧ ((L.take (j + 1)).map Prod.snd).sum = ((L.take j).map Prod.snd).sum + x.2 := by
  have e : L.take (j + 1) = L.take j ++ [x] := by rw [List.take_add_one, h]; rfl
  refine ⟨e, ?_⟩
  rw [e, List.map_append, List.sum_append]
  simp
theorem Laid.small {h : Hp} {L : List (Int × Int)} (hl : Laid h L) {x : Int × Int} (hx : x ∈ L) : 0 ≤ x.1 ∧ x.1 + x.2 ≤ h.n ∧ 2 ≤ x.2 ∧ x.2 ≤ 16 := by
  have hb := block_in hl.form (hl.fi hx)
  rw [hl.size x hx]
  have := cl_cases (spH h (x.1 / 32)).cl
  omega
theorem row_put {k : IntKind} {e : TypeId} {w : World} {g n : Nat} {z : Nat → Int} (h : RowAt k e w g n z) {i : Int} (h0 : 0 ≤ i) (v : Int) : RowAt k e (w.setCell ⟨g, i.toNat, none⟩ (.int k v)) g n (putZ z i v) := by
  have := h.set i.toNat v
  have e' : (fun j => if j = i.toNat then v else z j) = putZ z i v := by
    funext j
    unfold putZ
    by_cases ej : (j : Int) = i
    · rw [if_pos ej, if_pos (by omega)]
    · rw [if_neg ej, if_neg (by omega)]
  rw [e'] at this
  exact this
end Go.Proofs.YtonjnedlnfdanaaDoor
/-! 'g, ok := Get(h.Words[at[i]])' of HeapApart: one region that draws its order, stores into a new variable, and reads. -/
namespace Go.Proofs.YtonjnedlnfdanaaDoor
set_option linter.unusedSimpArgs false
set_option linter.unusedVariables false
open Go.ChangeShapes Go.WideShapes Go.ChangeAt Go.RowKit Go.Joins

end Go.Proofs.YtonjnedlnfdanaaDoor
