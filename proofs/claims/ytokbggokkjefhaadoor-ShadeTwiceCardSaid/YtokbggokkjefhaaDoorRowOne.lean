/- Slices of deeds (three numbers each) that come in. -/
import Derived.Test.YtokbggokkjefhaaDoorSpans
import Derived.Test.YtokbggokkjefhaaDoorRef07
import Derived.Deep.AppendLies
import Derived.Test.YtokbggokkjefhaaDoorHeapCopy
import Derived.Test.YtokbggokkjefhaaDoorWhole
namespace Go.Proofs.YtokbggokkjefhaaDoor
set_option linter.unusedSimpArgs false
set_option linter.unusedVariables false
open Go.ChangeShapes Go.WideShapes Go.ChangeAt Go.RowKit Go.Joins

structure Dd where
  k : Int
  a : Int
  b : Int
instance : Inhabited Dd := ⟨⟨0, 0, 0⟩⟩
def In64 (x : Int) : Prop := -9223372036854775808 ≤ x ∧ x ≤ 9223372036854775807
def Dd.wf (s : Dd) : Prop := In64 s.k ∧ In64 s.a ∧ In64 s.b
def Deeds (W : World) (p : Option Addr) (n : Nat) (s : Nat → Dd) : Prop :=
  ∀ i, i < n → (∃ b off, p = some ⟨b, off, none⟩ ∧ b < W.heap.size ∧ W.cell? ⟨b, off + i * 3, none⟩ = some (.int .i64 (s i).k) ∧ W.cell? ⟨b, off + i * 3 + 1, none⟩ = some (.int .i64 (s i).a) ∧ W.cell? ⟨b, off + i * 3 + 2, none⟩ = some (.int .i64 (s i).b)) ∧ (s i).wf
theorem Deeds.below {W W' : World} {p : Option Addr} {n : Nat} {s : Nat → Dd} (h : Deeds W p n s) (hb : Below W.heap.size W W') : Deeds W' p n s := fun i hi => by
  obtain ⟨⟨b, off, e, hlt, h0, h1, h2⟩, hw⟩ := h i hi
  exact ⟨⟨b, off, e, Nat.lt_of_lt_of_le hlt hb.size, by rw [hb.cell (p := ⟨b, _, none⟩) hlt]; exact h0, by rw [hb.cell (p := ⟨b, _, none⟩) hlt]; exact h1, by rw [hb.cell (p := ⟨b, _, none⟩) hlt]; exact h2⟩, hw⟩
section
variable {H : Type} {enc : TypeId × Value → H} {P : Program} {W : World} {base : Nat}
theorem trod_slice_deeds {t e : TypeId} {f0 f1 f2 : Field} {fuel : Nat} {v : Value} {y : DataW H × List MemPlace} (ht : P.underlying t = some (.slice e)) (he : P.underlying e = some (.struct #[f0, f1, f2])) (hc : P.cellsOf e = 3)
    (hone : Go.Deep.oneCellFields P #[f0, f1, f2] = true) (hu0 : P.underlying f0.type = some (.int .i64)) (hu1 : P.underlying f1.type = some (.int .i64)) (hu2 : P.underlying f2.type = some (.int .i64))
    (hf : DataW.trod enc P W 0 (fun _ => true) true fuel t [v] = some y) :
    ∃ (p : Option Addr) (n cap : Nat) (s : Nat → Dd), v = .slice p n cap ∧ n ≤ maxLen ∧ Deeds W p n s ∧ (p = none → n = 0 ∧ cap = 0) := by
  rcases Go.Deep.open_slice ht hf with ⟨hcs, -⟩ | ⟨a, len, cap, m, nf, D, Pl, hcs, -, hl, hm, hmm, -, hx⟩
  · simp at hcs
    subst hcs
    exact ⟨none, 0, 0, fun _ => ⟨0, 0, 0⟩, rfl, by decide, fun i hi => by omega, fun _ => ⟨rfl, rfl⟩⟩
  · simp at hcs
    subst hcs
    simp only [if_true] at hmm
    rw [hc] at hx
    have each : ∀ i, i < len → ∃ q : Dd, q.wf ∧ W.cell? (a.add (i * 3)) = some (.int .i64 q.k) ∧ W.cell? (a.add (i * 3 + 1)) = some (.int .i64 q.a) ∧ W.cell? (a.add (i * 3 + 2)) = some (.int .i64 q.b) := by
      intro i hi
      obtain ⟨cs', h1, h2⟩ := hx i (by omega)
      obtain ⟨-, hlen, hcell⟩ := World.cells?_some h1
      obtain ⟨xs, k, -, -, -, hxl, hfl⟩ := DataW.trod_struct he h2
      match xs, hxl, cs', hlen with
      | [y0, y1, y2], _, [v0, v1, v2], _ =>
        have g0 := hfl 0 f0 rfl
        have g1 := hfl 1 f1 rfl
        have g2 := hfl 2 f2 rfl
        obtain ⟨o0, k0⟩ := Go.Deep.hone_of hone 0 f0 rfl
        obtain ⟨o1, k1⟩ := Go.Deep.hone_of hone 1 f1 rfl
        obtain ⟨o2, k2⟩ := Go.Deep.hone_of hone 2 f2 rfl
        simp [o0, k0] at g0
        simp [o1, k1] at g1
        simp [o2, k2] at g2
        obtain ⟨a0, rfl, ha⟩ := trod_i64 hu0 g0
        obtain ⟨b0, rfl, hb⟩ := trod_i64 hu1 g1
        obtain ⟨c0, rfl, hc⟩ := trod_i64 hu2 g2
        have e0 := hcell 0 (by omega)
        have e1 := hcell 1 (by omega)
        have e2 := hcell 2 (by omega)
        rw [Go.Deep.add_add] at e0 e1 e2
        exact ⟨⟨a0, b0, c0⟩, ⟨ha, hb, hc⟩, by simpa using e0, by simpa using e1, by simpa using e2⟩
    obtain ⟨q, hq⟩ := Go.Deep.choose_lt (α := Dd) (h := each)
    refine ⟨some a, len, cap, q, rfl, by omega, fun i hi => ?_, fun h => by cases h⟩
    obtain ⟨hw, h0, h1, h2⟩ := hq i hi
    obtain ⟨b, off, sp⟩ := a
    have hz := (hq 0 (by omega)).2.1
    rw [Nat.zero_mul, add_zero_self] at hz
    obtain rfl := no_spot hz
    rw [add_off] at h0 h1 h2
    exact ⟨⟨b, off, rfl, World.block_lt_of_cell? W _ h0, h0, by rw [← Nat.add_assoc] at h1; exact h1, by rw [← Nat.add_assoc] at h2; exact h2⟩, hw⟩
theorem open_deeds {t e : TypeId} {f0 f1 f2 : Field} {v : Value} {d : DataW H} {p : List MemPlace} (ht : P.underlying t = some (.slice e)) (he : P.underlying e = some (.struct #[f0, f1, f2])) (hc : P.cellsOf e = 3)
    (hone : Go.Deep.oneCellFields P #[f0, f1, f2] = true) (hu0 : P.underlying f0.type = some (.int .i64)) (hu1 : P.underlying f1.type = some (.int .i64)) (hu2 : P.underlying f2.type = some (.int .i64))
    (hok : Value.okWide P W .any base t v) (h : DataW.Trod enc P W 0 (fun _ => true) true t v d p) : ∃ (p : Option Addr) (n cap : Nat) (s : Nat → Dd), v = .slice p n cap ∧ n ≤ maxLen ∧ Deeds W p n s ∧ (p = none → n = 0 ∧ cap = 0) := by
  obtain ⟨p, n, cap, rfl⟩ := okWide_slice ht hok
  obtain ⟨fuel, hf⟩ := h
  exact trod_slice_deeds ht he hc hone hu0 hu1 hu2 (by simpa [Value.cells] using hf)
end
end Go.Proofs.YtokbggokkjefhaaDoor
/-! What HeapApart's first loop carries: a heap in a variable, and two rows of numbers that the call owns, apart from one another. -/
namespace Go.Proofs.YtokbggokkjefhaaDoor
set_option linter.unusedSimpArgs false
set_option linter.unusedVariables false
open Go.ChangeShapes Go.WideShapes Go.ChangeAt Go.RowKit Go.Joins

def i64s (l : List Int) : List Value := l.map (.int .i64)
theorem Src.keep {B : Nat} {ok : Bool} {n m : Nat} {p : Option Addr} {c : Nat} {q : Option Addr} {d : Nat} {p' : Option Addr} {c' : Nat} {q' : Option Addr} {d' : Nat} (s : Src B ok n m p c q d p' c' q' d') {g : Nat} (hg : Clear g p q) (h2 : g < B) : Clear g p' q' := by
  cases ok with
  | true =>
    obtain ⟨a, b⟩ := s.new rfl
    refine ⟨fun b' off sp e => ?_, fun b' off sp e => ?_⟩
    · have := a b' (by rw [e]; rfl); omega
    · have := b b' (by rw [e]; rfl); omega
  | false =>
    obtain ⟨rfl, -, rfl, -⟩ := s.old rfl
    exact hg
structure Ap (W : World) (B base N M : Nat) (p : Option Addr) (c : Nat) (q : Option Addr) (d : Nat) (va vs : Value) (H : Hp) (xs ys : List Int) : Prop where
  heap : HpIn W p N c q M d false H
  form : formB H = true
  clr : Clear B p q
  rowA : W.ownsRow base 3 1 va xs.length (i64s xs)
  rowS : W.ownsRow base 3 1 vs ys.length (i64s ys)
  box : Box3 B (.slice p N c) (.slice q M d) (.bool false) W
  ca : ∀ g, va.ownBlock = some g → Clear g p q
  cs : ∀ g, vs.ownBlock = some g → Clear g p q
  ne : ∀ g, va.ownBlock = some g → vs.ownBlock ≠ some g
  lo : B < base
section
variable {W W' : World} {B base N M : Nat} {p : Option Addr} {c : Nat} {q : Option Addr} {d : Nat} {va vs : Value} {H : Hp} {xs ys : List Int}
theorem Ap.below (a : Ap W B base N M p c q d va vs H xs ys) (hb : Below W.heap.size W W') : Ap W' B base N M p c q d va vs H xs ys :=
  ⟨a.heap.below hb, a.form, a.clr, owned_below a.rowA hb, owned_below a.rowS hb, a.box.below hb, a.ca, a.cs, a.ne, a.lo⟩
/-- Another heap is put into the variable. -/
theorem Ap.put (a : Ap W B base N M p c q d va vs H xs ys) {p' : Option Addr} {c' : Nat} {q' : Option Addr} {d' : Nat} {H' : Hp} {S : Nat} {ok : Bool} (hh : HpIn W p' N c' q' M d' false H') (hf : formB H' = true) (hs : Src S ok N M p c q d p' c' q' d')
    (hlA : ∀ g, va.ownBlock = some g → g < S) (hlS : ∀ g, vs.ownBlock = some g → g < S) (hB : B < S) :
    Ap (((W.setCell ⟨B, 0, none⟩ (.slice p' N c')).setCell ⟨B, 1, none⟩ (.slice q' M d')).setCell ⟨B, 2, none⟩ (.bool false)) B base N M p' c' q' d' va vs H' xs ys := by
  have hc := hs.keep a.clr hB
  have nA : va.ownBlock ≠ some B := fun e => by have := (a.rowA.lt B e).1; have := a.lo; omega
  have nS : vs.ownBlock ≠ some B := fun e => by have := (a.rowS.lt B e).1; have := a.lo; omega
  exact ⟨hh.stores hc _ _ _, hf, hc, owned_setCell (owned_setCell (owned_setCell a.rowA nA _ _) nA _ _) nA _ _, owned_setCell (owned_setCell (owned_setCell a.rowS nS _ _) nS _ _) nS _ _, a.box.stores _ _ _,
    fun g hg => hs.keep (a.ca g hg) (hlA g hg), fun g hg => hs.keep (a.cs g hg) (hlS g hg), a.ne, a.lo⟩
theorem HpIn.grown {b : Bool} {h : Hp} (hh : HpIn W p N c q M d b h) {row : Option Nat} (hg : W.grownBy W' row) (hc : ∀ g, row = some g → Clear g p q) : HpIn W' p N c q M d b h := by
  refine ⟨hh.n_eq, hh.m_eq, hh.b_eq, ⟨fun i hi => ?_, fun i hi => ?_, hh.at'.nle, hh.at'.mle, hh.at'.pnil, hh.at'.qnil, hh.at'.ncap, hh.at'.mcap⟩⟩
  · obtain ⟨⟨b', off, e, hlt, h0⟩, hw⟩ := hh.at'.ints i hi
    have hb : W'.heap[b']? = W.heap[b']? := hg.block b' hlt fun e' => (hc b' e'.symm).1 b' off none e rfl
    exact ⟨⟨b', off, e, Nat.lt_of_lt_of_le hlt hg.size, by rw [World.cell?_of_block (w := W) (a := ⟨b', _, none⟩) hb]; exact h0⟩, hw⟩
  · obtain ⟨⟨b', off, e, hlt, h0, h1, h2⟩, hw⟩ := hh.at'.spans i hi
    have hb : W'.heap[b']? = W.heap[b']? := hg.block b' hlt fun e' => (hc b' e'.symm).2 b' off none e rfl
    exact ⟨⟨b', off, e, Nat.lt_of_lt_of_le hlt hg.size, by rw [World.cell?_of_block (w := W) (a := ⟨b', _, none⟩) hb]; exact h0, by rw [World.cell?_of_block (w := W) (a := ⟨b', _, none⟩) hb]; exact h1, by rw [World.cell?_of_block (w := W) (a := ⟨b', _, none⟩) hb]; exact h2⟩, hw⟩
/-- A number is appended to the first row. -/
theorem Ap.pushA (a : Ap W B base N M p c q d va vs H xs ys) {x : Int} {va' : Value} {g : Nat} (hg : W.grownBy W' va.ownBlock) (ho : W'.ownsRow base 3 1 va' (xs.length + 1) (i64s xs ++ [.int .i64 x])) (he : va'.ownBlock = some g) (hat : va.ownBlock = some g ∨ g = W.heap.size) :
    Ap W' B base N M p c q d va' vs H (xs ++ [x]) ys where
  heap := a.heap.grown hg a.ca
  form := a.form
  clr := a.clr
  rowA := by simpa [i64s] using ho
  rowS := a.rowS.kept hg (by
    cases hv : vs.ownBlock with
    | none => exact .inl rfl
    | some g' => exact .inr fun e => a.ne g' e.symm hv)
  box := a.box.grown hg fun e => by have := (a.rowA.lt B e).1; have := a.lo; omega
  ca := fun g' hg' => by
    rw [he] at hg'
    injection hg' with hg'
    subst hg'
    rcases hat with h | h
    · exact a.ca g h
    · rw [h]; exact (a.heap.lower a.form).clear (Nat.le_refl _)
  cs := a.cs
  ne := fun g' hg' => by
    rw [he] at hg'
    injection hg' with hg'
    subst hg'
    rcases hat with h | h
    · exact a.ne g h
    · intro e; have := (a.rowS.lt g e).2; omega
  lo := a.lo
/-- A number is appended to the second row. -/
theorem Ap.pushS (a : Ap W B base N M p c q d va vs H xs ys) {x : Int} {vs' : Value} {g : Nat} (hg : W.grownBy W' vs.ownBlock) (ho : W'.ownsRow base 3 1 vs' (ys.length + 1) (i64s ys ++ [.int .i64 x])) (he : vs'.ownBlock = some g) (hat : vs.ownBlock = some g ∨ g = W.heap.size) :
    Ap W' B base N M p c q d va vs' H xs (ys ++ [x]) where
  heap := a.heap.grown hg a.cs
  form := a.form
  clr := a.clr
  rowA := a.rowA.kept hg (by
    cases hv : va.ownBlock with
    | none => exact .inl rfl
    | some g' => exact .inr fun e => a.ne g' hv e.symm)
  rowS := by simpa [i64s] using ho
  box := a.box.grown hg fun e => by have := (a.rowS.lt B e).1; have := a.lo; omega
  ca := a.ca
  cs := fun g' hg' => by
    rw [he] at hg'
    injection hg' with hg'
    subst hg'
    rcases hat with h | h
    · exact a.cs g h
    · rw [h]; exact (a.heap.lower a.form).clear (Nat.le_refl _)
  ne := fun g' hg' e => by
    rw [he] at e
    injection e with e
    subst e
    rcases hat with h | h
    · exact a.ne g hg' h
    · have := (a.rowA.lt g hg').2; omega
  lo := a.lo
theorem Ap.lower (a : Ap W B base N M p c q d va vs H xs ys) {base' : Nat} (h : base' ≤ base) (h' : B < base') : Ap W B base' N M p c q d va vs H xs ys :=
  ⟨a.heap, a.form, a.clr, owned_base a.rowA h, owned_base a.rowS h, a.box, a.ca, a.cs, a.ne, h'⟩
/-- New rows, both nil. -/
theorem Ap.start (a : Ap W B base N M p c q d va vs H xs ys) {base' : Nat} (h' : B < base') : Ap W B base' N M p c q d (.slice none 0 0) (.slice none 0 0) H [] [] :=
  ⟨a.heap, a.form, a.clr, World.ownsRow_nil _ _ _ _, World.ownsRow_nil _ _ _ _, a.box, fun g hg => (by cases hg), fun g hg => (by cases hg), fun g hg => (by cases hg), h'⟩
end
/-- What stays of a row of objects. -/
def stay (a : Int) (L : List (Int × Int)) : List (Int × Int) := L.filter fun x => !decide (x.1 = a)
theorem stay_take {a : Int} {L : List (Int × Int)} {k : Nat} {x : Int × Int} (h : L[k]? = some x) : stay a (L.take (k + 1)) = if x.1 = a then stay a (L.take k) else stay a (L.take k) ++ [x] := by
  have hk := (List.getElem?_eq_some_iff.1 h).1
  have e : L.take (k + 1) = L.take k ++ [x] := by
    rw [List.take_add_one, h]; rfl
  unfold stay
  rw [e, List.filter_append]
  by_cases hx : x.1 = a
  · rw [if_pos hx]; simp [hx]
  · rw [if_neg hx]; simp [hx]
theorem stay_le (a : Int) (L : List (Int × Int)) : (stay a L).length ≤ L.length := List.length_filter_le _ _
theorem stay_all {a : Int} {L : List (Int × Int)} (h : ¬ a ∈ L.map Prod.fst) : stay a L = L := by
  unfold stay
  rw [List.filter_eq_self]
  intro x hx
  simp
  rintro rfl
  exact h (List.mem_map_of_mem hx)
theorem stay_less {a : Int} {L : List (Int × Int)} (h : a ∈ L.map Prod.fst) : (stay a L).length < L.length := by
  obtain ⟨x, hx, rfl⟩ := List.mem_map.1 h
  unfold stay
  rcases Nat.lt_or_ge (L.filter fun y => !decide (y.1 = x.1)).length L.length with h' | h'
  · exact h'
  · have := List.length_filter_eq_length_iff.1 (Nat.le_antisymm (List.length_filter_le _ _) h') x hx
    simp at this
theorem Laid.frees {h : Hp} {L : List (Int × Int)} (hl : Laid h L) (a : Int) : Laid (frH h a) (stay a L) ∧ decide (((stay a L).length : Int) < (L.length : Int)) = frB h a := by
  obtain ⟨h1, h2⟩ := hl.free a
  cases e : frB h a with
  | true =>
    rw [e, if_pos rfl] at h1
    have := stay_less (h2.1 e)
    exact ⟨h1, by simp; omega⟩
  | false =>
    rw [e, if_neg (by simp)] at h1
    have hn : ¬ a ∈ L.map Prod.fst := fun h => by rw [h2.2 h] at e; cases e
    rw [stay_all hn]
    exact ⟨h1, by simp⟩
end Go.Proofs.YtokbggokkjefhaaDoor
/-! Which words are objects': what HeapApart's last loops carry. -/
namespace Go.Proofs.YtokbggokkjefhaaDoor
set_option linter.unusedSimpArgs false
set_option linter.unusedVariables false
open Go.ChangeShapes Go.WideShapes Go.ChangeAt Go.RowKit Go.Joins

/-- 1 where an object of the list lies, or one of the first k words from a on. -/
def markZ (L : List (Int × Int)) (a k : Int) : Nat → Int := fun i => if (L.any fun x => decide (x.1 ≤ (i : Int)) && decide ((i : Int) < x.1 + x.2)) || (decide (a ≤ (i : Int)) && decide ((i : Int) < a + k)) then 1 else 0
theorem mark_off (a : Int) (i : Nat) : (decide (a ≤ (i : Int)) && decide ((i : Int) < a + 0)) = false := by
  by_cases h : a ≤ (i : Int)
  · rw [decide_eq_false (show ¬ (i : Int) < a + 0 by omega), Bool.and_false]
  · rw [decide_eq_false h, Bool.false_and]
theorem mark_start : markZ [] 0 0 = fun _ => 0 := by
  funext i; unfold markZ; simp; try omega
/-- The object's first word, before any of it is marked. -/
theorem mark_none (L : List (Int × Int)) (a b : Int) : markZ L a 0 = markZ L b 0 := by
  funext i; unfold markZ
  rw [mark_off a i, mark_off b i]
theorem mark_next (L : List (Int × Int)) (a k : Int) (h : 0 ≤ k) : putZ (markZ L a k) (a + k) 1 = markZ L a (k + 1) := by
  funext i; unfold putZ markZ
  by_cases e : (i : Int) = a + k
  · rw [if_pos e, if_pos]
    have h1 : decide (a ≤ (i : Int)) = true := by simp; omega
    have h2 : decide ((i : Int) < a + (k + 1)) = true := by simp; omega
    rw [h1, h2]; simp
  · rw [if_neg e]
    have : decide ((i : Int) < a + k) = decide ((i : Int) < a + (k + 1)) ∨ ¬ a ≤ (i : Int) := by
      by_cases h1 : a ≤ (i : Int)
      · left; rw [decide_eq_decide]; omega
      · exact .inr h1
    rcases this with h1 | h1
    · rw [h1]
    · rw [decide_eq_false h1, Bool.false_and, Bool.false_and]
theorem mark_whole (L : List (Int × Int)) (x : Int × Int) (b : Int) : markZ L x.1 x.2 = markZ (L ++ [x]) b 0 := by
  funext i; unfold markZ
  rw [mark_off b i]
  rw [List.any_append]
  simp only [List.any_cons, List.any_nil, Bool.or_false]
/-- A word of the next object isn't marked yet. -/
theorem mark_zero {h : Hp} {L : List (Int × Int)} (hl : Laid h L) {j : Nat} {x : Int × Int} (hx : L[j]? = some x) {k : Int} (k0 : 0 ≤ k) (k1 : k < x.2) : markZ (L.take j) x.1 k (x.1 + k).toNat = 0 := by
  have hjl := (List.getElem?_eq_some_iff.1 hx).1
  have hxm : x ∈ L := List.mem_of_getElem? hx
  have hbi := block_in hl.form (hl.fi hxm)
  unfold markZ
  rw [if_neg]
  have e : (((x.1 + k).toNat : Nat) : Int) = x.1 + k := by omega
  rw [e]
  simp only [Bool.or_eq_true, List.any_eq_true, Bool.and_eq_true, decide_eq_true_eq, not_or, not_exists, not_and]
  refine ⟨fun y hy h1 => ?_, fun _ => by omega⟩
  have hyL : y ∈ L := List.mem_of_mem_take hy
  have hne : ¬ y.1 = x.1 := fun e => by
    obtain ⟨i, hi, hiy⟩ := List.mem_iff_getElem.1 hy
    have hij : i < j := by simp at hi; omega
    have hyi : L[i]'(by omega) = y := by rw [← hiy]; simp
    have hn := hl.nodup
    have h3 : (L.map Prod.fst)[i]'(by simp; omega) = (L.map Prod.fst)[j]'(by simp; omega) := by
      rw [List.getElem_map, List.getElem_map, hyi, e]
      rw [List.getElem?_eq_getElem hjl] at hx
      injection hx with hx
      rw [hx]
    have := (List.getElem_inj hn).1 h3
    omega
  have := hl.apart hyL hxm hne
  omega
/-- What isn't marked at the end is no object's. -/
theorem mark_rest {h : Hp} {L : List (Int × Int)} (hl : Laid h L) {i : Nat} (hi : i < h.n) (e : markZ L 0 0 i = 0) : h.z i = 0 := by
  refine hl.rest i hi fun x hx hh => ?_
  unfold markZ at e
  rw [if_pos] at e
  · omega
  · simp only [Bool.or_eq_true, List.any_eq_true, Bool.and_eq_true, decide_eq_true_eq]
    exact .inl ⟨x, hx, hh⟩
theorem got_of {c : Bool} {k n : Int} (h : hmayB true c k n = true) : gU (hputW true c k n) = true ∧ gC (hputW true c k n) = c ∧ gK (hputW true c k n) = k ∧ gN (hputW true c k n) = n := by
  obtain ⟨a, b, d, e⟩ := raw_of (hputW true c k n) c k n h rfl
  refine ⟨a, ?_, ?_, ?_⟩
  · simp only [gC, a, Bool.true_and]; exact b.symm
  · simp only [gK, a, if_true]; exact d.symm
  · simp only [gN, a, if_true]; exact e.symm
/-- What is read of the next object's first word. -/
theorem mark_head {h : Hp} {L : List (Int × Int)} (hl : Laid h L) {x : Int × Int} (hx : x ∈ L) : ∃ X K : Int, ∃ C : Bool, ∃ F : Int, h.z x.1.toNat = X ∧ 0 ≤ X ∧ X < 256 ∧ gU X = true ∧ gC X = C ∧ gK X = K ∧ gN X = F ∧ (0 ≤ K ∧ K < 4 ∧ x.2 = szW K) := by
  obtain ⟨c, f, h1, h2⟩ := hl.head x hx
  obtain ⟨a, b, d, e⟩ := got_of h1
  obtain ⟨p0, p1⟩ := hput_lt h1
  refine ⟨_, _, _, _, h2, p0, p1, a, b, d, e, ?_⟩
  have hk := hmay_cases h1
  exact ⟨by omega, by omega, hl.size x hx⟩
theorem sums_bound : ∀ (M : List (Int × Int)), (∀ x ∈ M, 0 ≤ x.2 ∧ x.2 ≤ 16) → 0 ≤ (M.map Prod.snd).sum ∧ (M.map Prod.snd).sum ≤ 16 * (M.length : Int)
  | [], _ => by simp
  | x :: M, h => by
    have h1 := sums_bound M fun y hy => h y (by simp [hy])
    have h2 := h x (by simp)
    simp only [List.map_cons, List.sum_cons, List.length_cons]
    omega
theorem sums_next {L : List (Int × Int)} {j : Nat} {x : Int × Int} (h : L[j]? = some x) : L.take (j + 1) = L.take j ++ [x] ∧ ((L.take (j + 1)).map Prod.snd).sum = ((L.take j).map Prod.snd).sum + x.2 := by
  have e : L.take (j + 1) = L.take j ++ [x] := by rw [List.take_add_one, h]; rfl
  refine ⟨e, ?_⟩
  rw [e, List.map_append, List.sum_append]
  simp
theorem Laid.small {h : Hp} {L : List (Int × Int)} (hl : Laid h L) {x : Int × Int} (hx : x ∈ L) : 0 ≤ x.1 ∧ x.1 + x.2 ≤ h.n ∧ 2 ≤ x.2 ∧ x.2 ≤ 16 := by
  have hb := block_in hl.form (hl.fi hx)
  rw [hl.size x hx]
  have := cl_cases (spH h (x.1 / 32)).cl
  omega
theorem row_put {k : IntKind} {e : TypeId} {w : World} {g n : Nat} {z : Nat → Int} (h : RowAt k e w g n z) {i : Int} (h0 : 0 ≤ i) (v : Int) : RowAt k e (w.setCell ⟨g, i.toNat, none⟩ (.int k v)) g n (putZ z i v) := by
  have := h.set i.toNat v
  have e' : (fun j => if j = i.toNat then v else z j) = putZ z i v := by
    funext j
    unfold putZ
    by_cases ej : (j : Int) = i
    · rw [if_pos ej, if_pos (by omega)]
    · rw [if_neg ej, if_neg (by omega)]
  rw [e'] at this
  exact this
end Go.Proofs.YtokbggokkjefhaaDoor
/-! 'g, ok := Get(h.Words[at[i]])' of HeapApart: one region that draws its order, stores into a new variable, and reads. -/
namespace Go.Proofs.YtokbggokkjefhaaDoor
set_option linter.unusedSimpArgs false
set_option linter.unusedVariables false
open Go.ChangeShapes Go.WideShapes Go.ChangeAt Go.RowKit Go.Joins

def grOps : List Oper :=
  [{ dst := some 226, op := .fieldAddr 25 (.tmp 6) 0, type := 0, pos := "law.go:125", after := #[], guard := none },
   { dst := some 227, op := .load 22 (.tmp 226), type := 22, pos := "law.go:125", after := #[{ on := 0, ground := .data }], guard := none },
   { dst := some 228, op := .move (.tmp 8), type := 26, pos := "law.go:125", after := #[], guard := none },
   { dst := some 229, op := .move (.tmp 22), type := 3, pos := "law.go:125", after := #[], guard := none },
   { dst := some 230, op := .indexAddr 26 (.tmp 228) (.tmp 229), type := 0, pos := "law.go:125", after := #[{ on := 2, ground := .data }, { on := 3, ground := .data }], guard := none },
   { dst := some 231, op := .load 3 (.tmp 230), type := 3, pos := "law.go:125", after := #[{ on := 4, ground := .data }], guard := none },
   { dst := some 232, op := .indexAddr 22 (.tmp 227) (.tmp 231), type := 0, pos := "law.go:125", after := #[{ on := 1, ground := .data }, { on := 5, ground := .data }], guard := none },
   { dst := some 233, op := .load 71 (.tmp 232), type := 71, pos := "law.go:125", after := #[{ on := 6, ground := .data }], guard := none },
   { dst := some 234, op := .call { callee := .value (.func 34), args := #[.tmp 233], argTypes := #[71] }, type := 53, pos := "law.go:125", after := #[{ on := 7, ground := .data }], guard := none },
   { dst := some 225, op := .move (.tmp 234), type := 53, pos := "law.go:125", after := #[{ on := 8, ground := .data }], guard := none },
   { dst := some 235, op := .extract (.tmp 225) 0, type := 52, pos := "law.go:125", after := #[{ on := 9, ground := .data }], guard := none },
   { dst := some 236, op := .extract (.tmp 225) 1, type := 4, pos := "law.go:125", after := #[{ on := 9, ground := .data }, { on := 13, ground := .gcOnly .lateStores }], guard := none },
   { dst := some 24, op := .alloc 52, type := 0, pos := "law.go:125", after := #[], guard := none },
   { dst := none, op := .store 52 (.tmp 24) (.tmp 235), type := 0, pos := "law.go:125", after := #[{ on := 12, ground := .data }, { on := 10, ground := .data }, { on := 8, ground := .chain }, { on := 0, ground := .phase }, { on := 1, ground := .phase }, { on := 2, ground := .phase }, { on := 3, ground := .phase }, { on := 4, ground := .phase }, { on := 5, ground := .phase }, { on := 6, ground := .phase }, { on := 7, ground := .phase }, { on := 8, ground := .phase }, { on := 9, ground := .phase }, { on := 10, ground := .phase }, { on := 11, ground := .textOnly .lateStores }, { on := 12, ground := .phase }], guard := none },
   { dst := some 25, op := .assign (.tmp 236), type := 4, pos := "law.go:125", after := #[{ on := 11, ground := .data }, { on := 13, ground := .chain }, { on := 0, ground := .phase }, { on := 1, ground := .phase }, { on := 2, ground := .phase }, { on := 3, ground := .phase }, { on := 4, ground := .phase }, { on := 5, ground := .phase }, { on := 6, ground := .phase }, { on := 7, ground := .phase }, { on := 8, ground := .phase }, { on := 9, ground := .phase }, { on := 10, ground := .phase }, { on := 11, ground := .phase }, { on := 12, ground := .phase }, { on := 13, ground := .phase }], guard := none }]
def grSlots : List (Option Nat) := [some 226, some 227, some 228, some 229, some 230, some 231, some 232, some 233, some 234, some 225, some 235, some 236, some 24, none, some 25]
/-- What each leaves. -/
def grPhi (N B bw ow n1 c' ga l ca j : Nat) (a X K F : Int) (C : Bool) : Nat → (Nat → Value) → World → Prop
  | 0, V, _ => V 0 = .pointer (some ⟨B, 0, none⟩)
  | 1, V, _ => V 1 = .slice (some ⟨bw, ow, none⟩) n1 c'
  | 2, V, _ => V 2 = .slice (some ⟨ga, 0, none⟩) l ca
  | 3, V, _ => V 3 = .int .i64 j
  | 4, V, _ => V 4 = .pointer (some ⟨ga, j, none⟩)
  | 5, V, _ => V 5 = .int .i64 a
  | 6, V, _ => V 6 = .pointer (some ⟨bw, ow + a.toNat, none⟩)
  | 7, V, _ => V 7 = .int .u64 X
  | 8, V, _ => V 8 = .tuple #[.agg #[.bool true, .bool C, .int .i64 K, .int .i64 F], .bool true]
  | 9, V, _ => V 9 = .tuple #[.agg #[.bool true, .bool C, .int .i64 K, .int .i64 F], .bool true]
  | 10, V, _ => V 10 = .agg #[.bool true, .bool C, .int .i64 K, .int .i64 F]
  | 11, V, _ => V 11 = .bool true
  | 12, V, w => ∃ g, V 12 = .pointer (some ⟨g, 0, none⟩) ∧ N ≤ g ∧ ∃ x0 x1 x2 x3, Box4 g x0 x1 x2 x3 w
  | 13, V, w => ∃ g, V 12 = .pointer (some ⟨g, 0, none⟩) ∧ N ≤ g ∧ Box4 g (.bool true) (.bool C) (.int .i64 K) (.int .i64 F) w
  | 14, V, _ => V 14 = .bool true
  | _, _, _ => True
def grPer (N i : Nat) (w w' : World) : Prop := if i = 13 then Below N w w' ∧ ∀ g x0 x1 x2 x3, Box4 g x0 x1 x2 x3 w → ∃ y0 y1 y2 y3, Box4 g y0 y1 y2 y3 w' else Below w.heap.size w w'
theorem gr_per {N B bw ow n1 c' ga l ca j : Nat} {a X K F : Int} {C : Bool} (i k : Nat) (V : Nat → Value) (v : Value) (w w' : World) (hne : i ≠ k) (hdep : ∀ o, grOps.toArray[k]? = some o → (o.after.any fun e => Region.binds .any e && e.on == i) = false)
    (hp : grPer N i w w') (h : grPhi N B bw ow n1 c' ga l ca j a X K F C k V w) : grPhi N B bw ow n1 c' ga l ca j a X K F C k (upd V i v) w' := by
  have e : upd V i v k = V k := by unfold upd; rw [if_neg (Ne.symm hne)]
  match k, hne, hdep, h, e with
  | 0, _, _, h, e => exact e.trans h
  | 1, _, _, h, e => exact e.trans h
  | 2, _, _, h, e => exact e.trans h
  | 3, _, _, h, e => exact e.trans h
  | 4, _, _, h, e => exact e.trans h
  | 5, _, _, h, e => exact e.trans h
  | 6, _, _, h, e => exact e.trans h
  | 7, _, _, h, e => exact e.trans h
  | 8, _, _, h, e => exact e.trans h
  | 9, _, _, h, e => exact e.trans h
  | 10, _, _, h, e => exact e.trans h
  | 11, _, _, h, e => exact e.trans h
  | 12, hne, _, ⟨g, h1, h2, x0, x1, x2, x3, h3⟩, e =>
    refine ⟨g, e.trans h1, h2, ?_⟩
    unfold grPer at hp
    by_cases hi : i = 13
    · rw [if_pos hi] at hp; exact hp.2 g x0 x1 x2 x3 h3
    · rw [if_neg hi] at hp; exact ⟨x0, x1, x2, x3, h3.below hp⟩
  | 13, hne, hdep, ⟨g, h1, h2, h3⟩, _ =>
    have hi : ¬ i = 12 := fun hi => by
      subst hi
      have hx : ((grOps[13]'(by decide)).after.any fun e => Region.binds .any e && e.on == 12) = true := by kernel_rfl
      rw [hdep (grOps[13]'(by decide)) (by kernel_rfl)] at hx
      cases hx
    unfold grPer at hp
    rw [if_neg hne] at hp
    exact ⟨g, by unfold upd; rw [if_neg (fun h => hi h.symm)]; exact h1, h2, h3.below hp⟩
  | 14, _, _, h, e => exact e.trans h
  | _ + 15, _, _, _, _ => trivial
set_option maxHeartbeats 1000000 in
theorem gr_step {N B bw ow n1 c' ga l ca j : Nat} {a X K F : Int} {C : Bool} {q v2 : Value} {W : World} {A : Act} {Q : Exit → Act → World → Prop} (hN : N = W.heap.size)
    (hB : Box3 B (.slice (some ⟨bw, ow, none⟩) n1 c') q v2 W) (hj : j < l) (vA : W.cell? ⟨ga, j, none⟩ = some (.int .i64 a)) (lA : ga < W.heap.size) (a0 : 0 ≤ a) (a1 : a < n1) (hn : n1 ≤ 512) (hl : l ≤ 100) (vW : W.cell? ⟨bw, ow + a.toNat, none⟩ = some (.int .u64 X)) (lW : bw < W.heap.size)
    (hG : ∀ W, Calls Tryd.prog 34 #[.int .u64 X] W fun e w' => e = .returned (.tuple #[.agg #[.bool true, .bool C, .int .i64 K, .int .i64 F], .bool true]) ∧ Below W.heap.size W w')
    (e6 : A.tmps.getD 6 undef = .pointer (some ⟨B, 0, none⟩)) (e8 : A.tmps.getD 8 undef = .slice (some ⟨ga, 0, none⟩) l ca) (e22 : A.tmps.getD 22 undef = .int .i64 j) :
    ∀ i o, grOps.toArray[i]? = some o → ∀ (a' : Act) (w' : World), Below N W w' → (∀ t, some t ∉ grSlots → a'.tmps.getD t undef = A.tmps.getD t undef) →
      (∀ k, (o.after.any fun e => Region.binds .any e && e.on == k) = true → grPhi N B bw ow n1 c' ga l ca j a X K F C k (slotVals a' grSlots) w') →
      ∀ K' : Act → World → Prop, (∀ v w'', Below N W w'' → grPer N i w' w'' → grPhi N B bw ow n1 c' ga l ca j a X K F C i (upd (slotVals a' grSlots) i (valOf o v)) w'' → K' (a'.put o.dst v) w'') → o.wp Tryd.prog a' w' K' Q := by
  intro i o ho a' w' hb hsame hdep K' hK
  have s6 : a'.tmps[6]?.getD undef = .pointer (some ⟨B, 0, none⟩) := by rw [← Array.getD_eq_getD_getElem?]; exact (hsame 6 (by decide)).trans e6
  have s8 : a'.tmps[8]?.getD undef = .slice (some ⟨ga, 0, none⟩) l ca := by rw [← Array.getD_eq_getD_getElem?]; exact (hsame 8 (by decide)).trans e8
  have s22 : a'.tmps[22]?.getD undef = .int .i64 j := by rw [← Array.getD_eq_getD_getElem?]; exact (hsame 22 (by decide)).trans e22
  subst hN
  have hB' := hB.below hb
  obtain ⟨lB, k0, k1, k2, -, -, -⟩ := hB'
  have vA' : w'.cell? ⟨ga, j, none⟩ = some (.int .i64 a) := by rw [hb.cell (p := ⟨ga, j, none⟩) lA]; exact vA
  have vW' : w'.cell? ⟨bw, ow + a.toNat, none⟩ = some (.int .u64 X) := by rw [hb.cell (p := ⟨bw, ow + a.toNat, none⟩) lW]; exact vW
  have hself : Below w'.heap.size w' w' := Below.refl _ _
  have hin : i < 15 := by
    rcases Nat.lt_or_ge i 15 with h | h
    · exact h
    · have : grOps.toArray[i]? = none := by simp [grOps]; omega
      rw [this] at ho; cases ho
  clear hsame e6 e8 e22 hB vA vW
  match i, hin with
  | 0, _ =>
    simp only [grOps, List.getElem?_toArray, List.getElem?_cons_zero, List.getElem?_cons_succ, Option.some.injEq] at ho
    subst ho
    clear hdep
    unfold Oper.wp
    go_simp
    exact hK _ _ hb (by unfold grPer; rw [if_neg (by decide)]; exact hself) (upd_self _ _ _)
  | 1, _ =>
    simp only [grOps, List.getElem?_toArray, List.getElem?_cons_zero, List.getElem?_cons_succ, Option.some.injEq] at ho
    subst ho
    have d0 : a'.tmps[226]?.getD undef = .pointer (some ⟨B, 0, none⟩) := by
      have := hdep 0 (by simp [Region.binds])
      rw [← Array.getD_eq_getD_getElem?]; exact this
    clear hdep
    unfold Oper.wp
    go_simp
    exact hK _ _ hb (by unfold grPer; rw [if_neg (by decide)]; exact hself) (upd_self _ _ _)
  | 2, _ =>
    simp only [grOps, List.getElem?_toArray, List.getElem?_cons_zero, List.getElem?_cons_succ, Option.some.injEq] at ho
    subst ho
    clear hdep
    unfold Oper.wp
    go_simp
    exact hK _ _ hb (by unfold grPer; rw [if_neg (by decide)]; exact hself) (upd_self _ _ _)
  | 3, _ =>
    simp only [grOps, List.getElem?_toArray, List.getElem?_cons_zero, List.getElem?_cons_succ, Option.some.injEq] at ho
    subst ho
    clear hdep
    unfold Oper.wp
    go_simp
    exact hK _ _ hb (by unfold grPer; rw [if_neg (by decide)]; exact hself) (upd_self _ _ _)
  | 4, _ =>
    simp only [grOps, List.getElem?_toArray, List.getElem?_cons_zero, List.getElem?_cons_succ, Option.some.injEq] at ho
    subst ho
    have d0 : a'.tmps[228]?.getD undef = .slice (some ⟨ga, 0, none⟩) l ca := by
      have := hdep 2 (by simp [Region.binds])
      rw [← Array.getD_eq_getD_getElem?]; exact this
    have d1 : a'.tmps[229]?.getD undef = .int .i64 j := by
      have := hdep 3 (by simp [Region.binds])
      rw [← Array.getD_eq_getD_getElem?]; exact this
    clear hdep
    unfold Oper.wp
    go_simp
    exact hK _ _ hb (by unfold grPer; rw [if_neg (by decide)]; exact hself) (upd_self _ _ _)
  | 5, _ =>
    simp only [grOps, List.getElem?_toArray, List.getElem?_cons_zero, List.getElem?_cons_succ, Option.some.injEq] at ho
    subst ho
    have d0 : a'.tmps[230]?.getD undef = .pointer (some ⟨ga, j, none⟩) := by
      have := hdep 4 (by simp [Region.binds])
      rw [← Array.getD_eq_getD_getElem?]; exact this
    clear hdep
    unfold Oper.wp
    go_simp
    exact hK _ _ hb (by unfold grPer; rw [if_neg (by decide)]; exact hself) (upd_self _ _ _)
  | 6, _ =>
    simp only [grOps, List.getElem?_toArray, List.getElem?_cons_zero, List.getElem?_cons_succ, Option.some.injEq] at ho
    subst ho
    have d0 : a'.tmps[227]?.getD undef = .slice (some ⟨bw, ow, none⟩) n1 c' := by
      have := hdep 1 (by simp [Region.binds])
      rw [← Array.getD_eq_getD_getElem?]; exact this
    have d1 : a'.tmps[231]?.getD undef = .int .i64 a := by
      have := hdep 5 (by simp [Region.binds])
      rw [← Array.getD_eq_getD_getElem?]; exact this
    clear hdep
    unfold Oper.wp
    go_simp
    exact hK _ _ hb (by unfold grPer; rw [if_neg (by decide)]; exact hself) (upd_self _ _ _)
  | 7, _ =>
    simp only [grOps, List.getElem?_toArray, List.getElem?_cons_zero, List.getElem?_cons_succ, Option.some.injEq] at ho
    subst ho
    have d0 : a'.tmps[232]?.getD undef = .pointer (some ⟨bw, ow + a.toNat, none⟩) := by
      have := hdep 6 (by simp [Region.binds])
      rw [← Array.getD_eq_getD_getElem?]; exact this
    clear hdep
    unfold Oper.wp
    go_simp
    exact hK _ _ hb (by unfold grPer; rw [if_neg (by decide)]; exact hself) (upd_self _ _ _)
  | 8, _ =>
    simp only [grOps, List.getElem?_toArray, List.getElem?_cons_zero, List.getElem?_cons_succ, Option.some.injEq] at ho
    subst ho
    have d0 : a'.tmps[233]?.getD undef = .int .u64 X := by
      have := hdep 7 (by simp [Region.binds])
      rw [← Array.getD_eq_getD_getElem?]; exact this
    clear hdep
    unfold Oper.wp
    go_simp
    refine Calls.mono (hG w') ?_
    rintro e w'' ⟨rfl, hb'⟩
    exact hK _ _ (bjoin hb' hb) (by unfold grPer; rw [if_neg (by decide)]; exact hb') (upd_self _ _ _)
  | 9, _ =>
    simp only [grOps, List.getElem?_toArray, List.getElem?_cons_zero, List.getElem?_cons_succ, Option.some.injEq] at ho
    subst ho
    have d0 : a'.tmps[234]?.getD undef = .tuple #[.agg #[.bool true, .bool C, .int .i64 K, .int .i64 F], .bool true] := by
      have := hdep 8 (by simp [Region.binds])
      rw [← Array.getD_eq_getD_getElem?]; exact this
    clear hdep
    unfold Oper.wp
    go_simp
    exact hK _ _ hb (by unfold grPer; rw [if_neg (by decide)]; exact hself) (upd_self _ _ _)
  | 10, _ =>
    simp only [grOps, List.getElem?_toArray, List.getElem?_cons_zero, List.getElem?_cons_succ, Option.some.injEq] at ho
    subst ho
    have d0 : a'.tmps[225]?.getD undef = .tuple #[.agg #[.bool true, .bool C, .int .i64 K, .int .i64 F], .bool true] := by
      have := hdep 9 (by simp [Region.binds])
      rw [← Array.getD_eq_getD_getElem?]; exact this
    clear hdep
    unfold Oper.wp
    go_simp
    exact hK _ _ hb (by unfold grPer; rw [if_neg (by decide)]; exact hself) (upd_self _ _ _)
  | 11, _ =>
    simp only [grOps, List.getElem?_toArray, List.getElem?_cons_zero, List.getElem?_cons_succ, Option.some.injEq] at ho
    subst ho
    have d0 : a'.tmps[225]?.getD undef = .tuple #[.agg #[.bool true, .bool C, .int .i64 K, .int .i64 F], .bool true] := by
      have := hdep 9 (by simp [Region.binds])
      rw [← Array.getD_eq_getD_getElem?]; exact this
    clear hdep
    unfold Oper.wp
    go_simp
    exact hK _ _ hb (by unfold grPer; rw [if_neg (by decide)]; exact hself) (upd_self _ _ _)
  | 12, _ =>
    simp only [grOps, List.getElem?_toArray, List.getElem?_cons_zero, List.getElem?_cons_succ, Option.some.injEq] at ho
    subst ho
    clear hdep
    unfold Oper.wp
    go_simp
    have hal : Below w'.heap.size w' (w'.alloc (.cells #[.bool false, .bool false, .int .i64 0, .int .i64 0] 52)) := (Below.refl _ _).alloc (Nat.le_refl _) _
    exact hK _ _ (bjoin hal hb) (by unfold grPer; rw [if_neg (by decide)]; exact hal) ⟨w'.heap.size, upd_self _ _ _, hb.size, _, _, _, _, Box4.new _ _ _ _ _ _⟩
  | 13, _ =>
    simp only [grOps, List.getElem?_toArray, List.getElem?_cons_zero, List.getElem?_cons_succ, Option.some.injEq] at ho
    subst ho
    have d0 : a'.tmps[235]?.getD undef = .agg #[.bool true, .bool C, .int .i64 K, .int .i64 F] := by
      have := hdep 10 (by simp [Region.binds])
      rw [← Array.getD_eq_getD_getElem?]; exact this
    obtain ⟨g, h1, h2, x0, x1, x2, x3, h3⟩ := hdep 12 (by simp [Region.binds])
    have d1 : a'.tmps[24]?.getD undef = .pointer (some ⟨g, 0, none⟩) := by rw [← Array.getD_eq_getD_getElem?]; exact h1
    have hput := h3.put (.bool true) (.bool C) (.int .i64 K) (.int .i64 F)
    have hbl := puts4_below h2 (.bool true) (.bool C) (.int .i64 K) (.int .i64 F) w'
    have hsh : ∀ g' y0 y1 y2 y3, Box4 g' y0 y1 y2 y3 w' → ∃ z0 z1 z2 z3, Box4 g' z0 z1 z2 z3 (puts4 g (.bool true) (.bool C) (.int .i64 K) (.int .i64 F) w') := fun g' y0 y1 y2 y3 hy => by
      by_cases e : g' = g
      · subst e; exact ⟨_, _, _, _, hput⟩
      · exact ⟨y0, y1, y2, y3, hy.of_block (puts4_block _ _ _ _ _ e) (by rw [puts4_size]; exact Nat.le_refl _)⟩
    have hfin := hK (.tuple #[]) (puts4 g (.bool true) (.bool C) (.int .i64 K) (.int .i64 F) w') (hb.trans hbl) (by unfold grPer; rw [if_pos rfl]; exact ⟨hbl, hsh⟩) ⟨g, (upd_other _ _ (by decide)).trans h1, h2, hput⟩
    obtain ⟨h0, c0, c1, c2, c3, f0, f1, f2, f3⟩ := h3
    unfold puts4 at hfin
    clear hdep hput hbl hsh hK
    unfold Oper.wp
    go_simp
    exact hfin
  | 14, _ =>
    simp only [grOps, List.getElem?_toArray, List.getElem?_cons_zero, List.getElem?_cons_succ, Option.some.injEq] at ho
    subst ho
    have d0 : a'.tmps[236]?.getD undef = .bool true := by
      have := hdep 11 (by simp [Region.binds])
      rw [← Array.getD_eq_getD_getElem?]; exact this
    clear hdep
    unfold Oper.wp
    go_simp
    exact hK _ _ hb (by unfold grPer; rw [if_neg (by decide)]; exact hself) (upd_self _ _ _)
theorem gr_nodup : ∀ (j k : Nat) (d : Nat), grSlots[j]? = some (some d) → grSlots[k]? = some (some d) → j = k := by
  intro j k d hj hk
  have h1 : j < 15 := by rcases Nat.lt_or_ge j 15 with h | h; exact h; rw [List.getElem?_eq_none (by simp [grSlots]; omega)] at hj; cases hj
  have h2 : k < 15 := by rcases Nat.lt_or_ge k 15 with h | h; exact h; rw [List.getElem?_eq_none (by simp [grSlots]; omega)] at hk; cases hk
  have hd : (List.range 15).all (fun j => (List.range 15).all fun k => decide (j = k) || decide (grSlots[j]? = some none) || !decide (grSlots[j]? = grSlots[k]?)) = true := by decide
  have h3 := List.all_eq_true.1 (List.all_eq_true.1 hd j (List.mem_range.2 h1)) k (List.mem_range.2 h2)
  rw [hj, hk] at h3
  simpa using h3
set_option maxHeartbeats 1000000 in
theorem wp_got_row {id : Nat} {B bw ow n1 c' ga l ca j : Nat} {a X K F : Int} {C : Bool} {q v2 : Value} {W : World} {A : Act} {Q : Exit → Act → World → Prop} (hm : Tryd.prog.follows .mixedOrders = true) (hsz : 236 < A.tmps.size)
    (hB : Box3 B (.slice (some ⟨bw, ow, none⟩) n1 c') q v2 W) (hj : j < l) (vA : W.cell? ⟨ga, j, none⟩ = some (.int .i64 a)) (lA : ga < W.heap.size) (a0 : 0 ≤ a) (a1 : a < n1) (hn : n1 ≤ 512) (hl : l ≤ 100) (vW : W.cell? ⟨bw, ow + a.toNat, none⟩ = some (.int .u64 X)) (lW : bw < W.heap.size)
    (hG : ∀ W, Calls Tryd.prog 34 #[.int .u64 X] W fun e w' => e = .returned (.tuple #[.agg #[.bool true, .bool C, .int .i64 K, .int .i64 F], .bool true]) ∧ Below W.heap.size W w')
    (e6 : A.tmps.getD 6 undef = .pointer (some ⟨B, 0, none⟩)) (e8 : A.tmps.getD 8 undef = .slice (some ⟨ga, 0, none⟩) l ca) (e22 : A.tmps.getD 22 undef = .int .i64 j)
    (hK : ∀ x0 x1 x2 x3 x4 x5 x6 x7 x8 x9 x10 x11 g w', W.heap.size ≤ g → Box4 g (.bool true) (.bool C) (.int .i64 K) (.int .i64 F) w' → Below W.heap.size W w' →
      Q .normal (puts [226, 227, 228, 229, 230, 231, 232, 233, 234, 225, 235, 236, 24, 25] [x0, x1, x2, x3, x4, x5, x6, x7, x8, x9, x10, x11, .pointer (some ⟨g, 0, none⟩), .bool true] A) w') :
    (Code.region id grOps.toArray true).wp Tryd.prog Q A W := by
  refine wp_region_whole (Φ := grPhi W.heap.size B bw ow n1 c' ga l ca j a X K F C) (R := fun w' => Below W.heap.size W w') (Per := grPer W.heap.size) grSlots hm (by kernel_rfl) rfl gr_nodup (fun d hd => ?_) (fun i k V v w w' hne hdep _ hp h => gr_per i k V v w w' hne hdep hp h) (Below.refl _ _).drew
    (gr_step rfl hB hj vA lA a0 a1 hn hl vW lW hG e6 e8 e22) ?_
  · have : d ≤ 236 := by
      simp only [grSlots, List.mem_cons, Option.some.injEq, List.not_mem_nil, or_false, reduceCtorEq, false_or] at hd
      omega
    omega
  intro a' w' hb hdf hsz' hsame hf
  obtain ⟨g, h1, h2, h3⟩ := hf 13 (by decide)
  have h25 := hf 14 (by decide)
  have h25' : a'.tmps.getD 25 undef = .bool true := h25
  have h24' : a'.tmps.getD 24 undef = .pointer (some ⟨g, 0, none⟩) := h1
  have hputs := puts_of [226, 227, 228, 229, 230, 231, 232, 233, 234, 225, 235, 236, 24, 25] A hdf hsz' (by simp; omega) (fun t ht => hsame t (by simpa [grSlots] using ht))
  simp only [List.map_cons, List.map_nil, h25', h24'] at hputs
  have hQ := hK (a'.tmps.getD 226 undef) (a'.tmps.getD 227 undef) (a'.tmps.getD 228 undef) (a'.tmps.getD 229 undef) (a'.tmps.getD 230 undef) (a'.tmps.getD 231 undef) (a'.tmps.getD 232 undef) (a'.tmps.getD 233 undef) (a'.tmps.getD 234 undef) (a'.tmps.getD 225 undef) (a'.tmps.getD 235 undef) (a'.tmps.getD 236 undef) g w' h2 h3 hb
  rw [← hputs] at hQ
  exact hQ
end Go.Proofs.YtokbggokkjefhaaDoor
