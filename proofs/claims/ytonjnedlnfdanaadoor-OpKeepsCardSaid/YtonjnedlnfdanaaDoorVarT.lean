/- Variables of structs, told apart from rows by their content and by the type of the rows' elements; heaps beside rows of numbers, as one call answers them. -/
import Derived.Test.YtonjnedlnfdanaaDoorNews
import Derived.Test.YtonjnedlnfdanaaDoorLateH
import Derived.Test.YtonjnedlnfdanaaDoorLateG
import Derived.Test.YtonjnedlnfdanaaDoorVals
import Derived.Test.YtonjnedlnfdanaaDoorRowOne
import Derived.Test.YtonjnedlnfdanaaDoorSoftS
namespace Go.Proofs.YtonjnedlnfdanaaDoor
set_option linter.unusedSimpArgs false
set_option linter.unusedVariables false
open Go.ChangeShapes Go.WideShapes Go.ChangeAt Go.RowKit Go.Joins

/-- What no row of words, and no row of spans, can lie in: few cells, none of 32 bits. -/
def PlainC (xs : Array Value) : Prop := xs.size < 32 ∧ ∀ (i : Nat) (x : Int), ¬ xs[i]? = some (Value.int .u32 x)
def PlainL (ys : List Value) : Prop := ∀ y ∈ ys, ∀ x, ¬ y = Value.int .u32 x
theorem PlainC.set {xs : Array Value} (h : PlainC xs) (k : Nat) {y : Value} (hy : ∀ x, ¬ y = Value.int .u32 x) : PlainC (xs.setIfInBounds k y) := by
  refine ⟨by simpa using h.1, fun i x e => ?_⟩
  rw [Array.getElem?_setIfInBounds] at e
  split at e
  · split at e
    · injection e with e; exact hy x e
    · cases e
  · exact h.2 i x e
theorem PlainC.sets : ∀ (ys : List Value) (k : Nat) {xs : Array Value}, PlainC xs → PlainL ys → PlainC (setFrom xs k ys)
  | [], _, _, h, _ => h
  | y :: ys, k, _, h, hy => PlainC.sets ys (k + 1) (h.set k (hy y (List.mem_cons_self ..))) fun y' hy' => hy y' (List.mem_cons_of_mem _ hy')
/-- A variable of a type, of so many cells. -/
def VarT (T : TypeId) (m : Nat) (g : Nat) (w : World) : Prop := ∃ xs : Array Value, xs.size = m ∧ PlainC xs ∧ TBox T g xs w
section
variable {T : TypeId} {m g : Nat} {w w' : World}
theorem VarT.lt (h : VarT T m g w) : g < w.heap.size := by
  obtain ⟨xs, -, -, h⟩ := h
  exact h.lt
theorem VarT.below (h : VarT T m g w) (hb : Below w.heap.size w w') : VarT T m g w' := by
  obtain ⟨xs, e, hp, h⟩ := h
  exact ⟨xs, e, hp, h.below hb⟩
theorem VarT.puts {g' : Nat} (h : VarT T m g' w) {ys : List Value} (hy : PlainL ys) : VarT T m g' (putsL g 0 ys w) := by
  obtain ⟨xs, e, hp, h⟩ := h
  by_cases hg : g' = g
  · subst hg
    exact ⟨_, (setFrom_size ys 0 xs).trans e, hp.sets ys 0 hy, h.putsL ys 0⟩
  · exact ⟨xs, e, hp, h.of_block (putsL_other hg ys 0 w)⟩
theorem VarT.shape (h : VarT T m g w) : ShapeT T m g w := by
  obtain ⟨xs, e, -, h⟩ := h
  exact ⟨xs, e, h⟩
theorem VarT.three (h : VarT T 3 g w) : ∃ x0 x1 x2, g < w.heap.size ∧ w.cell? ⟨g, 0, none⟩ = some x0 ∧ w.cell? ⟨g, 1, none⟩ = some x1 ∧ w.cell? ⟨g, 2, none⟩ = some x2 ∧ w.frozen? ⟨g, 0, none⟩ = false ∧ w.frozen? ⟨g, 1, none⟩ = false ∧ w.frozen? ⟨g, 2, none⟩ = false := by
  obtain ⟨xs, e, -, h⟩ := h
  match xs, e with
  | ⟨[x, y, z]⟩, _ => exact ⟨x, y, z, h.lt, by rw [h.cell]; rfl, by rw [h.cell]; rfl, by rw [h.cell]; rfl, h.frozen 0, h.frozen 1, h.frozen 2⟩
theorem VarT.full3 (h : VarT T 3 g w) (a b c : Value) : TBox T g #[a, b, c] (putsL g 0 [a, b, c] w) := by
  obtain ⟨xs, e, -, h⟩ := h
  match xs, e with
  | ⟨[x, y, z]⟩, _ => exact h.putsL [a, b, c] 0
theorem VarT.new (W : World) (T : TypeId) (xs : Array Value) (hp : PlainC xs) : VarT T xs.size W.heap.size (W.alloc (.cells xs T)) := ⟨xs, rfl, hp, TBox.new _ _ _⟩
/-- A variable's cells, where they are known. -/
theorem tbox_stays {xs : Array Value} {T' : TypeId} {m' g' : Nat} (h : TBox T g xs w) (hv : VarT T' m' g' w) (hT : ¬ T = T') (ys : List Value) : TBox T g xs (putsL g' 0 ys w) := by
  obtain ⟨zs, -, -, hz⟩ := hv
  refine h.of_block (putsL_other ?_ ys 0 w)
  rintro rfl
  have := h.symm.trans hz
  injection this with this
  injection this with _ this
  exact hT this
/-- A row's block is old, or its elements are of that type. -/
def RowE (N : Nat) (E : TypeId) (n : Nat) (p : Option Addr) (w : World) : Prop := 0 < n → ∀ b off sp, p = some ⟨b, off, sp⟩ → b < w.heap.size ∧ (b < N ∨ ∃ cs, w.heap[b]? = some (.cells cs E (0, 0)))
theorem RowE.below {N : Nat} {E : TypeId} {n : Nat} {p : Option Addr} (h : RowE N E n p w) (hb : Below w.heap.size w w') : RowE N E n p w' := fun h0 b off sp e => by
  obtain ⟨hl, h1⟩ := h h0 b off sp e
  refine ⟨Nat.lt_of_lt_of_le hl hb.size, ?_⟩
  rcases h1 with h1 | ⟨cs, h1⟩
  · exact .inl h1
  · exact .inr ⟨cs, (hb.block b hl).trans h1⟩
theorem RowE.ne {N : Nat} {E : TypeId} {n : Nat} {p : Option Addr} (h : RowE N E n p w) (hv : VarT T m g w) (hT : ¬ E = T) (hg : N ≤ g) (h0 : 0 < n) {b off : Nat} {sp : Option Nat} (e : p = some ⟨b, off, sp⟩) : ¬ b = g := by
  obtain ⟨zs, -, -, hz⟩ := hv
  rcases (h h0 b off sp e).2 with h1 | ⟨cs, h1⟩
  · omega
  · rintro rfl
    have := h1.symm.trans hz
    injection this with this
    injection this with _ this
    exact hT this
theorem RowE.puts {N : Nat} {E : TypeId} {n : Nat} {p : Option Addr} (h : RowE N E n p w) (hv : VarT T m g w) (hT : ¬ E = T) (hg : N ≤ g) (ys : List Value) : RowE N E n p (putsL g 0 ys w) := fun h0 b off sp e => by
  obtain ⟨hl, h1⟩ := h h0 b off sp e
  refine ⟨by rw [putsL_size]; exact hl, ?_⟩
  rcases h1 with h1 | ⟨cs, h1⟩
  · exact .inl h1
  · exact .inr ⟨cs, (putsL_other (h.ne hv hT hg h0 e) ys 0 w).trans h1⟩
theorem rowE_nil (N : Nat) (E : TypeId) (n : Nat) (w : World) : RowE N E n none w := fun _ b off sp e => by cases e
theorem rowE_old {N : Nat} {E : TypeId} {n : Nat} {p : Option Addr} (h : 0 < n → ∀ b off sp, p = some ⟨b, off, sp⟩ → b < N) (hN : N ≤ w.heap.size) : RowE N E n p w := fun h0 b off sp e => by
  have := h h0 b off sp e
  exact ⟨by omega, .inl this⟩
theorem rowE_owned {N B : Nat} {E : TypeId} {s n c m k : Nat} {p : Option Addr} {xs : List Value} (h : w.ownsRow B E s (.slice p n c) m xs) : RowE N E k p w := fun _ b off sp e => by
  obtain ⟨cs, hc⟩ := owned_tag h b off sp e
  exact ⟨(Array.getElem?_eq_some_iff.1 hc).1, .inr ⟨cs, hc⟩⟩
theorem RowE.mono {N N' : Nat} {E : TypeId} {n : Nat} {p : Option Addr} (h : RowE N E n p w) (hN : N ≤ N') : RowE N' E n p w := fun h0 b off sp e => by
  obtain ⟨hl, h1⟩ := h h0 b off sp e
  exact ⟨hl, h1.imp (fun h => by omega) id⟩
/-- A heap's rows lie in no such variable. -/
theorem VarT.clear (hv : VarT T m g w) {p : Option Addr} {n c : Nat} {q : Option Addr} {k d : Nat} {b : Bool} {h : Hp} (hh : HpIn w p n c q k d b h) (hn : 32 ≤ n) (hk : 0 < k) : Clear g p q := by
  obtain ⟨zs, -, ⟨hs, hu⟩, hz⟩ := hv
  obtain ⟨rfl, rfl, rfl, hat⟩ := hh
  have hc := fun k => hz.cell k
  constructor
  · intro b off sp e he
    obtain ⟨⟨b1, off1, e1, -, v⟩, -⟩ := hat.ints 31 (by omega)
    rw [e] at e1
    injection e1 with e1
    injection e1 with e1 e2 e3
    subst e1 e2 e3
    subst he
    rw [hc] at v
    have := (Array.getElem?_eq_some_iff.1 v).1
    omega
  · intro b off sp e he
    obtain ⟨⟨b1, off1, e1, -, -, -, v⟩, -⟩ := hat.spans 0 hk
    rw [e] at e1
    injection e1 with e1
    injection e1 with e1 e2 e3
    subst e1 e2 e3
    subst he
    rw [hc] at v
    exact hu _ _ v
theorem hpIn_puts {p : Option Addr} {n c : Nat} {q : Option Addr} {k d : Nat} {b : Bool} {h : Hp} (hc : Clear g p q) : ∀ (ys : List Value) (i : Nat) {w : World}, HpIn w p n c q k d b h → HpIn (putsL g i ys w) p n c q k d b h
  | [], _, _, hh => hh
  | y :: ys, i, _, hh => hpIn_puts hc ys (i + 1) (hh.setCell hc i y)
theorem VAt.puts {N : Nat} {p : Option Addr} {n c : Nat} {z : Nat → Vl} {E : TypeId} (h : VAt w p c n z) (he : RowE N E n p w) (hv : VarT T m g w) (hT : ¬ E = T) (hg : N ≤ g) (ys : List Value) : VAt (putsL g 0 ys w) p c n z :=
  h.of_block (by rw [putsL_size]; exact Nat.le_refl _) fun h0 b off sp e => putsL_other (he.ne hv hT hg h0 e) ys 0 w
theorem grAt_puts {N : Nat} {p : Option Addr} {n c : Nat} {z : Nat → Int} {E : TypeId} (h : GrAt w p c n z) (he : RowE N E n p w) (hv : VarT T m g w) (hT : ¬ E = T) (hg : N ≤ g) (ys : List Value) : GrAt (putsL g 0 ys w) p c n z :=
  h.of_block (by rw [putsL_size]; exact Nat.le_refl _) fun h0 b off sp e => putsL_other (he.ne hv hT hg h0 e) ys 0 w
end
/-- Rows of the call's own, made within such a region. -/
theorem NilB.putsV {N : Nat} {E T : TypeId} {m g : Nat} {v : Value} {w : World} (h : NilB N E v w) (hv : VarT T m g w) (hT : ¬ E = T) (ys : List Value) : NilB N E v (putsL g 0 ys w) := by
  obtain ⟨b, e, hn, hb⟩ := h
  exact ⟨b, e, hn, tbox_stays hb hv hT ys⟩
theorem owned_putsV {N : Nat} {E T : TypeId} {m g s n : Nat} {v : Value} {xs : List Value} {w : World} (h : w.ownsRow N E s v n xs) (hv : VarT T m g w) (hT : ¬ E = T) (ys : List Value) : (putsL g 0 ys w).ownsRow N E s v n xs := by
  obtain ⟨hl, h0 | ⟨b, cap, cur, hvv, hb, hh, r⟩⟩ := h
  · exact ⟨hl, .inl h0⟩
  · refine ⟨hl, .inr ⟨b, cap, cur, hvv, hb, ?_, r⟩⟩
    exact tbox_stays (T := E) (xs := cur) hh hv hT ys
theorem CopyB.putsV {N : Nat} {E T : TypeId} {m g s n : Nat} {v : Value} {xs : List Value} {w : World} (h : CopyB N E s n xs v w) (hv : VarT T m g w) (hT : ¬ E = T) (ys : List Value) : CopyB N E s n xs v (putsL g 0 ys w) := ⟨owned_putsV h.1 hv hT ys, h.2⟩
/-! A heap beside a row of numbers, as one call answers them. -/
def GreyE (N : Nat) (K : Int) (k : Nat) (z : Nat → Int) (v : Value) (w : World) : Prop := ∃ p c, v = .agg #[.int .i64 K, .slice p k c] ∧ GrAt w p c k z ∧ RowE N 3 k p w
def HgT (N n m : Nat) (b : Bool) (H : Hp) (K : Int) (k : Nat) (z : Nat → Int) (t : Value) (v : Value) (w : World) : Prop :=
  ∃ p c q d pr cr, v = .tuple #[.agg #[.slice p n c, .slice q m d, .bool b], .agg #[.int .i64 K, .slice pr k cr], t] ∧ HpIn w p n c q m d b H ∧ GrAt w pr cr k z ∧ RowE N 3 k pr w
def FullHT (T : TypeId) (n m : Nat) (b : Bool) (H : Hp) (g : Nat) (w : World) : Prop := ∃ p c q d, TBox T g #[.slice p n c, .slice q m d, .bool b] w ∧ HpIn w p n c q m d b H
def FullGE (T : TypeId) (N : Nat) (K : Int) (k : Nat) (z : Nat → Int) (g : Nat) (w : World) : Prop := ∃ p c, TBox T g #[.int .i64 K, .slice p k c] w ∧ GrAt w p c k z ∧ RowE N 3 k p w
section
variable {T T' : TypeId} {N n m g g' m' : Nat} {b : Bool} {H : Hp} {K : Int} {k : Nat} {z : Nat → Int} {t v : Value} {w w' : World}
theorem GreyE.below (h : GreyE N K k z v w) (hb : Below w.heap.size w w') : GreyE N K k z v w' := by
  obtain ⟨p, c, e, h, ht⟩ := h
  exact ⟨p, c, e, h.below hb, ht.below hb⟩
theorem HgT.below (h : HgT N n m b H K k z t v w) (hb : Below w.heap.size w w') : HgT N n m b H K k z t v w' := by
  obtain ⟨p, c, q, d, pr, cr, e, h1, h2, h3⟩ := h
  exact ⟨p, c, q, d, pr, cr, e, h1.below hb, h2.below hb, h3.below hb⟩
theorem FullHT.below (h : FullHT T n m b H g w) (hb : Below w.heap.size w w') : FullHT T n m b H g w' := by
  obtain ⟨p, c, q, d, e, h⟩ := h
  exact ⟨p, c, q, d, e.below hb, h.below hb⟩
theorem FullGE.below (h : FullGE T N K k z g w) (hb : Below w.heap.size w w') : FullGE T N K k z g w' := by
  obtain ⟨p, c, e, h, ht⟩ := h
  exact ⟨p, c, e.below hb, h.below hb, ht.below hb⟩
theorem HpV.putsV (h : HpV n m b H v w) (hv : VarT T m' g w) (hn : 32 ≤ n) (hm : 0 < m) (ys : List Value) : HpV n m b H v (putsL g 0 ys w) := by
  obtain ⟨p, c, q, d, e, h⟩ := h
  exact ⟨p, c, q, d, e, hpIn_puts (hv.clear h hn hm) ys 0 h⟩
theorem GreyE.putsV (h : GreyE N K k z v w) (hv : VarT T m' g w) (hT : ¬ 3 = T) (hg : N ≤ g) (ys : List Value) : GreyE N K k z v (putsL g 0 ys w) := by
  obtain ⟨p, c, e, h, ht⟩ := h
  exact ⟨p, c, e, grAt_puts h ht hv hT hg ys, ht.puts hv hT hg ys⟩
theorem HgT.putsV (h : HgT N n m b H K k z t v w) (hv : VarT T m' g w) (hT : ¬ 3 = T) (hg : N ≤ g) (hn : 32 ≤ n) (hm : 0 < m) (ys : List Value) : HgT N n m b H K k z t v (putsL g 0 ys w) := by
  obtain ⟨p, c, q, d, pr, cr, e, h1, h2, h3⟩ := h
  exact ⟨p, c, q, d, pr, cr, e, hpIn_puts (hv.clear h1 hn hm) ys 0 h1, grAt_puts h2 h3 hv hT hg ys, h3.puts hv hT hg ys⟩
theorem FullHT.putsV (h : FullHT T n m b H g' w) (hv : VarT T' m' g w) (hT : ¬ T = T') (hn : 32 ≤ n) (hm : 0 < m) (ys : List Value) : FullHT T n m b H g' (putsL g 0 ys w) := by
  obtain ⟨p, c, q, d, e, h⟩ := h
  exact ⟨p, c, q, d, tbox_stays e hv hT ys, hpIn_puts (hv.clear h hn hm) ys 0 h⟩
theorem FullGE.putsV (h : FullGE T N K k z g' w) (hv : VarT T' m' g w) (hT : ¬ T = T') (hT' : ¬ 3 = T') (hg : N ≤ g) (ys : List Value) : FullGE T N K k z g' (putsL g 0 ys w) := by
  obtain ⟨p, c, e, h, ht⟩ := h
  exact ⟨p, c, tbox_stays e hv hT ys, grAt_puts h ht hv hT' hg ys, ht.puts hv hT' hg ys⟩
theorem GreyE.of_copy {B : Nat} (h : CopyB B 3 1 k (vals .i64 k z) v w) (hk : k ≤ maxLen) (hw : ∀ i, i < k → (Lit.int .i64 (z i)).wf = true) : ∃ p c, v = .slice p k c ∧ GrAt w p c k z ∧ RowE N 3 k p w := by
  obtain ⟨p, c, ff, -⟩ := owned_new h.1
  subst ff
  exact ⟨p, c, rfl, gr_owned h.1 hk hw, rowE_owned h.1⟩
/-- A pointer to a new variable. -/
def PtrV (N : Nat) (T : TypeId) (m : Nat) (v : Value) (w : World) : Prop := ∃ g, v = .pointer (some ⟨g, 0, none⟩) ∧ N ≤ g ∧ VarT T m g w
theorem PtrV.below (h : PtrV N T m v w) (hb : Below w.heap.size w w') : PtrV N T m v w' := by
  obtain ⟨g, e, hg, h⟩ := h
  exact ⟨g, e, hg, h.below hb⟩
theorem PtrV.putsV (h : PtrV N T m v w) {ys : List Value} (hy : PlainL ys) : PtrV N T m v (putsL g 0 ys w) := by
  obtain ⟨g, e, hg, h⟩ := h
  exact ⟨g, e, hg, h.puts hy⟩
theorem ptrV_new (W : World) (T : TypeId) (xs : Array Value) (hp : PlainC xs) (hN : N ≤ W.heap.size) : PtrV N T xs.size (.pointer (some ⟨W.heap.size, 0, none⟩)) (W.alloc (.cells xs T)) := ⟨_, rfl, hN, VarT.new _ _ _ hp⟩
end
theorem plain_heap : PlainC #[.slice none 0 0, .slice none 0 0, .bool false] := ⟨by decide, fun i x e => by
  match i, e with
  | 0, e => simp at e
  | 1, e => simp at e
  | 2, e => simp at e
  | i + 3, e => simp at e⟩
theorem plain_grey : PlainC #[.int .i64 0, .slice none 0 0] := ⟨by decide, fun i x e => by
  match i, e with
  | 0, e => simp at e
  | 1, e => simp at e
  | i + 2, e => simp at e⟩
theorem plain_heapA (p : Option Addr) (n c : Nat) (q : Option Addr) (m d : Nat) (b : Bool) : PlainC #[.slice p n c, .slice q m d, .bool b] := ⟨by show 3 < 32; decide, fun i x e => by
  match i, e with
  | 0, e => simp at e
  | 1, e => simp at e
  | 2, e => simp at e
  | i + 3, e => simp at e⟩
theorem plain_greyA (K : Int) (p : Option Addr) (n c : Nat) : PlainC #[.int .i64 K, .slice p n c] := ⟨by show 2 < 32; decide, fun i x e => by
  match i, e with
  | 0, e => simp at e
  | 1, e => simp at e
  | i + 2, e => simp at e⟩
theorem TBox.varH {T : TypeId} {g : Nat} {p : Option Addr} {n c : Nat} {q : Option Addr} {m d : Nat} {b : Bool} {w : World} (h : TBox T g #[.slice p n c, .slice q m d, .bool b] w) : VarT T 3 g w := ⟨_, rfl, plain_heapA _ _ _ _ _ _ _, h⟩
theorem TBox.varG {T : TypeId} {g : Nat} {K : Int} {p : Option Addr} {n c : Nat} {w : World} (h : TBox T g #[.int .i64 K, .slice p n c] w) : VarT T 2 g w := ⟨_, rfl, plain_greyA _ _ _ _, h⟩
theorem plainL_heap (p : Option Addr) (n c : Nat) (q : Option Addr) (m d : Nat) (b : Bool) : PlainL [.slice p n c, .slice q m d, .bool b] := fun y hy x e => by
  subst e; simp at hy
theorem plainL_grey (K : Int) (p : Option Addr) (n c : Nat) : PlainL [.int .i64 K, .slice p n c] := fun y hy x e => by
  subst e; simp at hy
theorem tbox_two {w w0 : World} {x1 x2 : Array Value} {t1 t2 : TypeId} (e : w0 = (w.alloc (.cells x1 t1)).alloc (.cells x2 t2)) :
    TBox t1 w.heap.size x1 w0 ∧ TBox t2 (w.heap.size + 1) x2 w0 ∧ Below w.heap.size w w0 := by
  have ba : ∀ (W : World) (o : Obj), Below W.heap.size W (W.alloc o) := fun W o => (Below.refl _ _).alloc (Nat.le_refl _) _
  have s1 : (w.alloc (.cells x1 t1)).heap.size = w.heap.size + 1 := by simp
  have b1 := ba w (.cells x1 t1)
  have n1 := TBox.new t1 w x1
  generalize w.alloc (.cells x1 t1) = w1 at *
  have b2 := ba w1 (.cells x2 t2)
  have n2 := TBox.new t2 w1 x2
  rw [← e] at b2 n2
  rw [s1] at n2
  exact ⟨n1.below b2, n2, bjoin b2 b1⟩
end Go.Proofs.YtonjnedlnfdanaaDoor
