/- Rows of structs that hold rows of their own, made and grown within a region that draws its order (XSoftI). -/
import Derived.Test.YtmbgodncagjncaaDoorB34
import Derived.Test.YtmbgodncagjncaaDoorB20
import Derived.Test.YtmbgodncagjncaaDoorB22
import Derived.Test.YtmbgodncagjncaaDoorB35
namespace Go.Proofs.YtmbgodncagjncaaDoor
set_option linter.unusedSimpArgs false
set_option linter.unusedVariables false
open Go.ChangeShapes Go.WideShapes Go.ChangeAt Go.RowKit Go.Joins

/-- A row of the call's own, of n elements whose cells C tells. -/
def GrowR {α : Type} (N : Nat) (T : TypeId) (s : Nat) (C : World → α → List Value → Prop) (n : Nat) (z : Nat → α) (v : Value) (w : World) : Prop :=
  ∃ L : List (List Value), L.length = n ∧ (∀ l ∈ L, l.length = s) ∧ CopyB N T s n L.flatten v w ∧ ∀ k l, L[k]? = some l → C w (z k) l
section
variable {α : Type} {N : Nat} {T : TypeId} {s n : Nat} {C : World → α → List Value → Prop} {z : Nat → α} {v : Value} {w w' : World}
theorem GrowR.below (h : GrowR N T s C n z v w) (hC : CBelow C) (hb : Below w.heap.size w w') : GrowR N T s C n z v w' := by
  obtain ⟨L, h1, h2, h3, h4⟩ := h
  exact ⟨L, h1, h2, h3.below hb, fun k l hk => hC _ _ _ _ (h4 k l hk) hb⟩
theorem growR_nil (N : Nat) (T : TypeId) (s : Nat) (C : World → α → List Value → Prop) (z : Nat → α) (w : World) : GrowR N T s C 0 z (.slice none 0 0) w :=
  ⟨[], rfl, fun _ h => (by cases h), copyB_nil _ _ _ _, fun k l h => by simp at h⟩
theorem flatten_get : ∀ (L : List (List Value)) (k j : Nat) (l : List Value), (∀ l ∈ L, l.length = s) → L[k]? = some l → j < s → L.flatten[k * s + j]? = l[j]?
  | [], k, _, _, _, h, _ => by simp at h
  | x :: L, 0, j, l, hl, h, hj => by
    simp at h
    subst h
    rw [List.flatten_cons, Nat.zero_mul, Nat.zero_add, List.getElem?_append_left (by rw [hl x (by simp)]; exact hj)]
  | x :: L, k + 1, j, l, hl, h, hj => by
    have hx := hl x (by simp)
    rw [List.flatten_cons, List.getElem?_append_right (by rw [hx, Nat.add_mul]; omega), hx, show (k + 1) * s + j - s = k * s + j by rw [Nat.add_mul]; omega]
    exact flatten_get L k j l (fun y hy => hl y (by simp [hy])) (by simpa using h) hj
/-- .. as a row that is read. -/
theorem GrowR.rat (h : GrowR N T s C n z v w) (hn : n ≤ maxLen) : ∃ p c, v = .slice p n c ∧ RAt C s w p c n z ∧ (∀ b off sp, p = some ⟨b, off, sp⟩ → b < w.heap.size ∧ N ≤ b ∧ ∃ cs, w.heap[b]? = some (.cells cs T (0, 0))) := by
  obtain ⟨L, h1, h2, ⟨h3, h5⟩, h4⟩ := h
  obtain ⟨p, c, rfl, hnew⟩ := owned_new h3
  have htag := owned_tag h3
  refine ⟨p, c, rfl, ⟨fun i hi => ?_, hn, fun e => ?_, ?_⟩, fun b off sp e => ?_⟩
  · obtain ⟨l, hl⟩ : ∃ l, L[i]? = some l := ⟨L[i]'(by omega), List.getElem?_eq_getElem _⟩
    rcases h3.2 with ⟨-, h0⟩ | ⟨g, cap', cur, hv, hb, hg, hnc, hm, hs, ht⟩
    · omega
    · have e0 : p = some ⟨g, 0, none⟩ := by injection hv
      subst e0
      have hls := h2 l (List.mem_of_getElem? hl)
      refine ⟨g, 0, l, rfl, (Array.getElem?_eq_some_iff.1 hg).1, hls, fun k u hk => ?_, h4 i l hl⟩
      have hk' : k < s := by have := (List.getElem?_eq_some_iff.1 hk).1; omega
      have hf := flatten_get L i k l h2 hl hk'
      rw [hk, ← ht, List.getElem?_take] at hf
      split at hf
      · rw [Nat.zero_add, cell_of_row w g _ cur T (0, 0) hg]; simpa using hf
      · cases hf
  · subst e
    rcases h3.2 with ⟨hv, h0⟩ | ⟨g, cap', cur, hv, -⟩
    · injection hv with _ _ e; exact ⟨h0, e⟩
    · injection hv with e; cases e
  · rcases h3.2 with ⟨hv, h0⟩ | ⟨g, cap', cur, hv, -, -, h1, h2, -⟩
    · injection hv with _ _ e; rw [h0, e]; exact ⟨Nat.le_refl _, by decide⟩
    · injection hv with _ _ e; subst e; exact ⟨h1, h2⟩
  · obtain ⟨cs, hc⟩ := htag b off sp e
    exact ⟨(Array.getElem?_eq_some_iff.1 hc).1, hnew b off sp e, cs, hc⟩
/-- One element more. -/
theorem GrowR.more {L : List (List Value)} {ys : List Value} {v' : Value} (hl : L.length = n) (hL : ∀ l ∈ L, l.length = s) (hy : ys.length = s) (ho : w'.ownsRow N T s v' (n + 1) (L.flatten ++ ys)) (h4 : ∀ k l, L[k]? = some l → C w' (z k) l) (h5 : C w' (z n) ys) : GrowR N T s C (n + 1) z v' w' := by
  refine ⟨L ++ [ys], by simp [hl], fun l h => ?_, ⟨by simpa using ho, fun e => by omega⟩, fun k l hk => ?_⟩
  · rcases List.mem_append.1 h with h | h
    · exact hL l h
    · rw [List.mem_singleton.1 h]; exact hy
  · by_cases e : k < n
    · rw [List.getElem?_append_left (by omega)] at hk
      exact h4 k l hk
    · rw [List.getElem?_append_right (by omega)] at hk
      have : k = n := by
        have := (List.getElem?_eq_some_iff.1 hk).1
        simp at this
        omega
      subst this
      rw [hl, Nat.sub_self] at hk
      simp at hk
      subst hk
      exact h5
end
/-! What stays as a row of another type grows in place. -/
section
variable {N k n s m : Nat} {T T' : TypeId} {ys xs : List Value} {v v0 : Value} {w w' : World}
theorem InPl.others (h : InPl N T s n k ys v w w') {b : Nat} {cs : Array Value} (hT : ¬ T' = T) (hb : w.heap[b]? = some (.cells cs T' (0, 0))) : w'.heap[b]? = w.heap[b]? := by
  obtain ⟨g, cap, cur, -, -, hg, -, -, -, rfl⟩ := h
  refine putsL_other ?_ _ _ _
  rintro rfl
  have := hb.symm.trans hg
  injection this with this
  injection this with _ this
  exact hT this
theorem InPl.under (h : InPl N T s n k ys v w w') {b : Nat} (hb : b < N) : w'.heap[b]? = w.heap[b]? := h.lower.block b hb
theorem InPl.rowE {M : Nat} {p : Option Addr} (h : InPl N T s n k ys v w w') (hT : ¬ T' = T) (hM : M ≤ N) (hr : RowE M T' m p w) : RowE M T' m p w' ∧ (0 < m → ∀ b off sp, p = some ⟨b, off, sp⟩ → w'.heap[b]? = w.heap[b]?) := by
  have key : 0 < m → ∀ b off sp, p = some ⟨b, off, sp⟩ → w'.heap[b]? = w.heap[b]? := fun h0 b off sp e => by
    obtain ⟨hl, h1 | ⟨cs, h1⟩⟩ := hr h0 b off sp e
    · exact h.under (by omega)
    · exact h.others hT h1
  refine ⟨fun h0 b off sp e => ?_, key⟩
  obtain ⟨hl, h1⟩ := hr h0 b off sp e
  refine ⟨by rw [h.size]; exact hl, ?_⟩
  rcases h1 with h1 | ⟨cs, h1⟩
  · exact .inl h1
  · exact .inr ⟨cs, (key h0 b off sp e).trans h1⟩
end
/-- A slice of one struct of a number and a row of numbers of the call's own; the struct. -/
def PutG (N : Nat) (r : Int) (n : Nat) (z : Nat → Int) (v : Value) (w : World) : Prop := ∃ p c, v = .agg #[.int .i64 r, .slice p n c] ∧ CopyB N 3 1 n (vals .i64 n z) (.slice p n c) w
def OneG (N : Nat) (r : Int) (n : Nat) (z : Nat → Int) (v : Value) (w : World) : Prop := ∃ p c, OneB N 33 [.int .i64 r, .slice p n c] v w ∧ CopyB N 3 1 n (vals .i64 n z) (.slice p n c) w
theorem PutG.below {N : Nat} {r : Int} {n : Nat} {z : Nat → Int} {v : Value} {w w' : World} (h : PutG N r n z v w) (hb : Below w.heap.size w w') : PutG N r n z v w' := by
  obtain ⟨p, c, e, h⟩ := h
  exact ⟨p, c, e, h.below hb⟩
theorem OneG.below {N : Nat} {r : Int} {n : Nat} {z : Nat → Int} {v : Value} {w w' : World} (h : OneG N r n z v w) (hb : Below w.heap.size w w') : OneG N r n z v w' := by
  obtain ⟨p, c, h1, h2⟩ := h
  exact ⟨p, c, h1.below hb, h2.below hb⟩
theorem ints_cellsB {kk : IntKind} {w : World} {p : Option Addr} {n : Nat} {z : Nat → Int} (h : Ints kk w p n z) : ∀ ad, p = some ad → ∀ j u, (vals kk n z)[j]? = some u → w.cell? (ad.add j) = some u := fun ad e j u hj => by
  have hjn : j < n := by
    have := (List.getElem?_eq_some_iff.1 hj).1
    rwa [vals_length] at this
  obtain ⟨ad', e', hc⟩ := h.cells (by omega)
  rw [e] at e'
  injection e' with e'
  subst e'
  exact hc j u hj
/-- A row of numbers with its room stays. -/
theorem grE_puts {N M k : Nat} {T : TypeId} {m : Nat} {w : World} {g : Gy} {L : List Value} {gg : Nat} (h : GrE N w g L) (hv : VarT T m gg w) (hT : ¬ 3 = T) (hg : N ≤ gg) (ys : List Value) (_ : M = k) : GrE N (putsL gg k ys w) g L := by
  obtain ⟨p, c, e, h, ht, hr⟩ := h
  exact ⟨p, c, e, gr_putsL h ht hv hT hg ys, row_putsL ht hv hT hg ys, hr⟩
theorem grE_inPl {N B n k s : Nat} {ys : List Value} {v : Value} {w w' : World} {g : Gy} {L : List Value} (h : GrE N w g L) (hi : InPl B 33 s n k ys v w w') (hN : N ≤ B) : GrE N w' g L := by
  obtain ⟨p, c, e, h, ht, hr⟩ := h
  obtain ⟨h1, h2⟩ := hi.rowE (by decide) hN ht
  exact ⟨p, c, e, h.of_block (by rw [hi.size]; exact Nat.le_refl _) h2, h1, hr⟩
theorem growG_inPl {N B i : Nat} {z : Nat → Gy} {ys : List Value} {v : Value} {w w' : World} (h : GrowR B 33 2 (GrE N) i z v w) (hi : InPl B 33 2 i 1 ys v w w') (hl : ys.length = 2) (hN : N ≤ B) : GrowR B 33 2 (GrE N) i z v w' := by
  obtain ⟨L, h1, h2, h3, h4⟩ := h
  exact ⟨L, h1, h2, h3.inPl hi (by omega), fun k l hk => grE_inPl (h4 k l hk) hi hN⟩
theorem growG_puts {N B i k gg m : Nat} {T : TypeId} {z : Nat → Gy} {v : Value} {w : World} (h : GrowR B 33 2 (GrE N) i z v w) (hv : VarT T m gg w) (hT : ¬ 3 = T) (hg : N ≤ gg) (hB : gg < B) (ys : List Value) : GrowR B 33 2 (GrE N) i z v (putsL gg k ys w) := by
  obtain ⟨L, h1, h2, ⟨h3, h5⟩, h4⟩ := h
  refine ⟨L, h1, h2, ⟨?_, h5⟩, fun k' l hk => grE_puts (h4 k' l hk) hv hT hg ys rfl⟩
  exact h3.kept (row := some gg) ⟨(putsL_below (Nat.le_refl gg) ys k w).os, (putsL_below (Nat.le_refl gg) ys k w).tape, (putsL_below (Nat.le_refl gg) ys k w).output, by rw [putsL_size]; exact Nat.le_refl _, fun j _ hj => putsL_other (fun e => hj (by rw [e])) ys k w⟩ (.inr fun e => by have := (h3.lt _ e).1; omega)
theorem grey_info : (Tryd.prog.info? 33).map (fun i => (i.zero, i.size, i.bytes)) = some (some (.agg #[.int .i64 0, .slice none 0 0]), 2, 32) := by kernel_rfl
theorem aside_join {T : Nat → Prop} {a b c : World} (h : Aside T a b) (k : Below a.heap.size b c) : Aside T a c :=
  ⟨k.os.trans h.os, k.tape.trans h.tape, k.output.trans h.output, Nat.le_trans h.size k.size, fun i hi ht => (k.block i hi).trans (h.block i hi ht)⟩
theorem rowE_aside {N : Nat} {E T : TypeId} {n m g : Nat} {p : Option Addr} {w w' : World} (h : RowE N E n p w) (hv : VarT T m g w) (hT : ¬ E = T) (hg : N ≤ g) (ha : Aside (fun k => k = g) w w') :
    RowE N E n p w' ∧ (0 < n → ∀ b off sp, p = some ⟨b, off, sp⟩ → w'.heap[b]? = w.heap[b]?) := by
  have key : 0 < n → ∀ b off sp, p = some ⟨b, off, sp⟩ → w'.heap[b]? = w.heap[b]? := fun h0 b off sp e => ha.block b (h h0 b off sp e).1 (h.ne hv hT hg h0 e)
  refine ⟨fun h0 b off sp e => ?_, key⟩
  obtain ⟨hl, h1⟩ := h h0 b off sp e
  refine ⟨Nat.lt_of_lt_of_le hl ha.size, ?_⟩
  rcases h1 with h1 | ⟨cs, h1⟩
  · exact .inl h1
  · exact .inr ⟨cs, (key h0 b off sp e).trans h1⟩
/-- A row of such rows that grows, as a drawn region leaves it. -/
def GrowRB (B N n : Nat) (z : Nat → Gy) (v : Value) (w : World) : Prop := GrowR B 33 2 (GrE N) n z v w
theorem GrowRB.below {B N n : Nat} {z : Nat → Gy} {v : Value} {w w' : World} (h : GrowRB B N n z v w) (hb : Below w.heap.size w w') : GrowRB B N n z v w' := GrowR.below h grE_below hb
section
variable {N T k gg : Nat} {W : World} {m : Mk} {pg : Option Addr} {cg : Nat} {pb : Option Addr} {cb : Nat} {pr : Option Addr} {cr : Nat}
/-- A marker's rows, as a variable alone turns. -/
theorem grE_aside {g : Gy} {L : List Value} {W' : World} (h : GrE N W g L) (hv : VarT T k gg W) (hT : ¬ 3 = T) (hg : N ≤ gg) (ha : Aside (fun k => k = gg) W W') : GrE N W' g L := by
  obtain ⟨p, c, e, h, ht, hr⟩ := h
  obtain ⟨h1, h2⟩ := rowE_aside ht hv hT hg ha
  exact ⟨p, c, e, h.of_block ha.size h2, h1, hr⟩
theorem MAtE.aside {W' : World} (h : MAtE N W m pg cg pb cb pr cr) (hv : VarT T k gg W) (hT : ¬ 3 = T) (hT2 : ¬ 33 = T) (hT3 : ¬ 46 = T) (hg : N ≤ gg) (ha : Aside (fun k => k = gg) W W') : MAtE N W' m pg cg pb cb pr cr := by
  obtain ⟨g1, g2⟩ := rowE_aside h.ge hv hT hg ha
  obtain ⟨b1, b2⟩ := rowE_aside h.be hv hT2 hg ha
  obtain ⟨r1, r2⟩ := rowE_aside h.re hv hT3 hg ha
  refine ⟨h.g.of_block ha.size g2, g1, ⟨fun j hj => ?_, h.b.nle, h.b.pnil, h.b.ncap⟩, b1, h.r.of_block ha.size r2, r1⟩
  obtain ⟨bb, off, L, e, hl, hL, hc, hx⟩ := h.b.row j hj
  exact ⟨bb, off, L, e, Nat.lt_of_lt_of_le hl ha.size, hL, fun t u ht => by rw [World.cell?_of_block (w := W) (a := ⟨bb, _, none⟩) (b2 (by omega) bb off none e)]; exact hc t u ht, grE_aside hx hv hT hg ha⟩
end
end Go.Proofs.YtmbgodncagjncaaDoor
