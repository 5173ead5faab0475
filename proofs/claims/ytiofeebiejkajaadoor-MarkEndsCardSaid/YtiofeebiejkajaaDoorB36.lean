/- Contracts of the reference's roots (chapter 14), and of its comparisons of values and numbers. -/
import Derived.Test.YtiofeebiejkajaaDoorB23
import Derived.Test.YtiofeebiejkajaaDoorB26
import Derived.Deep.Cut
import Derived.Test.YtiofeebiejkajaaDoorB35
import Derived.Test.YtiofeebiejkajaaDoorB22
import Derived.Test.YtiofeebiejkajaaDoorB32
import Derived.Test.YtiofeebiejkajaaDoorB34
import Derived.Test.YtiofeebiejkajaaDoorB29
namespace Go.Proofs.YtiofeebiejkajaaDoor
set_option linter.unusedSimpArgs false
set_option linter.unusedVariables false
open Go.ChangeShapes Go.WideShapes Go.ChangeAt Go.RowKit Go.Joins

theorem val_info : (Tryd.prog.info? 38).map (fun i => (i.zero, i.size, i.bytes)) = some (some (.agg #[.int .i64 0, .int .i64 0]), 2, 16) := by kernel_rfl
/-- Refs: the numbers of the first n that refer to something. -/
def vrL (z : Nat → Vl) : Nat → List Int
  | 0 => []
  | n + 1 => if (z n).k = 2 then vrL z n ++ [(z n).n] else vrL z n
end Go.Proofs.YtiofeebiejkajaaDoor
namespace Go.Proofs.YtiofeebiejkajaaDoor
set_option linter.unusedSimpArgs false
set_option linter.unusedVariables false
open Go.ChangeShapes Go.WideShapes Go.ChangeAt Go.RowKit

/-- A value that a mutator notes. -/
def noM (h : Hp) (m : Mk) (i : Nat) (v : Vl) : Hp × Mk := ((shM h (m.b i) v).h, { m with b := setB m.b i ((shM h (m.b i) v).gy (m.b i).r), ov := m.ov || (shM h (m.b i) v).o })
/-- A new marker. -/
def newM (r : Int) (nb : Nat) (br : Nat → Int) (nr : Nat) (ro : Nat → Vl) : Mk := ⟨⟨r, 0, fun _ => 0⟩, nb, fun i => ⟨br i, 0, fun _ => 0⟩, nr, ro, -1, 0, -1, false⟩
theorem gy_empty {r : Int} (h0 : 0 ≤ r) (h1 : r ≤ 16) : (⟨r, 0, fun _ => 0⟩ : Gy).right = true := rightG_iff.2 ⟨⟨h0, h1, h0⟩, fun i hi => absurd hi (Nat.not_lt_zero i)⟩
theorem new_right {h : Hp} {r : Int} {nb : Nat} {br : Nat → Int} {nr : Nat} {ro : Nat → Vl} (h0 : 0 ≤ r) (h1 : r ≤ 16) (hb : ∀ i, i < nb → 0 ≤ br i ∧ br i ≤ 16) : rightM h (newM r nb br nr ro) :=
  ⟨gy_empty h0 h1, fun i hi => gy_empty (hb i hi).1 (hb i hi).2, ⟨by show (-1 : Int) ≤ -1; omega, by show (-1 : Int) ≤ (h.n : Int); omega⟩, .inl ⟨rfl, rfl⟩⟩
theorem vrL_mem {z : Nat → Vl} {x : Int} : ∀ {n : Nat}, x ∈ vrL z n ↔ ∃ i, i < n ∧ (z i).k = 2 ∧ (z i).n = x
  | 0 => by simp [vrL]
  | n + 1 => by
    have ih := vrL_mem (z := z) (x := x) (n := n)
    unfold vrL
    by_cases e : (z n).k = 2
    · rw [if_pos e, List.mem_append, ih, List.mem_singleton]
      constructor
      · rintro (⟨i, h1, h2⟩ | rfl)
        · exact ⟨i, by omega, h2⟩
        · exact ⟨n, by omega, e, rfl⟩
      · rintro ⟨i, h1, h2, h3⟩
        by_cases ei : i = n
        · subst ei; exact .inr h3.symm
        · exact .inl ⟨i, by omega, h2, h3⟩
    · rw [if_neg e, ih]
      constructor
      · rintro ⟨i, h1, h2⟩; exact ⟨i, by omega, h2⟩
      · rintro ⟨i, h1, h2, h3⟩
        by_cases ei : i = n
        · subst ei; exact absurd h2 e
        · exact ⟨i, by omega, h2, h3⟩
/-- As marking is done, black is just what is reached from the roots. -/
theorem mark_exact {h0 h : Hp} {m : Mk} {S : List Int} (hF : formB h0 = true) (hu : MkU h0 (Rch h0 S) h m) (hl : MkL h0 (fun x => x ∈ S) h m) (hd : (stM h m).2.2 = true) (a : Int) : blB h a = true ↔ Rch h0 S a := by
  obtain ⟨h1, h2⟩ := hl.done hd
  exact ⟨hu.up a, fun hr => hr (fun x => blB h x = true) (fun x hx ho => h2 x hx ho) (fun x y hx hy ho => h1 x hx y hy ho)⟩
/-- What is reached is closed. -/
theorem rch_closed {h : Hp} {S : List Int} : ∀ x y, Rch h S x → y ∈ rfH h x → obB h y = true → Rch h S y := fun _ _ hx hy ho => hx.step hy ho
/-- How many steps there are, at most. -/
def boM (h : Hp) (m : Mk) : Nat := (nOb h + 3) * (17 * nOb h + 8) + m.nr + 17 * (m.g.n + smB m.b m.nb) + 20
theorem mu_bound {h : Hp} {m : Mk} (hF : formB h = true) (hR : rightM h m) : muM h m ≤ boM h m := by
  have h1 : (if m.ob = -1 then 0 else obN h m.ob - m.fi) ≤ 15 := by
    split
    · omega
    · have := obN_bound hF m.ob
      rcases hR.2.2.2 with ⟨e, -⟩ | ⟨-, e⟩
      · contradiction
      · have := (fd_ok e).2.1
        omega
  have h2 : (if m.cu = -1 then 0 else 17 * (afC h m.cu : Int) + 1) ≤ 17 * (nOb h : Int) + 1 := by
    have := afC_le h m.cu
    split <;> omega
  have h3 : (if m.ov = true then 17 * (nOb h : Int) + 2 else 0) ≤ 17 * (nOb h : Int) + 2 := by split <;> omega
  have h4 : whC h ≤ nOb h := List.countP_le_length
  have h5 : whC h * (17 * nOb h + 19) ≤ nOb h * (17 * nOb h + 19) := Nat.mul_le_mul_right _ h4
  have h6 : (nOb h + 3) * (17 * nOb h + 8) = nOb h * (17 * nOb h + 19) + (40 * nOb h + 24) := by
    rw [Nat.add_mul, Nat.mul_add, Nat.mul_add (nOb h) (17 * nOb h) 19]
    omega
  unfold muM boM
  rw [h6]
  omega
theorem mu_nonneg {h : Hp} {m : Mk} (hR : rightM h m) : 0 ≤ muM h m := by
  have h1 : 0 ≤ (if m.ob = -1 then 0 else obN h m.ob - m.fi) := by
    split
    · omega
    · rcases hR.2.2.2 with ⟨e, -⟩ | ⟨-, e⟩
      · contradiction
      · have := (fd_ok e).2.2
        omega
  have h2 : 0 ≤ (if m.cu = -1 then 0 else 17 * (afC h m.cu : Int) + 1) := by split <;> omega
  have h3 : 0 ≤ (if m.ov = true then 17 * (nOb h : Int) + 2 else 0) := by split <;> omega
  unfold muM
  omega
end Go.Proofs.YtiofeebiejkajaaDoor
namespace Go.Proofs.YtiofeebiejkajaaDoor
set_option linter.unusedSimpArgs false
set_option linter.unusedVariables false
open Go.ChangeShapes Go.WideShapes Go.ChangeAt Go.RowKit Go.Joins

section
variable {P : Program} {l : List Oper} {Q : Exit → Act → World → Prop} {a : Act} {ds : List Nat} {Φ : Nat → Value → World → Prop} {W : World} {I : World → Prop} {n : Nat} {S : Nat → World → World → Prop} {fin : Nat → Bool}
end
end Go.Proofs.YtiofeebiejkajaaDoor
namespace Go.Proofs.YtiofeebiejkajaaDoor
set_option linter.unusedSimpArgs false
set_option linter.unusedVariables false
open Go.ChangeShapes Go.WideShapes Go.ChangeAt Go.RowKit Go.Joins

/-- A row of the call's own, of n elements whose cells C tells. -/
def GrowR {α : Type} (N : Nat) (T : TypeId) (s : Nat) (C : World → α → List Value → Prop) (n : Nat) (z : Nat → α) (v : Value) (w : World) : Prop :=
  ∃ L : List (List Value), L.length = n ∧ (∀ l ∈ L, l.length = s) ∧ CopyB N T s n L.flatten v w ∧ ∀ k l, L[k]? = some l → C w (z k) l
section
variable {α : Type} {N : Nat} {T : TypeId} {s n : Nat} {C : World → α → List Value → Prop} {z : Nat → α} {v : Value} {w w' : World}
theorem GrowR.below (h : GrowR N T s C n z v w) (hC : CBelow C) (hb : Below w.heap.size w w') : GrowR N T s C n z v w' := by
  obtain ⟨L, h1, h2, h3, h4⟩ := h
  exact ⟨L, h1, h2, h3.below hb, fun k l hk => hC _ _ _ _ (h4 k l hk) hb⟩
theorem flatten_len : ∀ (L : List (List Value)), (∀ l ∈ L, l.length = s) → L.flatten.length = L.length * s
  | [], _ => by simp
  | l :: L, h => by
    rw [List.flatten_cons, List.length_append, h l (by simp), flatten_len L (fun x hx => h x (by simp [hx])), List.length_cons, Nat.add_mul]
    omega
theorem flatten_get : ∀ (L : List (List Value)) (k j : Nat) (l : List Value), (∀ l ∈ L, l.length = s) → L[k]? = some l → j < s → L.flatten[k * s + j]? = l[j]?
  | [], k, _, _, _, h, _ => by simp at h
  | x :: L, 0, j, l, hl, h, hj => by
    simp at h
    subst h
    rw [List.flatten_cons, Nat.zero_mul, Nat.zero_add, List.getElem?_append_left (by rw [hl x (by simp)]; exact hj)]
  | x :: L, k + 1, j, l, hl, h, hj => by
    have hx := hl x (by simp)
    rw [List.flatten_cons, List.getElem?_append_right (by rw [hx, Nat.add_mul]; omega), hx, show (k + 1) * s + j - s = k * s + j by rw [Nat.add_mul]; omega]
    exact flatten_get L k j l (fun y hy => hl y (by simp [hy])) (by simpa using h) hj
/-- .. as a row that is read. -/
theorem GrowR.rat (h : GrowR N T s C n z v w) (hn : n ≤ maxLen) : ∃ p c, v = .slice p n c ∧ RAt C s w p c n z ∧ (∀ b off sp, p = some ⟨b, off, sp⟩ → b < w.heap.size ∧ N ≤ b ∧ ∃ cs, w.heap[b]? = some (.cells cs T (0, 0))) := by
  obtain ⟨L, h1, h2, ⟨h3, h5⟩, h4⟩ := h
  obtain ⟨p, c, rfl, hnew⟩ := owned_new h3
  have htag := owned_tag h3
  refine ⟨p, c, rfl, ⟨fun i hi => ?_, hn, fun e => ?_, ?_⟩, fun b off sp e => ?_⟩
  · obtain ⟨l, hl⟩ : ∃ l, L[i]? = some l := ⟨L[i]'(by omega), List.getElem?_eq_getElem _⟩
    rcases h3.2 with ⟨-, h0⟩ | ⟨g, cap', cur, hv, hb, hg, hnc, hm, hs, ht⟩
    · omega
    · have e0 : p = some ⟨g, 0, none⟩ := by injection hv
      subst e0
      have hls := h2 l (List.mem_of_getElem? hl)
      refine ⟨g, 0, l, rfl, (Array.getElem?_eq_some_iff.1 hg).1, hls, fun k u hk => ?_, h4 i l hl⟩
      have hk' : k < s := by have := (List.getElem?_eq_some_iff.1 hk).1; omega
      have hf := flatten_get L i k l h2 hl hk'
      rw [hk, ← ht, List.getElem?_take] at hf
      split at hf
      · rw [Nat.zero_add, cell_of_row w g _ cur T (0, 0) hg]; simpa using hf
      · cases hf
  · subst e
    rcases h3.2 with ⟨hv, h0⟩ | ⟨g, cap', cur, hv, -⟩
    · injection hv with _ _ e; exact ⟨h0, e⟩
    · injection hv with e; cases e
  · rcases h3.2 with ⟨hv, h0⟩ | ⟨g, cap', cur, hv, -, -, h1, h2, -⟩
    · injection hv with _ _ e; rw [h0, e]; exact ⟨Nat.le_refl _, by decide⟩
    · injection hv with _ _ e; subst e; exact ⟨h1, h2⟩
  · obtain ⟨cs, hc⟩ := htag b off sp e
    exact ⟨(Array.getElem?_eq_some_iff.1 hc).1, hnew b off sp e, cs, hc⟩
/-- One element more. -/
theorem GrowR.more {L : List (List Value)} {ys : List Value} {v' : Value} (hl : L.length = n) (hL : ∀ l ∈ L, l.length = s) (hy : ys.length = s) (ho : w'.ownsRow N T s v' (n + 1) (L.flatten ++ ys)) (h4 : ∀ k l, L[k]? = some l → C w' (z k) l) (h5 : C w' (z n) ys) : GrowR N T s C (n + 1) z v' w' := by
  refine ⟨L ++ [ys], by simp [hl], fun l h => ?_, ⟨by simpa using ho, fun e => by omega⟩, fun k l hk => ?_⟩
  · rcases List.mem_append.1 h with h | h
    · exact hL l h
    · rw [List.mem_singleton.1 h]; exact hy
  · by_cases e : k < n
    · rw [List.getElem?_append_left (by omega)] at hk
      exact h4 k l hk
    · rw [List.getElem?_append_right (by omega)] at hk
      have : k = n := by
        have := (List.getElem?_eq_some_iff.1 hk).1
        simp at this
        omega
      subst this
      rw [hl, Nat.sub_self] at hk
      simp at hk
      subst hk
      exact h5
end
/-! What stays as a row of another type grows in place. -/
section
variable {N k n s m : Nat} {T T' : TypeId} {ys xs : List Value} {v v0 : Value} {w w' : World}
theorem InPl.others (h : InPl N T s n k ys v w w') {b : Nat} {cs : Array Value} (hT : ¬ T' = T) (hb : w.heap[b]? = some (.cells cs T' (0, 0))) : w'.heap[b]? = w.heap[b]? := by
  obtain ⟨g, cap, cur, -, -, hg, -, -, -, rfl⟩ := h
  refine putsL_other ?_ _ _ _
  rintro rfl
  have := hb.symm.trans hg
  injection this with this
  injection this with _ this
  exact hT this
theorem InPl.under (h : InPl N T s n k ys v w w') {b : Nat} (hb : b < N) : w'.heap[b]? = w.heap[b]? := h.lower.block b hb
end
/-- A slice of one struct of a number and a row of numbers of the call's own; the struct. -/
def PutG (N : Nat) (r : Int) (n : Nat) (z : Nat → Int) (v : Value) (w : World) : Prop := ∃ p c, v = .agg #[.int .i64 r, .slice p n c] ∧ CopyB N 3 1 n (vals .i64 n z) (.slice p n c) w
def OneG (N : Nat) (r : Int) (n : Nat) (z : Nat → Int) (v : Value) (w : World) : Prop := ∃ p c, OneB N 28 [.int .i64 r, .slice p n c] v w ∧ CopyB N 3 1 n (vals .i64 n z) (.slice p n c) w
theorem PutG.below {N : Nat} {r : Int} {n : Nat} {z : Nat → Int} {v : Value} {w w' : World} (h : PutG N r n z v w) (hb : Below w.heap.size w w') : PutG N r n z v w' := by
  obtain ⟨p, c, e, h⟩ := h
  exact ⟨p, c, e, h.below hb⟩
theorem OneG.below {N : Nat} {r : Int} {n : Nat} {z : Nat → Int} {v : Value} {w w' : World} (h : OneG N r n z v w) (hb : Below w.heap.size w w') : OneG N r n z v w' := by
  obtain ⟨p, c, h1, h2⟩ := h
  exact ⟨p, c, h1.below hb, h2.below hb⟩
theorem ints_cellsB {kk : IntKind} {w : World} {p : Option Addr} {n : Nat} {z : Nat → Int} (h : Ints kk w p n z) : ∀ ad, p = some ad → ∀ j u, (vals kk n z)[j]? = some u → w.cell? (ad.add j) = some u := fun ad e j u hj => by
  have hjn : j < n := by
    have := (List.getElem?_eq_some_iff.1 hj).1
    rwa [vals_length] at this
  obtain ⟨ad', e', hc⟩ := h.cells (by omega)
  rw [e] at e'
  injection e' with e'
  subst e'
  exact hc j u hj
/-- A row of numbers with its room stays. -/
theorem grE_puts {N M k : Nat} {T : TypeId} {m : Nat} {w : World} {g : Gy} {L : List Value} {gg : Nat} (h : GrE N w g L) (hv : VarT T m gg w) (hT : ¬ 3 = T) (hg : N ≤ gg) (ys : List Value) (_ : M = k) : GrE N (putsL gg k ys w) g L := by
  obtain ⟨p, c, e, h, ht, hr⟩ := h
  exact ⟨p, c, e, gr_putsL h ht hv hT hg ys, row_putsL ht hv hT hg ys, hr⟩
theorem grey_info : (Tryd.prog.info? 28).map (fun i => (i.zero, i.size, i.bytes)) = some (some (.agg #[.int .i64 0, .slice none 0 0]), 2, 32) := by kernel_rfl
theorem rowE_aside {N : Nat} {E T : TypeId} {n m g : Nat} {p : Option Addr} {w w' : World} (h : RowE N E n p w) (hv : VarT T m g w) (hT : ¬ E = T) (hg : N ≤ g) (ha : Aside (fun k => k = g) w w') :
    RowE N E n p w' ∧ (0 < n → ∀ b off sp, p = some ⟨b, off, sp⟩ → w'.heap[b]? = w.heap[b]?) := by
  have key : 0 < n → ∀ b off sp, p = some ⟨b, off, sp⟩ → w'.heap[b]? = w.heap[b]? := fun h0 b off sp e => ha.block b (h h0 b off sp e).1 (h.ne hv hT hg h0 e)
  refine ⟨fun h0 b off sp e => ?_, key⟩
  obtain ⟨hl, h1⟩ := h h0 b off sp e
  refine ⟨Nat.lt_of_lt_of_le hl ha.size, ?_⟩
  rcases h1 with h1 | ⟨cs, h1⟩
  · exact .inl h1
  · exact .inr ⟨cs, (key h0 b off sp e).trans h1⟩
/-- A row of such rows that grows, as a drawn region leaves it. -/
def GrowRB (B N n : Nat) (z : Nat → Gy) (v : Value) (w : World) : Prop := GrowR B 28 2 (GrE N) n z v w
theorem GrowRB.below {B N n : Nat} {z : Nat → Gy} {v : Value} {w w' : World} (h : GrowRB B N n z v w) (hb : Below w.heap.size w w') : GrowRB B N n z v w' := GrowR.below h grE_below hb
end Go.Proofs.YtiofeebiejkajaaDoor
