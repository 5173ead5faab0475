/- Contracts of object.* and of the reference's Set and Paint, by a heap's three cells (chapter 8). -/
import Derived.Test.YtmbgodncagjncaaDoorB27
import Derived.Test.YtmbgodncagjncaaDoorB17
import Derived.Test.YtmbgodncagjncaaDoorB18
namespace Go.Proofs.YtmbgodncagjncaaDoor
set_option linter.unusedSimpArgs false
set_option linter.unusedVariables false
open Go.ChangeShapes Go.WideShapes Go.ChangeAt Go.RowKit Go.Joins

theorem wf_i64_of {a : Int} (h0 : -9223372036854775808 ≤ a) (h1 : a ≤ 9223372036854775807) : (Lit.int .i64 a).wf = true := by
  simp [Lit.wf, IntKind.min, IntKind.max, IntKind.signed, IntKind.bits]; omega
/-- What a call answers: a row of numbers of its own. -/
structure NumRow (B : Nat) (L : List Int) (W : World) (p : Option Addr) (c : Nat) : Prop where
  ints : Ints .i64 W p L.length fun i => L[i]?.getD 0
  new : ∀ b off sp, p = some ⟨b, off, sp⟩ → B ≤ b
theorem NumRow.below {B : Nat} {L : List Int} {W W' : World} {p : Option Addr} {c : Nat} (r : NumRow B L W p c) (hb : Below W.heap.size W W') : NumRow B L W' p c := ⟨r.ints.below hb, r.new⟩
/-- A variable of two cells. -/
structure Box2 (b : Nat) (x y : Value) (W : World) : Prop where
  lt : b < W.heap.size
  c0 : W.cell? ⟨b, 0, none⟩ = some x
  c1 : W.cell? ⟨b, 1, none⟩ = some y
theorem Box2.below {b : Nat} {x y : Value} {W W' : World} (h : Box2 b x y W) (hb : Below W.heap.size W W') : Box2 b x y W' :=
  ⟨Nat.lt_of_lt_of_le h.lt hb.size, (hb.cell (p := ⟨b, 0, none⟩) h.lt).trans h.c0, (hb.cell (p := ⟨b, 1, none⟩) h.lt).trans h.c1⟩
theorem Box2.other {b : Nat} {x y : Value} {W : World} (h : Box2 b x y W) {g : Nat} (hg : ¬ g = b) (o : Nat) (u : Value) : Box2 b x y (W.setCell ⟨g, o, none⟩ u) := by
  refine ⟨by simpa [World.setCell] using h.lt, ?_, ?_⟩
  · rw [World.cell?_of_block (w := W) (a := ⟨b, 0, none⟩) (Below.heap_setCell W ⟨g, o, none⟩ u b (fun e => hg e.symm))]; exact h.c0
  · rw [World.cell?_of_block (w := W) (a := ⟨b, 1, none⟩) (Below.heap_setCell W ⟨g, o, none⟩ u b (fun e => hg e.symm))]; exact h.c1
theorem Box2.new (W : World) (x y : Value) (t : TypeId) : Box2 W.heap.size x y (W.alloc (.cells #[x, y] t)) := by
  have hg := heap_alloc_new W (.cells #[x, y] t)
  exact ⟨by simp, by rw [cell_of_row _ _ _ _ _ _ hg]; rfl, by rw [cell_of_row _ _ _ _ _ _ hg]; rfl⟩
theorem NumRow.setCell {B : Nat} {L : List Int} {W : World} {p : Option Addr} {c : Nat} (r : NumRow B L W p c) {g : Nat} (hg : g < B) (o : Nat) (u : Value) : NumRow B L (W.setCell ⟨g, o, none⟩ u) p c :=
  ⟨r.ints.setCell (fun b off e => by have := r.new b off none e; omega) o u, r.new⟩
section
variable {p : Option Addr} {n c : Nat} {q : Option Addr} {m d : Nat} {b : Bool} {h : Hp} {w : World}
end
end Go.Proofs.YtmbgodncagjncaaDoor
namespace Go.Proofs.YtmbgodncagjncaaDoor
set_option linter.unusedSimpArgs false
set_option linter.unusedVariables false
open Go.ChangeShapes Go.WideShapes Go.ChangeAt Go.RowKit Go.Joins

theorem made_own {w : World} {N e size n : Nat} {R : Array Value} {xs : List Value} (hN : N ≤ w.heap.size) (hR : R.toList = xs) (hs : R.size = n * size) (hm : n ≤ maxLen) (h0 : 0 < size) : (w.alloc (.cells R e)).ownsRow N e size (.slice (some ⟨w.heap.size, 0, none⟩) n n) n xs := by
  refine ⟨by rw [← hR, Array.length_toList, hs], .inr ⟨w.heap.size, n, R, rfl, hN, heap_alloc_new _ _, Nat.le_refl _, hm, hs, ?_⟩⟩
  rw [hR, List.take_of_length_le (by rw [← hR, Array.length_toList, hs]; exact Nat.le_refl _)]
theorem Src.newV {A B : Nat} {ok : Bool} {n m : Nat} {p : Option Addr} {c : Nat} {q : Option Addr} {d : Nat} {p' : Option Addr} {c' : Nat} {q' : Option Addr} {d' : Nat} (s : Src B ok n m p c q d p' c' q' d') (hB : A ≤ B) (h1 : NewV A (.slice p n c)) (h2 : NewV A (.slice q m d)) : NewV A (.slice p' n c') ∧ NewV A (.slice q' m d') := by
  cases ok with
  | true =>
    obtain ⟨a, b⟩ := s.new rfl
    exact ⟨fun g hg => Nat.le_trans hB (a g hg), fun g hg => Nat.le_trans hB (b g hg)⟩
  | false =>
    obtain ⟨rfl, rfl, rfl, rfl⟩ := s.old rfl
    exact ⟨h1, h2⟩
/-- What Made's loop carries. -/
structure MadeAt (W : World) (g A N M : Nat) (p : Option Addr) (c : Nat) (q : Option Addr) (d : Nat) (b : Bool) (H : Hp) : Prop where
  heap : HpIn W p N c q M d b H
  form : formB H = true
  clr : Clear g p q
  newW : NewV A (.slice p N c)
  newS : NewV A (.slice q M d)
  box : Box3 g (.slice p N c) (.slice q M d) (.bool b) W
section
variable {W W' : World} {g A N M : Nat} {p : Option Addr} {c : Nat} {q : Option Addr} {d : Nat} {b : Bool} {H : Hp}
theorem MadeAt.below (m : MadeAt W g A N M p c q d b H) (hb : Below W.heap.size W W') : MadeAt W' g A N M p c q d b H := ⟨m.heap.below hb, m.form, m.clr, m.newW, m.newS, m.box.below hb⟩
theorem MadeAt.put (m : MadeAt W g A N M p c q d b H) {p' : Option Addr} {c' : Nat} {q' : Option Addr} {d' : Nat} {b' : Bool} {H' : Hp} {S : Nat} {ok : Bool} (hh : HpIn W p' N c' q' M d' b' H') (hf : formB H' = true) (hs : Src S ok N M p c q d p' c' q' d') (hA : A ≤ S) (hg : g < S) :
    MadeAt (((W.setCell ⟨g, 0, none⟩ (.slice p' N c')).setCell ⟨g, 1, none⟩ (.slice q' M d')).setCell ⟨g, 2, none⟩ (.bool b')) g A N M p' c' q' d' b' H' := by
  have hc := hs.keep m.clr hg
  obtain ⟨n1, n2⟩ := hs.newV hA m.newW m.newS
  exact ⟨hh.stores hc _ _ _, hf, hc, n1, n2, m.box.stores _ _ _⟩
end
end Go.Proofs.YtmbgodncagjncaaDoor
namespace Go.Proofs.YtmbgodncagjncaaDoor
set_option linter.unusedSimpArgs false
set_option linter.unusedVariables false
open Go.ChangeShapes Go.WideShapes Go.ChangeAt Go.RowKit

/-- Are so many words from an address on 0? -/
def noB (h : Hp) (a : Int) (n : Nat) : Bool := (List.range n).all fun i => woH h (a + i) == 0
/-- Where a block begins. -/
def bkA (h : Hp) (p : Nat) (i : Int) : Int := 32 * p + i * szW (h.s p).cl
def bk2 (h : Hp) (p : Nat) (i : Int) : Bool := if hasB (h.s p).fr i = true then noB h (bkA h p i) (szW (h.s p).cl).toNat else obB h (bkA h p i) && (obK h (bkA h p i) == (h.s p).cl)
def pg2 (h : Hp) (p : Nat) : Bool := if (h.s p).st = 0 then noB h (32 * p) 32 else (List.range (blW (h.s p).cl).toNat).all fun i => bk2 h p i
/-! What Made makes is sound. -/
theorem may_class {c : Bool} {k f : Int} (h : hmayB true c k f = true) : 0 ≤ k ∧ k < 4 ∧ 0 ≤ f ∧ f < szW k := by
  have hk : 0 ≤ k ∧ k < 4 := by
    simp [hmayB] at h
    omega
  rw [may_is hk.1 hk.2] at h
  simp at h
  exact ⟨hk.1, hk.2, h.1, h.2⟩
/-! What a sound heap is like. -/
theorem wo_put {h : Hp} {p x b : Int} (b0 : 0 ≤ b) (hne : ¬ b = p) : woH (putH h p x) b = woH h b := by
  show putZ h.z p x b.toNat = h.z b.toNat
  unfold putZ; rw [if_neg (by omega)]
theorem wo_same {h : Hp} {p x : Int} (p0 : 0 ≤ p) : woH (putH h p x) p = x := by
  show putZ h.z p x p.toNat = x
  unfold putZ; rw [if_pos (by omega)]
/-! What leaves a heap sound. -/
theorem obL_congr {h g : Hp} (hob : ∀ b, obB g b = obB h b) : ∀ k, obL g k = obL h k
  | 0 => rfl
  | k + 1 => by
    have ih := obL_congr hob k
    unfold obL
    rw [hob, ih]
theorem rfL_mem {h : Hp} {a r : Int} : ∀ k : Nat, r ∈ rfL h a k ↔ ∃ j : Nat, j < k ∧ getK (woH h (a + 1 + j)) = 2 ∧ r = getN (woH h (a + 1 + j))
  | 0 => by simp [rfL]
  | k + 1 => by
    have ih := rfL_mem (h := h) (a := a) (r := r) k
    by_cases e : getK (woH h (a + 1 + k)) = 2
    · rw [rfL_yes e, List.mem_append, ih]
      constructor
      · rintro (⟨j, j0, j1, j2⟩ | hr)
        · exact ⟨j, by omega, j1, j2⟩
        · exact ⟨k, by omega, e, by simpa using hr⟩
      · rintro ⟨j, j0, j1, j2⟩
        by_cases ej : j = k
        · subst ej; exact .inr (by simpa using j2)
        · exact .inl ⟨j, by omega, j1, j2⟩
    · rw [rfL_no e, ih]
      constructor
      · rintro ⟨j, j0, j1, j2⟩; exact ⟨j, by omega, j1, j2⟩
      · rintro ⟨j, j0, j1, j2⟩
        by_cases ej : j = k
        · subst ej; exact absurd j1 e
        · exact ⟨j, by omega, j1, j2⟩
theorem rfH_mem {h : Hp} {a r : Int} : r ∈ rfH h a ↔ ∃ j : Nat, (j : Int) < obN h a ∧ getK (woH h (a + 1 + j)) = 2 ∧ r = getN (woH h (a + 1 + j)) := by
  unfold rfH
  rw [rfL_mem]
  constructor
  · rintro ⟨j, j0, j1⟩; exact ⟨j, by omega, j1⟩
  · rintro ⟨j, j0, j1⟩; exact ⟨j, by omega, j1⟩
end Go.Proofs.YtmbgodncagjncaaDoor
