import Derived.Test.YtkehankfnkjnlaaGreatDoorV24
namespace Go.Proofs.YtkehankfnkjnlaaGreatDoor
set_option linter.unusedSimpArgs false
set_option linter.unusedVariables false
set_option maxHeartbeats 16000000
set_option maxRecDepth 20000
open Go.ChangeAt Go.ChangeShapes Go.Joins Go.RowKit Go.WideShapes
variable {h : Hp} {w w' W W' : World} {p q : Option Addr} {n g : Nat} {a : Int} {v : Value}
def GrE (N : Nat) (W : World) (g : Gy) (L : List Value) : Prop := ∃ p c, L = [.int .i64 g.r, .slice p g.n c] ∧ GrAt W p c g.n g.z ∧ RowE N 3 g.n p W ∧ In64 g.r
theorem zbr {N : Nat} : CBelow (GrE N) := fun _ _ _ _ h hb => by
 obtain ⟨p, c, e, h, ht, hr⟩ := h
 exact ⟨p, c, e, h.below hb, ht.below hb, hr⟩
theorem GrE.grC {N : Nat} {g : Gy} {L : List Value} (h : GrE N W g L) : GrC W g L := by
 obtain ⟨p, c, e, h, -, hr⟩ := h
 exact ⟨p, c, e, h, hr⟩
structure MAtE (N : Nat) (W : World) (m : Mk) (pg : Option Addr) (cg : Nat) (pb : Option Addr) (cb : Nat) (pr : Option Addr) (cr : Nat) : Prop where
 g : GrAt W pg cg m.g.n m.g.z
 ge : RowE N 3 m.g.n pg W
 b : RAt (GrE N) 2 W pb cb m.nb m.b
 be : RowE N 31 m.nb pb W
 r : VAt W pr cr m.nr m.ro
 re : RowE N 70 m.nr pr W
section
variable {N T k gg : Nat} {W W' : World} {m : Mk} {pg : Option Addr} {cg : Nat} {pb : Option Addr} {cb : Nat} {pr : Option Addr} {cr : Nat}
theorem RAt.plain {W : World} {c n : Nat} {b : Nat → Gy} (h : RAt (GrE N) 2 W p c n b) : RAt GrC 2 W p c n b :=
 ⟨fun i hi => by obtain ⟨bb, off, L, e, hl, hL, hc, hx⟩ := h.row i hi; exact ⟨bb, off, L, e, hl, hL, hc, hx.grC⟩, h.nle, h.pnil, h.ncap⟩
theorem MAtE.below (h : MAtE N W m pg cg pb cb pr cr) (hb : Below W.heap.size W W') : MAtE N W' m pg cg pb cb pr cr :=
 ⟨h.g.below hb, h.ge.below hb, h.b.below zbr hb, h.be.below hb, h.r.below hb, h.re.below hb⟩
theorem GrE.puts {g : Gy} {L : List Value} (h : GrE N W g L) (hv : VarT T k gg W) (hT : ¬ 3 = T) (hg : N ≤ gg) (ys : List Value) : GrE N (putsL gg 0 ys W) g L := by
 obtain ⟨p, c, e, h, ht, hr⟩ := h
 exact ⟨p, c, e, zbt h ht hv hT hg ys, ht.puts hv hT hg ys, hr⟩
theorem zv9 {b : Nat → Gy} {n c : Nat} (h : RAt (GrE N) 2 W p c n b) (he : RowE N 31 n p W) (hv : VarT T k gg W) (hT : ¬ 3 = T) (hT2 : ¬ 31 = T) (hg : N ≤ gg) (ys : List Value) : RAt (GrE N) 2 (putsL gg 0 ys W) p c n b :=
 ⟨fun i hi => by
  obtain ⟨bb, off, L, e, hl, hL, hc, hx⟩ := h.row i hi
  have hne := he.ne hv hT2 hg (by omega) e
  exact ⟨bb, off, L, e, by rw [zbf]; exact hl, hL, fun j u hj => by rw [World.cell?_of_block (w := W) (a := ⟨bb, _, none⟩) (zah hne ys 0 W)]; exact hc j u hj, hx.puts hv hT hg ys⟩, h.nle, h.pnil, h.ncap⟩
theorem MAtE.puts (h : MAtE N W m pg cg pb cb pr cr) (hv : VarT T k gg W) (hT : ¬ 3 = T) (hT2 : ¬ 31 = T) (hT3 : ¬ 70 = T) (hg : N ≤ gg) (ys : List Value) : MAtE N (putsL gg 0 ys W) m pg cg pb cb pr cr :=
 ⟨zbt h.g h.ge hv hT hg ys, h.ge.puts hv hT hg ys, zv9 h.b h.be hv hT hT2 hg ys, h.be.puts hv hT2 hg ys, h.r.puts h.re hv hT3 hg ys, h.re.puts hv hT3 hg ys⟩
theorem RAt.old {W : World} {c n : Nat} {b : Nat → Gy} (h : RAt GrC 2 W p c n b) (hN : W.heap.size ≤ N) : RAt (GrE N) 2 W p c n b :=
 ⟨fun i hi => by
  obtain ⟨bb, off, L, e, hl, hL, hc, q, d, e2, hg, hr⟩ := h.row i hi
  refine ⟨bb, off, L, e, hl, hL, hc, q, d, e2, hg, fun h0 b1 o1 s1 e1 => ?_, hr⟩
  obtain ⟨⟨b2, o2, e3, hl2, -⟩, -⟩ := hg.ints 0 h0
  rw [e1] at e3
  injection e3 with e3
  injection e3 with e3 e4
  subst e3
  exact ⟨hl2, .inl (by omega)⟩, h.nle, h.pnil, h.ncap⟩
theorem MAtE.old (hg : GrAt W pg cg m.g.n m.g.z) (hb : RAt GrC 2 W pb cb m.nb m.b) (hr : VAt W pr cr m.nr m.ro) (hN : W.heap.size ≤ N) : MAtE N W m pg cg pb cb pr cr := by
 refine ⟨hg, ?_, hb.old hN, ?_, hr, ?_⟩
 ·intro h0 b off sp e
  obtain ⟨⟨b2, o2, e3, hl2, -⟩, -⟩ := hg.ints 0 h0
  rw [e] at e3
  injection e3 with e3
  injection e3 with e3 e4
  subst e3
  exact ⟨hl2, .inl (by omega)⟩
 ·intro h0 b off sp e
  have := hb.lt h0 b off sp e
  exact ⟨this, .inl (by omega)⟩
 ·intro h0 b off sp e
  obtain ⟨⟨b2, o2, e3, hl2, -⟩, -⟩ := hr.row 0 h0
  rw [e] at e3
  injection e3 with e3
  injection e3 with e3 e4
  subst e3
  exact ⟨hl2, .inl (by omega)⟩
end
theorem zks (m : Mk) (pg : Option Addr) (cg : Nat) (pb : Option Addr) (cb : Nat) (pr : Option Addr) (cr : Nat) : PlainC #[.int .i64 m.g.r, .slice pg m.g.n cg, .slice pb m.nb cb, .slice pr m.nr cr, .int .i64 m.ob, .int .i64 m.fi, .int .i64 m.cu, .bool m.ov] := ⟨by show 8 < 32; decide, fun i x e => by
 match i, e with
 | 0, e => simp at e
 | 1, e => simp at e
 | 2, e => simp at e
 | 3, e => simp at e
 | 4, e => simp at e
 | 5, e => simp at e
 | 6, e => simp at e
 | 7, e => simp at e
 | i + 8, e => simp at e⟩
theorem zjj (m : Mk) (pg : Option Addr) (cg : Nat) (pb : Option Addr) (cb : Nat) (pr : Option Addr) (cr : Nat) : PlainL [.int .i64 m.g.r, .slice pg m.g.n cg, .slice pb m.nb cb, .slice pr m.nr cr, .int .i64 m.ob, .int .i64 m.fi, .int .i64 m.cu, .bool m.ov] := fun y hy x e => by
 subst e; simp at hy
theorem TBox.varM {T g : Nat} {m : Mk} {pg : Option Addr} {cg : Nat} {pb : Option Addr} {cb : Nat} {pr : Option Addr} {cr : Nat} (h : TBox T g #[.int .i64 m.g.r, .slice pg m.g.n cg, .slice pb m.nb cb, .slice pr m.nr cr, .int .i64 m.ob, .int .i64 m.fi, .int .i64 m.cu, .bool m.ov] w) : VarT T 8 g w := ⟨_, rfl, zks _ _ _ _ _ _ _, h⟩
theorem zay {T : Nat → Prop} (hg : T g) : ∀ (xs : List Value) (k : Nat) (w : World), Aside T w (putsL g k xs w)
 | [], _, _ => Aside.of zr
 | x :: xs, k, w => ((Aside.of zr).setCell hg k x).trans (zay hg xs (k + 1) _)
theorem Aside.setNew {T : Nat → Prop} (h : Aside T W W') (hg : W.heap.size ≤ g) (i : Nat) (u : Value) : Aside T W (W'.setCell ⟨g, i, none⟩ u) :=
 ⟨h.os, h.tape, h.output, by simpa [World.setCell] using h.size, fun k hk hne => (Below.heap_setCell W' _ u k (fun e => by have : k = g := e; omega)).trans (h.block k hk hne)⟩
theorem zba {N : Nat} {E T : TypeId} {m g n k : Nat} (h : RowE N E n p w) (hv : VarT T m g w) (hT : ¬ E = T) (hg : N ≤ g) (ys : List Value) : RowE N E n p (putsL g k ys w) := fun h0 b off sp e => by
 obtain ⟨hl, h1⟩ := h h0 b off sp e
 refine ⟨by rw [zbf]; exact hl, ?_⟩
 rcases h1 with h1 | ⟨cs, h1⟩
 ·exact .inl h1
 ·exact .inr ⟨cs, (zah (h.ne hv hT hg h0 e) ys k w).trans h1⟩
theorem zbv {N : Nat} {E T : TypeId} {m g k : Nat} {n c : Nat} {z : Nat → Int} (h : GrAt w p c n z) (he : RowE N E n p w) (hv : VarT T m g w) (hT : ¬ E = T) (hg : N ≤ g) (ys : List Value) : GrAt (putsL g k ys w) p c n z :=
 h.of_block (by rw [zbf]; exact Nat.le_refl _) fun h0 b off sp e => zah (he.ne hv hT hg h0 e) ys k w
def GrowR {α : Type} (N : Nat) (T : TypeId) (s : Nat) (C : World → α → List Value → Prop) (n : Nat) (z : Nat → α) (v : Value) (w : World) : Prop :=
 ∃ L : List (List Value), L.length = n ∧ (∀ l ∈ L, l.length = s) ∧ CopyB N T s n L.flatten v w ∧ ∀ k l, L[k]? = some l → C w (z k) l
section
variable {α : Type} {N : Nat} {T : TypeId} {s n : Nat} {C : World → α → List Value → Prop} {z : Nat → α} {v : Value} {w w' : World}
theorem GrowR.below (h : GrowR N T s C n z v w) (hC : CBelow C) (hb : Below w.heap.size w w') : GrowR N T s C n z v w' := by
 obtain ⟨L, h1, h2, h3, h4⟩ := h
 exact ⟨L, h1, h2, h3.below hb, fun k l hk => hC _ _ _ _ (h4 k l hk) hb⟩
theorem zjw (N : Nat) (T : TypeId) (s : Nat) (C : World → α → List Value → Prop) (z : Nat → α) (w : World) : GrowR N T s C 0 z (.slice none 0 0) w :=
 ⟨[], rfl, fun _ h => (by cases h), zsw _ _ _ _, fun k l h => by simp at h⟩
theorem zcm : ∀ (L : List (List Value)), (∀ l ∈ L, l.length = s) → L.flatten.length = L.length * s
 | [], _ => by simp
 | l :: L, h => by
  rw [List.flatten_cons, List.length_append, h l (by simp), zcm L (fun x hx => h x (by simp [hx])), List.length_cons, Nat.add_mul]
  omega
theorem zcg : ∀ (L : List (List Value)) (k j : Nat) (l : List Value), (∀ l ∈ L, l.length = s) → L[k]? = some l → j < s → L.flatten[k * s + j]? = l[j]?
 | [], k, _, _, _, h, _ => by simp at h
 | x :: L, 0, j, l, hl, h, hj => by
  simp at h
  subst h
  rw [List.flatten_cons, Nat.zero_mul, Nat.zero_add, List.getElem?_append_left (by rw [hl x (by simp)]; exact hj)]
 | x :: L, k + 1, j, l, hl, h, hj => by
  have hx := hl x (by simp)
  rw [List.flatten_cons, List.getElem?_append_right (by rw [hx, Nat.add_mul]; omega), hx, show (k + 1) * s + j - s = k * s + j by rw [Nat.add_mul]; omega]
  exact zcg L k j l (fun y hy => hl y (by simp [hy])) (by simpa using h) hj
theorem GrowR.rat (h : GrowR N T s C n z v w) (hn : n ≤ maxLen) : ∃ p c, v = .slice p n c ∧ RAt C s w p c n z ∧ (∀ b off sp, p = some ⟨b, off, sp⟩ → b < w.heap.size ∧ N ≤ b ∧ ∃ cs, w.heap[b]? = some (.cells cs T (0, 0))) := by
 obtain ⟨L, h1, h2, ⟨h3, h5⟩, h4⟩ := h
 obtain ⟨p, c, rfl, hnew⟩ := zaf h3
 have htag := zdy h3
 refine ⟨p, c, rfl, ⟨fun i hi => ?_, hn, fun e => ?_, ?_⟩, fun b off sp e => ?_⟩
 ·obtain ⟨l, hl⟩ : ∃ l, L[i]? = some l := ⟨L[i]'(by omega), List.getElem?_eq_getElem _⟩
  rcases h3.2 with ⟨-, h0⟩ | ⟨g, cap', cur, hv, hb, hg, hnc, hm, hs, ht⟩
  ·omega
  ·have e0 : p = some ⟨g, 0, none⟩ := by injection hv
   subst e0
   have hls := h2 l (List.mem_of_getElem? hl)
   refine ⟨g, 0, l, rfl, (Array.getElem?_eq_some_iff.1 hg).1, hls, fun k u hk => ?_, h4 i l hl⟩
   have hk' : k < s := by have := (List.getElem?_eq_some_iff.1 hk).1; omega
   have hf := zcg L i k l h2 hl hk'
   rw [hk, ← ht, List.getElem?_take] at hf
   split at hf
   ·rw [Nat.zero_add, cell_of_row w g _ cur T (0, 0) hg]; simpa using hf
   ·cases hf
 ·subst e
  rcases h3.2 with ⟨hv, h0⟩ | ⟨g, cap', cur, hv, -⟩
  ·injection hv with _ _ e; exact ⟨h0, e⟩
  ·injection hv with e; cases e
 ·rcases h3.2 with ⟨hv, h0⟩ | ⟨g, cap', cur, hv, -, -, h1, h2, -⟩
  ·injection hv with _ _ e; rw [h0, e]; exact ⟨Nat.le_refl _, by decide⟩
  ·injection hv with _ _ e; subst e; exact ⟨h1, h2⟩
 ·obtain ⟨cs, hc⟩ := htag b off sp e
  exact ⟨(Array.getElem?_eq_some_iff.1 hc).1, hnew b off sp e, cs, hc⟩
theorem GrowR.more {L : List (List Value)} {ys : List Value} {v' : Value} (hl : L.length = n) (hL : ∀ l ∈ L, l.length = s) (hy : ys.length = s) (ho : w'.ownsRow N T s v' (n + 1) (L.flatten ++ ys)) (h4 : ∀ k l, L[k]? = some l → C w' (z k) l) (h5 : C w' (z n) ys) : GrowR N T s C (n + 1) z v' w' := by
 refine ⟨L ++ [ys], by simp [hl], fun l h => ?_, ⟨by simpa using ho, fun e => by omega⟩, fun k l hk => ?_⟩
 ·rcases List.mem_append.1 h with h | h
  ·exact hL l h
  ·rw [List.mem_singleton.1 h]; exact hy
 ·by_cases e : k < n
  ·rw [List.getElem?_append_left (by omega)] at hk
   exact h4 k l hk
  ·rw [List.getElem?_append_right (by omega)] at hk
   have : k = n := by
    have := (List.getElem?_eq_some_iff.1 hk).1
    simp at this
    omega
   subst this
   rw [hl, Nat.sub_self] at hk
   simp at hk
   subst hk
   exact h5
end
section
variable {N k n s m : Nat} {T T' : TypeId} {ys xs : List Value} {v v0 : Value} {w w' : World}
theorem InPl.others (h : InPl N T s n k ys v w w') {b : Nat} {cs : Array Value} (hT : ¬ T' = T) (hb : w.heap[b]? = some (.cells cs T' (0, 0))) : w'.heap[b]? = w.heap[b]? := by
 obtain ⟨g, cap, cur, -, -, hg, -, -, -, rfl⟩ := h
 refine zah ?_ _ _ _
 rintro rfl
 have := hb.symm.trans hg
 injection this with this
 injection this with _ this
 exact hT this
theorem InPl.under (h : InPl N T s n k ys v w w') {b : Nat} (hb : b < N) : w'.heap[b]? = w.heap[b]? := h.lower.block b hb
theorem zl1 (h0 : NilB m T' v0 w) (h : InPl N T s n k ys v w w') (hT : ¬ T' = T) : NilB m T' v0 w' := by
 obtain ⟨g, e, hn, hb⟩ := h0
 exact ⟨g, e, hn, (h.others hT hb).trans hb⟩
theorem zmh {M s' : Nat} (h0 : w.ownsRow M T' s' v0 m xs) (h : InPl N T s n k ys v w w') (hT : ¬ T' = T) : w'.ownsRow M T' s' v0 m xs := by
 obtain ⟨hl, h1 | ⟨b, cap, cur, hvv, hb, hh, r⟩⟩ := h0
 ·exact ⟨hl, .inl h1⟩
 ·exact ⟨hl, .inr ⟨b, cap, cur, hvv, hb, (h.others hT hh).trans hh, r⟩⟩
theorem zcr {M s' : Nat} (h0 : CopyB M T' s' m xs v0 w) (h : InPl N T s n k ys v w w') (hT : ¬ T' = T) : CopyB M T' s' m xs v0 w' := ⟨zmh h0.1 h hT, h0.2⟩
theorem InPl.rowE {M : Nat} (h : InPl N T s n k ys v w w') (hT : ¬ T' = T) (hM : M ≤ N) (hr : RowE M T' m p w) : RowE M T' m p w' ∧ (0 < m → ∀ b off sp, p = some ⟨b, off, sp⟩ → w'.heap[b]? = w.heap[b]?) := by
 have key : 0 < m → ∀ b off sp, p = some ⟨b, off, sp⟩ → w'.heap[b]? = w.heap[b]? := fun h0 b off sp e => by
  obtain ⟨hl, h1 | ⟨cs, h1⟩⟩ := hr h0 b off sp e
  ·exact h.under (by omega)
  ·exact h.others hT h1
 refine ⟨fun h0 b off sp e => ?_, key⟩
 obtain ⟨hl, h1⟩ := hr h0 b off sp e
 refine ⟨by rw [h.size]; exact hl, ?_⟩
 rcases h1 with h1 | ⟨cs, h1⟩
 ·exact .inl h1
 ·exact .inr ⟨cs, (key h0 b off sp e).trans h1⟩
end
def PutG (N : Nat) (r : Int) (n : Nat) (z : Nat → Int) (v : Value) (w : World) : Prop := ∃ p c, v = .agg #[.int .i64 r, .slice p n c] ∧ CopyB N 3 1 n (vals .i64 n z) (.slice p n c) w
def OneG (N : Nat) (r : Int) (n : Nat) (z : Nat → Int) (v : Value) (w : World) : Prop := ∃ p c, OneB N 31 [.int .i64 r, .slice p n c] v w ∧ CopyB N 3 1 n (vals .i64 n z) (.slice p n c) w
theorem PutG.below {N : Nat} {r : Int} {z : Nat → Int} (h : PutG N r n z v w) (hb : Below w.heap.size w w') : PutG N r n z v w' := by
 obtain ⟨p, c, e, h⟩ := h
 exact ⟨p, c, e, h.below hb⟩
theorem OneG.below {N : Nat} {r : Int} {z : Nat → Int} (h : OneG N r n z v w) (hb : Below w.heap.size w w') : OneG N r n z v w' := by
 obtain ⟨p, c, h1, h2⟩ := h
 exact ⟨p, c, h1.below hb, h2.below hb⟩
theorem zul {N n : Nat} {z : Nat → Int} (h : CopyB N 3 1 n (vals .i64 n z) v w) : ∃ p c, v = .slice p n c := by
 obtain ⟨p, c, e, -⟩ := zaf h.1
 exact ⟨p, c, e⟩
theorem zdb {kk : IntKind} {z : Nat → Int} (h : Ints kk w p n z) : ∀ ad, p = some ad → ∀ j u, (vals kk n z)[j]? = some u → w.cell? (ad.add j) = some u := fun ad e j u hj => by
 have hjn : j < n := by
  have := (List.getElem?_eq_some_iff.1 hj).1
  rwa [zae] at this
 obtain ⟨ad', e', hc⟩ := h.cells (by omega)
 rw [e] at e'
 injection e' with e'
 subst e'
 exact hc j u hj
theorem zn5 {N M k : Nat} {T : TypeId} {m : Nat} {g : Gy} {L : List Value} {gg : Nat} (h : GrE N w g L) (hv : VarT T m gg w) (hT : ¬ 3 = T) (hg : N ≤ gg) (ys : List Value) (_ : M = k) : GrE N (putsL gg k ys w) g L := by
 obtain ⟨p, c, e, h, ht, hr⟩ := h
 exact ⟨p, c, e, zbv h ht hv hT hg ys, zba ht hv hT hg ys, hr⟩
theorem znk {N B n k s : Nat} {ys : List Value} {g : Gy} {L : List Value} (h : GrE N w g L) (hi : InPl B 31 s n k ys v w w') (hN : N ≤ B) : GrE N w' g L := by
 obtain ⟨p, c, e, h, ht, hr⟩ := h
 obtain ⟨h1, h2⟩ := hi.rowE (by decide) hN ht
 exact ⟨p, c, e, h.of_block (by rw [hi.size]; exact Nat.le_refl _) h2, h1, hr⟩
theorem zn9 {N B i : Nat} {z : Nat → Gy} {ys : List Value} (h : GrowR B 31 2 (GrE N) i z v w) (hi : InPl B 31 2 i 1 ys v w w') (hl : ys.length = 2) (hN : N ≤ B) : GrowR B 31 2 (GrE N) i z v w' := by
 obtain ⟨L, h1, h2, h3, h4⟩ := h
 exact ⟨L, h1, h2, h3.inPl hi (by omega), fun k l hk => znk (h4 k l hk) hi hN⟩
theorem zp0 {N B i k gg m : Nat} {T : TypeId} {z : Nat → Gy} (h : GrowR B 31 2 (GrE N) i z v w) (hv : VarT T m gg w) (hT : ¬ 3 = T) (hg : N ≤ gg) (hB : gg < B) (ys : List Value) : GrowR B 31 2 (GrE N) i z v (putsL gg k ys w) := by
 obtain ⟨L, h1, h2, ⟨h3, h5⟩, h4⟩ := h
 refine ⟨L, h1, h2, ⟨?_, h5⟩, fun k' l hk => zn5 (h4 k' l hk) hv hT hg ys rfl⟩
 exact h3.kept (row := some gg) ⟨(zao (Nat.le_refl gg) ys k w).os, (zao (Nat.le_refl gg) ys k w).tape, (zao (Nat.le_refl gg) ys k w).output, by rw [zbf]; exact Nat.le_refl _, fun j _ hj => zah (fun e => hj (by rw [e])) ys k w⟩ (.inr fun e => by have := (h3.lt _ e).1; omega)
theorem zho : (Tryz.prog.info? 31).map (fun i => (i.zero, i.size, i.bytes)) = some (some (.agg #[.int .i64 0, .slice none 0 0]), 2, 32) := by kernel_rfl
theorem zo0 {T : Nat → Prop} {a b c : World} (h : Aside T a b) (k : Below a.heap.size b c) : Aside T a c :=
 ⟨k.os.trans h.os, k.tape.trans h.tape, k.output.trans h.output, Nat.le_trans h.size k.size, fun i hi ht => (k.block i hi).trans (h.block i hi ht)⟩
theorem zbo {N : Nat} {E T : TypeId} {n m g : Nat} (h : RowE N E n p w) (hv : VarT T m g w) (hT : ¬ E = T) (hg : N ≤ g) (ha : Aside (fun k => k = g) w w') :
  RowE N E n p w' ∧ (0 < n → ∀ b off sp, p = some ⟨b, off, sp⟩ → w'.heap[b]? = w.heap[b]?) := by
 have key : 0 < n → ∀ b off sp, p = some ⟨b, off, sp⟩ → w'.heap[b]? = w.heap[b]? := fun h0 b off sp e => ha.block b (h h0 b off sp e).1 (h.ne hv hT hg h0 e)
 refine ⟨fun h0 b off sp e => ?_, key⟩
 obtain ⟨hl, h1⟩ := h h0 b off sp e
 refine ⟨Nat.lt_of_lt_of_le hl ha.size, ?_⟩
 rcases h1 with h1 | ⟨cs, h1⟩
 ·exact .inl h1
 ·exact .inr ⟨cs, (key h0 b off sp e).trans h1⟩
def GrowRB (B N n : Nat) (z : Nat → Gy) (v : Value) (w : World) : Prop := GrowR B 31 2 (GrE N) n z v w
theorem GrowRB.below {B N n : Nat} {z : Nat → Gy} (h : GrowRB B N n z v w) (hb : Below w.heap.size w w') : GrowRB B N n z v w' := GrowR.below h zbr hb
theorem zt7 {B B' i s k : Nat} {r : Int} {z : Nat → Int} {ys : List Value} {v v0 : Value} (h : PutG B r n z v0 w) (hi : InPl B' 31 s i k ys v w w') : PutG B r n z v0 w' := by
 obtain ⟨p, c, e, h⟩ := h
 exact ⟨p, c, e, zcr h hi (by decide)⟩
theorem ztb {B i k : Nat} {r : Int} {z : Nat → Int} {ys : List Value} {v v0 : Value} (h : OneG B r n z v0 w) (hi : InPl B 31 2 i k ys v w w') : OneG B r n z v0 w' := by
 obtain ⟨p, c, h1, h2⟩ := h
 exact ⟨p, c, h1.inPl hi (by decide) rfl, zcr h2 hi (by decide)⟩
theorem zqz {B N : Nat} {g : Gy} {r : Int} {c : Nat} (hr : Hid (r = g.r)) (hn : Hid (n = g.n)) (h : CopyB B 3 1 n (vals .i64 n g.z) (.slice p n c) w) (hm : n ≤ maxLen) (hw : ∀ i, i < n → (Lit.int .i64 (g.z i)).wf = true) (h64 : In64 g.r) : GrE N w g [.int .i64 r, .slice p n c] := by
 have e1 := hr.out
 have e2 := hn.out
 subst e1 e2
 exact ⟨p, c, rfl, zed h.1 hm hw, zhq h.1, h64⟩
section
variable {N T k gg : Nat} {W : World} {m : Mk} {pg : Option Addr} {cg : Nat} {pb : Option Addr} {cb : Nat} {pr : Option Addr} {cr : Nat}
theorem zlb {g : Gy} {L : List Value} (h : GrE N W g L) (hv : VarT T k gg W) (hT : ¬ 3 = T) (hg : N ≤ gg) (ha : Aside (fun k => k = gg) W W') : GrE N W' g L := by
 obtain ⟨p, c, e, h, ht, hr⟩ := h
 obtain ⟨h1, h2⟩ := zbo ht hv hT hg ha
 exact ⟨p, c, e, h.of_block ha.size h2, h1, hr⟩
theorem MAtE.aside (h : MAtE N W m pg cg pb cb pr cr) (hv : VarT T k gg W) (hT : ¬ 3 = T) (hT2 : ¬ 31 = T) (hT3 : ¬ 70 = T) (hg : N ≤ gg) (ha : Aside (fun k => k = gg) W W') : MAtE N W' m pg cg pb cb pr cr := by
 obtain ⟨g1, g2⟩ := zbo h.ge hv hT hg ha
 obtain ⟨b1, b2⟩ := zbo h.be hv hT2 hg ha
 obtain ⟨r1, r2⟩ := zbo h.re hv hT3 hg ha
 refine ⟨h.g.of_block ha.size g2, g1, ⟨fun j hj => ?_, h.b.nle, h.b.pnil, h.b.ncap⟩, b1, h.r.of_block ha.size r2, r1⟩
 obtain ⟨bb, off, L, e, hl, hL, hc, hx⟩ := h.b.row j hj
 exact ⟨bb, off, L, e, Nat.lt_of_lt_of_le hl ha.size, hL, fun t u ht => by rw [World.cell?_of_block (w := W) (a := ⟨bb, _, none⟩) (b2 (by omega) bb off none e)]; exact hc t u ht, zlb hx hv hT hg ha⟩
end
end Go.Proofs.YtkehankfnkjnlaaGreatDoor
