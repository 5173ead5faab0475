/- Contract of the reference's Take (chapter 11). -/
import Derived.Test.YtjoepiopigmmnaaDoorTakeFn
import Derived.Test.YtjoepiopigmmnaaDoorRowOne
namespace Go.Proofs.YtjoepiopigmmnaaDoor
set_option linter.unusedSimpArgs false
set_option linter.unusedVariables false
open Go.ChangeShapes Go.WideShapes Go.ChangeAt Go.RowKit Go.Joins

theorem takeP_no {h : Hp} {n : Nat} {y : Nat → Int} {m : Nat} {f : Int} (e : takeP h n y m f = none) : takeH h n y m f = h ∧ takeA h n y m f = 0 ∧ takeY h n y m f = y := by
  unfold takeH takeA takeY; rw [e]; exact ⟨rfl, rfl, rfl⟩
theorem takeP_yes {h : Hp} {n : Nat} {y : Nat → Int} {m p : Nat} {f : Int} (e : takeP h n y m f = some p) : takeH h n y m f = laH (opH h p (ofC f)) p f ∧ takeA h n y m f = laA (opH h p (ofC f)) p f ∧ takeY h n y m f = fun j => if j = m * 4 + (ofC f).toNat then (p : Int) else y j := by
  unfold takeH takeA takeY; rw [e]; exact ⟨rfl, rfl, rfl⟩
/-- What Take answers. -/
structure TookAt (w w' : World) (h : Hp) (n : Nat) (y : Nat → Int) (m : Nat) (f : Int) (p : Option Addr) (c : Nat) (q : Option Addr) (d : Nat) (pc : Option Addr) (cc : Nat) (p' : Option Addr) (c' : Nat) (q' : Option Addr) (d' : Nat) (pc' : Option Addr) (cc' : Nat) : Prop where
  heap : HpAt w' p' c' q' d' (takeH h n y m f)
  caches : Ints .i64 w' pc' (n * 4) (takeY h n y m f)
  cnil : pc' = none → n = 0 ∧ cc' = 0
  src : Src w.heap.size (takeP h n y m f).isSome h.n h.m p c q d p' c' q' d'
  new : (takeP h n y m f).isSome = true → NewV w.heap.size (.slice pc' n cc')
  old : (takeP h n y m f).isSome = false → pc' = pc ∧ cc' = cc
  below : Below w.heap.size w w'
theorem Box4.set {b : Nat} {x0 x1 x2 x3 : Value} {W : World} (h : Box4 b x0 x1 x2 x3 W) {k : Nat} (hk : k < 4) (u : Value) : Box4 b (if k = 0 then u else x0) (if k = 1 then u else x1) (if k = 2 then u else x2) (if k = 3 then u else x3) (W.setCell ⟨b, k, none⟩ u) := by
  obtain ⟨h0, h1, h2, h3, h4, h5, h6, h7, h8⟩ := h
  have : k = 0 ∨ k = 1 ∨ k = 2 ∨ k = 3 := by omega
  rcases this with rfl | rfl | rfl | rfl <;> refine ⟨by simpa [World.setCell] using h0, ?_, ?_, ?_, ?_, ?_, ?_, ?_, ?_⟩ <;> simp [go_sem, *]
theorem Box4.at {b : Nat} {x0 x1 x2 x3 : Value} {W : World} (h : Box4 b x0 x1 x2 x3 W) {k : Nat} (hk : k < 4) : (∃ u, W.cell? ⟨b, k, none⟩ = some u) ∧ W.frozen? ⟨b, k, none⟩ = false := by
  have : k = 0 ∨ k = 1 ∨ k = 2 ∨ k = 3 := by omega
  rcases this with rfl | rfl | rfl | rfl
  · exact ⟨⟨_, h.c0⟩, h.f0⟩
  · exact ⟨⟨_, h.c1⟩, h.f1⟩
  · exact ⟨⟨_, h.c2⟩, h.f2⟩
  · exact ⟨⟨_, h.c3⟩, h.f3⟩
theorem vals_four (i : Nat) (Y : Nat → Int) : vals .i64 (i * 4) Y ++ [.int .i64 (Y (i * 4)), .int .i64 (Y (i * 4 + 1)), .int .i64 (Y (i * 4 + 2)), .int .i64 (Y (i * 4 + 3))] = vals .i64 ((i + 1) * 4) Y := by
  rw [show (i + 1) * 4 = i * 4 + 1 + 1 + 1 + 1 by omega]
  simp [vals, List.range_succ]
theorem owned_four {w : World} {base : Nat} {e : TypeId} {k : IntKind} {p : Option Addr} {n cap : Nat} {z : Nat → Int} (h : w.ownsRow base e 4 (.slice p n cap) n (vals k (n * 4) z)) (hw : ∀ i, i < n * 4 → (Lit.int k (z i)).wf = true) : Ints k w p (n * 4) z ∧ (p = none → n = 0 ∧ cap = 0) := by
  rcases h.2 with ⟨hv, h0⟩ | ⟨g, cap', cur, hv, hb, hg, hn, hm, hs, ht⟩
  · injection hv with e1 e2 e3
    exact ⟨fun i hi => by omega, fun _ => ⟨h0, e3⟩⟩
  · have e0 : p = some ⟨g, 0, none⟩ := by injection hv
    subst e0
    refine ⟨fun i hi => ⟨⟨g, 0, rfl, ?_, ?_⟩, hw i hi⟩, fun e => by cases e⟩
    · rcases Nat.lt_or_ge g w.heap.size with h' | h'
      · exact h'
      · rw [Array.getElem?_eq_none h'] at hg; cases hg
    · rw [Nat.zero_add, cell_of_row w g i cur e (0, 0) hg]
      have := vals_get k z hi
      rw [← ht, List.getElem?_take, if_pos (by omega)] at this
      simpa using this
theorem four_info : (Tryd.prog.info? 50).map (fun i => (i.zero, i.size, i.bytes)) = some (some (.agg #[.int .i64 0, .int .i64 0, .int .i64 0, .int .i64 0]), 4, 32) := by kernel_rfl
theorem four_new (w : World) (a b c d : Value) (t : TypeId) : ∀ j u, [a, b, c, d][j]? = some u → (w.alloc (.cells #[a, b, c, d] t)).cell? ((⟨w.heap.size, 0, none⟩ : Addr).add j) = some u := by
  intro j u hj
  match j, hj with
  | 0, hj => simp at hj; subst hj; simp [Addr.add]
  | 1, hj => simp at hj; subst hj; simp [Addr.add]
  | 2, hj => simp at hj; subst hj; simp [Addr.add]
  | 3, hj => simp at hj; subst hj; simp [Addr.add]
end Go.Proofs.YtjoepiopigmmnaaDoor
