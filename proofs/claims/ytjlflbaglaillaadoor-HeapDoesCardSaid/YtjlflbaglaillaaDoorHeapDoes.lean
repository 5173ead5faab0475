/- HeapDoes: for every heap that has its form and every two numbers, heap.Open, heap.Close, heap.Free and heap.Lay answer as the document says. No condition; the tables that the code reads are tied to the program's text. -/
import Derived.Test.YtjlflbaglaillaaDoorRows
import Derived.Test.YtjlflbaglaillaaDoorCards
import Derived.Test.YtjlflbaglaillaaDoorTie
import Derived.Test.YtjlflbaglaillaaDoorTiedBits
import Derived.Test.YtjlflbaglaillaaDoorAwake07
import Derived.SevenTiedAt
namespace Go.Proofs.YtjlflbaglaillaaDoor
set_option linter.unusedSimpArgs false
set_option linter.unusedVariables false
open Go.ChangeShapes Go.WideShapes Go.ChangeAt Go.RowKit Go.Joins

set_option maxHeartbeats 16000000 in
set_option maxRecDepth 20000 in
theorem does_walk {p : Option Addr} {n c : Nat} {q : Option Addr} {m d : Nat} {s : Bool} {h : Hp} (a b : Int) (w : World) (hh : HpIn w p n c q m d s h) (hS : Sz w) (hT : Tab w) :
    Calls Tryd.prog 4 #[.agg #[.slice p n c, .slice q m d, .bool s], .int .i64 a, .int .i64 b] w fun e w' => e = .returned (.bool true) ∧ Below w.heap.size w w' := by
  cases hF : formB h with
  | false =>
    go_enter Tryd.func4, Tryd.ntmps4
    go_wp2_with (first
    | (go_at_call 9; refine Calls.mono (awake_any _ (hS.below (by go_grown)) (hT.below (by go_grown))) ?_; rintro e w' ⟨rfl, hb⟩; obtain ⟨hc, hf, hb, hz⟩ := bstep hb (w := w) (by go_grown); try simp only [World.size_alloc, World.size_setCell, World.size_drew] at hc hf hz)
    | (go_at_call 14; refine Calls.mono (rform_in (hh.below (by go_grown))) ?_; rintro e w' ⟨rfl, hb⟩; obtain ⟨hc, hf, hb, hz⟩ := bstep hb (w := w) (by go_grown); try simp only [World.size_alloc, World.size_setCell, World.size_drew] at hc hf hz)
    )
    go_returns
    exact ⟨rfl, by go_grown⟩
  | true =>
    have hF' : Hid (formB h = true) := hF
    have hL := hh.lower hF
    have s1 := sameH_self (opH h a b)
    have s2 := sameH_self (loH h a)
    have s3 := sameH_self (frH h a)
    have s4 := sameH_self (laH h a b)
    obtain ⟨w0, hw0⟩ : ∃ w0, w0 = w.alloc (.cells #[.slice p n c, .slice q m d, .bool s] 25) := ⟨_, rfl⟩
    have g3 : Box3 w.heap.size (.slice p n c) (.slice q m d) (.bool s) w0 := by rw [hw0]; exact Box3.new _ _ _ _ _
    have hB0 : Below w.heap.size w w0 := by rw [hw0]; exact (Below.refl _ _).alloc (Nat.le_refl _) _
    have hl0 : w.heap.size + 1 ≤ w0.heap.size := by rw [hw0]; simp
    have hh0 := hh.below hB0
    replace hS := hS.below hB0
    replace hT := hT.below hB0
    have k3 := g3
    obtain ⟨l3, x0, x1, x2, -, -, -⟩ := k3
    go_enter Tryd.func4, Tryd.ntmps4
    go_upto_region 1 with fail
    rw [← hw0]
    clear hw0
    go_upto_region 4 with (first
    | (go_at_call 9; refine Calls.mono (awake_any _ (hS.below (by go_grown)) (hT.below (by go_grown))) ?_; rintro e w' ⟨rfl, hb⟩; obtain ⟨hc, hf, hb, hz⟩ := bstep hb (w := w0) (by go_grown); try simp only [World.size_alloc, World.size_setCell, World.size_drew] at hc hf hz)
    | (go_at_call 14; refine Calls.mono (rform_in (hh0.below (by go_grown))) ?_; rintro e w' ⟨rfl, hb⟩; obtain ⟨hc, hf, hb, hz⟩ := bstep hb (w := w0) (by go_grown); try simp only [World.size_alloc, World.size_setCell, World.size_drew] at hc hf hz)
    | (go_at_call 19; refine Calls.mono (hopen_in (hS.below (by go_grown)) (hT.below (by go_grown)) (hh0.below (by go_grown)) hF'.out) ?_; rintro e w' ⟨p1, c1, q1, d1, rfl, hh1, hs1, hb⟩; obtain ⟨hc, hf, hb, hz⟩ := bstep hb (w := w0) (by go_grown); try simp only [World.size_alloc, World.size_setCell, World.size_drew] at hc hf hz)
    )
    have hBl : w0.heap.size ≤ w'.heap.size := hb.size
    obtain ⟨w4, hw4⟩ : ∃ w4, w4 = w'.alloc (.cells #[.slice p1 n c1, .slice q1 m d1, .bool s] 25) := ⟨_, rfl⟩
    have hB4 : Below w'.heap.size w' w4 := by rw [hw4]; exact (Below.refl _ _).alloc (Nat.le_refl _) _
    have hl4 : w'.heap.size + 1 ≤ w4.heap.size := by rw [hw4]; simp
    have g7 : Box3 w'.heap.size (.slice p1 n c1) (.slice q1 m d1) (.bool s) w4 := by rw [hw4]; exact Box3.new _ _ _ _ _
    replace hh1 := hh1.below hB4
    have hb4 := bjoin hB4 hb
    replace g3 := g3.below hb4
    rw [← hw4]
    clear hw4 hc hf hb hz hB4 x0 x1 x2 l3
    generalize w'.heap.size = B7 at *
    have k3 := g3
    obtain ⟨l3, x0, x1, x2, -, -, -⟩ := k3
    go_upto_region 5 with (first
    | (go_at_call 20; refine Calls.mono (ropen_in (hh0.below (by go_grown)) hF'.out) ?_; rintro e w' ⟨p2, c2, q2, d2, rfl, hh2, -, hb⟩; obtain ⟨hc, hf, hb, hz⟩ := bstep hb (w := w4) (by go_grown); try simp only [World.size_alloc, World.size_setCell, World.size_drew] at hc hf hz)
    )
    obtain ⟨w5, hw5⟩ : ∃ w5, w5 = w'.alloc (.cells #[.slice p2 n c2, .slice q2 m d2, .bool s] 25) := ⟨_, rfl⟩
    have hBl9 : w4.heap.size ≤ w'.heap.size := hb.size
    have hB5 : Below w'.heap.size w' w5 := by rw [hw5]; exact (Below.refl _ _).alloc (Nat.le_refl _) _
    have hl5 : w'.heap.size + 1 ≤ w5.heap.size := by rw [hw5]; simp
    have g9 : Box3 w'.heap.size (.slice p2 n c2) (.slice q2 m d2) (.bool s) w5 := by rw [hw5]; exact Box3.new _ _ _ _ _
    have hB45 := bjoin hB5 hb
    replace hh2 := hh2.below hB5
    replace hh1 := hh1.below hB45
    replace g3 := g3.below hB45
    replace g7 := g7.below hB45
    have hb5 := bjoin hB45 hb4
    rw [← hw5]
    clear hw5 hc hf hb hz hB5 x0 x1 x2 l3 hb4 hB45
    generalize w'.heap.size = B9 at *
    have k7 := g7
    obtain ⟨l7, x0, x1, x2, -, -, -⟩ := k7
    have k9 := g9
    obtain ⟨l9, y0, y1, y2, -, -, -⟩ := k9
    go_upto_region 7 with (first
    | (go_at_call 11; refine Calls.mono (rsame_in (hh1.below (by go_grown)) (hh2.below (by go_grown))) ?_; rintro e w' ⟨rfl, hb⟩; obtain ⟨hc, hf, hb, hz⟩ := bstep hb (w := w5) (by go_grown); try simp only [World.size_alloc, World.size_setCell, World.size_drew] at hc hf hz)
    )
    have hb6 := bjoin hb hb5
    replace g3 := g3.below hb
    replace g7 := g7.below hb
    replace g9 := g9.below hb
    have hl6 : w5.heap.size ≤ w'.heap.size := hb.size
    have h79 : ¬ B7 = B9 := by omega
    have n79 : B7 < B9 := by omega
    clear x0 x1 x2 y0 y1 y2 l7 l9 hb hc hf hz hh1 hh2 hs1 hb5 s1
    generalize w' = w6 at *
    clear hl5 hl4
    have k3 := g3
    obtain ⟨l3, x0, x1, x2, -, -, -⟩ := k3
    have k7 := g7
    obtain ⟨l7, y0, y1, y2, e0, e1, e2⟩ := k7
    have k9 := g9
    obtain ⟨l9, z0, z1, z2, f0, f1, f2⟩ := k9
    have n7 : B7 < w6.heap.size := by omega
    have n9 : B9 < w6.heap.size := by omega
    go_upto_region 8 with (first
    | (go_at_call 21; refine Calls.mono (hclose_in (hS.below (by go_grown)) (hT.below (by go_grown)) (hh0.below (by go_grown)) hF'.out) ?_; rintro e w' ⟨p3, c3, q3, d3, rfl, hh3, hs3, hb⟩; obtain ⟨hc, hf, hb, hz⟩ := bstep hb (w := w6) (by go_grown); try simp only [World.size_alloc, World.size_setCell, World.size_drew] at hc hf hz)
    )
    have hl8 : w6.heap.size ≤ w'.heap.size := hb.size
    obtain ⟨w8, hw8⟩ : ∃ w8, w8 = ((w'.setCell ⟨B7, 0, none⟩ (.slice p3 n c3)).setCell ⟨B7, 1, none⟩ (.slice q3 m d3)).setCell ⟨B7, 2, none⟩ (.bool s) := ⟨_, rfl⟩
    have hC7 := hs3.clear hL (g := B7) (by omega) (by first | omega | (simp; omega))
    have hC9 := hs3.clear hL (g := B9) (by omega) (by first | omega | (simp; omega))
    replace hh3 := hh3.stores hC7 (.slice p3 n c3) (.slice q3 m d3) (.bool s)
    replace g3 := (g3.below hb).others (g := B7) (by omega) (.slice p3 n c3) (.slice q3 m d3) (.bool s)
    replace g7 := (g7.below hb).stores (.slice p3 n c3) (.slice q3 m d3) (.bool s)
    replace g9 := (g9.below hb).others h79 (.slice p3 n c3) (.slice q3 m d3) (.bool s)
    have hb8 := below_stores (bjoin hb hb6) (g := B7) (by omega) (.slice p3 n c3) (.slice q3 m d3) (.bool s)
    have hm8 : w8.heap.size = w'.heap.size := by rw [hw8]; simp
    rw [← hw8] at hh3 g3 g7 g9 hb8 ⊢
    clear hw8 hb hc hf hz x0 x1 x2 y0 y1 y2 z0 z1 z2 e0 e1 e2 f0 f1 f2 l3 l7 l9
    have k3 := g3
    obtain ⟨l3, x0, x1, x2, -, -, -⟩ := k3
    have k7 := g7
    obtain ⟨l7, y0, y1, y2, e0, e1, e2⟩ := k7
    have k9 := g9
    obtain ⟨l9, z0, z1, z2, f0, f1, f2⟩ := k9
    go_upto_region 9 with (first
    | (go_at_call 22; refine Calls.mono (rclose_in (hh0.below (by go_grown)) hF'.out) ?_; rintro e w' ⟨p4, c4, q4, d4, rfl, hh4, hs4, hb⟩; obtain ⟨hc, hf, hb, hz⟩ := bstep hb (w := w8) (by go_grown); try simp only [World.size_alloc, World.size_setCell, World.size_drew] at hc hf hz)
    )
    have hl9 : w8.heap.size ≤ w'.heap.size := hb.size
    obtain ⟨w9, hw9⟩ : ∃ w9, w9 = ((w'.setCell ⟨B9, 0, none⟩ (.slice p4 n c4)).setCell ⟨B9, 1, none⟩ (.slice q4 m d4)).setCell ⟨B9, 2, none⟩ (.bool s) := ⟨_, rfl⟩
    have hD9 := hs4.clear hL (g := B9) (by omega) (by first | omega | (simp; omega))
    replace hh4 := hh4.stores hD9 (.slice p4 n c4) (.slice q4 m d4) (.bool s)
    replace hh3 := (hh3.below hb).stores hC9 (.slice p4 n c4) (.slice q4 m d4) (.bool s)
    replace g3 := (g3.below hb).others (g := B9) (by omega) (.slice p4 n c4) (.slice q4 m d4) (.bool s)
    replace g7 := (g7.below hb).others (g := B9) (by omega) (.slice p4 n c4) (.slice q4 m d4) (.bool s)
    replace g9 := (g9.below hb).stores (.slice p4 n c4) (.slice q4 m d4) (.bool s)
    have hb9 := below_stores (bjoin hb hb8) (g := B9) (by omega) (.slice p4 n c4) (.slice q4 m d4) (.bool s)
    have hm9 : w9.heap.size = w'.heap.size := by rw [hw9]; simp
    rw [← hw9] at hh3 hh4 g3 g7 g9 hb9 ⊢
    clear hw9 hb hc hf hz x0 x1 x2 y0 y1 y2 z0 z1 z2 e0 e1 e2 f0 f1 f2 l3 l7 l9 hb8
    have k7 := g7
    obtain ⟨l7, y0, y1, y2, -, -, -⟩ := k7
    have k9 := g9
    obtain ⟨l9, z0, z1, z2, -, -, -⟩ := k9
    go_upto_region 11 with (first
    | (go_at_call 11; refine Calls.mono (rsame_in (hh3.below (by go_grown)) (hh4.below (by go_grown))) ?_; rintro e w' ⟨rfl, hb⟩; obtain ⟨hc, hf, hb, hz⟩ := bstep hb (w := w9) (by go_grown); try simp only [World.size_alloc, World.size_setCell, World.size_drew] at hc hf hz)
    )
    replace hb6 := bjoin hb hb9
    replace g3 := g3.below hb
    replace g7 := g7.below hb
    replace g9 := g9.below hb
    have hl10 : w9.heap.size ≤ w'.heap.size := hb.size
    clear y0 y1 y2 z0 z1 z2 l7 l9 hb hc hf hz hh3 hh4 hs3 hs4 hb9 hC7 hC9 hD9 s2
    have hl11 : w6.heap.size ≤ w'.heap.size := by omega
    clear hl8 hl9 hl10 hm8 hm9
    generalize w' = wA at *
    have n7 : B7 < wA.heap.size := by omega
    have n9 : B9 < wA.heap.size := by omega
    have k3 := g3
    obtain ⟨l3, x0, x1, x2, -, -, -⟩ := k3
    have k7 := g7
    obtain ⟨l7, y0, y1, y2, e0, e1, e2⟩ := k7
    have k9 := g9
    obtain ⟨l9, z0, z1, z2, f0, f1, f2⟩ := k9
    have n7 : B7 < wA.heap.size := by omega
    have n9 : B9 < wA.heap.size := by omega
    go_upto_region 12 with (first
    | (go_at_call 23; refine Calls.mono (hfree_in (hS.below (by go_grown)) (hT.below (by go_grown)) (hh0.below (by go_grown)) hF'.out) ?_; rintro e w' ⟨p3, c3, q3, d3, rfl, hh3, hs3, hb⟩; obtain ⟨hc, hf, hb, hz⟩ := bstep hb (w := wA) (by go_grown); try simp only [World.size_alloc, World.size_setCell, World.size_drew] at hc hf hz)
    )
    have hl8 : wA.heap.size ≤ w'.heap.size := hb.size
    obtain ⟨w8, hw8⟩ : ∃ w8, w8 = ((w'.setCell ⟨B7, 0, none⟩ (.slice p3 n c3)).setCell ⟨B7, 1, none⟩ (.slice q3 m d3)).setCell ⟨B7, 2, none⟩ (.bool s) := ⟨_, rfl⟩
    have hC7 := hs3.clear hL (g := B7) (by omega) (by first | omega | (simp; omega))
    have hC9 := hs3.clear hL (g := B9) (by omega) (by first | omega | (simp; omega))
    replace hh3 := hh3.stores hC7 (.slice p3 n c3) (.slice q3 m d3) (.bool s)
    replace g3 := (g3.below hb).others (g := B7) (by omega) (.slice p3 n c3) (.slice q3 m d3) (.bool s)
    replace g7 := (g7.below hb).stores (.slice p3 n c3) (.slice q3 m d3) (.bool s)
    replace g9 := (g9.below hb).others h79 (.slice p3 n c3) (.slice q3 m d3) (.bool s)
    have hb8 := below_stores (bjoin hb hb6) (g := B7) (by omega) (.slice p3 n c3) (.slice q3 m d3) (.bool s)
    have hm8 : w8.heap.size = w'.heap.size := by rw [hw8]; simp
    rw [← hw8] at hh3 g3 g7 g9 hb8 ⊢
    clear hw8 hb hc hf hz x0 x1 x2 y0 y1 y2 z0 z1 z2 e0 e1 e2 f0 f1 f2 l3 l7 l9
    have k3 := g3
    obtain ⟨l3, x0, x1, x2, -, -, -⟩ := k3
    have k7 := g7
    obtain ⟨l7, y0, y1, y2, e0, e1, e2⟩ := k7
    have k9 := g9
    obtain ⟨l9, z0, z1, z2, f0, f1, f2⟩ := k9
    go_upto_region 13 with (first
    | (go_at_call 24; refine Calls.mono (rfree_in (hh0.below (by go_grown)) hF'.out) ?_; rintro e w' ⟨p4, c4, q4, d4, rfl, hh4, hs4, hb⟩; obtain ⟨hc, hf, hb, hz⟩ := bstep hb (w := w8) (by go_grown); try simp only [World.size_alloc, World.size_setCell, World.size_drew] at hc hf hz)
    )
    have hl9 : w8.heap.size ≤ w'.heap.size := hb.size
    obtain ⟨w9, hw9⟩ : ∃ w9, w9 = ((w'.setCell ⟨B9, 0, none⟩ (.slice p4 n c4)).setCell ⟨B9, 1, none⟩ (.slice q4 m d4)).setCell ⟨B9, 2, none⟩ (.bool s) := ⟨_, rfl⟩
    have hD9 := hs4.clear hL (g := B9) (by omega) (by first | omega | (simp; omega))
    replace hh4 := hh4.stores hD9 (.slice p4 n c4) (.slice q4 m d4) (.bool s)
    replace hh3 := (hh3.below hb).stores hC9 (.slice p4 n c4) (.slice q4 m d4) (.bool s)
    replace g3 := (g3.below hb).others (g := B9) (by omega) (.slice p4 n c4) (.slice q4 m d4) (.bool s)
    replace g7 := (g7.below hb).others (g := B9) (by omega) (.slice p4 n c4) (.slice q4 m d4) (.bool s)
    replace g9 := (g9.below hb).stores (.slice p4 n c4) (.slice q4 m d4) (.bool s)
    have hb9 := below_stores (bjoin hb hb8) (g := B9) (by omega) (.slice p4 n c4) (.slice q4 m d4) (.bool s)
    have hm9 : w9.heap.size = w'.heap.size := by rw [hw9]; simp
    rw [← hw9] at hh3 hh4 g3 g7 g9 hb9 ⊢
    clear hw9 hb hc hf hz x0 x1 x2 y0 y1 y2 z0 z1 z2 e0 e1 e2 f0 f1 f2 l3 l7 l9 hb8
    have k7 := g7
    obtain ⟨l7, y0, y1, y2, -, -, -⟩ := k7
    have k9 := g9
    obtain ⟨l9, z0, z1, z2, -, -, -⟩ := k9
    go_upto_region 15 with (first
    | (go_at_call 11; refine Calls.mono (rsame_in (hh3.below (by go_grown)) (hh4.below (by go_grown))) ?_; rintro e w' ⟨rfl, hb⟩; obtain ⟨hc, hf, hb, hz⟩ := bstep hb (w := w9) (by go_grown); try simp only [World.size_alloc, World.size_setCell, World.size_drew] at hc hf hz)
    )
    replace hb6 := bjoin hb hb9
    replace g3 := g3.below hb
    replace g7 := g7.below hb
    replace g9 := g9.below hb
    have hl10 : w9.heap.size ≤ w'.heap.size := hb.size
    clear y0 y1 y2 z0 z1 z2 l7 l9 hb hc hf hz hh3 hh4 hs3 hs4 hb9 hC7 hC9 hD9 s3
    have hl11 : wA.heap.size ≤ w'.heap.size := by omega
    clear hl8 hl9 hl10 hm8 hm9
    generalize w' = wB at *
    have n7 : B7 < wB.heap.size := by omega
    have n9 : B9 < wB.heap.size := by omega
    have k3 := g3
    obtain ⟨l3, x0, x1, x2, -, -, -⟩ := k3
    go_upto_region 16 with (first
    | (go_at_call 25; refine Calls.mono (hlay_in (hS.below (by go_grown)) (hT.below (by go_grown)) (hh0.below (by go_grown)) hF'.out) ?_; rintro e w' ⟨p3, c3, q3, d3, rfl, hh3, -, hb⟩; obtain ⟨hc, hf, hb, hz⟩ := bstep hb (w := wB) (by go_grown); try simp only [World.size_alloc, World.size_setCell, World.size_drew] at hc hf hz)
    )
    obtain ⟨w8, hw8⟩ : ∃ w8, w8 = w'.alloc (.cells #[.slice p3 n c3, .slice q3 m d3, .bool s] 25) := ⟨_, rfl⟩
    have hB8 : Below w'.heap.size w' w8 := by rw [hw8]; exact (Below.refl _ _).alloc (Nat.le_refl _) _
    have g7 : Box3 w'.heap.size (.slice p3 n c3) (.slice q3 m d3) (.bool s) w8 := by rw [hw8]; exact Box3.new _ _ _ _ _
    replace hh3 := hh3.below hB8
    replace g3 := (g3.below hb).below hB8
    have hb8 := bjoin hB8 (bjoin hb hb6)
    rw [← hw8]
    clear hw8 hc hf hb hz hB8 x0 x1 x2 l3
    generalize w'.heap.size = B11 at *
    have k3 := g3
    obtain ⟨l3, x0, x1, x2, -, -, -⟩ := k3
    go_upto_region 17 with (first
    | (go_at_call 26; refine Calls.mono (rlay_in (hh0.below (by go_grown)) hF'.out) ?_; rintro e w' ⟨p4, c4, q4, d4, rfl, hh4, -, hb⟩; obtain ⟨hc, hf, hb, hz⟩ := bstep hb (w := w8) (by go_grown); try simp only [World.size_alloc, World.size_setCell, World.size_drew] at hc hf hz)
    )
    obtain ⟨w9, hw9⟩ : ∃ w9, w9 = w'.alloc (.cells #[.slice p4 n c4, .slice q4 m d4, .bool s] 25) := ⟨_, rfl⟩
    have hB9 : Below w'.heap.size w' w9 := by rw [hw9]; exact (Below.refl _ _).alloc (Nat.le_refl _) _
    have g9 : Box3 w'.heap.size (.slice p4 n c4) (.slice q4 m d4) (.bool s) w9 := by rw [hw9]; exact Box3.new _ _ _ _ _
    replace hh4 := hh4.below hB9
    replace hh3 := (hh3.below hb).below hB9
    replace g7 := (g7.below hb).below hB9
    have hb9 := bjoin hB9 (bjoin hb hb8)
    rw [← hw9]
    clear hw9 hc hf hb hz hB9 x0 x1 x2 l3 g3
    generalize w'.heap.size = B14 at *
    obtain ⟨l7, y0, y1, y2, -, -, -⟩ := g7
    obtain ⟨l9, z0, z1, z2, -, -, -⟩ := g9
    go_wp2_with (first
    | (go_at_call 11; refine Calls.mono (rsame_in (hh3.below (by go_grown)) (hh4.below (by go_grown))) ?_; rintro e w' ⟨rfl, hb⟩; obtain ⟨hc, hf, hb, hz⟩ := bstep hb (w := w9) (by go_grown); try simp only [World.size_alloc, World.size_setCell, World.size_drew] at hc hf hz)
    )
    go_returns
    exact ⟨ret_bool (by simp), bjoin (bjoin hb hb9) hB0⟩

namespace HeapDoes
/-- What the row lists. -/
def lists : List (String × DataW Unit) := [("flotsam/class.sizes", Rows.laid_flotsam_class_sizes), ("math/bits.deBruijn32tab", Rows.laid_math_bits_deBruijn32tab)]
set_option maxRecDepth 100000 in
theorem lifted (os : Os) (started : os.Started) (H : Type) (enc : TypeId × Value → H) :
    ReturnsInHanded {} Tryd.checked os 4 .any (fun w args => (Rows.heapDoesSpec.pre enc Tryd.prog Tryd.f4 Rows.heapDoesRow.domain false w args ∧ laidMetH Tryd.prog lists w) ∧ sizedMet enc Tryd.prog Tryd.f4 (OpenSpec.ofChange Rows.heapDoesSpec) false w args) (Rows.heapDoesSpec.post enc Tryd.prog Tryd.f4 false true false false) := by
  refine law_lifted_laid (C := Tryd.checked) seat_own started (by kernel_rfl) Tryd.func4 (by kernel_rfl) (of_decide_eq_true (by kernel_rfl)) rfl
    (fun ds hd => by have hd' : ds.length = 3 := hd; match ds, hd' with | [d0, d1, d2], _ => rfl) rfl Tryd.underlying4
    (ChangeSpec.witness_shaped (enc := enc) (C := Tryd.checked) (os := os) (X := fun w _ => laidMetH Tryd.prog lists w) false (World.laidAll Tryd.prog os lists) #[.agg #[.slice none 0 0, .slice none 0 0, .bool false], .int .i64 0, .int .i64 0] 8 (World.laidAll_os _ _ _)
      (World.shaped_of_ZipB (by kernel_rfl) (by kernel_rfl)) (by kernel_rfl) (by kernel_rfl) (by kernel_rfl)
      (by rw [MakeChecks.laidMetH_plain _ _ _ (by kernel_rfl)]; exact laidMet_laidAll _ (by kernel_rfl) (by kernel_rfl))) ?_
  intro W base args ds p hval hA hlt hL
  have hS : Sz W := sizes_of hL (by kernel_rfl) rfl
  have hT : Tab W := tab_of hL (by kernel_rfl) rfl
  rw [Tryd.params4] at hA hval
  obtain ⟨v0, v1, v2, d0, d1, d2, p0, p1, p2, rfl, rfl, rfl, h0, h1, h2⟩ := trodAll_three hA
  obtain ⟨x0, q0, c0, s0, e0, rfl, hh0⟩ := open_heap Tryd.underlying25 (by kernel_rfl) (by kernel_rfl) Tryd.underlying22 (by kernel_rfl) (by kernel_rfl) Tryd.underlying23 Tryd.underlying49 (by kernel_rfl) (by kernel_rfl) (by kernel_rfl) (by kernel_rfl) (by kernel_rfl) (by kernel_rfl) (hval 0 25 v0 rfl rfl) h0
  obtain ⟨a1, rfl, ha1⟩ := open_i64 Tryd.underlying3 (hval 1 3 v1 rfl rfl) h1
  obtain ⟨a2, rfl, ha2⟩ := open_i64 Tryd.underlying3 (hval 2 3 v2 rfl rfl) h2
  exact does_walk a1 a2 W hh0.in hS hT

theorem row_holds : Rows.HeapDoesSaid :=
  OpenClaim.holds_of_wide 4 Tryd.f4 rfl rfl rfl rfl rfl rfl rfl ⟨rfl, rfl, rfl, rfl, rfl⟩ rfl rfl rfl rfl rfl (by kernel_rfl) Tryd.func4 (by kernel_rfl)
    (of_decide_eq_true (by kernel_rfl)) (by unfold Func.isWrapper; first | (rw [if_pos (by decide +kernel)]; kernel_rfl) | (rw [if_neg (by decide +kernel)]; exact ⟨rfl, rfl⟩))
    (fun os started H enc _ => lifted os started H enc)
/-- The tied card. -/
theorem holds : Rows.HeapDoesCardSaid :=
  Claim7.holds_tied_plain_at .later [] [.data, .data] true (true, "4319912ea4b27ca89517975b0d81ad0153941401844a695d32a61ba51c2bf89d") false row_holds (fun _ h => by cases h) (by kernel_rfl) (fun _ h => by cases h) heapDoes_row_tie rfl ⟨rfl, rfl⟩ (by kernel_rfl) rfl
    (fun f fn hf hfn => by
      obtain rfl : f = 4 := Option.some.inj ((show Tryd.prog.funcNamed "flotsam/flotsamlaw07.HeapDoes" = some 4 by kernel_rfl).symm.trans hf) |>.symm
      obtain rfl : fn = Tryd.f4 := (Option.some.inj (Tryd.func4.symm.trans hfn)).symm
      exact ⟨by kernel_rfl, fun j t ht => by
        rw [Tryd.params4] at ht
        have hm : t ∈ [25, 3, 3] := by simpa using Array.mem_of_getElem? ht
        have hall : ([25, 3, 3].all fun u => !Tryd.prog.wantsStandIn u) = true := by kernel_rfl
        exact (show Tryd.prog.wantsStandIn t = false by simpa using List.all_eq_true.1 hall t hm)⟩)
    (by kernel_rfl)
#print axioms holds
end HeapDoes
end Go.Proofs.YtjlflbaglaillaaDoor
