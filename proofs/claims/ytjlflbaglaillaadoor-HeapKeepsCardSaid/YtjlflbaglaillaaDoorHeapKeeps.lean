/- HeapKeeps: of every heap that has its form, heap.Open, heap.Close, heap.Lay and heap.Free leave what they are handed as it was, and what they answer, where something was done, is other memory. No condition; the tables that the code reads are tied to the program's text. -/
import Derived.Test.YtjlflbaglaillaaDoorRows
import Derived.Test.YtjlflbaglaillaaDoorCards
import Derived.Test.YtjlflbaglaillaaDoorTie
import Derived.Test.YtjlflbaglaillaaDoorTiedBits
import Derived.Test.YtjlflbaglaillaaDoorAwake07
import Derived.Test.YtjlflbaglaillaaDoorOwnCopy
import Derived.SevenTiedAt
namespace Go.Proofs.YtjlflbaglaillaaDoor
set_option linter.unusedSimpArgs false
set_option linter.unusedVariables false
open Go.ChangeShapes Go.WideShapes Go.ChangeAt Go.RowKit Go.Joins

theorem Src.fresh {B : Nat} {n m : Nat} {p : Option Addr} {c : Nat} {q : Option Addr} {d : Nat} {p' : Option Addr} {c' : Nat} {q' : Option Addr} {d' : Nat} (s : Src B true n m p c q d p' c' q' d') {g : Nat} (hg : g < B) : Clear g p' q' := by
  obtain ⟨a, b⟩ := s.new rfl
  refine ⟨fun b' off sp e => ?_, fun b' off sp e => ?_⟩
  · have := a b' (by rw [e]; rfl); omega
  · have := b b' (by rw [e]; rfl); omega
set_option maxHeartbeats 32000000 in
set_option maxRecDepth 20000 in
theorem keeps_walk {p : Option Addr} {c : Nat} {q : Option Addr} {d : Nat} {h : Hp} (a b : Int) (w : World) (hat : HpAt w p c q d h) (hS : Sz w) (hT : Tab w) :
    Calls Tryd.prog 6 #[.agg #[.slice p h.n c, .slice q h.m d, .bool h.b], .int .i64 a, .int .i64 b] w fun e w' => e = .returned (.bool true) ∧ Below w.heap.size w w' := by
  have hL0 : formB h = true → Lower w.heap.size p q := hat.in.lower
  obtain ⟨w0, hw0⟩ : ∃ w0, w0 = w.alloc (.cells #[.slice p h.n c, .slice q h.m d, .bool h.b] 25) := ⟨_, rfl⟩
  have g3 : Box3 w.heap.size (.slice p h.n c) (.slice q h.m d) (.bool h.b) w0 := by rw [hw0]; exact Box3.new _ _ _ _ _
  have hB0 : Below w.heap.size w w0 := by rw [hw0]; exact (Below.refl _ _).alloc (Nat.le_refl _) _
  have hl0 : w.heap.size + 1 ≤ w0.heap.size := by rw [hw0]; simp
  have hh := hat.in.below hB0
  replace hS := hS.below hB0
  replace hT := hT.below hB0
  have k3 := g3
  obtain ⟨l3, x0, x1, x2, -, -, -⟩ := k3
  cases hF : formB h with
  | false =>
    go_enter Tryd.func6, Tryd.ntmps6
    go_upto_region 1 with fail
    rw [← hw0]
    clear hw0
    go_wp2_with (first
    | (go_at_call 9; refine Calls.mono (awake_any _ (hS.below (by go_grown)) (hT.below (by go_grown))) ?_; rintro e w' ⟨rfl, hb⟩; obtain ⟨hc, hf, hb, hz⟩ := bstep hb (w := w0) (by go_grown); try simp only [World.size_alloc, World.size_setCell, World.size_drew] at hc hf hz)
    | (go_at_call 14; refine Calls.mono (rform_in (hh.below (by go_grown))) ?_; rintro e w' ⟨rfl, hb⟩; obtain ⟨hc, hf, hb, hz⟩ := bstep hb (w := w0) (by go_grown); try simp only [World.size_alloc, World.size_setCell, World.size_drew] at hc hf hz)
    )
    go_returns
    exact ⟨rfl, bjoin hb hB0⟩
  | true =>
    have hL := hL0 hF
    have hF' : Hid (formB h = true) := hF
    have s0 := sameH_self h
    go_enter Tryd.func6, Tryd.ntmps6
    go_upto_region 1 with fail
    rw [← hw0]
    clear hw0
    go_upto_region 3 with (first
    | (go_at_call 9; refine Calls.mono (awake_any _ (hS.below (by go_grown)) (hT.below (by go_grown))) ?_; rintro e w' ⟨rfl, hb⟩; obtain ⟨hc, hf, hb, hz⟩ := bstep hb (w := w0) (by go_grown); try simp only [World.size_alloc, World.size_setCell, World.size_drew] at hc hf hz)
    | (go_at_call 14; refine Calls.mono (rform_in (hh.below (by go_grown))) ?_; rintro e w' ⟨rfl, hb⟩; obtain ⟨hc, hf, hb, hz⟩ := bstep hb (w := w0) (by go_grown); try simp only [World.size_alloc, World.size_setCell, World.size_drew] at hc hf hz)
    )
    have hbW := bjoin hb hB0
    replace hh := hh.below hb
    replace hS := hS.below hb
    replace hT := hT.below hb
    replace g3 := g3.below hb
    have hl3 : w0.heap.size ≤ w'.heap.size := hb.size
    clear hb hc hf hz x0 x1 x2 l3 hat hB0
    generalize w' = w3 at hbW hh hS hT g3 hl3 ⊢
    refine wp_own_copy (s := 32) (h' := 3) (d' := 7) (pos := "law.go:143") (by kernel_rfl) (by decide) (by decide) (by decide) (by simp) hF hh.at' g3 rfl ?_
    intro y0 y1 y2 y3 y4 y5 y6 y7 y8 y9 y10 B7 p' c' q' d' w4 hown g7 hl7 n1 n2 hb4
    simp only [puts, Act.put]
    have hx := hown.at.in
    obtain ⟨gw, rfl, hgw, hgw'⟩ := hown.word (by have := form_iff.1 hF; omega)
    obtain ⟨gs, rfl, hgs, hgs'⟩ := hown.span (by have := form_iff.1 hF; omega)
    have m1 : ¬ B7 = gw := fun e => n1 (by rw [e]; rfl)
    have m2 : ¬ B7 = gs := fun e => n2 (by rw [e]; rfl)
    clear n1 n2
    replace hh := hh.below hb4
    replace hS := hS.below hb4
    replace hT := hT.below hb4
    replace g3 := g3.below hb4
    replace hbW := bjoin hb4 hbW
    have hC0w := hL.clear (g := gw) (by omega)
    have hC0s := hL.clear (g := gs) (by omega)
    have hm16 : h.m ≤ 16 ∧ h.n ≤ 512 := by have := form_iff.1 hF; omega
    obtain ⟨hm16, hn512⟩ := hm16
    have hbl3 : w.heap.size < w3.heap.size := by omega
    clear hb4 hl0 hl3
    generalize w3.heap.size = base at *
    have k_ := g7
    obtain ⟨lg7_, x0, x1, x2, -, -, -⟩ := k_
    go_upto_region 5 with (first
    | (go_at_call 19; refine Calls.mono (hopen_in (hS.below (by go_grown)) (hT.below (by go_grown)) (hx.below (by go_grown)) hF'.out) ?_; rintro e w' ⟨p1, c1, q1, d1, rfl, hh1, hs1, hb⟩; obtain ⟨hc, hf, hb, hz⟩ := bstep hb (w := w4) (by go_grown); try simp only [World.size_alloc, World.size_setCell, World.size_drew] at hc hf hz)
    )
    obtain ⟨w5, hw_⟩ : ∃ W, W = w'.alloc (.cells #[.slice p1 h.n c1, .slice q1 h.m d1, .bool h.b] 25) := ⟨_, rfl⟩
    have hB_ : Below w'.heap.size w' w5 := by rw [hw_]; exact (Below.refl _ _).alloc (Nat.le_refl _) _
    have hl_ : w'.heap.size + 1 ≤ w5.heap.size := by rw [hw_]; simp
    have g8 : Box3 w'.heap.size (.slice p1 h.n c1) (.slice q1 h.m d1) (.bool h.b) w5 := by rw [hw_]; exact Box3.new _ _ _ _ _
    have hj_ := bjoin hB_ hb
    have hlA_ : w4.heap.size ≤ w'.heap.size := hb.size
    have cf1 : opB h a b = true → Clear gw p1 q1 ∧ Clear gs p1 q1 := fun e => by
      rw [e] at hs1
      exact ⟨hs1.fresh (by first | omega | (simp; omega)), hs1.fresh (by first | omega | (simp; omega))⟩
    replace hh1 := hh1.below hB_
    replace hown := hown.below hj_
    replace hx := hx.below hj_
    replace hh := hh.below hj_
    replace hS := hS.below hj_
    replace hT := hT.below hj_
    replace g3 := g3.below hj_
    replace g7 := g7.below hj_
    replace hbW := bjoin hj_ hbW
    rw [← hw_]
    clear hw_ hc hf hb hz hB_ hj_ hs1 lg7_ x0 x1 x2
    have hgw1 : gw < w'.heap.size := by omega
    have hgs1 : gs < w'.heap.size := by omega
    replace hgw' : gw < w5.heap.size := by omega
    replace hgs' : gs < w5.heap.size := by omega
    clear hl_ hlA_
    generalize w'.heap.size = B8 at *
    have k_ := g7
    obtain ⟨lg7_, x0, x1, x2, -, -, -⟩ := k_
    go_upto_region 6 with (first
    | (go_at_call 25; refine Calls.mono (hlay_in (hS.below (by go_grown)) (hT.below (by go_grown)) (hx.below (by go_grown)) hF'.out) ?_; rintro e w' ⟨p2, c2, q2, d2, rfl, hh2, hs2, hb⟩; obtain ⟨hc, hf, hb, hz⟩ := bstep hb (w := w5) (by go_grown); try simp only [World.size_alloc, World.size_setCell, World.size_drew] at hc hf hz)
    )
    obtain ⟨w6, hw_⟩ : ∃ W, W = w'.alloc (.cells #[.slice p2 h.n c2, .slice q2 h.m d2, .bool h.b] 25) := ⟨_, rfl⟩
    have hB_ : Below w'.heap.size w' w6 := by rw [hw_]; exact (Below.refl _ _).alloc (Nat.le_refl _) _
    have hl_ : w'.heap.size + 1 ≤ w6.heap.size := by rw [hw_]; simp
    have g10 : Box3 w'.heap.size (.slice p2 h.n c2) (.slice q2 h.m d2) (.bool h.b) w6 := by rw [hw_]; exact Box3.new _ _ _ _ _
    have hj_ := bjoin hB_ hb
    have hlA_ : w5.heap.size ≤ w'.heap.size := hb.size
    have cf2 : laB h a b = true → Clear gw p2 q2 ∧ Clear gs p2 q2 := fun e => by
      rw [e] at hs2
      exact ⟨hs2.fresh (by first | omega | (simp; omega)), hs2.fresh (by first | omega | (simp; omega))⟩
    replace hh2 := hh2.below hB_
    replace hown := hown.below hj_
    replace hx := hx.below hj_
    replace hh := hh.below hj_
    replace hS := hS.below hj_
    replace hT := hT.below hj_
    replace g3 := g3.below hj_
    replace g7 := g7.below hj_
    replace hh1 := hh1.below hj_
    replace g8 := g8.below hj_
    replace hbW := bjoin hj_ hbW
    rw [← hw_]
    clear hw_ hc hf hb hz hB_ hj_ hs2 lg7_ x0 x1 x2
    have hgw2 : gw < w'.heap.size := by omega
    have hgs2 : gs < w'.heap.size := by omega
    replace hgw' : gw < w6.heap.size := by omega
    replace hgs' : gs < w6.heap.size := by omega
    clear hl_ hlA_
    generalize w'.heap.size = B10 at *
    have k_ := g7
    obtain ⟨lg7_, x0, x1, x2, -, -, -⟩ := k_
    go_upto_region 7 with (first
    | (go_at_call 23; refine Calls.mono (hfree_in (hS.below (by go_grown)) (hT.below (by go_grown)) (hx.below (by go_grown)) hF'.out) ?_; rintro e w' ⟨p3, c3, q3, d3, rfl, hh3, hs3, hb⟩; obtain ⟨hc, hf, hb, hz⟩ := bstep hb (w := w6) (by go_grown); try simp only [World.size_alloc, World.size_setCell, World.size_drew] at hc hf hz)
    )
    obtain ⟨w7, hw_⟩ : ∃ W, W = w'.alloc (.cells #[.slice p3 h.n c3, .slice q3 h.m d3, .bool h.b] 25) := ⟨_, rfl⟩
    have hB_ : Below w'.heap.size w' w7 := by rw [hw_]; exact (Below.refl _ _).alloc (Nat.le_refl _) _
    have hl_ : w'.heap.size + 1 ≤ w7.heap.size := by rw [hw_]; simp
    have g13 : Box3 w'.heap.size (.slice p3 h.n c3) (.slice q3 h.m d3) (.bool h.b) w7 := by rw [hw_]; exact Box3.new _ _ _ _ _
    have hj_ := bjoin hB_ hb
    have hlA_ : w6.heap.size ≤ w'.heap.size := hb.size
    have cf3 : frB h a = true → Clear gw p3 q3 ∧ Clear gs p3 q3 := fun e => by
      rw [e] at hs3
      exact ⟨hs3.fresh (by first | omega | (simp; omega)), hs3.fresh (by first | omega | (simp; omega))⟩
    replace hh3 := hh3.below hB_
    replace hown := hown.below hj_
    replace hx := hx.below hj_
    replace hh := hh.below hj_
    replace hS := hS.below hj_
    replace hT := hT.below hj_
    replace g3 := g3.below hj_
    replace g7 := g7.below hj_
    replace hh1 := hh1.below hj_
    replace g8 := g8.below hj_
    replace hh2 := hh2.below hj_
    replace g10 := g10.below hj_
    replace hbW := bjoin hj_ hbW
    rw [← hw_]
    clear hw_ hc hf hb hz hB_ hj_ hs3 lg7_ x0 x1 x2
    have hgw3 : gw < w'.heap.size := by omega
    have hgs3 : gs < w'.heap.size := by omega
    replace hgw' : gw < w7.heap.size := by omega
    replace hgs' : gs < w7.heap.size := by omega
    clear hl_ hlA_
    generalize w'.heap.size = B13 at *
    have k_ := g7
    obtain ⟨lg7_, x0, x1, x2, -, -, -⟩ := k_
    have k_ := g3
    obtain ⟨lg3_, y0, y1, y2, -, -, -⟩ := k_
    go_upto_region 10 with (first
    | (go_at_call 21; refine Calls.mono (hclose_in (hS.below (by go_grown)) (hT.below (by go_grown)) (hx.below (by go_grown)) hF'.out) ?_; rintro e w' ⟨p9, c9, q9, d9, rfl, -, -, hb⟩; obtain ⟨hc, hf, hb, hz⟩ := bstep hb (w := w7) (by go_grown); try simp only [World.size_alloc, World.size_setCell, World.size_drew] at hc hf hz)
    | (go_at_call 11; refine Calls.mono (rsame_in (hx.below (by go_grown)) (hh.below (by go_grown))) ?_; rintro e w' ⟨rfl, hb⟩; obtain ⟨hc, hf, hb, hz⟩ := bstep hb (w := w7) (by go_grown); try simp only [World.size_alloc, World.size_setCell, World.size_drew] at hc hf hz)
    )
    replace hown := hown.below hb
    replace hx := hx.below hb
    replace hh := hh.below hb
    replace hS := hS.below hb
    replace hT := hT.below hb
    replace g3 := g3.below hb
    replace g7 := g7.below hb
    replace hh1 := hh1.below hb
    replace g8 := g8.below hb
    replace hh2 := hh2.below hb
    replace g10 := g10.below hb
    replace hh3 := hh3.below hb
    replace g13 := g13.below hb
    replace hbW := bjoin hb hbW
    clear hb hc hf hz lg7_ x0 x1 x2 lg3_ y0 y1 y2 hgw' hgs' hx
    generalize w' = w8 at hown hh hS hT g3 g7 hh1 g8 hh2 g10 hh3 g13 hbW ⊢
    have hS8 := hS
    have hT8 := hT
    clear hS hT
    have hown0 : ∃ z, HpOwn w8 base (some ⟨gw, 0, none⟩) c' (some ⟨gs, 0, none⟩) d' { h with z := z } := ⟨h.z, hown⟩
    clear hown
    go_wp2
    go_loopg [15] h.n (fun gg iv wr => ∃ i : Nat, i ≤ h.n ∧ gg = h.n - i ∧ iv = .int .i64 i ∧ (∃ z, HpOwn wr base (some ⟨gw, 0, none⟩) c' (some ⟨gs, 0, none⟩) d' { h with z := z }) ∧ Box3 w.heap.size (.slice p h.n c) (.slice q h.m d) (.bool h.b) wr ∧ Box3 B7 (.slice (some ⟨gw, 0, none⟩) h.n c') (.slice (some ⟨gs, 0, none⟩) h.m d') (.bool h.b) wr ∧ Box3 B8 (.slice p1 h.n c1) (.slice q1 h.m d1) (.bool h.b) wr ∧ Box3 B10 (.slice p2 h.n c2) (.slice q2 h.m d2) (.bool h.b) wr ∧ Box3 B13 (.slice p3 h.n c3) (.slice q3 h.m d3) (.bool h.b) wr ∧ HpIn wr p h.n c q h.m d h.b h ∧ (opB h a b = true → HpIn wr p1 h.n c1 q1 h.m d1 h.b (opH h a b)) ∧ (laB h a b = true → HpIn wr p2 h.n c2 q2 h.m d2 h.b (laH h a b)) ∧ (frB h a = true → HpIn wr p3 h.n c3 q3 h.m d3 h.b (frH h a)) ∧ Below w.heap.size w wr)
    case atStart => exact ⟨0, by omega, by omega, rfl, hown0, g3, g7, g8, g10, g13, hh, fun _ => hh1, fun _ => hh2, fun _ => hh3, hbW⟩
    case round =>
      clear hown0 g3 g7 g8 g10 g13 hh hh1 hh2 hh3 hbW
      obtain ⟨i, ih, rfl, rfl, ⟨z, hown⟩, g3, g7, g8, g10, g13, hh, hh1, hh2, hh3, hbW⟩ := hrel
      have k_ := g7
      obtain ⟨l7, x0, x1, x2, -, -, -⟩ := k_
      by_cases hi : i < h.n
      · obtain ⟨⟨u, u0⟩, u1, ho⟩ := hown.store (i := (i : Int)) (v := 77) (by omega) (show (i : Int) < h.n by omega) (by decide)
        rw [Int.toNat_natCast] at u0 u1 ho
        go_wp2
        go_roundg (h.n - (i + 1))
        case measure => omega
        case rel => exact ⟨i + 1, by omega, rfl, by go_num, ⟨_, ho⟩, g3.other (by omega) _ _, g7.other (by omega) _ _, g8.other (by omega) _ _, g10.other (by omega) _ _, g13.other (by omega) _ _, hh.setCell hC0w _ _, fun e => (hh1 e).setCell (cf1 e).1 _ _, fun e => (hh2 e).setCell (cf2 e).1 _ _, fun e => (hh3 e).setCell (cf3 e).1 _ _, hbW.setCell (by show w.heap.size ≤ gw; omega) _⟩
      · obtain rfl : i = h.n := by omega
        go_upto_region 14 with fail
        have hsp0 : ∃ xs, wr.ownsRow base 49 3 (.slice (some ⟨gs, 0, none⟩) h.m d') h.m xs := ⟨_, hown.spans⟩
        clear hown x0 x1 x2 l7 hi ih
        generalize wr = w9 at hsp0 g3 g7 g8 g10 g13 hh hh1 hh2 hh3 hbW ⊢
        go_wp2
        go_loopg [16] h.m (fun gg iv wr => ∃ i : Nat, i ≤ h.m ∧ gg = h.m - i ∧ iv = .int .i64 i ∧ (∃ xs, wr.ownsRow base 49 3 (.slice (some ⟨gs, 0, none⟩) h.m d') h.m xs) ∧ Box3 w.heap.size (.slice p h.n c) (.slice q h.m d) (.bool h.b) wr ∧ Box3 B7 (.slice (some ⟨gw, 0, none⟩) h.n c') (.slice (some ⟨gs, 0, none⟩) h.m d') (.bool h.b) wr ∧ Box3 B8 (.slice p1 h.n c1) (.slice q1 h.m d1) (.bool h.b) wr ∧ Box3 B10 (.slice p2 h.n c2) (.slice q2 h.m d2) (.bool h.b) wr ∧ Box3 B13 (.slice p3 h.n c3) (.slice q3 h.m d3) (.bool h.b) wr ∧ HpIn wr p h.n c q h.m d h.b h ∧ (opB h a b = true → HpIn wr p1 h.n c1 q1 h.m d1 h.b (opH h a b)) ∧ (laB h a b = true → HpIn wr p2 h.n c2 q2 h.m d2 h.b (laH h a b)) ∧ (frB h a = true → HpIn wr p3 h.n c3 q3 h.m d3 h.b (frH h a)) ∧ Below w.heap.size w wr)
        case atStart => exact ⟨0, by omega, by omega, rfl, hsp0, g3, g7, g8, g10, g13, hh, hh1, hh2, hh3, hbW⟩
        case round =>
          clear hsp0 g3 g7 g8 g10 g13 hh hh1 hh2 hh3 hbW
          obtain ⟨i, ih, rfl, rfl, ⟨xs, hsp⟩, g3, g7, g8, g10, g13, hh, hh1, hh2, hh3, hbW⟩ := hrel
          by_cases hi : i < h.m
          · have k_ := g7
            obtain ⟨l7, x0, x1, x2, -, -, -⟩ := k_
            have hxl : xs.length = h.m * 3 := hsp.1
            have cell : ∀ j, j < h.m * 3 → ∃ u, wr.cell? ⟨gs, j, none⟩ = some u := fun j hj => ⟨xs[j]'(by omega), by rw [hsp.cellAt j hj]; exact List.getElem?_eq_getElem _⟩
            obtain ⟨u0, v0⟩ := cell (i * 3) (by omega)
            obtain ⟨u1, v1⟩ := cell (i * 3 + 1) (by omega)
            obtain ⟨u2, v2⟩ := cell (i * 3 + 2) (by omega)
            have f0 := hsp.frozenAt (i * 3)
            have f1 := hsp.frozenAt (i * 3 + 1)
            have f2 := hsp.frozenAt (i * 3 + 2)
            have hs_ := (((hsp.stored (i * 3) (.int .i64 9)).1.stored (i * 3 + 1) (.int .i64 0)).1.stored (i * 3 + 2) (.int .u32 0)).1
            clear cell hxl
            go_wp2
            go_roundg (h.m - (i + 1))
            case measure => omega
            case rel => exact ⟨i + 1, by omega, rfl, by go_num, ⟨_, hs_⟩, ((g3.other (by omega) _ _).other (by omega) _ _).other (by omega) _ _, ((g7.other (by omega) _ _).other (by omega) _ _).other (by omega) _ _, ((g8.other (by omega) _ _).other (by omega) _ _).other (by omega) _ _, ((g10.other (by omega) _ _).other (by omega) _ _).other (by omega) _ _, ((g13.other (by omega) _ _).other (by omega) _ _).other (by omega) _ _,
              ((hh.setCell hC0s _ _).setCell hC0s _ _).setCell hC0s _ _, fun e => (((hh1 e).setCell (cf1 e).2 _ _).setCell (cf1 e).2 _ _).setCell (cf1 e).2 _ _, fun e => (((hh2 e).setCell (cf2 e).2 _ _).setCell (cf2 e).2 _ _).setCell (cf2 e).2 _ _, fun e => (((hh3 e).setCell (cf3 e).2 _ _).setCell (cf3 e).2 _ _).setCell (cf3 e).2 _ _,
              ((hbW.setCell (show w.heap.size ≤ gs by omega) _).setCell (show w.heap.size ≤ gs by omega) _).setCell (show w.heap.size ≤ gs by omega) _⟩
          · obtain rfl : i = h.m := by omega
            have k_ := g7
            obtain ⟨l7, x0, x1, x2, -, -, -⟩ := k_
            go_upto_region 18 with fail
            clear hsp x0 x1 x2 l7 hi ih g7 hC0w hC0s cf1 cf2 cf3 m1 m2 hgw hgs hgw1 hgs1 hgw2 hgs2 hgw3 hgs3 hl7
            generalize wr = wA at g3 g8 g10 g13 hh hh1 hh2 hh3 hbW ⊢
            have k_ := g3
            obtain ⟨l3, x0, x1, x2, -, -, -⟩ := k_
            go_upto_region 19 with (first
    | (go_at_call 20; refine Calls.mono (ropen_in (hh.below (by go_grown)) hF'.out) ?_; rintro e w' ⟨p4, c4, q4, d4, rfl, hh4, -, hb⟩; obtain ⟨hc, hf, hb, hz⟩ := bstep hb (w := wA) (by go_grown); try simp only [World.size_alloc, World.size_setCell, World.size_drew] at hc hf hz)
            )
            obtain ⟨wB, hw_⟩ : ∃ W, W = w'.alloc (.cells #[.slice p4 h.n c4, .slice q4 h.m d4, .bool h.b] 25) := ⟨_, rfl⟩
            have hB_ : Below w'.heap.size w' wB := by rw [hw_]; exact (Below.refl _ _).alloc (Nat.le_refl _) _
            have g17 : Box3 w'.heap.size (.slice p4 h.n c4) (.slice q4 h.m d4) (.bool h.b) wB := by rw [hw_]; exact Box3.new _ _ _ _ _
            have hj_ := bjoin hB_ hb
            replace hh4 := hh4.below hB_
            replace g3 := g3.below hj_
            replace g8 := g8.below hj_
            replace g10 := g10.below hj_
            replace g13 := g13.below hj_
            replace hh := hh.below hj_
            replace hh1 := fun e => (hh1 e).below hj_
            replace hh2 := fun e => (hh2 e).below hj_
            replace hh3 := fun e => (hh3 e).below hj_
            replace hbW := bjoin hj_ hbW
            rw [← hw_]
            clear hw_ hc hf hb hz hB_ hj_ x0 x1 x2 l3
            generalize w'.heap.size = B17 at *
            have k_ := g3
            obtain ⟨l3, x0, x1, x2, -, -, -⟩ := k_
            go_upto_region 20 with (first
    | (go_at_call 26; refine Calls.mono (rlay_in (hh.below (by go_grown)) hF'.out) ?_; rintro e w' ⟨p5, c5, q5, d5, rfl, hh5, -, hb⟩; obtain ⟨hc, hf, hb, hz⟩ := bstep hb (w := wB) (by go_grown); try simp only [World.size_alloc, World.size_setCell, World.size_drew] at hc hf hz)
            )
            obtain ⟨wC, hw_⟩ : ∃ W, W = w'.alloc (.cells #[.slice p5 h.n c5, .slice q5 h.m d5, .bool h.b] 25) := ⟨_, rfl⟩
            have hB_ : Below w'.heap.size w' wC := by rw [hw_]; exact (Below.refl _ _).alloc (Nat.le_refl _) _
            have g19 : Box3 w'.heap.size (.slice p5 h.n c5) (.slice q5 h.m d5) (.bool h.b) wC := by rw [hw_]; exact Box3.new _ _ _ _ _
            have hj_ := bjoin hB_ hb
            replace hh5 := hh5.below hB_
            replace g3 := g3.below hj_
            replace g8 := g8.below hj_
            replace g10 := g10.below hj_
            replace g13 := g13.below hj_
            replace hh := hh.below hj_
            replace hh4 := hh4.below hj_
            replace g17 := g17.below hj_
            replace hh1 := fun e => (hh1 e).below hj_
            replace hh2 := fun e => (hh2 e).below hj_
            replace hh3 := fun e => (hh3 e).below hj_
            replace hbW := bjoin hj_ hbW
            rw [← hw_]
            clear hw_ hc hf hb hz hB_ hj_ x0 x1 x2 l3
            generalize w'.heap.size = B19 at *
            have k_ := g3
            obtain ⟨l3, x0, x1, x2, -, -, -⟩ := k_
            go_upto_region 21 with (first
    | (go_at_call 24; refine Calls.mono (rfree_in (hh.below (by go_grown)) hF'.out) ?_; rintro e w' ⟨p6, c6, q6, d6, rfl, hh6, -, hb⟩; obtain ⟨hc, hf, hb, hz⟩ := bstep hb (w := wC) (by go_grown); try simp only [World.size_alloc, World.size_setCell, World.size_drew] at hc hf hz)
            )
            obtain ⟨wD, hw_⟩ : ∃ W, W = w'.alloc (.cells #[.slice p6 h.n c6, .slice q6 h.m d6, .bool h.b] 25) := ⟨_, rfl⟩
            have hB_ : Below w'.heap.size w' wD := by rw [hw_]; exact (Below.refl _ _).alloc (Nat.le_refl _) _
            have g22 : Box3 w'.heap.size (.slice p6 h.n c6) (.slice q6 h.m d6) (.bool h.b) wD := by rw [hw_]; exact Box3.new _ _ _ _ _
            have hj_ := bjoin hB_ hb
            replace hh6 := hh6.below hB_
            replace g3 := g3.below hj_
            replace g8 := g8.below hj_
            replace g10 := g10.below hj_
            replace g13 := g13.below hj_
            replace hh := hh.below hj_
            replace hh4 := hh4.below hj_
            replace g17 := g17.below hj_
            replace hh5 := hh5.below hj_
            replace g19 := g19.below hj_
            replace hh1 := fun e => (hh1 e).below hj_
            replace hh2 := fun e => (hh2 e).below hj_
            replace hh3 := fun e => (hh3 e).below hj_
            replace hbW := bjoin hj_ hbW
            rw [← hw_]
            clear hw_ hc hf hb hz hB_ hj_ x0 x1 x2 l3
            generalize w'.heap.size = B22 at *
            obtain ⟨lg8_, x0, x1, x2, -, -, -⟩ := g8
            obtain ⟨lg10_, y0, y1, y2, -, -, -⟩ := g10
            obtain ⟨lg13_, z0, z1, z2, -, -, -⟩ := g13
            obtain ⟨lg17_, u0, u1, u2, -, -, -⟩ := g17
            obtain ⟨lg19_, v0, v1, v2, -, -, -⟩ := g19
            obtain ⟨lg22_, t0, t1, t2, -, -, -⟩ := g22
            have s1 := sameH_self (opH h a b)
            have s2 := sameH_self (laH h a b)
            have s3 := sameH_self (frH h a)
            clear s0 g3 hh
            cases ho : opB h a b
            all_goals
              cases hl : laB h a b
              all_goals
                cases hr : frB h a
                all_goals
                  try have h1 := hh1 ho
                  try have h2 := hh2 hl
                  try have h3 := hh3 hr
                  clear hh1 hh2 hh3
                  first
                  | (go_wp2_with (first
    | (go_at_call 11; refine Calls.mono (rsame_in (HpIn.below (by assumption) (by go_grown)) (HpIn.below (by assumption) (by go_grown))) ?_; rintro e w' ⟨rfl, hb⟩; obtain ⟨hc, hf, hb, hz⟩ := bstep hb (w := wD) (by go_grown); try simp only [World.size_alloc, World.size_setCell, World.size_drew] at hc hf hz)
                     )
                     go_returns
                     first | exact ⟨ret_bool (by simp), bjoin hb hbW⟩ | exact ⟨ret_bool (by simp), hbW⟩)

namespace HeapKeeps
/-- What the row lists. -/
def lists : List (String × DataW Unit) := [("flotsam/class.sizes", Rows.laid_flotsam_class_sizes), ("math/bits.deBruijn32tab", Rows.laid_math_bits_deBruijn32tab)]
set_option maxRecDepth 100000 in
theorem lifted (os : Os) (started : os.Started) (H : Type) (enc : TypeId × Value → H) :
    ReturnsInHanded {} Tryd.checked os 6 .any (fun w args => (Rows.heapKeepsSpec.pre enc Tryd.prog Tryd.f6 Rows.heapKeepsRow.domain false w args ∧ laidMetH Tryd.prog lists w) ∧ sizedMet enc Tryd.prog Tryd.f6 (OpenSpec.ofChange Rows.heapKeepsSpec) false w args) (Rows.heapKeepsSpec.post enc Tryd.prog Tryd.f6 false true false false) := by
  refine law_lifted_laid (C := Tryd.checked) seat_own started (by kernel_rfl) Tryd.func6 (by kernel_rfl) (of_decide_eq_true (by kernel_rfl)) rfl
    (fun ds hd => by have hd' : ds.length = 3 := hd; match ds, hd' with | [d0, d1, d2], _ => rfl) rfl Tryd.underlying4
    (ChangeSpec.witness_shaped (enc := enc) (C := Tryd.checked) (os := os) (X := fun w _ => laidMetH Tryd.prog lists w) false (World.laidAll Tryd.prog os lists) #[.agg #[.slice none 0 0, .slice none 0 0, .bool false], .int .i64 0, .int .i64 0] 8 (World.laidAll_os _ _ _)
      (World.shaped_of_ZipB (by kernel_rfl) (by kernel_rfl)) (by kernel_rfl) (by kernel_rfl) (by kernel_rfl)
      (by rw [MakeChecks.laidMetH_plain _ _ _ (by kernel_rfl)]; exact laidMet_laidAll _ (by kernel_rfl) (by kernel_rfl))) ?_
  intro W base args ds p hval hA hlt hL
  have hS : Sz W := sizes_of hL (by kernel_rfl) rfl
  have hT : Tab W := tab_of hL (by kernel_rfl) rfl
  rw [Tryd.params6] at hA hval
  obtain ⟨v0, v1, v2, d0, d1, d2, p0, p1, p2, rfl, rfl, rfl, h0, h1, h2⟩ := trodAll_three hA
  obtain ⟨x0, q0, c0, s0, e0, rfl, hh0⟩ := open_heap Tryd.underlying25 (by kernel_rfl) (by kernel_rfl) Tryd.underlying22 (by kernel_rfl) (by kernel_rfl) Tryd.underlying23 Tryd.underlying49 (by kernel_rfl) (by kernel_rfl) (by kernel_rfl) (by kernel_rfl) (by kernel_rfl) (by kernel_rfl) (hval 0 25 v0 rfl rfl) h0
  obtain ⟨a1, rfl, ha1⟩ := open_i64 Tryd.underlying3 (hval 1 3 v1 rfl rfl) h1
  obtain ⟨a2, rfl, ha2⟩ := open_i64 Tryd.underlying3 (hval 2 3 v2 rfl rfl) h2
  exact keeps_walk a1 a2 W hh0 hS hT

theorem row_holds : Rows.HeapKeepsSaid :=
  OpenClaim.holds_of_wide 6 Tryd.f6 rfl rfl rfl rfl rfl rfl rfl ⟨rfl, rfl, rfl, rfl, rfl⟩ rfl rfl rfl rfl rfl (by kernel_rfl) Tryd.func6 (by kernel_rfl)
    (of_decide_eq_true (by kernel_rfl)) (by unfold Func.isWrapper; first | (rw [if_pos (by decide +kernel)]; kernel_rfl) | (rw [if_neg (by decide +kernel)]; exact ⟨rfl, rfl⟩))
    (fun os started H enc _ => lifted os started H enc)
/-- The tied card. -/
theorem holds : Rows.HeapKeepsCardSaid :=
  Claim7.holds_tied_plain_at .later [] [.data, .data] true (true, "4319912ea4b27ca89517975b0d81ad0153941401844a695d32a61ba51c2bf89d") false row_holds (fun _ h => by cases h) (by kernel_rfl) (fun _ h => by cases h) heapKeeps_row_tie rfl ⟨rfl, rfl⟩ (by kernel_rfl) rfl
    (fun f fn hf hfn => by
      obtain rfl : f = 6 := Option.some.inj ((show Tryd.prog.funcNamed "flotsam/flotsamlaw07.HeapKeeps" = some 6 by kernel_rfl).symm.trans hf) |>.symm
      obtain rfl : fn = Tryd.f6 := (Option.some.inj (Tryd.func6.symm.trans hfn)).symm
      exact ⟨by kernel_rfl, fun j t ht => by
        rw [Tryd.params6] at ht
        have hm : t ∈ [25, 3, 3] := by simpa using Array.mem_of_getElem? ht
        have hall : ([25, 3, 3].all fun u => !Tryd.prog.wantsStandIn u) = true := by kernel_rfl
        exact (show Tryd.prog.wantsStandIn t = false by simpa using List.all_eq_true.1 hall t hm)⟩)
    (by kernel_rfl)
#print axioms holds
end HeapKeeps
end Go.Proofs.YtjlflbaglaillaaDoor
