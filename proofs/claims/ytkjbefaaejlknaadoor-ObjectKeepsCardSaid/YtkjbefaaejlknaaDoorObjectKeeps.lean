/- ObjectKeeps: of every heap that has its form, object.Set and object.Paint leave what they are handed as it was, and what they answer, where something was done, is other memory. No condition; the table that the code reads is tied to the program's text. -/
import Derived.Test.YtkjbefaaejlknaaDoorRows
import Derived.Test.YtkjbefaaejlknaaDoorCards
import Derived.Test.YtkjbefaaejlknaaDoorTie
import Derived.Test.YtkjbefaaejlknaaDoorAwake08
import Derived.SevenTiedAt
namespace Go.Proofs.YtkjbefaaejlknaaDoor
set_option linter.unusedSimpArgs false
set_option linter.unusedVariables false
open Go.ChangeShapes Go.WideShapes Go.ChangeAt Go.RowKit Go.Joins

theorem fresh_new {B : Nat} {n m : Nat} {p : Option Addr} {c : Nat} {q : Option Addr} {d : Nat} {p' : Option Addr} {c' : Nat} {q' : Option Addr} {d' : Nat} (s : Src B true n m p c q d p' c' q' d') {g : Nat} (hg : g < B) : Clear g p' q' := by
  obtain ⟨a, b⟩ := s.new rfl
  refine ⟨fun b' off sp e => ?_, fun b' off sp e => ?_⟩
  · have := a b' (by rw [e]; rfl); omega
  · have := b b' (by rw [e]; rfl); omega
set_option maxHeartbeats 32000000 in
set_option maxRecDepth 20000 in
theorem okeeps_walk {p : Option Addr} {c : Nat} {q : Option Addr} {d : Nat} {h : Hp} (a i k x : Int) (w : World) (hat : HpAt w p c q d h) (hS : Sz w) (hx : x ≤ 9223372036854775807) :
    Calls Tryd.prog 3 #[.agg #[.slice p h.n c, .slice q h.m d, .bool h.b], .int .i64 a, .int .i64 i, .agg #[.int .i64 k, .int .i64 x]] w fun e w' => e = .returned (.bool true) ∧ Below w.heap.size w w' := by
  have hL0 : formB h = true → Lower w.heap.size p q := hat.in.lower
  obtain ⟨w0, hw0, g3, lv, v0, v1, -, -, hB0⟩ := boxed_val (w := w) (v0 := .slice p h.n c) (v1 := .slice q h.m d) (v2 := .bool h.b) (u0 := .int .i64 k) (u1 := .int .i64 x) (t := 25) (t' := 27)
  have gV : Box2 (w.heap.size + 1) (.int .i64 k) (.int .i64 x) w0 := ⟨lv, v0, v1⟩
  have hl0 : w.heap.size + 2 ≤ w0.heap.size := lv
  have hh := hat.in.below hB0
  replace hS := hS.below hB0
  obtain ⟨l3, x0, x1, x2, -, -, -⟩ := id g3
  cases hF : formB h with
  | false =>
    go_enter Tryd.func3, Tryd.ntmps3
    go_upto_region 1 with fail
    rw [← hw0]
    clear hw0
    go_wp2_with (first
    | (go_at_call 5; refine Calls.mono (awake8_any _ (hS.below (by go_grown))) ?_; rintro e w' ⟨rfl, hb⟩; obtain ⟨hc, hf, hb, hz⟩ := bstep hb (w := w0) (by go_grown); try simp only [World.size_alloc, World.size_setCell, World.size_drew] at hc hf hz)
    | (go_at_call 6; refine Calls.mono (rform_in (hh.below (by go_grown))) ?_; rintro e w' ⟨rfl, hb⟩; obtain ⟨hc, hf, hb, hz⟩ := bstep hb (w := w0) (by go_grown); try simp only [World.size_alloc, World.size_setCell, World.size_drew] at hc hf hz)
    )
    go_returns
    exact ⟨rfl, bjoin hb hB0⟩
  | true =>
    have hL := hL0 hF
    have hF' : Hid (formB h = true) := hF
    have s0 := sameH_self h
    go_enter Tryd.func3, Tryd.ntmps3
    go_upto_region 1 with fail
    rw [← hw0]
    clear hw0
    go_upto_region 3 with (first
    | (go_at_call 5; refine Calls.mono (awake8_any _ (hS.below (by go_grown))) ?_; rintro e w' ⟨rfl, hb⟩; obtain ⟨hc, hf, hb, hz⟩ := bstep hb (w := w0) (by go_grown); try simp only [World.size_alloc, World.size_setCell, World.size_drew] at hc hf hz)
    | (go_at_call 6; refine Calls.mono (rform_in (hh.below (by go_grown))) ?_; rintro e w' ⟨rfl, hb⟩; obtain ⟨hc, hf, hb, hz⟩ := bstep hb (w := w0) (by go_grown); try simp only [World.size_alloc, World.size_setCell, World.size_drew] at hc hf hz)
    )
    have hbW := bjoin hb hB0
    replace hh := hh.below hb
    replace hS := hS.below hb
    replace g3 := g3.below hb
    replace gV := gV.below hb
    have hl3 : w0.heap.size ≤ w'.heap.size := hb.size
    clear hb hc hf hz x0 x1 x2 l3 hat hB0 lv v0 v1
    generalize w' = w3 at hbW hh hS g3 gV hl3 ⊢
    refine wp_own_copy (s := 28) (h' := 4) (d' := 9) (pos := "law.go:80") (by kernel_rfl) (by decide) (by decide) (by decide) (by simp) hF hh.at' g3 rfl ?_
    intro y0 y1 y2 y3 y4 y5 y6 y7 y8 y9 y10 B7 p' c' q' d' w4 hown g7 hl7 n1 n2 hb4
    simp only [puts, Act.put]
    have hxx := hown.at.in
    obtain ⟨gw, rfl, hgw, hgw'⟩ := hown.word (by have := form_iff.1 hF; omega)
    obtain ⟨gs, rfl, hgs, hgs'⟩ := hown.span (by have := form_iff.1 hF; omega)
    have m1 : ¬ B7 = gw := fun e => n1 (by rw [e]; rfl)
    have m2 : ¬ B7 = gs := fun e => n2 (by rw [e]; rfl)
    clear n1 n2
    replace hh := hh.below hb4
    replace hS := hS.below hb4
    replace g3 := g3.below hb4
    replace gV := gV.below hb4
    replace hbW := bjoin hb4 hbW
    have hC0w := hL.clear (g := gw) (by omega)
    have hC0s := hL.clear (g := gs) (by omega)
    have hm16 : h.m ≤ 16 ∧ h.n ≤ 512 := by have := form_iff.1 hF; omega
    obtain ⟨hm16, hn512⟩ := hm16
    have hbl3 : w.heap.size + 1 < w3.heap.size := by omega
    clear hb4 hl0 hl3 hF
    generalize w3.heap.size = base at *
    obtain ⟨lg7_, x0, x1, x2, -, -, -⟩ := id g7
    obtain ⟨lgV_, z0, z1⟩ := id gV
    go_upto_region 5 with (first
    | (go_at_call 7; refine Calls.mono (oset_in (hS.below (by go_grown)) (hxx.below (by go_grown)) hF'.out hx) ?_; rintro e w' ⟨p1, c1, q1, d1, rfl, hh1, hs1, hb⟩; obtain ⟨hc, hf, hb, hz⟩ := bstep hb (w := w4) (by go_grown); try simp only [World.size_alloc, World.size_setCell, World.size_drew] at hc hf hz)
    )
    obtain ⟨w5, hw_⟩ : ∃ W, W = w'.alloc (.cells #[.slice p1 h.n c1, .slice q1 h.m d1, .bool h.b] 25) := ⟨_, rfl⟩
    have hB_ : Below w'.heap.size w' w5 := by rw [hw_]; exact (Below.refl _ _).alloc (Nat.le_refl _) _
    have hl_ : w'.heap.size + 1 ≤ w5.heap.size := by rw [hw_]; simp
    have g8 : Box3 w'.heap.size (.slice p1 h.n c1) (.slice q1 h.m d1) (.bool h.b) w5 := by rw [hw_]; exact Box3.new _ _ _ _ _
    have hj_ := bjoin hB_ hb
    have hlA_ : w4.heap.size ≤ w'.heap.size := hb.size
    have cf1 : seE h a i k x = 0 → Clear gw p1 q1 ∧ Clear gs p1 q1 := fun e => by
      rw [show (seE h a i k x == 0) = true by simp [e]] at hs1
      exact ⟨fresh_new hs1 (by first | omega | (simp; omega)), fresh_new hs1 (by first | omega | (simp; omega))⟩
    replace hh1 := hh1.below hB_
    replace hown := hown.below hj_
    replace hxx := hxx.below hj_
    replace hh := hh.below hj_
    replace hS := hS.below hj_
    replace g3 := g3.below hj_
    replace gV := gV.below hj_
    replace g7 := g7.below hj_
    replace hbW := bjoin hj_ hbW
    rw [← hw_]
    clear hw_ hc hf hb hz hB_ hj_ hs1 lg7_ x0 x1 x2 lgV_ z0 z1
    have hgw1 : gw < w'.heap.size := by omega
    have hgs1 : gs < w'.heap.size := by omega
    replace hgw' : gw < w5.heap.size := by omega
    replace hgs' : gs < w5.heap.size := by omega
    clear hl_ hlA_
    generalize w'.heap.size = B8 at *
    obtain ⟨lg7_, x0, x1, x2, -, -, -⟩ := id g7
    go_upto_region 6 with (first
    | (go_at_call 8; refine Calls.mono (opaint_in (hS.below (by go_grown)) (hxx.below (by go_grown)) hF'.out) ?_; rintro e w' ⟨p2, c2, q2, d2, rfl, hh2, hs2, hb⟩; obtain ⟨hc, hf, hb, hz⟩ := bstep hb (w := w5) (by go_grown); try simp only [World.size_alloc, World.size_setCell, World.size_drew] at hc hf hz)
    )
    obtain ⟨w6, hw_⟩ : ∃ W, W = w'.alloc (.cells #[.slice p2 h.n c2, .slice q2 h.m d2, .bool h.b] 25) := ⟨_, rfl⟩
    have hB_ : Below w'.heap.size w' w6 := by rw [hw_]; exact (Below.refl _ _).alloc (Nat.le_refl _) _
    have hl_ : w'.heap.size + 1 ≤ w6.heap.size := by rw [hw_]; simp
    have g10 : Box3 w'.heap.size (.slice p2 h.n c2) (.slice q2 h.m d2) (.bool h.b) w6 := by rw [hw_]; exact Box3.new _ _ _ _ _
    have hj_ := bjoin hB_ hb
    have hlA_ : w5.heap.size ≤ w'.heap.size := hb.size
    have cf2 : obB h a = true → Clear gw p2 q2 ∧ Clear gs p2 q2 := fun e => by
      rw [e] at hs2
      exact ⟨fresh_new hs2 (by first | omega | (simp; omega)), fresh_new hs2 (by first | omega | (simp; omega))⟩
    replace hh2 := hh2.below hB_
    replace hown := hown.below hj_
    replace hxx := hxx.below hj_
    replace hh := hh.below hj_
    replace hS := hS.below hj_
    replace g3 := g3.below hj_
    replace gV := gV.below hj_
    replace g7 := g7.below hj_
    replace hh1 := hh1.below hj_
    replace g8 := g8.below hj_
    replace hbW := bjoin hj_ hbW
    rw [← hw_]
    clear hw_ hc hf hb hz hB_ hj_ hs2 lg7_ x0 x1 x2
    have hgw2 : gw < w'.heap.size := by omega
    have hgs2 : gs < w'.heap.size := by omega
    replace hgw' : gw < w6.heap.size := by omega
    replace hgs' : gs < w6.heap.size := by omega
    clear hl_ hlA_
    generalize w'.heap.size = B10 at *
    obtain ⟨lg7_, x0, x1, x2, -, -, -⟩ := id g7
    obtain ⟨lg3_, y0, y1, y2, -, -, -⟩ := id g3
    go_upto_region 8 with (first
    | (go_at_call 9; refine Calls.mono (rsame_in (hxx.below (by go_grown)) (hh.below (by go_grown))) ?_; rintro e w' ⟨rfl, hb⟩; obtain ⟨hc, hf, hb, hz⟩ := bstep hb (w := w6) (by go_grown); try simp only [World.size_alloc, World.size_setCell, World.size_drew] at hc hf hz)
    )
    replace hown := hown.below hb
    replace hh := hh.below hb
    replace g3 := g3.below hb
    replace gV := gV.below hb
    replace g7 := g7.below hb
    replace hh1 := hh1.below hb
    replace g8 := g8.below hb
    replace hh2 := hh2.below hb
    replace g10 := g10.below hb
    replace hbW := bjoin hb hbW
    clear hb hc hf hz lg7_ x0 x1 x2 lg3_ y0 y1 y2 hgw' hgs' hxx hS
    generalize w' = w8 at hown hh g3 gV g7 hh1 g8 hh2 g10 hbW ⊢
    have hown0 : ∃ z, HpOwn w8 base (some ⟨gw, 0, none⟩) c' (some ⟨gs, 0, none⟩) d' { h with z := z } := ⟨h.z, hown⟩
    clear hown
    go_wp2
    go_loopg [14] h.n (fun gg iv wr => ∃ j : Nat, j ≤ h.n ∧ gg = h.n - j ∧ iv = .int .i64 j ∧ (∃ z, HpOwn wr base (some ⟨gw, 0, none⟩) c' (some ⟨gs, 0, none⟩) d' { h with z := z }) ∧ Box3 w.heap.size (.slice p h.n c) (.slice q h.m d) (.bool h.b) wr ∧ Box2 (w.heap.size + 1) (.int .i64 k) (.int .i64 x) wr ∧ Box3 B7 (.slice (some ⟨gw, 0, none⟩) h.n c') (.slice (some ⟨gs, 0, none⟩) h.m d') (.bool h.b) wr ∧ Box3 B8 (.slice p1 h.n c1) (.slice q1 h.m d1) (.bool h.b) wr ∧ Box3 B10 (.slice p2 h.n c2) (.slice q2 h.m d2) (.bool h.b) wr ∧ HpIn wr p h.n c q h.m d h.b h ∧ (seE h a i k x = 0 → HpIn wr p1 h.n c1 q1 h.m d1 h.b (seH h a i k x)) ∧ (obB h a = true → HpIn wr p2 h.n c2 q2 h.m d2 h.b (paH h a)) ∧ Below w.heap.size w wr)
    case atStart => exact ⟨0, by omega, by omega, rfl, hown0, g3, gV, g7, g8, g10, hh, fun _ => hh1, fun _ => hh2, hbW⟩
    case round =>
      clear hown0 g3 gV g7 g8 g10 hh hh1 hh2 hbW
      obtain ⟨j, ih, rfl, rfl, ⟨z, hown⟩, g3, gV, g7, g8, g10, hh, hh1, hh2, hbW⟩ := hrel
      obtain ⟨l7, x0, x1, x2, -, -, -⟩ := id g7
      by_cases hi : j < h.n
      · obtain ⟨⟨u, u0⟩, u1, ho⟩ := hown.store (i := (j : Int)) (v := 3) (by omega) (show (j : Int) < h.n by omega) (by decide)
        rw [Int.toNat_natCast] at u0 u1 ho
        go_wp2
        go_roundg (h.n - (j + 1))
        case measure => omega
        case rel => exact ⟨j + 1, by omega, rfl, by go_num, ⟨_, ho⟩, g3.other (by omega) _ _, gV.other (by omega) _ _, g7.other (by omega) _ _, g8.other (by omega) _ _, g10.other (by omega) _ _, hh.setCell hC0w _ _, fun e => (hh1 e).setCell (cf1 e).1 _ _, fun e => (hh2 e).setCell (cf2 e).1 _ _, hbW.setCell (by show w.heap.size ≤ gw; omega) _⟩
      · obtain rfl : j = h.n := by omega
        go_upto_region 12 with fail
        have hsp0 : ∃ xs, wr.ownsRow base 39 3 (.slice (some ⟨gs, 0, none⟩) h.m d') h.m xs := ⟨_, hown.spans⟩
        clear hown x0 x1 x2 l7 hi ih
        generalize wr = w9 at hsp0 g3 gV g7 g8 g10 hh hh1 hh2 hbW ⊢
        go_wp2
        go_loopg [15] h.m (fun gg iv wr => ∃ j : Nat, j ≤ h.m ∧ gg = h.m - j ∧ iv = .int .i64 j ∧ (∃ xs, wr.ownsRow base 39 3 (.slice (some ⟨gs, 0, none⟩) h.m d') h.m xs) ∧ Box3 w.heap.size (.slice p h.n c) (.slice q h.m d) (.bool h.b) wr ∧ Box2 (w.heap.size + 1) (.int .i64 k) (.int .i64 x) wr ∧ Box3 B7 (.slice (some ⟨gw, 0, none⟩) h.n c') (.slice (some ⟨gs, 0, none⟩) h.m d') (.bool h.b) wr ∧ Box3 B8 (.slice p1 h.n c1) (.slice q1 h.m d1) (.bool h.b) wr ∧ Box3 B10 (.slice p2 h.n c2) (.slice q2 h.m d2) (.bool h.b) wr ∧ HpIn wr p h.n c q h.m d h.b h ∧ (seE h a i k x = 0 → HpIn wr p1 h.n c1 q1 h.m d1 h.b (seH h a i k x)) ∧ (obB h a = true → HpIn wr p2 h.n c2 q2 h.m d2 h.b (paH h a)) ∧ Below w.heap.size w wr)
        case atStart => exact ⟨0, by omega, by omega, rfl, hsp0, g3, gV, g7, g8, g10, hh, hh1, hh2, hbW⟩
        case round =>
          clear hsp0 g3 gV g7 g8 g10 hh hh1 hh2 hbW
          obtain ⟨j, ih, rfl, rfl, ⟨xs, hsp⟩, g3, gV, g7, g8, g10, hh, hh1, hh2, hbW⟩ := hrel
          by_cases hi : j < h.m
          · obtain ⟨l7, x0, x1, x2, -, -, -⟩ := id g7
            have hxl : xs.length = h.m * 3 := hsp.1
            have cell : ∀ t, t < h.m * 3 → ∃ u, wr.cell? ⟨gs, t, none⟩ = some u := fun t ht => ⟨xs[t]'(by omega), by rw [hsp.cellAt t ht]; exact List.getElem?_eq_getElem _⟩
            obtain ⟨u0, v0⟩ := cell (j * 3) (by omega)
            obtain ⟨u1, v1⟩ := cell (j * 3 + 1) (by omega)
            obtain ⟨u2, v2⟩ := cell (j * 3 + 2) (by omega)
            have f0 := hsp.frozenAt (j * 3)
            have f1 := hsp.frozenAt (j * 3 + 1)
            have f2 := hsp.frozenAt (j * 3 + 2)
            have hs_ := (((hsp.stored (j * 3) (.int .i64 0)).1.stored (j * 3 + 1) (.int .i64 0)).1.stored (j * 3 + 2) (.int .u32 0)).1
            clear cell hxl
            go_wp2
            go_roundg (h.m - (j + 1))
            case measure => omega
            case rel => exact ⟨j + 1, by omega, rfl, by go_num, ⟨_, hs_⟩, ((g3.other (by omega) _ _).other (by omega) _ _).other (by omega) _ _, ((gV.other (by omega) _ _).other (by omega) _ _).other (by omega) _ _, ((g7.other (by omega) _ _).other (by omega) _ _).other (by omega) _ _, ((g8.other (by omega) _ _).other (by omega) _ _).other (by omega) _ _, ((g10.other (by omega) _ _).other (by omega) _ _).other (by omega) _ _,
              ((hh.setCell hC0s _ _).setCell hC0s _ _).setCell hC0s _ _, fun e => (((hh1 e).setCell (cf1 e).2 _ _).setCell (cf1 e).2 _ _).setCell (cf1 e).2 _ _, fun e => (((hh2 e).setCell (cf2 e).2 _ _).setCell (cf2 e).2 _ _).setCell (cf2 e).2 _ _,
              ((hbW.setCell (show w.heap.size ≤ gs by omega) _).setCell (show w.heap.size ≤ gs by omega) _).setCell (show w.heap.size ≤ gs by omega) _⟩
          · obtain rfl : j = h.m := by omega
            obtain ⟨l7, x0, x1, x2, -, -, -⟩ := id g7
            go_upto_region 16 with fail
            clear hsp x0 x1 x2 l7 hi ih g7 hC0w hC0s cf1 cf2 m1 m2 hgw hgs hgw1 hgs1 hgw2 hgs2 hl7
            generalize wr = wA at g3 gV g8 g10 hh hh1 hh2 hbW ⊢
            obtain ⟨l3, x0, x1, x2, -, -, -⟩ := id g3
            obtain ⟨lgV_, z0, z1⟩ := id gV
            go_upto_region 17 with (first
    | (go_at_call 10; refine Calls.mono (rset8_in (hh.below (by go_grown)) hF'.out hx) ?_; rintro e w' ⟨p4, c4, q4, d4, rfl, hh4, -, hb⟩; obtain ⟨hc, hf, hb, hz⟩ := bstep hb (w := wA) (by go_grown); try simp only [World.size_alloc, World.size_setCell, World.size_drew] at hc hf hz)
            )
            obtain ⟨wB, hw_⟩ : ∃ W, W = w'.alloc (.cells #[.slice p4 h.n c4, .slice q4 h.m d4, .bool h.b] 25) := ⟨_, rfl⟩
            have hB_ : Below w'.heap.size w' wB := by rw [hw_]; exact (Below.refl _ _).alloc (Nat.le_refl _) _
            have g17 : Box3 w'.heap.size (.slice p4 h.n c4) (.slice q4 h.m d4) (.bool h.b) wB := by rw [hw_]; exact Box3.new _ _ _ _ _
            have hj_ := bjoin hB_ hb
            replace hh4 := hh4.below hB_
            replace g3 := g3.below hj_
            replace g8 := g8.below hj_
            replace g10 := g10.below hj_
            replace hh := hh.below hj_
            replace hh1 := fun e => (hh1 e).below hj_
            replace hh2 := fun e => (hh2 e).below hj_
            replace hbW := bjoin hj_ hbW
            rw [← hw_]
            clear hw_ hc hf hb hz hB_ hj_ x0 x1 x2 l3 z0 z1 lgV_ gV
            generalize w'.heap.size = B17 at *
            obtain ⟨l3, x0, x1, x2, -, -, -⟩ := id g3
            go_upto_region 18 with (first
    | (go_at_call 11; refine Calls.mono (rpaint8_in (hh.below (by go_grown)) hF'.out) ?_; rintro e w' ⟨p5, c5, q5, d5, rfl, hh5, -, hb⟩; obtain ⟨hc, hf, hb, hz⟩ := bstep hb (w := wB) (by go_grown); try simp only [World.size_alloc, World.size_setCell, World.size_drew] at hc hf hz)
            )
            obtain ⟨wC, hw_⟩ : ∃ W, W = w'.alloc (.cells #[.slice p5 h.n c5, .slice q5 h.m d5, .bool h.b] 25) := ⟨_, rfl⟩
            have hB_ : Below w'.heap.size w' wC := by rw [hw_]; exact (Below.refl _ _).alloc (Nat.le_refl _) _
            have g19 : Box3 w'.heap.size (.slice p5 h.n c5) (.slice q5 h.m d5) (.bool h.b) wC := by rw [hw_]; exact Box3.new _ _ _ _ _
            have hj_ := bjoin hB_ hb
            replace hh5 := hh5.below hB_
            replace hh4 := hh4.below hj_
            replace g8 := g8.below hj_
            replace g10 := g10.below hj_
            replace g17 := g17.below hj_
            replace hh1 := fun e => (hh1 e).below hj_
            replace hh2 := fun e => (hh2 e).below hj_
            replace hbW := bjoin hj_ hbW
            rw [← hw_]
            clear hw_ hc hf hb hz hB_ hj_ x0 x1 x2 l3
            generalize w'.heap.size = B19 at *
            obtain ⟨lg8_, x0, x1, x2, -, -, -⟩ := g8
            obtain ⟨lg10_, y0, y1, y2, -, -, -⟩ := g10
            obtain ⟨lg17_, u0, u1, u2, -, -, -⟩ := g17
            obtain ⟨lg19_, v0, v1, v2, -, -, -⟩ := g19
            have s1 := sameH_self (seH h a i k x)
            have s2 := sameH_self (paH h a)
            clear s0 g3 hh
            have e0 : seE h a i k x = 0 → (seE h a i k x != 0) = false := fun e => by simp [e]
            have e1 : ¬ seE h a i k x = 0 → (seE h a i k x != 0) = true := fun e => by simp [e]
            by_cases ho : seE h a i k x = 0
            · have h1 := hh1 ho
              replace e0 := e0 ho
              clear hh1 e1 ho
              generalize seE h a i k x = E at *
              cases hl : obB h a
              all_goals
                try have h2 := hh2 hl
                clear hh2
                go_wp2_with (first
    | (go_at_call 9; refine Calls.mono (rsame_in (HpIn.below (by assumption) (by go_grown)) (HpIn.below (by assumption) (by go_grown))) ?_; rintro e w' ⟨rfl, hb⟩; obtain ⟨hc, hf, hb, hz⟩ := bstep hb (w := wC) (by go_grown); try simp only [World.size_alloc, World.size_setCell, World.size_drew] at hc hf hz)
                )
                go_returns
                first | exact ⟨ret_bool (by simp), bjoin hb hbW⟩ | exact ⟨ret_bool (by simp), hbW⟩
            · replace e1 := e1 ho
              clear hh1 e0 ho
              generalize seE h a i k x = E at *
              cases hl : obB h a
              all_goals
                try have h2 := hh2 hl
                clear hh2
                go_wp2_with (first
    | (go_at_call 9; refine Calls.mono (rsame_in (HpIn.below (by assumption) (by go_grown)) (HpIn.below (by assumption) (by go_grown))) ?_; rintro e w' ⟨rfl, hb⟩; obtain ⟨hc, hf, hb, hz⟩ := bstep hb (w := wC) (by go_grown); try simp only [World.size_alloc, World.size_setCell, World.size_drew] at hc hf hz)
                )
                go_returns
                first | exact ⟨ret_bool (by simp), bjoin hb hbW⟩ | exact ⟨ret_bool (by simp), hbW⟩

namespace ObjectKeeps
/-- What the row lists. -/
def lists : List (String × DataW Unit) := [("flotsam/class.sizes", Rows.laid_flotsam_class_sizes)]
set_option maxRecDepth 100000 in
theorem lifted (os : Os) (started : os.Started) (H : Type) (enc : TypeId × Value → H) :
    ReturnsInHanded {} Tryd.checked os 3 .any (fun w args => (Rows.objectKeepsSpec.pre enc Tryd.prog Tryd.f3 Rows.objectKeepsRow.domain false w args ∧ laidMetH Tryd.prog lists w) ∧ sizedMet enc Tryd.prog Tryd.f3 (OpenSpec.ofChange Rows.objectKeepsSpec) false w args) (Rows.objectKeepsSpec.post enc Tryd.prog Tryd.f3 false true false false) := by
  refine law_lifted_laid (C := Tryd.checked) seat_own started (by kernel_rfl) Tryd.func3 (by kernel_rfl) (of_decide_eq_true (by kernel_rfl)) rfl
    (fun ds hd => by have hd' : ds.length = 4 := hd; match ds, hd' with | [d0, d1, d2, d3], _ => rfl) rfl Tryd.underlying4
    (ChangeSpec.witness_shaped (enc := enc) (C := Tryd.checked) (os := os) (X := fun w _ => laidMetH Tryd.prog lists w) false (World.laidAll Tryd.prog os lists) #[.agg #[.slice none 0 0, .slice none 0 0, .bool false], .int .i64 0, .int .i64 0, .agg #[.int .i64 0, .int .i64 0]] 8 (World.laidAll_os _ _ _)
      (World.shaped_of_ZipB (by kernel_rfl) (by kernel_rfl)) (by kernel_rfl) (by kernel_rfl) (by kernel_rfl)
      (by rw [MakeChecks.laidMetH_plain _ _ _ (by kernel_rfl)]; exact laidMet_laidAll _ (by kernel_rfl) (by kernel_rfl))) ?_
  intro W base args ds p hval hA hlt hL
  have hS : Sz W := sizes_of hL (by kernel_rfl) rfl
  rw [Tryd.params3] at hA hval
  obtain ⟨v0, v1, v2, v3, d0, d1, d2, d3, p0, p1, p2, p3, rfl, rfl, rfl, h0, h1, h2, h3⟩ := trodAll_four hA
  obtain ⟨x0, q0, c0, s0, e0, rfl, hh0⟩ := open_heap Tryd.underlying25 (by kernel_rfl) (by kernel_rfl) Tryd.underlying22 (by kernel_rfl) (by kernel_rfl) Tryd.underlying23 Tryd.underlying39 (by kernel_rfl) (by kernel_rfl) (by kernel_rfl) (by kernel_rfl) (by kernel_rfl) (by kernel_rfl) (hval 0 25 v0 rfl rfl) h0
  obtain ⟨a1, rfl, ha1⟩ := open_i64 Tryd.underlying3 (hval 1 3 v1 rfl rfl) h1
  obtain ⟨a2, rfl, ha2⟩ := open_i64 Tryd.underlying3 (hval 2 3 v2 rfl rfl) h2
  obtain ⟨a3, b3, rfl, ha3, hb3⟩ := open_int2 Tryd.underlying27 (by kernel_rfl) (by kernel_rfl) (by kernel_rfl) (by kernel_rfl) (hval 3 27 v3 rfl rfl) h3
  exact okeeps_walk a1 a2 a3 b3 W hh0 hS (by have := hb3; omega)

theorem row_holds : Rows.ObjectKeepsSaid :=
  OpenClaim.holds_of_wide 3 Tryd.f3 rfl rfl rfl rfl rfl rfl rfl ⟨rfl, rfl, rfl, rfl, rfl⟩ rfl rfl rfl rfl rfl (by kernel_rfl) Tryd.func3 (by kernel_rfl)
    (of_decide_eq_true (by kernel_rfl)) (by unfold Func.isWrapper; first | (rw [if_pos (by decide +kernel)]; kernel_rfl) | (rw [if_neg (by decide +kernel)]; exact ⟨rfl, rfl⟩))
    (fun os started H enc _ => lifted os started H enc)
/-- The tied card. -/
theorem holds : Rows.ObjectKeepsCardSaid :=
  Claim7.holds_tied_plain_at .later [] [.data] true (true, "823ae93ce94718880ec8de15e427cf71d573217c2b1f3b552164061b4a176e2d") false row_holds (fun _ h => by cases h) (by kernel_rfl) (fun _ h => by cases h) objectKeeps_row_tie rfl ⟨rfl, rfl⟩ (by kernel_rfl) rfl
    (fun f fn hf hfn => by
      obtain rfl : f = 3 := Option.some.inj ((show Tryd.prog.funcNamed "flotsam/flotsamlaw08.ObjectKeeps" = some 3 by kernel_rfl).symm.trans hf) |>.symm
      obtain rfl : fn = Tryd.f3 := (Option.some.inj (Tryd.func3.symm.trans hfn)).symm
      exact ⟨by kernel_rfl, fun j t ht => by
        rw [Tryd.params3] at ht
        have hm : t ∈ [25, 3, 3, 27] := by simpa using Array.mem_of_getElem? ht
        have hall : ([25, 3, 3, 27].all fun u => !Tryd.prog.wantsStandIn u) = true := by kernel_rfl
        exact (show Tryd.prog.wantsStandIn t = false by simpa using List.all_eq_true.1 hall t hm)⟩)
    (by kernel_rfl)
#print axioms holds
end ObjectKeeps
end Go.Proofs.YtkjbefaaejlknaaDoor
