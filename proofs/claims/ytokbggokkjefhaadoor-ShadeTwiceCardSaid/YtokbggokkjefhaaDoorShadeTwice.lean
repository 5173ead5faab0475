/- ShadeTwice: values that are shaded once more change nothing; in whatever order they are shaded, the same is black. No condition. -/
import Derived.Test.YtokbggokkjefhaaDoorRows
import Derived.Test.YtokbggokkjefhaaDoorCards
import Derived.Test.YtokbggokkjefhaaDoorTie
import Derived.Test.YtokbggokkjefhaaDoorAwake16
import Derived.Test.YtokbggokkjefhaaDoorRef14
import Derived.SevenTiedAt
namespace Go.Proofs.YtokbggokkjefhaaDoor
set_option linter.unusedSimpArgs false
set_option linter.unusedVariables false
open Go.ChangeShapes Go.WideShapes Go.ChangeAt Go.RowKit Go.Joins

/-- The values turned about. -/
def tuV (y : Nat → Vl) (l : Nat) : Nat → Vl := fun i => y (l - 1 - i)
theorem nm_turned (y : Nat → Vl) (l : Nat) (a : Int) : nmB (tuV y l) l a = nmB y l a := by
  rw [Bool.eq_iff_iff, nm_iff, nm_iff]
  constructor
  · rintro ⟨j, h1, h2⟩
    exact ⟨l - 1 - j, by omega, h2⟩
  · rintro ⟨j, h1, h2⟩
    refine ⟨l - 1 - j, by omega, ?_⟩
    unfold tuV
    rw [show l - 1 - (l - 1 - j) = j by omega]
    exact h2
theorem shade_turned {h : Hp} (hF : formB h = true) (r : Int) (n : Nat) (z : Nat → Int) (o : Bool) (y : Nat → Vl) (l : Nat) : (sdA r ⟨h, n, z, o⟩ (tuV y l) l).h = (sdA r ⟨h, n, z, o⟩ y l).h := by
  rw [sd_heap hF, sd_heap hF]
  exact pn_congr hF fun a _ _ => nm_turned y l a
set_option maxHeartbeats 16000000 in
set_option maxRecDepth 20000 in
theorem twice16_walk {p : Option Addr} {c : Nat} {q : Option Addr} {d : Nat} {h : Hp} (r : Int) (pr : Option Addr) (k cr : Nat) (z : Nat → Int) (pv : Option Addr) (l cv : Nat) (y : Nat → Vl) (w : World)
    (hat : HpAt w p c q d h) (hr : -9223372036854775808 ≤ r ∧ r ≤ 9223372036854775807) (hg : GrAt w pr cr k z) (hv : VAt w pv cv l y) (hS : Sz w) :
    Calls Tryd.prog 5 #[.agg #[.slice p h.n c, .slice q h.m d, .bool h.b], .agg #[.int .i64 r, .slice pr k cr], .slice pv l cv] w fun e w' => e = .returned (.bool true) ∧ Below w.heap.size w w' := by
  obtain ⟨w0, hw0⟩ : ∃ w0, w0 = (w.alloc (.cells #[.slice p h.n c, .slice q h.m d, .bool h.b] 25)).alloc (.cells #[.int .i64 r, .slice pr k cr] 28) := ⟨_, rfl⟩
  obtain ⟨g0, g1, hB0⟩ := tbox_two hw0
  have hR : RowE w.heap.size 3 k pr w := rowE_old (fun h0 b off sp e => by
    obtain ⟨⟨b1, o1, e1, hl1, -⟩, -⟩ := hg.ints 0 h0
    rw [e] at e1
    injection e1 with e1
    injection e1 with e1
    omega) (Nat.le_refl _)
  replace hat := hat.below hB0
  replace hS := hS.below hB0
  replace hg := hg.below hB0
  replace hv := hv.below hB0
  replace hR := hR.below hB0
  have x0 := g0.cell 0
  have x1 := g0.cell 1
  have x2 := g0.cell 2
  have y0 := g1.cell 0
  have y1 := g1.cell 1
  simp only [List.getElem?_toArray, List.getElem?_cons_zero, List.getElem?_cons_succ] at x0 x1 x2 y0 y1
  have l0 := g0.lt
  have l1 := g1.lt
  have hFo := fun W (hW : Below w0.heap.size w0 W) => rform_any _ _ _ _ _ W (hat.below hW)
  have hRi := fun W (hW : Below w0.heap.size w0 W) => rgright_any r pr k cr z W (hg.below hW)
  have m1 := hv.nle
  simp only [maxLen] at m1
  by_cases hgo : formB h = true ∧ apB h = true ∧ rightG r k z = true ∧ l ≤ 100
  · obtain ⟨hF, hA, hG, hl⟩ := hgo
    have hAp := fun W (hW : Below w0.heap.size w0 W) => rapart_any _ _ _ _ _ W (hat.below hW) hF
    rw [hF] at hFo
    rw [hG] at hRi
    rw [hA] at hAp
    obtain ⟨⟨r0, r1, r2⟩, -⟩ := rightG_iff.1 hG
    have dlen : decide (100 < (l : Int)) = false := by simp; omega
    have hF' : Hid (formB h = true) := hF
    clear hF hA hG
    go_enter Tryd.func5, Tryd.ntmps5
    go_upto_region 1 with fail
    rw [← hw0]
    clear hw0
    go_upto_region 3 with (first
    | (go_at_call 6; refine Calls.mono (awake16_any _ (hS.below (by go_grown))) ?_; rintro e w' ⟨rfl, hb⟩; obtain ⟨hc, hf, hb, hz⟩ := bstep hb (w := w0) (by go_grown); try simp only [World.size_alloc, World.size_setCell, World.size_drew] at hc hf hz)
    | (go_at_call 7; refine Calls.mono (hFo _ (by go_grown)) ?_; rintro e w' ⟨rfl, hb⟩; obtain ⟨hc, hf, hb, hz⟩ := bstep hb (w := w0) (by go_grown); try simp only [World.size_alloc, World.size_setCell, World.size_drew] at hc hf hz)
    | (go_at_call 8; refine Calls.mono (hAp _ (by go_grown)) ?_; rintro e w' ⟨rfl, hb⟩; obtain ⟨hc, hf, hb, hz⟩ := bstep hb (w := w0) (by go_grown); try simp only [World.size_alloc, World.size_setCell, World.size_drew] at hc hf hz)
    | (go_at_call 9; refine Calls.mono (hRi _ (by go_grown)) ?_; rintro e w' ⟨rfl, hb⟩; obtain ⟨hc, hf, hb, hz⟩ := bstep hb (w := w0) (by go_grown); try simp only [World.size_alloc, World.size_setCell, World.size_drew] at hc hf hz)
    )
    have hbW := bjoin hb hB0
    replace g0 := g0.below hb
    replace g1 := g1.below hb
    have hin : HpIn w' p h.n c q h.m d h.b h := ⟨rfl, rfl, rfl, hat.below hb⟩
    replace hS := hS.below hb
    replace hg := hg.below hb
    replace hv := hv.below hb
    replace hR := hR.below hb
    clear hb hc hf hz x0 x1 x2 y0 y1 l0 l1 hFo hRi hAp hat hB0
    generalize w' = w3 at *
    have hNw : w.heap.size ≤ w3.heap.size := hbW.size
    have hS1 := shall_in w.heap.size r hS hin hF'.out hg hR hNw (by omega) (by omega) hv (by omega)
    have hTw := sd_twice (y := y) (k := l) (o := false) (o' := false) (n := k) (z := z) (r := r) (n' := (sdA r ⟨h, k, z, false⟩ y l).n) (z' := (sdA r ⟨h, k, z, false⟩ y l).z) hF'.out
    have hTu := shade_turned hF'.out r k z false y l
    have hSF := (sdA_form (r := r) (s := ⟨h, k, z, false⟩) hF'.out y l).1
    have hnb := sdA_nb (r := r) (s := ⟨h, k, z, false⟩) (by omega) (show k ≤ 1000000 by omega) y l
    generalize sdA r ⟨h, k, z, false⟩ y l = S1 at *
    obtain ⟨l0, x0, x1, x2⟩ : w.heap.size < w3.heap.size ∧ w3.cell? ⟨w.heap.size, 0, none⟩ = some (.slice p h.n c) ∧ w3.cell? ⟨w.heap.size, 1, none⟩ = some (.slice q h.m d) ∧ w3.cell? ⟨w.heap.size, 2, none⟩ = some (.bool h.b) := ⟨g0.lt, g0.cell 0, g0.cell 1, g0.cell 2⟩
    obtain ⟨l1, y0, y1⟩ : w.heap.size + 1 < w3.heap.size ∧ w3.cell? ⟨w.heap.size + 1, 0, none⟩ = some (.int .i64 r) ∧ w3.cell? ⟨w.heap.size + 1, 1, none⟩ = some (.slice pr k cr) := ⟨g1.lt, g1.cell 0, g1.cell 1⟩
    go_upto_region 4 with (first
      | (go_at_call 10; refine Calls.mono hS1 ?_; rintro e w4 ⟨p1, c1, q1, d1, pr1, cr1, rfl, hh1, hg1, hR1, hb3⟩)
    )
    obtain ⟨w5, hw⟩ : ∃ W, W = (w4.alloc (.cells #[.slice p1 h.n c1, .slice q1 h.m d1, .bool h.b] 25)).alloc (.cells #[.int .i64 r, .slice pr1 S1.n cr1] 28) := ⟨_, rfl⟩
    obtain ⟨gA, gA', hbn⟩ := tbox_two hw
    rw [← hw]
    have hb4 := bjoin hbn hb3
    replace g0 := g0.below hb4
    replace g1 := g1.below hb4
    replace hin := hin.below hb4
    replace hg := hg.below hb4
    replace hv := hv.below hb4
    replace hR := hR.below hb4
    replace hS := hS.below hb4
    replace hbW := bjoin hb4 hbW
    replace hh1 := hh1.below hbn
    replace hg1 := hg1.below hbn
    replace hR1 := hR1.below hbn
    have hNw5 : w.heap.size ≤ w5.heap.size := hbW.size
    clear hw hbn hb3 hb4 hS1 x0 x1 x2 y0 y1 l0 l1 hNw
    generalize w4.heap.size = B1 at *
    have hS2 := shall_in w.heap.size r hS hh1 hSF hg1 hR1 hNw5 (by omega) hnb hv (by omega)
    clear hnb
    rw [hTw] at hS2
    clear hTw
    dsimp only at hS2
    obtain ⟨lA, a0, a1, a2⟩ : B1 < w5.heap.size ∧ w5.cell? ⟨B1, 0, none⟩ = some (.slice p1 h.n c1) ∧ w5.cell? ⟨B1, 1, none⟩ = some (.slice q1 h.m d1) ∧ w5.cell? ⟨B1, 2, none⟩ = some (.bool h.b) := ⟨gA.lt, gA.cell 0, gA.cell 1, gA.cell 2⟩
    obtain ⟨lA', a3, a4⟩ : B1 + 1 < w5.heap.size ∧ w5.cell? ⟨B1 + 1, 0, none⟩ = some (.int .i64 r) ∧ w5.cell? ⟨B1 + 1, 1, none⟩ = some (.slice pr1 S1.n cr1) := ⟨gA'.lt, gA'.cell 0, gA'.cell 1⟩
    go_upto_region 5 with (first
      | (go_at_call 10; refine Calls.mono hS2 ?_; rintro e w6 ⟨p2, c2, q2, d2, pr2, cr2, rfl, hh2, hg2, hR2, hb3⟩)
    )
    obtain ⟨w7, hw⟩ : ∃ W, W = (w6.alloc (.cells #[.slice p2 h.n c2, .slice q2 h.m d2, .bool h.b] 25)).alloc (.cells #[.int .i64 r, .slice pr2 S1.n cr2] 28) := ⟨_, rfl⟩
    obtain ⟨gB, gB', hbn⟩ := tbox_two hw
    rw [← hw]
    have hb4 := bjoin hbn hb3
    replace g0 := g0.below hb4
    replace g1 := g1.below hb4
    replace gA := gA.below hb4
    replace gA' := gA'.below hb4
    replace hin := hin.below hb4
    replace hg := hg.below hb4
    replace hv := hv.below hb4
    replace hR := hR.below hb4
    replace hS := hS.below hb4
    replace hh1 := hh1.below hb4
    replace hg1 := hg1.below hb4
    replace hbW := bjoin hb4 hbW
    replace hh2 := hh2.below hbn
    replace hg2 := hg2.below hbn
    clear hw hbn hb3 hb4 hS2 a0 a1 a2 a3 a4 lA lA' hR1 hR2 hNw5
    generalize w6.heap.size = B2 at *
    obtain ⟨i0, hi, hz0, hz1, hz2⟩ := info_parts val_info
    have hvr := hv.row
    have hvp := hv.pnil
    have hwfv := hv.row.wf
    go_wp2
    go_loopg [13, 14] l (fun g ov iv wr => ∃ j : Nat, j ≤ l ∧ g = l - j ∧ iv = .int .i64 ((l : Int) - 1 - j) ∧ wr.ownsRow w7.heap.size 38 2 ov j (vlVals j (tuV y l)) ∧ Below w7.heap.size w7 wr)
    case atStart => exact ⟨0, by omega, by omega, by simp, World.ownsRow_nil _ _ _ _, Below.refl _ _⟩
    case round =>
      obtain ⟨j, jh, rfl, rfl, hown, hbw⟩ := hrel
      have hsz : w7.heap.size ≤ wr.heap.size := hbw.size
      by_cases hj : j < l
      · obtain ⟨t, et⟩ : ∃ t : Nat, (l : Int) - 1 - j = (t : Int) := ⟨l - 1 - j, by omega⟩
        obtain ⟨⟨b, off, rfl, hlt, v0, v1⟩, -⟩ := (hvr.below hbw) t (by omega)
        have etu : tuV y l j = y t := by unfold tuV; congr 1; omega
        have e1 : vlVals (j + 1) (tuV y l) = vlVals j (tuV y l) ++ [.int .i64 (y t).k, .int .i64 (y t).n] := by rw [← vlVals_snoc, etu]; rfl
        have hns : Hid ((l : Int) - 1 - (j + 1 : Nat) = (t : Int) - 1) := (by omega : (l : Int) - 1 - (j + 1 : Nat) = (t : Int) - 1)
        have htl : (t : Int) < l := by omega
        have ht0 : t < 1000 := by omega
        have hjl : j ≤ 100 := by omega
        rw [et]
        clear et etu
        generalize hE : vlVals (j + 1) (tuV y l) = A1 at *
        generalize vlVals j (tuV y l) = A at *
        generalize y t = X at *
        obtain ⟨X0, X1⟩ := X
        dsimp only at *
        go_wp2_with (first
          | (at_builtin; refine wpList_append_own _ rfl (.tmp 64) (.tmp 69) 29 rfl w7.heap.size 38 i0 (.agg #[.int .i64 0, .int .i64 0]) 2 16 Tryd.underlying29 hi hz0 hz1 hz2 rfl (by decide) _ _ _ rfl (hown.alloc _) ⟨wr.heap.size, 0, none⟩ 1 1 [.int .i64 X0, .int .i64 X1] rfl rfl (two_new _ _ _ _) (by simp [Value.oneCell']) (by simp only [maxLen]; omega) (by omega) (by simp; omega) ?_; intro ov w9 hown' hgrow _)
        )
        have hb2 := (hbw.alloc hsz (.cells #[.int .i64 X0, .int .i64 X1] 38)).grown hgrow (by simp; omega) (fun k hk => (hown.lt k hk).1)
        rw [← e1] at hown'
        go_roundg (l - (j + 1))
        case measure => omega
        case rel => exact ⟨j + 1, by omega, rfl, by rw [hns.out], by rw [hE]; exact hown', hb2⟩
      · obtain rfl : j = l := by omega
        rw [show (j : Int) - 1 - j = -1 by omega]
        replace g0 := g0.below hbw
        replace g1 := g1.below hbw
        replace gA := gA.below hbw
        replace gA' := gA'.below hbw
        replace gB := gB.below hbw
        replace gB' := gB'.below hbw
        replace hin := hin.below hbw
        replace hg := hg.below hbw
        replace hR := hR.below hbw
        replace hS := hS.below hbw
        replace hh1 := hh1.below hbw
        replace hg1 := hg1.below hbw
        replace hh2 := hh2.below hbw
        replace hg2 := hg2.below hbw
        replace hbW := bjoin hbw hbW
        have hNwr : w.heap.size ≤ wr.heap.size := hbW.size
        obtain ⟨pt, ct, ff, -⟩ := owned_new hown
        have hwft : ∀ i, i < j → (tuV y j i).wf := fun i hi => hwfv (j - 1 - i) (by omega)
        rw [ff] at hown ⊢
        have hvt : VAt wr pt ct j (tuV y j) := va_owned hown (by simp only [maxLen]; omega) hwft
        clear ff hown hvr hvp hv hbw hi hz0 hz1 hz2 i0
        have hS3 := shall_in w.heap.size r hS hin hF'.out hg hR hNwr (by omega) (by omega) hvt (by omega)
        rw [hTu] at hS3
        generalize hTT : (sdA r ⟨h, k, z, false⟩ (tuV y j) j).n = T3n at *
        generalize (sdA r ⟨h, k, z, false⟩ (tuV y j) j).z = T3z at *
        generalize (sdA r ⟨h, k, z, false⟩ (tuV y j) j).o = T3o at *
        clear hTT hTu
        obtain ⟨l0, x0, x1, x2⟩ : w.heap.size < wr.heap.size ∧ wr.cell? ⟨w.heap.size, 0, none⟩ = some (.slice p h.n c) ∧ wr.cell? ⟨w.heap.size, 1, none⟩ = some (.slice q h.m d) ∧ wr.cell? ⟨w.heap.size, 2, none⟩ = some (.bool h.b) := ⟨g0.lt, g0.cell 0, g0.cell 1, g0.cell 2⟩
        obtain ⟨l1, y0, y1⟩ : w.heap.size + 1 < wr.heap.size ∧ wr.cell? ⟨w.heap.size + 1, 0, none⟩ = some (.int .i64 r) ∧ wr.cell? ⟨w.heap.size + 1, 1, none⟩ = some (.slice pr k cr) := ⟨g1.lt, g1.cell 0, g1.cell 1⟩
        go_upto_region 11 with (first
          | (go_at_call 10; refine Calls.mono hS3 ?_; rintro e w8 ⟨p3, c3, q3, d3, pr3, cr3, rfl, hh3, -, -, hb3⟩)
        )
        obtain ⟨w9, hw⟩ : ∃ W, W = (w8.alloc (.cells #[.slice p3 h.n c3, .slice q3 h.m d3, .bool h.b] 25)).alloc (.cells #[.int .i64 r, .slice pr3 T3n cr3] 28) := ⟨_, rfl⟩
        obtain ⟨gC, -, hbn⟩ := tbox_two hw
        rw [← hw]
        have hb4 := bjoin hbn hb3
        replace gA := gA.below hb4
        replace gA' := gA'.below hb4
        replace gB := gB.below hb4
        replace gB' := gB'.below hb4
        replace hh1 := hh1.below hb4
        replace hg1 := hg1.below hb4
        replace hh2 := hh2.below hb4
        replace hg2 := hg2.below hb4
        replace hbW := bjoin hb4 hbW
        replace hh3 := hh3.below hbn
        clear hw hbn hb3 hb4 hS3 x0 x1 x2 y0 y1 l0 l1 g0 g1 hin hg hR hS hNwr hvt
        generalize w8.heap.size = B3 at *
        obtain ⟨lA, a0, a1, a2⟩ : B1 < w9.heap.size ∧ w9.cell? ⟨B1, 0, none⟩ = some (.slice p1 h.n c1) ∧ w9.cell? ⟨B1, 1, none⟩ = some (.slice q1 h.m d1) ∧ w9.cell? ⟨B1, 2, none⟩ = some (.bool h.b) := ⟨gA.lt, gA.cell 0, gA.cell 1, gA.cell 2⟩
        obtain ⟨lA', a3, a4⟩ : B1 + 1 < w9.heap.size ∧ w9.cell? ⟨B1 + 1, 0, none⟩ = some (.int .i64 r) ∧ w9.cell? ⟨B1 + 1, 1, none⟩ = some (.slice pr1 S1.n cr1) := ⟨gA'.lt, gA'.cell 0, gA'.cell 1⟩
        obtain ⟨lB, b0, b1, b2⟩ : B2 < w9.heap.size ∧ w9.cell? ⟨B2, 0, none⟩ = some (.slice p2 h.n c2) ∧ w9.cell? ⟨B2, 1, none⟩ = some (.slice q2 h.m d2) ∧ w9.cell? ⟨B2, 2, none⟩ = some (.bool h.b) := ⟨gB.lt, gB.cell 0, gB.cell 1, gB.cell 2⟩
        obtain ⟨lB', b3, b4⟩ : B2 + 1 < w9.heap.size ∧ w9.cell? ⟨B2 + 1, 0, none⟩ = some (.int .i64 r) ∧ w9.cell? ⟨B2 + 1, 1, none⟩ = some (.slice pr2 S1.n cr2) := ⟨gB'.lt, gB'.cell 0, gB'.cell 1⟩
        obtain ⟨lC, e0, e1, e2⟩ : B3 < w9.heap.size ∧ w9.cell? ⟨B3, 0, none⟩ = some (.slice p3 h.n c3) ∧ w9.cell? ⟨B3, 1, none⟩ = some (.slice q3 h.m d3) ∧ w9.cell? ⟨B3, 2, none⟩ = some (.bool h.b) := ⟨gC.lt, gC.cell 0, gC.cell 1, gC.cell 2⟩
        have hSa : ∀ (W : World) (p q p' q' : Option Addr) (c d c' d' : Nat), HpIn W p h.n c q h.m d h.b S1.h → HpIn W p' h.n c' q' h.m d' h.b S1.h → Calls Tryd.prog 17 #[.agg #[.slice p h.n c, .slice q h.m d, .bool h.b], .agg #[.slice p' h.n c', .slice q' h.m d', .bool h.b]] W fun e w' => e = .returned (.bool true) ∧ Below W.heap.size W w' := fun W p q p' q' c d c' d' h1 h2 => by
          have := rsame_in h1 h2
          rwa [sameH_self] at this
        have hSg := fun W (h1 : GrAt W pr1 cr1 S1.n S1.z) (h2 : GrAt W pr2 cr2 S1.n S1.z) => rgsame_any r r pr1 pr2 S1.n cr1 S1.n cr2 S1.z S1.z W h1 h2
        simp only [sameG_self] at hSg
        clear gA gA' gB gB' gC
        go_wp2_with (first
    | (go_at_call 17; refine Calls.mono (hSa _ _ _ _ _ _ _ _ _ (hh1.below (by go_grown)) (by first | exact hh2.below (by go_grown) | exact hh3.below (by go_grown))) ?_; rintro e w' ⟨rfl, hb⟩; obtain ⟨hc, hf, hb, hz⟩ := bstep hb (w := w9) (by go_grown); try simp only [World.size_alloc, World.size_setCell, World.size_drew] at hc hf hz)
    | (go_at_call 18; refine Calls.mono (hSg _ (hg1.below (by go_grown)) (hg2.below (by go_grown))) ?_; rintro e w' ⟨rfl, hb⟩; obtain ⟨hc, hf, hb, hz⟩ := bstep hb (w := w9) (by go_grown); try simp only [World.size_alloc, World.size_setCell, World.size_drew] at hc hf hz)
        )
        go_returns
        exact ⟨rfl, bjoin (by go_grown) hbW⟩
  · have hex : (formB h = false) ∨ (formB h = true ∧ apB h = false) ∨ (formB h = true ∧ apB h = true ∧ rightG r k z = false) ∨ (formB h = true ∧ apB h = true ∧ rightG r k z = true ∧ decide (100 < (l : Int)) = true) := by
      cases h1 : formB h with
      | false => exact .inl rfl
      | true =>
        cases h2 : apB h with
        | false => exact .inr (.inl ⟨rfl, rfl⟩)
        | true =>
          cases h3 : rightG r k z with
          | false => exact .inr (.inr (.inl ⟨rfl, rfl, rfl⟩))
          | true =>
            refine .inr (.inr (.inr ⟨rfl, rfl, rfl, ?_⟩))
            have : ¬ l ≤ 100 := fun e => hgo ⟨h1, h2, h3, e⟩
            simp
            omega
    clear hgo
    have hAp := fun (hF : formB h = true) W (hW : Below w0.heap.size w0 W) => rapart_any _ _ _ _ _ W (hat.below hW) hF
    rcases hex with e | ⟨e, e2⟩ | ⟨e, e2, e3⟩ | ⟨e, e2, e3, e4⟩
    · rw [e] at hFo
      clear hAp e
      go_enter Tryd.func5, Tryd.ntmps5
      go_upto_region 1 with fail
      rw [← hw0]
      clear hw0
      go_wp2_with (first
    | (go_at_call 6; refine Calls.mono (awake16_any _ (hS.below (by go_grown))) ?_; rintro e w' ⟨rfl, hb⟩; obtain ⟨hc, hf, hb, hz⟩ := bstep hb (w := w0) (by go_grown); try simp only [World.size_alloc, World.size_setCell, World.size_drew] at hc hf hz)
    | (go_at_call 7; refine Calls.mono (hFo _ (by go_grown)) ?_; rintro e w' ⟨rfl, hb⟩; obtain ⟨hc, hf, hb, hz⟩ := bstep hb (w := w0) (by go_grown); try simp only [World.size_alloc, World.size_setCell, World.size_drew] at hc hf hz)
      )
      go_returns
      exact ⟨rfl, bjoin hb hB0⟩
    · replace hAp := hAp e
      rw [e] at hFo
      rw [e2] at hAp
      clear e e2
      go_enter Tryd.func5, Tryd.ntmps5
      go_upto_region 1 with fail
      rw [← hw0]
      clear hw0
      go_wp2_with (first
    | (go_at_call 6; refine Calls.mono (awake16_any _ (hS.below (by go_grown))) ?_; rintro e w' ⟨rfl, hb⟩; obtain ⟨hc, hf, hb, hz⟩ := bstep hb (w := w0) (by go_grown); try simp only [World.size_alloc, World.size_setCell, World.size_drew] at hc hf hz)
    | (go_at_call 7; refine Calls.mono (hFo _ (by go_grown)) ?_; rintro e w' ⟨rfl, hb⟩; obtain ⟨hc, hf, hb, hz⟩ := bstep hb (w := w0) (by go_grown); try simp only [World.size_alloc, World.size_setCell, World.size_drew] at hc hf hz)
    | (go_at_call 8; refine Calls.mono (hAp _ (by go_grown)) ?_; rintro e w' ⟨rfl, hb⟩; obtain ⟨hc, hf, hb, hz⟩ := bstep hb (w := w0) (by go_grown); try simp only [World.size_alloc, World.size_setCell, World.size_drew] at hc hf hz)
      )
      go_returns
      exact ⟨rfl, bjoin hb hB0⟩
    all_goals
      replace hAp := hAp e
      rw [e] at hFo
      rw [e2] at hAp
      rw [e3] at hRi
      clear e e2 e3
      go_enter Tryd.func5, Tryd.ntmps5
      go_upto_region 1 with fail
      rw [← hw0]
      clear hw0
      go_wp2_with (first
    | (go_at_call 6; refine Calls.mono (awake16_any _ (hS.below (by go_grown))) ?_; rintro e w' ⟨rfl, hb⟩; obtain ⟨hc, hf, hb, hz⟩ := bstep hb (w := w0) (by go_grown); try simp only [World.size_alloc, World.size_setCell, World.size_drew] at hc hf hz)
    | (go_at_call 7; refine Calls.mono (hFo _ (by go_grown)) ?_; rintro e w' ⟨rfl, hb⟩; obtain ⟨hc, hf, hb, hz⟩ := bstep hb (w := w0) (by go_grown); try simp only [World.size_alloc, World.size_setCell, World.size_drew] at hc hf hz)
    | (go_at_call 8; refine Calls.mono (hAp _ (by go_grown)) ?_; rintro e w' ⟨rfl, hb⟩; obtain ⟨hc, hf, hb, hz⟩ := bstep hb (w := w0) (by go_grown); try simp only [World.size_alloc, World.size_setCell, World.size_drew] at hc hf hz)
    | (go_at_call 9; refine Calls.mono (hRi _ (by go_grown)) ?_; rintro e w' ⟨rfl, hb⟩; obtain ⟨hc, hf, hb, hz⟩ := bstep hb (w := w0) (by go_grown); try simp only [World.size_alloc, World.size_setCell, World.size_drew] at hc hf hz)
      )
      go_returns
      exact ⟨rfl, bjoin hb hB0⟩
namespace ShadeTwice
/-- What the row lists. -/
def lists : List (String × DataW Unit) := [("flotsam/class.sizes", Rows.laid_flotsam_class_sizes)]
set_option maxRecDepth 100000 in
theorem lifted (os : Os) (started : os.Started) (H : Type) (enc : TypeId × Value → H) :
    ReturnsInHanded {} Tryd.checked os 5 .any (fun w args => (Rows.shadeTwiceSpec.pre enc Tryd.prog Tryd.f5 Rows.shadeTwiceRow.domain false w args ∧ laidMetH Tryd.prog lists w) ∧ sizedMet enc Tryd.prog Tryd.f5 (OpenSpec.ofChange Rows.shadeTwiceSpec) false w args) (Rows.shadeTwiceSpec.post enc Tryd.prog Tryd.f5 false true false false) := by
  refine law_lifted_laid (C := Tryd.checked) seat_own started (by kernel_rfl) Tryd.func5 (by kernel_rfl) (of_decide_eq_true (by kernel_rfl)) rfl
    (fun ds hd => by have hd' : ds.length = 3 := hd; match ds, hd' with | [d0, d1, d2], _ => rfl) rfl Tryd.underlying4
    (ChangeSpec.witness_shaped (enc := enc) (C := Tryd.checked) (os := os) (X := fun w _ => laidMetH Tryd.prog lists w) false (World.laidAll Tryd.prog os lists) #[.agg #[.slice none 0 0, .slice none 0 0, .bool false], .agg #[.int .i64 0, .slice none 0 0], .slice none 0 0] 8 (World.laidAll_os _ _ _)
      (World.shaped_of_ZipB (by kernel_rfl) (by kernel_rfl)) (by kernel_rfl) (by kernel_rfl) (by kernel_rfl)
      (by rw [MakeChecks.laidMetH_plain _ _ _ (by kernel_rfl)]; exact laidMet_laidAll _ (by kernel_rfl) (by kernel_rfl))) ?_
  intro W base args ds p hval hA hlt hL
  have hS : Sz W := sizes_of hL (by kernel_rfl) rfl
  rw [Tryd.params5] at hA hval
  obtain ⟨v0, v1, v2, d0, d1, d2, p0, p1, p2, rfl, rfl, rfl, h0, h1, h2⟩ := trodAll_three hA
  obtain ⟨x0, q0, c0, s0, e0, rfl, hh0⟩ := open_heap Tryd.underlying25 (by kernel_rfl) (by kernel_rfl) Tryd.underlying22 (by kernel_rfl) (by kernel_rfl) Tryd.underlying23 Tryd.underlying50 (by kernel_rfl) (by kernel_rfl) (by kernel_rfl) (by kernel_rfl) (by kernel_rfl) (by kernel_rfl) (hval 0 25 v0 rfl rfl) h0
  obtain ⟨r1, q1, n1, c1, z1, rfl, hr1, hg1⟩ := open_grey Tryd.underlying28 (by kernel_rfl) (by kernel_rfl) (by kernel_rfl) Tryd.underlying26 (by kernel_rfl) (by kernel_rfl) (hval 1 28 v1 rfl rfl) h1
  obtain ⟨q2, n2, cap2, z2, rfl, hv2⟩ := open_vals Tryd.underlying29 Tryd.underlying38 (by kernel_rfl) (by kernel_rfl) (by kernel_rfl) (by kernel_rfl) (hval 2 29 v2 rfl rfl) h2
  exact twice16_walk r1 q1 n1 c1 z1 q2 n2 cap2 z2 W hh0 hr1 hg1 hv2 hS

theorem row_holds : Rows.ShadeTwiceSaid :=
  OpenClaim.holds_of_wide 5 Tryd.f5 rfl rfl rfl rfl rfl rfl rfl ⟨rfl, rfl, rfl, rfl, rfl⟩ rfl rfl rfl rfl rfl (by kernel_rfl) Tryd.func5 (by kernel_rfl)
    (of_decide_eq_true (by kernel_rfl)) (by unfold Func.isWrapper; first | (rw [if_pos (by decide +kernel)]; kernel_rfl) | (rw [if_neg (by decide +kernel)]; exact ⟨rfl, rfl⟩))
    (fun os started H enc _ => lifted os started H enc)
/-- The tied card. -/
theorem holds : Rows.ShadeTwiceCardSaid :=
  Claim7.holds_tied_plain_at .later [] [.data] true (true, "6ef351fabaceb77f7170fd89529baea29d54cde26c4cce2a2406eb6ef4667159") false row_holds (fun _ h => by cases h) (by kernel_rfl) (fun _ h => by cases h) shadeTwice_row_tie rfl ⟨rfl, rfl⟩ (by kernel_rfl) rfl
    (fun f fn hf hfn => by
      obtain rfl : f = 5 := Option.some.inj ((show Tryd.prog.funcNamed "flotsam/flotsamlaw16.ShadeTwice" = some 5 by kernel_rfl).symm.trans hf) |>.symm
      obtain rfl : fn = Tryd.f5 := (Option.some.inj (Tryd.func5.symm.trans hfn)).symm
      exact ⟨by kernel_rfl, fun j t ht => by
        rw [Tryd.params5] at ht
        have hm : t ∈ [25, 28, 29] := by simpa using Array.mem_of_getElem? ht
        have hall : ([25, 28, 29].all fun u => !Tryd.prog.wantsStandIn u) = true := by kernel_rfl
        exact (show Tryd.prog.wantsStandIn t = false by simpa using List.all_eq_true.1 hall t hm)⟩)
    (by kernel_rfl)
#print axioms holds
end ShadeTwice
end Go.Proofs.YtokbggokkjefhaaDoor
