/- ShadeBlack: what is shaded is black, no other object's colour and no field is otherwise; who became black is in the row, or it is over. No condition. -/
import Derived.Test.YtokbggokkjefhaaDoorRows
import Derived.Test.YtokbggokkjefhaaDoorCards
import Derived.Test.YtokbggokkjefhaaDoorTie
import Derived.Test.YtokbggokkjefhaaDoorAwake16
import Derived.SevenTiedAt
namespace Go.Proofs.YtokbggokkjefhaaDoor
set_option linter.unusedSimpArgs false
set_option linter.unusedVariables false
open Go.ChangeShapes Go.WideShapes Go.ChangeAt Go.RowKit Go.Joins

set_option maxHeartbeats 16000000 in
set_option maxRecDepth 20000 in
theorem black16_walk {p : Option Addr} {c : Nat} {q : Option Addr} {d : Nat} {h : Hp} (r : Int) (pr : Option Addr) (k cr : Nat) (z : Nat → Int) (pv : Option Addr) (l cv : Nat) (y : Nat → Vl) (w : World)
    (hat : HpAt w p c q d h) (hr : -9223372036854775808 ≤ r ∧ r ≤ 9223372036854775807) (hg : GrAt w pr cr k z) (hv : VAt w pv cv l y) (hS : Sz w) :
    Calls Tryd.prog 3 #[.agg #[.slice p h.n c, .slice q h.m d, .bool h.b], .agg #[.int .i64 r, .slice pr k cr], .slice pv l cv] w fun e w' => e = .returned (.bool true) ∧ Below w.heap.size w w' := by
  obtain ⟨w0, hw0⟩ : ∃ w0, w0 = (w.alloc (.cells #[.slice p h.n c, .slice q h.m d, .bool h.b] 25)).alloc (.cells #[.int .i64 r, .slice pr k cr] 28) := ⟨_, rfl⟩
  obtain ⟨g0, g1, hB0⟩ := tbox_two hw0
  have hR : RowE w.heap.size 3 k pr w := rowE_old (fun h0 b off sp e => by
    obtain ⟨⟨b1, o1, e1, hl1, -⟩, -⟩ := hg.ints 0 h0
    rw [e] at e1
    injection e1 with e1
    injection e1 with e1
    omega) (Nat.le_refl _)
  replace hat := hat.below hB0
  replace hS := hS.below hB0
  replace hg := hg.below hB0
  replace hv := hv.below hB0
  replace hR := hR.below hB0
  have x0 := g0.cell 0
  have x1 := g0.cell 1
  have x2 := g0.cell 2
  have y0 := g1.cell 0
  have y1 := g1.cell 1
  simp only [List.getElem?_toArray, List.getElem?_cons_zero, List.getElem?_cons_succ] at x0 x1 x2 y0 y1
  have l0 := g0.lt
  have l1 := g1.lt
  have hFo := fun W (hW : Below w0.heap.size w0 W) => rform_any _ _ _ _ _ W (hat.below hW)
  have hRi := fun W (hW : Below w0.heap.size w0 W) => rgright_any r pr k cr z W (hg.below hW)
  have m1 := hv.nle
  simp only [maxLen] at m1
  by_cases hgo : formB h = true ∧ apB h = true ∧ rightG r k z = true ∧ l ≤ 100
  · obtain ⟨hF, hA, hG, hl⟩ := hgo
    have hAp := fun W (hW : Below w0.heap.size w0 W) => rapart_any _ _ _ _ _ W (hat.below hW) hF
    rw [hF] at hFo
    rw [hG] at hRi
    rw [hA] at hAp
    obtain ⟨⟨r0, r1, r2⟩, -⟩ := rightG_iff.1 hG
    have dlen : decide (100 < (l : Int)) = false := by simp; omega
    have hF' : Hid (formB h = true) := hF
    have hA' := hA
    clear hF hA hG
    go_enter Tryd.func3, Tryd.ntmps3
    go_upto_region 1 with fail
    rw [← hw0]
    clear hw0
    go_upto_region 3 with (first
    | (go_at_call 6; refine Calls.mono (awake16_any _ (hS.below (by go_grown))) ?_; rintro e w' ⟨rfl, hb⟩; obtain ⟨hc, hf, hb, hz⟩ := bstep hb (w := w0) (by go_grown); try simp only [World.size_alloc, World.size_setCell, World.size_drew] at hc hf hz)
    | (go_at_call 7; refine Calls.mono (hFo _ (by go_grown)) ?_; rintro e w' ⟨rfl, hb⟩; obtain ⟨hc, hf, hb, hz⟩ := bstep hb (w := w0) (by go_grown); try simp only [World.size_alloc, World.size_setCell, World.size_drew] at hc hf hz)
    | (go_at_call 8; refine Calls.mono (hAp _ (by go_grown)) ?_; rintro e w' ⟨rfl, hb⟩; obtain ⟨hc, hf, hb, hz⟩ := bstep hb (w := w0) (by go_grown); try simp only [World.size_alloc, World.size_setCell, World.size_drew] at hc hf hz)
    | (go_at_call 9; refine Calls.mono (hRi _ (by go_grown)) ?_; rintro e w' ⟨rfl, hb⟩; obtain ⟨hc, hf, hb, hz⟩ := bstep hb (w := w0) (by go_grown); try simp only [World.size_alloc, World.size_setCell, World.size_drew] at hc hf hz)
    )
    have hbW := bjoin hb hB0
    replace g0 := g0.below hb
    replace g1 := g1.below hb
    have hin : HpIn w' p h.n c q h.m d h.b h := ⟨rfl, rfl, rfl, hat.below hb⟩
    replace hS := hS.below hb
    replace hg := hg.below hb
    replace hv := hv.below hb
    replace hR := hR.below hb
    clear hb hc hf hz x0 x1 x2 y0 y1 l0 l1 hFo hRi hAp hat hB0
    generalize w' = w3 at *
    have hNw : w.heap.size ≤ w3.heap.size := hbW.size
    have hS1 := shall_in w.heap.size r hS hin hF'.out hg hR hNw (by omega) (by omega) hv (by omega)
    obtain ⟨sdN, sdO, sdI, -⟩ := sd_row hF'.out z r2 y l
    have sdH := sd_heap hF'.out r k z false y l
    generalize sdA r ⟨h, k, z, false⟩ y l = S1 at *
    obtain ⟨Sh, Sn, Sz', So⟩ := S1
    dsimp only at sdN sdO sdI sdH hS1
    subst sdH
    obtain ⟨l0, x0, x1, x2⟩ : w.heap.size < w3.heap.size ∧ w3.cell? ⟨w.heap.size, 0, none⟩ = some (.slice p h.n c) ∧ w3.cell? ⟨w.heap.size, 1, none⟩ = some (.slice q h.m d) ∧ w3.cell? ⟨w.heap.size, 2, none⟩ = some (.bool h.b) := ⟨g0.lt, g0.cell 0, g0.cell 1, g0.cell 2⟩
    obtain ⟨l1, y0, y1⟩ : w.heap.size + 1 < w3.heap.size ∧ w3.cell? ⟨w.heap.size + 1, 0, none⟩ = some (.int .i64 r) ∧ w3.cell? ⟨w.heap.size + 1, 1, none⟩ = some (.slice pr k cr) := ⟨g1.lt, g1.cell 0, g1.cell 1⟩
    have hsn : Hid (Sn = k + min (whN h (nmB y l)) (r - k).toNat) := sdN
    have hso : Hid (So = decide ((r - k).toNat < whN h (nmB y l))) := sdO
    have hAp' : Hid (apB h = true) := hA'
    clear sdN sdO hA'
    go_upto_region 4 with (first
      | (go_at_call 10; refine Calls.mono hS1 ?_; rintro e w4 ⟨p1, c1, q1, d1, pr1, cr1, rfl, hh1, hg1, -, hb3⟩)
    )
    obtain ⟨w5, hw⟩ : ∃ W, W = (w4.alloc (.cells #[.slice p1 h.n c1, .slice q1 h.m d1, .bool h.b] 25)).alloc (.cells #[.int .i64 r, .slice pr1 Sn cr1] 28) := ⟨_, rfl⟩
    obtain ⟨gA, gA', hbn⟩ := tbox_two hw
    rw [← hw]
    have hb4 := bjoin hbn hb3
    replace g0 := g0.below hb4
    replace g1 := g1.below hb4
    replace hin := hin.below hb4
    replace hv := hv.below hb4
    replace hbW := bjoin hb4 hbW
    replace hh1 := hh1.below hbn
    replace hg1 := hg1.below hbn
    clear hw hbn hb3 hb4 hS1 x0 x1 x2 y0 y1 l0 l1 hNw hg hR hS
    generalize w4.heap.size = B1 at *
    obtain ⟨-, -, -, hat⟩ := hin
    obtain ⟨-, -, -, hat1⟩ := hh1
    have hLi := rlist8_any p c q d h w5 hat hF'.out
    have hwfL := obL_wf h (form_room hF'.out).2.2
    have hFP : formB (pnH h (nmB y l)) = true := hF'.out
    obtain ⟨l0, x0, x1, x2⟩ : w.heap.size < w5.heap.size ∧ w5.cell? ⟨w.heap.size, 0, none⟩ = some (.slice p h.n c) ∧ w5.cell? ⟨w.heap.size, 1, none⟩ = some (.slice q h.m d) ∧ w5.cell? ⟨w.heap.size, 2, none⟩ = some (.bool h.b) := ⟨g0.lt, g0.cell 0, g0.cell 1, g0.cell 2⟩
    go_upto_region 5 with (first
      | (go_at_call 11; refine Calls.mono hLi ?_; rintro e w6 ⟨v, rfl, hown, hb3⟩)
    )
    obtain ⟨pl, cl, rfl, hRw⟩ := row_owned hown hwfL
    have hIL := hRw.ints
    replace g0 := g0.below hb3
    replace g1 := g1.below hb3
    replace gA := gA.below hb3
    replace gA' := gA'.below hb3
    replace hat := hat.below hb3
    replace hat1 := hat1.below hb3
    replace hg1 := hg1.below hb3
    replace hv := hv.below hb3
    replace hbW := bjoin hb3 hbW
    clear hown hRw hLi hb3 x0 x1 x2 l0
    have hLi2 : Calls Tryd.prog 11 #[.agg #[.slice p1 h.n c1, .slice q1 h.m d1, .bool h.b]] w6 fun e w' => ∃ v, e = .returned v ∧ w'.ownsRow w6.heap.size 3 1 v (obL h h.n).length ((obL h h.n).map (Value.int .i64)) ∧ Below w6.heap.size w6 w' := by
      have := rlist8_any p1 c1 q1 d1 (pnH h (nmB y l)) w6 hat1 hFP
      rw [pn_list hF'.out] at this
      exact this
    have hMle := obL_len h h.n
    have hn512 := (form_room hF'.out).2.2
    have hLm : ∀ a ∈ obL h h.n, obB h a = true := fun a ha => (mem_obL hF'.out).1 ha
    have hwh : Hid (whN h (nmB y l) = (obL h h.n).countP fun a => !blB h a && nmB y l a) := (rfl : whN h (nmB y l) = (obL h h.n).countP fun a => !blB h a && nmB y l a)
    generalize obL h h.n = L at *
    obtain ⟨lA, a0, a1, a2⟩ : B1 < w6.heap.size ∧ w6.cell? ⟨B1, 0, none⟩ = some (.slice p1 h.n c1) ∧ w6.cell? ⟨B1, 1, none⟩ = some (.slice q1 h.m d1) ∧ w6.cell? ⟨B1, 2, none⟩ = some (.bool h.b) := ⟨gA.lt, gA.cell 0, gA.cell 1, gA.cell 2⟩
    have hIs : ∀ (W : World) (pl' : Option Addr) (cl' : Nat), Ints .i64 W pl L.length (fun i => L[i]?.getD 0) → Ints .i64 W pl' L.length (fun i => L[i]?.getD 0) → Calls Tryd.prog 12 #[.slice pl L.length cl, .slice pl' L.length cl'] W fun e w' => e = .returned (.bool true) ∧ Below W.heap.size W w' := fun W pl' cl' h1 h2 => by
      have := rintsG_any pl pl' L.length cl L.length cl' _ _ W h1 h2 (by simp only [maxLen]; omega) (by simp only [maxLen]; omega)
      rwa [sameI_self] at this
    go_upto_region 7 with (first
    | (go_at_call 11; refine Calls.mono hLi2 ?_; rintro e w7 ⟨v2, rfl, hown2, hb3⟩; obtain ⟨pl2, cl2, rfl, hRw2⟩ := row_owned hown2 hwfL)
    | (go_at_call 12; refine Calls.mono (hIs _ _ _ (hIL.below hb3) hRw2.ints) ?_; rintro e w' ⟨rfl, hb⟩; obtain ⟨hc, hf, hb, hz⟩ := bstep hb (w := w7) (by go_grown); try simp only [World.size_alloc, World.size_setCell, World.size_drew] at hc hf hz)
    )
    have hb4 := bjoin hb hb3
    replace g0 := g0.below hb4
    replace g1 := g1.below hb4
    replace gA := gA.below hb4
    replace gA' := gA'.below hb4
    replace hat := hat.below hb4
    replace hat1 := hat1.below hb4
    replace hg1 := hg1.below hb4
    replace hv := hv.below hb4
    replace hIL := hIL.below hb4
    replace hbW := bjoin hb4 hbW
    clear hown2 hRw2 hLi2 hb hb3 hb4 hc hf hz a0 a1 a2 lA hwfL
    generalize w' = w8 at *
    have hB1 := fun a W (hW : HpAt W p c q d h) => rblack8_any p c q d h a W hW hF'.out
    have hB2 : ∀ a W, HpAt W p1 c1 q1 d1 (pnH h (nmB y l)) → Calls Tryd.prog 13 #[.agg #[.slice p1 h.n c1, .slice q1 h.m d1, .bool h.b], .int .i64 a] W fun e w' => e = .returned (.bool (blB h a || (obB h a && nmB y l a))) ∧ Below W.heap.size W w' := fun a W hW => by
      have := rblack8_any p1 c1 q1 d1 (pnH h (nmB y l)) a W hW hFP
      rw [pn_black hF'.out] at this
      exact this
    have hRe1 : ∀ a W, HpAt W p c q d h → Calls Tryd.prog 14 #[.agg #[.slice p h.n c, .slice q h.m d, .bool h.b], .int .i64 a] W fun e w' => ∃ pm cm, e = .returned (.slice pm (rfH h a).length cm) ∧ (Ints .i64 w' pm (rfH h a).length fun i => (rfH h a)[i]?.getD 0) ∧ Below W.heap.size W w' := fun a W hW => by
      refine Calls.mono (rrefs8_any p c q d h a W hW hF'.out) ?_
      rintro e w' ⟨v, rfl, hown, hb⟩
      obtain ⟨pm, cm, rfl, hr⟩ := row_owned hown (rfH_wf hW.wf hF'.out a)
      exact ⟨pm, cm, rfl, hr.ints, hb⟩
    have hRe2 : ∀ a W, HpAt W p1 c1 q1 d1 (pnH h (nmB y l)) → Calls Tryd.prog 14 #[.agg #[.slice p1 h.n c1, .slice q1 h.m d1, .bool h.b], .int .i64 a] W fun e w' => ∃ pm cm, e = .returned (.slice pm (rfH h a).length cm) ∧ (Ints .i64 w' pm (rfH h a).length fun i => (rfH h a)[i]?.getD 0) ∧ Below W.heap.size W w' := fun a W hW => by
      refine Calls.mono (rrefs8_any p1 c1 q1 d1 (pnH h (nmB y l)) a W hW hFP) ?_
      rintro e w' ⟨v, rfl, hown, hb⟩
      obtain ⟨pm, cm, rfl, hr⟩ := row_owned hown (rfH_wf hW.wf hFP a)
      have hi := hr.ints
      rw [pn_refs hF'.out hAp'.out] at hi
      rw [pn_refs hF'.out hAp'.out]
      exact ⟨pm, cm, rfl, hi, hb⟩
    have hRl : ∀ a, (rfH h a).length ≤ 15 := fun a => by
      obtain ⟨M, y', e1, -, e2, -⟩ := refs_all hF'.out a
      omega
    have hCn : ∀ t, (L.take t).countP (fun a => !blB h a && nmB y l a) ≤ 512 := fun t => Nat.le_trans List.countP_le_length (by rw [List.length_take]; omega)
    clear hFP
    go_wp2
    go_loopg [11, 12] L.length (fun g fv iv wr => ∃ t : Nat, t ≤ L.length ∧ g = L.length - t ∧ iv = .int .i64 t ∧ fv = .int .i64 ((L.take t).countP fun a => !blB h a && nmB y l a) ∧ Below w8.heap.size w8 wr)
    case atStart => exact ⟨0, by omega, by omega, rfl, by simp, Below.refl _ _⟩
    case round =>
      obtain ⟨t, th, rfl, rfl, rfl, hbw⟩ := hrel
      by_cases ht : t < L.length
      · obtain ⟨⟨bl, ol, rfl, hlt, v0⟩, -⟩ := (hIL.below hbw) t ht
        dsimp only at v0
        have hX := hLm (L[t]?.getD 0) (by rw [List.getElem?_eq_getElem ht]; exact List.getElem_mem ht)
        have e1 : (L.take (t + 1)).countP (fun a => !blB h a && nmB y l a) = (L.take t).countP (fun a => !blB h a && nmB y l a) + (if (!blB h (L[t]?.getD 0) && nmB y l (L[t]?.getD 0)) = true then 1 else 0) := by
          rw [List.take_add_one, List.countP_append, List.getElem?_eq_getElem ht]
          simp [List.countP_cons]
        have hCt := hCn t
        have hin1 := sdI
        have hB1X := hB1 (L[t]?.getD 0)
        have hB2X := hB2 (L[t]?.getD 0)
        have hR1X := hRe1 (L[t]?.getD 0)
        have hR2X := hRe2 (L[t]?.getD 0)
        have hRlX := hRl (L[t]?.getD 0)
        clear hB1 hB2 hRe1 hRe2 hRl hCn hLm
        rw [hX, Bool.true_and] at hB2X
        replace hin1 := fun (ho : So = false) => hin1 ho (L[t]?.getD 0) hX
        have htn : (t : Int) < L.length := by omega
        have hlr := hlt
        generalize L[t]?.getD 0 = X at *
        generalize hE1 : (L.take (t + 1)).countP (fun a => !blB h a && nmB y l a) = C1 at *
        generalize (L.take t).countP (fun a => !blB h a && nmB y l a) = C at *
        go_wp2
        go_loopg [13, 14] l (fun g bv jv wz => ∃ j : Nat, j ≤ l ∧ g = l - j ∧ jv = .int .i64 j ∧ bv = .bool (nmB y j X) ∧ Below wr.heap.size wr wz)
        case atStart => exact ⟨0, by omega, by omega, rfl, rfl, Below.refl _ _⟩
        case round =>
          obtain ⟨j, jh, rfl, rfl, rfl, hbz⟩ := hrel
          have v1 := (hbz.cell (p := ⟨bl, ol + t, none⟩) hlt).trans v0
          have hlz := Nat.lt_of_lt_of_le hlt hbz.size
          by_cases hj : j < l
          · obtain ⟨⟨bv, ov, rfl, hlv, k0, k1⟩, -⟩ := ((hv.row.below hbw).below hbz) j hj
            have hn1 : Hid (nmB y (j + 1) X = (nmB y j X || (decide ((y j).k = 2) && (y j).n == X))) := (rfl : nmB y (j + 1) X = (nmB y j X || (decide ((y j).k = 2) && (y j).n == X)))
            have hjl : (j : Int) < l := by omega
            generalize hNN : nmB y (j + 1) X = NN at *
            generalize nmB y j X = N0 at *
            generalize y j = V at *
            obtain ⟨V0, V1⟩ := V
            dsimp only at *
            have hcase : (N0 = true ∧ NN = true) ∨ (N0 = false ∧ (V0 == 2) = false ∧ NN = false) ∨ (N0 = false ∧ (V0 == 2) = true ∧ (V1 == X) = true ∧ NN = true) ∨ (N0 = false ∧ (V0 == 2) = true ∧ (V1 == X) = false ∧ NN = false) := by
              have := hn1.out
              cases N0
              · by_cases e : V0 = 2
                · cases e' : V1 == X
                  · exact .inr (.inr (.inr ⟨rfl, by simp [e], rfl, by rw [this]; simp [e, e']⟩))
                  · exact .inr (.inr (.inl ⟨rfl, by simp [e], rfl, by rw [this]; simp [e, e']⟩))
                · exact .inr (.inl ⟨rfl, by simp [e], by rw [this]; simp [e]⟩)
              · exact .inl ⟨rfl, by rw [this]; simp⟩
            clear hn1
            have hlb := Nat.lt_of_lt_of_le hlt hbz.size
            rcases hcase with ⟨rfl, e⟩ | ⟨rfl, ev, e⟩ | ⟨rfl, ev, ex, e⟩ | ⟨rfl, ev, ex, e⟩
            all_goals
              go_upto_region 15 with fail
              go_quiet (fail)
              go_wp2
              go_roundg (l - (j + 1))
              case measure => omega
              case rel => exact ⟨j + 1, by omega, rfl, by go_num, by rw [hNN, e], hbz.trans ⟨rfl, rfl, rfl, Nat.le_refl _, fun _ _ => rfl⟩⟩
          · obtain rfl : j = l := by omega
            have hb8 := bjoin hbz hbw
            have hatr := hat.below hb8
            have g0r : Box3 w.heap.size (.slice p h.n c) (.slice q h.m d) (.bool h.b) wr := ⟨(g0.below hb8).lt, (g0.below hb8).cell 0, (g0.below hb8).cell 1, (g0.below hb8).cell 2, (g0.below hb8).frozen 0, (g0.below hb8).frozen 1, (g0.below hb8).frozen 2⟩
            have hat1r := hat1.below hb8
            have gAr : Box3 B1 (.slice p1 h.n c1) (.slice q1 h.m d1) (.bool h.b) wr := ⟨(gA.below hb8).lt, (gA.below hb8).cell 0, (gA.below hb8).cell 1, (gA.below hb8).cell 2, (gA.below hb8).frozen 0, (gA.below hb8).frozen 1, (gA.below hb8).frozen 2⟩
            have hRX : ∀ (W : World) (p' : Option Addr) (c' : Nat) (q' : Option Addr) (d' : Nat), (HpAt W p' c' q' d' h ∨ HpAt W p' c' q' d' (pnH h (nmB y j))) → Calls Tryd.prog 14 #[.agg #[.slice p' h.n c', .slice q' h.m d', .bool h.b], .int .i64 X] W fun e w' => ∃ pm cm, e = .returned (.slice pm (rfH h X).length cm) ∧ (Ints .i64 w' pm (rfH h X).length fun i => (rfH h X)[i]?.getD 0) ∧ Below W.heap.size W w' := fun W p' c' q' d' hW => by
              rcases hW with hW | hW
              · refine Calls.mono (rrefs8_any p' c' q' d' h X W hW hF'.out) ?_
                rintro e w' ⟨v, rfl, hown, hb⟩
                obtain ⟨pm, cm, rfl, hr⟩ := row_owned hown (rfH_wf hW.wf hF'.out X)
                exact ⟨pm, cm, rfl, hr.ints, hb⟩
              · have hFP : formB (pnH h (nmB y j)) = true := hF'.out
                refine Calls.mono (rrefs8_any p' c' q' d' (pnH h (nmB y j)) X W hW hFP) ?_
                rintro e w' ⟨v, rfl, hown, hb⟩
                obtain ⟨pm, cm, rfl, hr⟩ := row_owned hown (rfH_wf hW.wf hFP X)
                have hi := hr.ints
                rw [pn_refs hF'.out hAp'.out] at hi
                rw [pn_refs hF'.out hAp'.out]
                exact ⟨pm, cm, rfl, hi, hb⟩
            have hIs2 : ∀ (W : World) (pa pb : Option Addr) (ca cb : Nat), (Ints .i64 W pa (rfH h X).length fun i => (rfH h X)[i]?.getD 0) → (Ints .i64 W pb (rfH h X).length fun i => (rfH h X)[i]?.getD 0) → Calls Tryd.prog 12 #[.slice pa (rfH h X).length ca, .slice pb (rfH h X).length cb] W fun e w' => e = .returned (.bool true) ∧ Below W.heap.size W w' := fun W pa pb ca cb h1 h2 => by
              have := rintsG_any pa pb _ ca _ cb _ _ W h1 h2 (by simp only [maxLen]; omega) (by simp only [maxLen]; omega)
              rwa [sameI_self] at this
            clear hR1X hR2X hbz
            have hcs : ∀ i : Nat, (fun i => (rfH h X)[i]?.getD 0) i = (rfH h X)[i]?.getD 0 := fun _ => rfl
            generalize hyR : (fun i : Nat => (rfH h X)[i]?.getD 0) = yR at *
            clear hcs hyR
            generalize (rfH h X).length = R at *
            go_upto_region 16 with fail
            obtain ⟨l0, x0, x1, x2, -, -, -⟩ := id g0r
            refine wp_region_plus (by kernel_rfl) (by kernel_rfl) fun hpc => ?_
            repeat (first | go_big_quiet_step ((first | (go_at_call 13; exact quiet_plus (hB1X _ (hatr.below (plus_below _ _)))))) | quiet_step ((first | (go_at_call 13; exact quiet_plus (hB1X _ (hatr.below (plus_below _ _)))))))
            refine wpQuiet_nil ?_
            intro w' hbq
            clear hpc
            obtain ⟨hc, hf, hb, hz⟩ := bstep hbq (w := wr) (by go_grown)
            try simp only [World.size_alloc, World.size_setCell, World.size_drew] at hc hf hz
            have g09 := g0r.below hb
            have gA9 := gAr.below hb
            have hat9 := hatr.below hb
            have hat19 := hat1r.below hb
            have v9 := (hb.cell (p := ⟨bl, ol + t, none⟩) hlz).trans v1
            have l9 := Nat.lt_of_lt_of_le hlz hb.size
            have hb9 := bjoin hb hb8
            clear hb hc hf hz x0 x1 x2 l0 g0r gAr hatr hat1r v1 hlz hb8 hB1X
            generalize w' = w9 at *
            go_upto_region 17 with fail
            generalize hNB : nmB y j X = NB at *
            cases hWB : blB h X
            · rw [hWB] at hB2X e1
              simp only [Bool.false_or] at hB2X
              refine wp_late (ds := [some 94, some 95, some 96, some 97, some 98, some 99, some 100, some 101, some 102, some 103, some 104, some 105, some 106, some 107, some 108, some 109, some 110, some 111, some 112, some 113, some 114, some 115, some 116, some 117, some 118, some 119, some 120]) (ts := [94, 95, 96, 97, 98, 99, 100, 101, 102, 103, 104, 105, 106, 107, 108, 109, 110, 111, 112, 113, 114, 115, 116, 117, 118, 119, 120]) (pv := [(fun v _ => v = .agg #[.slice p1 h.n c1, .slice q1 h.m d1, .bool h.b]), (fun v _ => v = .slice (some ⟨bl, ol, none⟩) L.length cl), (fun v _ => v = .int .i64 (t : Int)), (fun v _ => v = .pointer (some ⟨bl, ol + t, none⟩)), (fun v _ => v = .int .i64 X), (fun v _ => v = .bool NB), (fun v _ => v = .bool false), (fun v _ => v = .bool false), (fun v _ => v = .bool NB), (fun v _ => v = .bool NB), (fun v _ => v = .bool false), (fun v _ => v = .bool false), (fun v _ => v = .agg #[.slice p h.n c, .slice q h.m d, .bool h.b]), (fun v _ => v = .slice (some ⟨bl, ol, none⟩) L.length cl), (fun v _ => v = .int .i64 (t : Int)), (fun v _ => v = .pointer (some ⟨bl, ol + t, none⟩)), (fun v _ => v = .int .i64 X), RowV (R) (yR), (fun v _ => v = .agg #[.slice p1 h.n c1, .slice q1 h.m d1, .bool h.b]), (fun v _ => v = .slice (some ⟨bl, ol, none⟩) L.length cl), (fun v _ => v = .int .i64 (t : Int)), (fun v _ => v = .pointer (some ⟨bl, ol + t, none⟩)), (fun v _ => v = .int .i64 X), RowV (R) (yR), (fun v _ => v = .bool true), (fun v _ => v = .bool false), (fun v _ => v = .bool false)]) (skip := fun i => ([] : List Nat).contains i) (ia := 1000) (is := 1000) (k := 121) (Shape := (fun _ _ => True)) (Full := (fun _ _ => True)) (by kernel_rfl) (by kernel_rfl) rfl rfl (by decide) (by decide) (by simp) ?_ (by decide) (fun _ _ _ _ _ => trivial) (fun _ _ _ _ _ => trivial) ?_ ?_ ?_ ?_
              · exact .inl rfl
              · exact ⟨fun _ _ _ h _ => h, fun _ _ _ h _ => h, fun _ _ _ h _ => h, fun _ _ _ h _ => h, fun _ _ _ h _ => h, fun _ _ _ h _ => h, fun _ _ _ h _ => h, fun _ _ _ h _ => h, fun _ _ _ h _ => h, fun _ _ _ h _ => h, fun _ _ _ h _ => h, fun _ _ _ h _ => h, fun _ _ _ h _ => h, fun _ _ _ h _ => h, fun _ _ _ h _ => h, fun _ _ _ h _ => h, fun _ _ _ h _ => h, fun _ _ _ h hb => h.below hb, fun _ _ _ h _ => h, fun _ _ _ h _ => h, fun _ _ _ h _ => h, fun _ _ _ h _ => h, fun _ _ _ h _ => h, fun _ _ _ h hb => h.below hb, fun _ _ _ h _ => h, fun _ _ _ h _ => h, fun _ _ _ h _ => h, trivial⟩
              · exact ⟨rfl, rfl, rfl, rfl, rfl, rfl, rfl, rfl, ⟨rfl, ⟨_, rfl⟩, by decide, by decide, fun _ _ h => h⟩, rfl, rfl, rfl, ⟨rfl, ⟨_, rfl⟩, by decide, by decide, fun _ _ h => h⟩, ⟨rfl, ⟨_, rfl⟩, by decide, by decide, fun _ _ h => h⟩, ⟨rfl, ⟨_, rfl⟩, by decide, by decide, fun _ _ h => h⟩, ⟨rfl, ⟨_, rfl⟩, by decide, by decide, fun _ _ h => h⟩, ⟨rfl, ⟨_, rfl⟩, by decide, by decide, fun _ _ h => h⟩, ⟨rfl, ⟨_, rfl⟩, by decide, by decide, fun _ _ h => h⟩, ⟨rfl, ⟨_, rfl⟩, by decide, by decide, fun _ _ h => h⟩, ⟨rfl, ⟨_, rfl⟩, by decide, by decide, fun _ _ h => h⟩, ⟨rfl, ⟨_, rfl⟩, by decide, by decide, fun _ _ h => h⟩, ⟨rfl, ⟨_, rfl⟩, by decide, by decide, fun _ _ h => h⟩, ⟨rfl, ⟨_, rfl⟩, by decide, by decide, fun _ _ h => h⟩, ⟨rfl, ⟨_, rfl⟩, by decide, by decide, fun _ _ h => h⟩, ⟨rfl, ⟨_, rfl⟩, by decide, by decide, fun _ _ h => h⟩, ⟨rfl, ⟨_, rfl⟩, by decide, by decide, fun _ _ h => h⟩, rfl, trivial⟩
              · refine ⟨?_, ?_, ?_, ?_, ?_, ?_, ?_, ?_, ?_, ?_, ?_, ?_, ?_, ?_, ?_, ?_, ?_, ?_, ?_, ?_, ?_, ?_, ?_, ?_, ?_, ?_, ?_, trivial⟩
                · intro _ a' w' hb' hs hd hn Kc hK
                  have f7 : a'.tmps[7]?.getD undef = .pointer (some ⟨B1, 0, none⟩) := (hs 7 (by decide)).trans rfl
                  clear hs hd hn
                  rw [if_neg (by decide), if_neg (by decide)] at hK
                  have v4 := (hb'.cell (p := ⟨bl, ol + t, none⟩) l9).trans v9
                  obtain ⟨lA, a0, a1, a2, -, -, -⟩ := gA9.below hb'
                  obtain ⟨l0, x0, x1, x2, -, -, -⟩ := g09.below hb'
                  have hPa : HpAt w' p c q d h ∨ HpAt w' p c q d (pnH h (nmB y j)) := .inl (hat9.below hb')
                  have hPb : HpAt w' p1 c1 q1 d1 h ∨ HpAt w' p1 c1 q1 d1 (pnH h (nmB y j)) := .inr (hat19.below hb')
                  unfold Oper.wp
                  go_simp
                  try go_bits
                  exact hK _ _ (Below.refl _ _) (by first | rfl | (show Value.int _ _ = Value.int _ _; go_num; done) | (simp [valOf, *]; done) | (simp [valOf]; omega))
                · intro _ a' w' hb' hs hd hn Kc hK
                  have f10 : a'.tmps[10]?.getD undef = .slice (some ⟨bl, ol, none⟩) L.length cl := (hs 10 (by decide)).trans rfl
                  clear hs hd hn
                  rw [if_neg (by decide), if_neg (by decide)] at hK
                  have v4 := (hb'.cell (p := ⟨bl, ol + t, none⟩) l9).trans v9
                  obtain ⟨lA, a0, a1, a2, -, -, -⟩ := gA9.below hb'
                  obtain ⟨l0, x0, x1, x2, -, -, -⟩ := g09.below hb'
                  have hPa : HpAt w' p c q d h ∨ HpAt w' p c q d (pnH h (nmB y j)) := .inl (hat9.below hb')
                  have hPb : HpAt w' p1 c1 q1 d1 h ∨ HpAt w' p1 c1 q1 d1 (pnH h (nmB y j)) := .inr (hat19.below hb')
                  unfold Oper.wp
                  go_simp
                  try go_bits
                  exact hK _ _ (Below.refl _ _) (by first | rfl | (show Value.int _ _ = Value.int _ _; go_num; done) | (simp [valOf, *]; done) | (simp [valOf]; omega))
                · intro _ a' w' hb' hs hd hn Kc hK
                  have f12 : a'.tmps[12]?.getD undef = .int .i64 (t : Int) := (hs 12 (by decide)).trans rfl
                  clear hs hd hn
                  rw [if_neg (by decide), if_neg (by decide)] at hK
                  have v4 := (hb'.cell (p := ⟨bl, ol + t, none⟩) l9).trans v9
                  obtain ⟨lA, a0, a1, a2, -, -, -⟩ := gA9.below hb'
                  obtain ⟨l0, x0, x1, x2, -, -, -⟩ := g09.below hb'
                  have hPa : HpAt w' p c q d h ∨ HpAt w' p c q d (pnH h (nmB y j)) := .inl (hat9.below hb')
                  have hPb : HpAt w' p1 c1 q1 d1 h ∨ HpAt w' p1 c1 q1 d1 (pnH h (nmB y j)) := .inr (hat19.below hb')
                  unfold Oper.wp
                  go_simp
                  try go_bits
                  exact hK _ _ (Below.refl _ _) (by first | rfl | (show Value.int _ _ = Value.int _ _; go_num; done) | (simp [valOf, *]; done) | (simp [valOf]; omega))
                · intro _ a' w' hb' hs hd hn Kc hK
                  have f95 : a'.tmps[95]?.getD undef = .slice (some ⟨bl, ol, none⟩) L.length cl := hd 1 95 (by first | rfl | decide | simp [Region.binds]) rfl (by decide) (by decide) rfl
                  have f96 : a'.tmps[96]?.getD undef = .int .i64 (t : Int) := hd 2 96 (by first | rfl | decide | simp [Region.binds]) rfl (by decide) (by decide) rfl
                  clear hs hd hn
                  rw [if_neg (by decide), if_neg (by decide)] at hK
                  have v4 := (hb'.cell (p := ⟨bl, ol + t, none⟩) l9).trans v9
                  obtain ⟨lA, a0, a1, a2, -, -, -⟩ := gA9.below hb'
                  obtain ⟨l0, x0, x1, x2, -, -, -⟩ := g09.below hb'
                  have hPa : HpAt w' p c q d h ∨ HpAt w' p c q d (pnH h (nmB y j)) := .inl (hat9.below hb')
                  have hPb : HpAt w' p1 c1 q1 d1 h ∨ HpAt w' p1 c1 q1 d1 (pnH h (nmB y j)) := .inr (hat19.below hb')
                  unfold Oper.wp
                  go_simp
                  try go_bits
                  exact hK _ _ (Below.refl _ _) (by first | rfl | (show Value.int _ _ = Value.int _ _; go_num; done) | (simp [valOf, *]; done) | (simp [valOf]; omega))
                · intro _ a' w' hb' hs hd hn Kc hK
                  have f97 : a'.tmps[97]?.getD undef = .pointer (some ⟨bl, ol + t, none⟩) := hd 3 97 (by first | rfl | decide | simp [Region.binds]) rfl (by decide) (by decide) rfl
                  clear hs hd hn
                  rw [if_neg (by decide), if_neg (by decide)] at hK
                  have v4 := (hb'.cell (p := ⟨bl, ol + t, none⟩) l9).trans v9
                  obtain ⟨lA, a0, a1, a2, -, -, -⟩ := gA9.below hb'
                  obtain ⟨l0, x0, x1, x2, -, -, -⟩ := g09.below hb'
                  have hPa : HpAt w' p c q d h ∨ HpAt w' p c q d (pnH h (nmB y j)) := .inl (hat9.below hb')
                  have hPb : HpAt w' p1 c1 q1 d1 h ∨ HpAt w' p1 c1 q1 d1 (pnH h (nmB y j)) := .inr (hat19.below hb')
                  unfold Oper.wp
                  go_simp
                  try go_bits
                  exact hK _ _ (Below.refl _ _) (by first | rfl | (show Value.int _ _ = Value.int _ _; go_num; done) | (simp [valOf, *]; done) | (simp [valOf]; omega))
                · intro _ a' w' hb' hs hd hn Kc hK
                  have f94 : a'.tmps[94]?.getD undef = .agg #[.slice p1 h.n c1, .slice q1 h.m d1, .bool h.b] := hd 0 94 (by first | rfl | decide | simp [Region.binds]) rfl (by decide) (by decide) rfl
                  have f98 : a'.tmps[98]?.getD undef = .int .i64 X := hd 4 98 (by first | rfl | decide | simp [Region.binds]) rfl (by decide) (by decide) rfl
                  clear hs hd hn
                  rw [if_neg (by decide), if_neg (by decide)] at hK
                  have v4 := (hb'.cell (p := ⟨bl, ol + t, none⟩) l9).trans v9
                  obtain ⟨lA, a0, a1, a2, -, -, -⟩ := gA9.below hb'
                  obtain ⟨l0, x0, x1, x2, -, -, -⟩ := g09.below hb'
                  have hPa : HpAt w' p c q d h ∨ HpAt w' p c q d (pnH h (nmB y j)) := .inl (hat9.below hb')
                  have hPb : HpAt w' p1 c1 q1 d1 h ∨ HpAt w' p1 c1 q1 d1 (pnH h (nmB y j)) := .inr (hat19.below hb')
                  unfold Oper.wp
                  go_simp
                  try go_bits
                  refine Calls.mono (hB2X _ (hat19.below hb')) ?_
                  rintro e w'' ⟨rfl, hb2⟩
                  exact hK _ _ hb2 rfl
                · intro _ a' w' hb' hs hd hn Kc hK
                  have f15 : a'.tmps[15]?.getD undef = .bool false := (hs 15 (by decide)).trans rfl
                  clear hs hd hn
                  rw [if_neg (by decide), if_neg (by decide)] at hK
                  have v4 := (hb'.cell (p := ⟨bl, ol + t, none⟩) l9).trans v9
                  obtain ⟨lA, a0, a1, a2, -, -, -⟩ := gA9.below hb'
                  obtain ⟨l0, x0, x1, x2, -, -, -⟩ := g09.below hb'
                  have hPa : HpAt w' p c q d h ∨ HpAt w' p c q d (pnH h (nmB y j)) := .inl (hat9.below hb')
                  have hPb : HpAt w' p1 c1 q1 d1 h ∨ HpAt w' p1 c1 q1 d1 (pnH h (nmB y j)) := .inr (hat19.below hb')
                  unfold Oper.wp
                  go_simp
                  try go_bits
                  exact hK _ _ (Below.refl _ _) (by first | rfl | (show Value.int _ _ = Value.int _ _; go_num; done) | (simp [valOf, *]; done) | (simp [valOf]; omega))
                · intro _ a' w' hb' hs hd hn Kc hK
                  have f100 : a'.tmps[100]?.getD undef = .bool false := hd 6 100 (by first | rfl | decide | simp [Region.binds]) rfl (by decide) (by decide) rfl
                  clear hs hd hn
                  rw [if_neg (by decide), if_neg (by decide)] at hK
                  have v4 := (hb'.cell (p := ⟨bl, ol + t, none⟩) l9).trans v9
                  obtain ⟨lA, a0, a1, a2, -, -, -⟩ := gA9.below hb'
                  obtain ⟨l0, x0, x1, x2, -, -, -⟩ := g09.below hb'
                  have hPa : HpAt w' p c q d h ∨ HpAt w' p c q d (pnH h (nmB y j)) := .inl (hat9.below hb')
                  have hPb : HpAt w' p1 c1 q1 d1 h ∨ HpAt w' p1 c1 q1 d1 (pnH h (nmB y j)) := .inr (hat19.below hb')
                  unfold Oper.wp
                  go_simp
                  try go_bits
                  exact hK _ _ (Below.refl _ _) (by first | rfl | (show Value.int _ _ = Value.int _ _; go_num; done) | (simp [valOf, *]; done) | (simp [valOf]; omega))
                · intro _ a' w' hb' hs hd hn Kc hK
                  have f13 : a'.tmps[13]?.getD undef = .bool NB := (hs 13 (by decide)).trans rfl
                  clear hs hd hn
                  rw [if_neg (by decide), if_neg (by decide)] at hK
                  have v4 := (hb'.cell (p := ⟨bl, ol + t, none⟩) l9).trans v9
                  obtain ⟨lA, a0, a1, a2, -, -, -⟩ := gA9.below hb'
                  obtain ⟨l0, x0, x1, x2, -, -, -⟩ := g09.below hb'
                  have hPa : HpAt w' p c q d h ∨ HpAt w' p c q d (pnH h (nmB y j)) := .inl (hat9.below hb')
                  have hPb : HpAt w' p1 c1 q1 d1 h ∨ HpAt w' p1 c1 q1 d1 (pnH h (nmB y j)) := .inr (hat19.below hb')
                  unfold Oper.wp
                  go_simp
                  try go_bits
                  exact hK _ _ (Below.refl _ _) (by first | rfl | (show Value.int _ _ = Value.int _ _; go_num; done) | (simp [valOf, *]; done) | (simp [valOf]; omega))
                · intro _ a' w' hb' hs hd hn Kc hK
                  have f101 : a'.tmps[101]?.getD undef = .bool false := hd 7 101 (by first | rfl | decide | simp [Region.binds]) rfl (by decide) (by decide) rfl
                  have f102 : a'.tmps[102]?.getD undef = .bool NB := hd 8 102 (by first | rfl | decide | simp [Region.binds]) rfl (by decide) (by decide) rfl
                  clear hs hd hn
                  rw [if_neg (by decide), if_neg (by decide)] at hK
                  have v4 := (hb'.cell (p := ⟨bl, ol + t, none⟩) l9).trans v9
                  obtain ⟨lA, a0, a1, a2, -, -, -⟩ := gA9.below hb'
                  obtain ⟨l0, x0, x1, x2, -, -, -⟩ := g09.below hb'
                  have hPa : HpAt w' p c q d h ∨ HpAt w' p c q d (pnH h (nmB y j)) := .inl (hat9.below hb')
                  have hPb : HpAt w' p1 c1 q1 d1 h ∨ HpAt w' p1 c1 q1 d1 (pnH h (nmB y j)) := .inr (hat19.below hb')
                  unfold Oper.wp
                  go_simp
                  try go_bits
                  exact hK _ _ (Below.refl _ _) (by first | rfl | (show Value.int _ _ = Value.int _ _; go_num; done) | (simp [valOf, *]; done) | (simp [valOf]; omega))
                · intro _ a' w' hb' hs hd hn Kc hK
                  have f99 : a'.tmps[99]?.getD undef = .bool NB := hd 5 99 (by first | rfl | decide | simp [Region.binds]) rfl (by decide) (by decide) rfl
                  have f103 : a'.tmps[103]?.getD undef = .bool NB := hd 9 103 (by first | rfl | decide | simp [Region.binds]) rfl (by decide) (by decide) rfl
                  clear hs hd hn
                  rw [if_neg (by decide), if_neg (by decide)] at hK
                  have v4 := (hb'.cell (p := ⟨bl, ol + t, none⟩) l9).trans v9
                  obtain ⟨lA, a0, a1, a2, -, -, -⟩ := gA9.below hb'
                  obtain ⟨l0, x0, x1, x2, -, -, -⟩ := g09.below hb'
                  have hPa : HpAt w' p c q d h ∨ HpAt w' p c q d (pnH h (nmB y j)) := .inl (hat9.below hb')
                  have hPb : HpAt w' p1 c1 q1 d1 h ∨ HpAt w' p1 c1 q1 d1 (pnH h (nmB y j)) := .inr (hat19.below hb')
                  unfold Oper.wp
                  go_simp
                  try go_bits
                  exact hK _ _ (Below.refl _ _) (by first | rfl | (show Value.int _ _ = Value.int _ _; go_num; done) | (simp [valOf, *]; done) | (simp [valOf]; omega))
                · intro _ a' w' hb' hs hd hn Kc hK
                  have f104 : a'.tmps[104]?.getD undef = .bool false := hd 10 104 (by first | rfl | decide | simp [Region.binds]) rfl (by decide) (by decide) rfl
                  clear hs hd hn
                  rw [if_neg (by decide), if_neg (by decide)] at hK
                  have v4 := (hb'.cell (p := ⟨bl, ol + t, none⟩) l9).trans v9
                  obtain ⟨lA, a0, a1, a2, -, -, -⟩ := gA9.below hb'
                  obtain ⟨l0, x0, x1, x2, -, -, -⟩ := g09.below hb'
                  have hPa : HpAt w' p c q d h ∨ HpAt w' p c q d (pnH h (nmB y j)) := .inl (hat9.below hb')
                  have hPb : HpAt w' p1 c1 q1 d1 h ∨ HpAt w' p1 c1 q1 d1 (pnH h (nmB y j)) := .inr (hat19.below hb')
                  unfold Oper.wp
                  go_simp
                  try go_bits
                  exact hK _ _ (Below.refl _ _) (by first | rfl | (show Value.int _ _ = Value.int _ _; go_num; done) | (simp [valOf, *]; done) | (simp [valOf]; omega))
                · intro _ a' w' hb' hs hd hn Kc hK
                  have f3 : a'.tmps[3]?.getD undef = .pointer (some ⟨w.heap.size, 0, none⟩) := (hs 3 (by decide)).trans rfl
                  clear hs hd hn
                  rw [if_neg (by decide), if_neg (by decide)] at hK
                  have v4 := (hb'.cell (p := ⟨bl, ol + t, none⟩) l9).trans v9
                  obtain ⟨lA, a0, a1, a2, -, -, -⟩ := gA9.below hb'
                  obtain ⟨l0, x0, x1, x2, -, -, -⟩ := g09.below hb'
                  have hPa : HpAt w' p c q d h ∨ HpAt w' p c q d (pnH h (nmB y j)) := .inl (hat9.below hb')
                  have hPb : HpAt w' p1 c1 q1 d1 h ∨ HpAt w' p1 c1 q1 d1 (pnH h (nmB y j)) := .inr (hat19.below hb')
                  unfold Oper.wp
                  go_simp
                  try go_bits
                  exact hK _ _ (Below.refl _ _) (by first | rfl | (show Value.int _ _ = Value.int _ _; go_num; done) | (simp [valOf, *]; done) | (simp [valOf]; omega))
                · intro _ a' w' hb' hs hd hn Kc hK
                  have f10 : a'.tmps[10]?.getD undef = .slice (some ⟨bl, ol, none⟩) L.length cl := (hs 10 (by decide)).trans rfl
                  clear hs hd hn
                  rw [if_neg (by decide), if_neg (by decide)] at hK
                  have v4 := (hb'.cell (p := ⟨bl, ol + t, none⟩) l9).trans v9
                  obtain ⟨lA, a0, a1, a2, -, -, -⟩ := gA9.below hb'
                  obtain ⟨l0, x0, x1, x2, -, -, -⟩ := g09.below hb'
                  have hPa : HpAt w' p c q d h ∨ HpAt w' p c q d (pnH h (nmB y j)) := .inl (hat9.below hb')
                  have hPb : HpAt w' p1 c1 q1 d1 h ∨ HpAt w' p1 c1 q1 d1 (pnH h (nmB y j)) := .inr (hat19.below hb')
                  unfold Oper.wp
                  go_simp
                  try go_bits
                  exact hK _ _ (Below.refl _ _) (by first | rfl | (show Value.int _ _ = Value.int _ _; go_num; done) | (simp [valOf, *]; done) | (simp [valOf]; omega))
                · intro _ a' w' hb' hs hd hn Kc hK
                  have f12 : a'.tmps[12]?.getD undef = .int .i64 (t : Int) := (hs 12 (by decide)).trans rfl
                  clear hs hd hn
                  rw [if_neg (by decide), if_neg (by decide)] at hK
                  have v4 := (hb'.cell (p := ⟨bl, ol + t, none⟩) l9).trans v9
                  obtain ⟨lA, a0, a1, a2, -, -, -⟩ := gA9.below hb'
                  obtain ⟨l0, x0, x1, x2, -, -, -⟩ := g09.below hb'
                  have hPa : HpAt w' p c q d h ∨ HpAt w' p c q d (pnH h (nmB y j)) := .inl (hat9.below hb')
                  have hPb : HpAt w' p1 c1 q1 d1 h ∨ HpAt w' p1 c1 q1 d1 (pnH h (nmB y j)) := .inr (hat19.below hb')
                  unfold Oper.wp
                  go_simp
                  try go_bits
                  exact hK _ _ (Below.refl _ _) (by first | rfl | (show Value.int _ _ = Value.int _ _; go_num; done) | (simp [valOf, *]; done) | (simp [valOf]; omega))
                · intro _ a' w' hb' hs hd hn Kc hK
                  have f107 : a'.tmps[107]?.getD undef = .slice (some ⟨bl, ol, none⟩) L.length cl := hd 13 107 (by first | rfl | decide | simp [Region.binds]) rfl (by decide) (by decide) rfl
                  have f108 : a'.tmps[108]?.getD undef = .int .i64 (t : Int) := hd 14 108 (by first | rfl | decide | simp [Region.binds]) rfl (by decide) (by decide) rfl
                  clear hs hd hn
                  rw [if_neg (by decide), if_neg (by decide)] at hK
                  have v4 := (hb'.cell (p := ⟨bl, ol + t, none⟩) l9).trans v9
                  obtain ⟨lA, a0, a1, a2, -, -, -⟩ := gA9.below hb'
                  obtain ⟨l0, x0, x1, x2, -, -, -⟩ := g09.below hb'
                  have hPa : HpAt w' p c q d h ∨ HpAt w' p c q d (pnH h (nmB y j)) := .inl (hat9.below hb')
                  have hPb : HpAt w' p1 c1 q1 d1 h ∨ HpAt w' p1 c1 q1 d1 (pnH h (nmB y j)) := .inr (hat19.below hb')
                  unfold Oper.wp
                  go_simp
                  try go_bits
                  exact hK _ _ (Below.refl _ _) (by first | rfl | (show Value.int _ _ = Value.int _ _; go_num; done) | (simp [valOf, *]; done) | (simp [valOf]; omega))
                · intro _ a' w' hb' hs hd hn Kc hK
                  have f109 : a'.tmps[109]?.getD undef = .pointer (some ⟨bl, ol + t, none⟩) := hd 15 109 (by first | rfl | decide | simp [Region.binds]) rfl (by decide) (by decide) rfl
                  clear hs hd hn
                  rw [if_neg (by decide), if_neg (by decide)] at hK
                  have v4 := (hb'.cell (p := ⟨bl, ol + t, none⟩) l9).trans v9
                  obtain ⟨lA, a0, a1, a2, -, -, -⟩ := gA9.below hb'
                  obtain ⟨l0, x0, x1, x2, -, -, -⟩ := g09.below hb'
                  have hPa : HpAt w' p c q d h ∨ HpAt w' p c q d (pnH h (nmB y j)) := .inl (hat9.below hb')
                  have hPb : HpAt w' p1 c1 q1 d1 h ∨ HpAt w' p1 c1 q1 d1 (pnH h (nmB y j)) := .inr (hat19.below hb')
                  unfold Oper.wp
                  go_simp
                  try go_bits
                  exact hK _ _ (Below.refl _ _) (by first | rfl | (show Value.int _ _ = Value.int _ _; go_num; done) | (simp [valOf, *]; done) | (simp [valOf]; omega))
                · intro _ a' w' hb' hs hd hn Kc hK
                  have f106 : a'.tmps[106]?.getD undef = .agg #[.slice p h.n c, .slice q h.m d, .bool h.b] := hd 12 106 (by first | rfl | decide | simp [Region.binds]) rfl (by decide) (by decide) rfl
                  have f110 : a'.tmps[110]?.getD undef = .int .i64 X := hd 16 110 (by first | rfl | decide | simp [Region.binds]) rfl (by decide) (by decide) rfl
                  clear hs hd hn
                  rw [if_neg (by decide), if_neg (by decide)] at hK
                  have v4 := (hb'.cell (p := ⟨bl, ol + t, none⟩) l9).trans v9
                  obtain ⟨lA, a0, a1, a2, -, -, -⟩ := gA9.below hb'
                  obtain ⟨l0, x0, x1, x2, -, -, -⟩ := g09.below hb'
                  have hPa : HpAt w' p c q d h ∨ HpAt w' p c q d (pnH h (nmB y j)) := .inl (hat9.below hb')
                  have hPb : HpAt w' p1 c1 q1 d1 h ∨ HpAt w' p1 c1 q1 d1 (pnH h (nmB y j)) := .inr (hat19.below hb')
                  unfold Oper.wp
                  go_simp
                  try go_bits
                  refine Calls.mono (hRX _ _ _ _ _ (by assumption)) ?_
                  rintro e w'' ⟨pm, cm, rfl, hA, hb2⟩
                  exact hK _ _ hb2 ⟨_, _, rfl, hA⟩
                · intro _ a' w' hb' hs hd hn Kc hK
                  have f7 : a'.tmps[7]?.getD undef = .pointer (some ⟨B1, 0, none⟩) := (hs 7 (by decide)).trans rfl
                  clear hs hd hn
                  rw [if_neg (by decide), if_neg (by decide)] at hK
                  have v4 := (hb'.cell (p := ⟨bl, ol + t, none⟩) l9).trans v9
                  obtain ⟨lA, a0, a1, a2, -, -, -⟩ := gA9.below hb'
                  obtain ⟨l0, x0, x1, x2, -, -, -⟩ := g09.below hb'
                  have hPa : HpAt w' p c q d h ∨ HpAt w' p c q d (pnH h (nmB y j)) := .inl (hat9.below hb')
                  have hPb : HpAt w' p1 c1 q1 d1 h ∨ HpAt w' p1 c1 q1 d1 (pnH h (nmB y j)) := .inr (hat19.below hb')
                  unfold Oper.wp
                  go_simp
                  try go_bits
                  exact hK _ _ (Below.refl _ _) (by first | rfl | (show Value.int _ _ = Value.int _ _; go_num; done) | (simp [valOf, *]; done) | (simp [valOf]; omega))
                · intro _ a' w' hb' hs hd hn Kc hK
                  have f10 : a'.tmps[10]?.getD undef = .slice (some ⟨bl, ol, none⟩) L.length cl := (hs 10 (by decide)).trans rfl
                  clear hs hd hn
                  rw [if_neg (by decide), if_neg (by decide)] at hK
                  have v4 := (hb'.cell (p := ⟨bl, ol + t, none⟩) l9).trans v9
                  obtain ⟨lA, a0, a1, a2, -, -, -⟩ := gA9.below hb'
                  obtain ⟨l0, x0, x1, x2, -, -, -⟩ := g09.below hb'
                  have hPa : HpAt w' p c q d h ∨ HpAt w' p c q d (pnH h (nmB y j)) := .inl (hat9.below hb')
                  have hPb : HpAt w' p1 c1 q1 d1 h ∨ HpAt w' p1 c1 q1 d1 (pnH h (nmB y j)) := .inr (hat19.below hb')
                  unfold Oper.wp
                  go_simp
                  try go_bits
                  exact hK _ _ (Below.refl _ _) (by first | rfl | (show Value.int _ _ = Value.int _ _; go_num; done) | (simp [valOf, *]; done) | (simp [valOf]; omega))
                · intro _ a' w' hb' hs hd hn Kc hK
                  have f12 : a'.tmps[12]?.getD undef = .int .i64 (t : Int) := (hs 12 (by decide)).trans rfl
                  clear hs hd hn
                  rw [if_neg (by decide), if_neg (by decide)] at hK
                  have v4 := (hb'.cell (p := ⟨bl, ol + t, none⟩) l9).trans v9
                  obtain ⟨lA, a0, a1, a2, -, -, -⟩ := gA9.below hb'
                  obtain ⟨l0, x0, x1, x2, -, -, -⟩ := g09.below hb'
                  have hPa : HpAt w' p c q d h ∨ HpAt w' p c q d (pnH h (nmB y j)) := .inl (hat9.below hb')
                  have hPb : HpAt w' p1 c1 q1 d1 h ∨ HpAt w' p1 c1 q1 d1 (pnH h (nmB y j)) := .inr (hat19.below hb')
                  unfold Oper.wp
                  go_simp
                  try go_bits
                  exact hK _ _ (Below.refl _ _) (by first | rfl | (show Value.int _ _ = Value.int _ _; go_num; done) | (simp [valOf, *]; done) | (simp [valOf]; omega))
                · intro _ a' w' hb' hs hd hn Kc hK
                  have f113 : a'.tmps[113]?.getD undef = .slice (some ⟨bl, ol, none⟩) L.length cl := hd 19 113 (by first | rfl | decide | simp [Region.binds]) rfl (by decide) (by decide) rfl
                  have f114 : a'.tmps[114]?.getD undef = .int .i64 (t : Int) := hd 20 114 (by first | rfl | decide | simp [Region.binds]) rfl (by decide) (by decide) rfl
                  clear hs hd hn
                  rw [if_neg (by decide), if_neg (by decide)] at hK
                  have v4 := (hb'.cell (p := ⟨bl, ol + t, none⟩) l9).trans v9
                  obtain ⟨lA, a0, a1, a2, -, -, -⟩ := gA9.below hb'
                  obtain ⟨l0, x0, x1, x2, -, -, -⟩ := g09.below hb'
                  have hPa : HpAt w' p c q d h ∨ HpAt w' p c q d (pnH h (nmB y j)) := .inl (hat9.below hb')
                  have hPb : HpAt w' p1 c1 q1 d1 h ∨ HpAt w' p1 c1 q1 d1 (pnH h (nmB y j)) := .inr (hat19.below hb')
                  unfold Oper.wp
                  go_simp
                  try go_bits
                  exact hK _ _ (Below.refl _ _) (by first | rfl | (show Value.int _ _ = Value.int _ _; go_num; done) | (simp [valOf, *]; done) | (simp [valOf]; omega))
                · intro _ a' w' hb' hs hd hn Kc hK
                  have f115 : a'.tmps[115]?.getD undef = .pointer (some ⟨bl, ol + t, none⟩) := hd 21 115 (by first | rfl | decide | simp [Region.binds]) rfl (by decide) (by decide) rfl
                  clear hs hd hn
                  rw [if_neg (by decide), if_neg (by decide)] at hK
                  have v4 := (hb'.cell (p := ⟨bl, ol + t, none⟩) l9).trans v9
                  obtain ⟨lA, a0, a1, a2, -, -, -⟩ := gA9.below hb'
                  obtain ⟨l0, x0, x1, x2, -, -, -⟩ := g09.below hb'
                  have hPa : HpAt w' p c q d h ∨ HpAt w' p c q d (pnH h (nmB y j)) := .inl (hat9.below hb')
                  have hPb : HpAt w' p1 c1 q1 d1 h ∨ HpAt w' p1 c1 q1 d1 (pnH h (nmB y j)) := .inr (hat19.below hb')
                  unfold Oper.wp
                  go_simp
                  try go_bits
                  exact hK _ _ (Below.refl _ _) (by first | rfl | (show Value.int _ _ = Value.int _ _; go_num; done) | (simp [valOf, *]; done) | (simp [valOf]; omega))
                · intro _ a' w' hb' hs hd hn Kc hK
                  have f112 : a'.tmps[112]?.getD undef = .agg #[.slice p1 h.n c1, .slice q1 h.m d1, .bool h.b] := hd 18 112 (by first | rfl | decide | simp [Region.binds]) rfl (by decide) (by decide) rfl
                  have f116 : a'.tmps[116]?.getD undef = .int .i64 X := hd 22 116 (by first | rfl | decide | simp [Region.binds]) rfl (by decide) (by decide) rfl
                  clear hs hd hn
                  rw [if_neg (by decide), if_neg (by decide)] at hK
                  have v4 := (hb'.cell (p := ⟨bl, ol + t, none⟩) l9).trans v9
                  obtain ⟨lA, a0, a1, a2, -, -, -⟩ := gA9.below hb'
                  obtain ⟨l0, x0, x1, x2, -, -, -⟩ := g09.below hb'
                  have hPa : HpAt w' p c q d h ∨ HpAt w' p c q d (pnH h (nmB y j)) := .inl (hat9.below hb')
                  have hPb : HpAt w' p1 c1 q1 d1 h ∨ HpAt w' p1 c1 q1 d1 (pnH h (nmB y j)) := .inr (hat19.below hb')
                  unfold Oper.wp
                  go_simp
                  try go_bits
                  refine Calls.mono (hRX _ _ _ _ _ (by assumption)) ?_
                  rintro e w'' ⟨pm, cm, rfl, hA, hb2⟩
                  exact hK _ _ hb2 ⟨_, _, rfl, hA⟩
                · intro _ a' w' hb' hs hd hn Kc hK
                  obtain ⟨pm, cm, f111, hA⟩ := hd 17 111 (by first | rfl | decide | simp [Region.binds]) rfl (by decide) (by decide) rfl
                  obtain ⟨pm, cm, f117, hA⟩ := hd 23 117 (by first | rfl | decide | simp [Region.binds]) rfl (by decide) (by decide) rfl
                  clear hs hd hn
                  rw [if_neg (by decide), if_neg (by decide)] at hK
                  have v4 := (hb'.cell (p := ⟨bl, ol + t, none⟩) l9).trans v9
                  obtain ⟨lA, a0, a1, a2, -, -, -⟩ := gA9.below hb'
                  obtain ⟨l0, x0, x1, x2, -, -, -⟩ := g09.below hb'
                  have hPa : HpAt w' p c q d h ∨ HpAt w' p c q d (pnH h (nmB y j)) := .inl (hat9.below hb')
                  have hPb : HpAt w' p1 c1 q1 d1 h ∨ HpAt w' p1 c1 q1 d1 (pnH h (nmB y j)) := .inr (hat19.below hb')
                  unfold Oper.wp
                  go_simp
                  try go_bits
                  refine Calls.mono (hIs2 _ _ _ _ _ (by assumption) (by assumption)) ?_
                  rintro e w'' ⟨rfl, hb2⟩
                  exact hK _ _ hb2 rfl
                · intro _ a' w' hb' hs hd hn Kc hK
                  have f118 : a'.tmps[118]?.getD undef = .bool true := hd 24 118 (by first | rfl | decide | simp [Region.binds]) rfl (by decide) (by decide) rfl
                  clear hs hd hn
                  rw [if_neg (by decide), if_neg (by decide)] at hK
                  have v4 := (hb'.cell (p := ⟨bl, ol + t, none⟩) l9).trans v9
                  obtain ⟨lA, a0, a1, a2, -, -, -⟩ := gA9.below hb'
                  obtain ⟨l0, x0, x1, x2, -, -, -⟩ := g09.below hb'
                  have hPa : HpAt w' p c q d h ∨ HpAt w' p c q d (pnH h (nmB y j)) := .inl (hat9.below hb')
                  have hPb : HpAt w' p1 c1 q1 d1 h ∨ HpAt w' p1 c1 q1 d1 (pnH h (nmB y j)) := .inr (hat19.below hb')
                  unfold Oper.wp
                  go_simp
                  try go_bits
                  exact hK _ _ (Below.refl _ _) (by first | rfl | (show Value.int _ _ = Value.int _ _; go_num; done) | (simp [valOf, *]; done) | (simp [valOf]; omega))
                · intro _ a' w' hb' hs hd hn Kc hK
                  have f105 : a'.tmps[105]?.getD undef = .bool false := hd 11 105 (by first | rfl | decide | simp [Region.binds]) rfl (by decide) (by decide) rfl
                  have f119 : a'.tmps[119]?.getD undef = .bool false := hd 25 119 (by first | rfl | decide | simp [Region.binds]) rfl (by decide) (by decide) rfl
                  clear hs hd hn
                  rw [if_neg (by decide), if_neg (by decide)] at hK
                  have v4 := (hb'.cell (p := ⟨bl, ol + t, none⟩) l9).trans v9
                  obtain ⟨lA, a0, a1, a2, -, -, -⟩ := gA9.below hb'
                  obtain ⟨l0, x0, x1, x2, -, -, -⟩ := g09.below hb'
                  have hPa : HpAt w' p c q d h ∨ HpAt w' p c q d (pnH h (nmB y j)) := .inl (hat9.below hb')
                  have hPb : HpAt w' p1 c1 q1 d1 h ∨ HpAt w' p1 c1 q1 d1 (pnH h (nmB y j)) := .inr (hat19.below hb')
                  unfold Oper.wp
                  go_simp
                  try go_bits
                  exact hK _ _ (Below.refl _ _) (by first | rfl | (show Value.int _ _ = Value.int _ _; go_num; done) | (simp [valOf, *]; done) | (simp [valOf]; omega))
              intro Xf g w' hX hb hv
              have q120 : Xf 120 = .bool false := hv 26 120 rfl rfl (by decide) (by decide)
              clear hX hv
              simp only [List.map_cons, List.map_nil, q120, puts, Act.put, Nat.reduceAdd, List.setIfInBounds_toArray, List.set_cons_succ, List.set_cons_zero]
              have hb10 := bjoin hb hb9
              have gG : TBox 28 (B1 + 1) #[.int .i64 r, .slice pr1 Sn cr1] w' := gA'.below hb10
              have hgI := (hg1.below hb10).ints
              have v10 := (hb.cell (p := ⟨bl, ol + t, none⟩) l9).trans v9
              have l10 := Nat.lt_of_lt_of_le l9 hb.size
              have hgn := hg1.nle
              clear hb hb9 g09 gA9 hat9 hat19 v9 l9 hB2X hRX hIs2
              generalize w' = w10 at *
              cases NB
              · have e2 : C1 = C := by rw [e1]; simp
                go_wp2
                go_roundg (L.length - (t + 1))
                case measure => omega
                case rel => exact ⟨t + 1, by omega, rfl, by go_num, by rw [hE1, e2], hb10⟩
              · have e2 : (C1 : Int) = (C : Int) + 1 := by rw [e1]; simp
                have e2' : Hid ((C1 : Int) = (C : Int) + 1) := e2
                have hInX := fun W (hW : Ints .i64 W pr1 Sn Sz') => rin8_any pr1 Sn cr1 Sz' X W hW hgn
                have hio : (inZ Sn Sz' X = true) ∨ (inZ Sn Sz' X = false ∧ So = true) := by
                  cases hs : So
                  · left
                    rw [inZ_iff]
                    exact hin1 hs hWB rfl
                  · cases inZ Sn Sz' X
                    · exact .inr ⟨rfl, rfl⟩
                    · exact .inl rfl
                obtain ⟨lG, y0, y1⟩ : B1 + 1 < w10.heap.size ∧ w10.cell? ⟨B1 + 1, 0, none⟩ = some (.int .i64 r) ∧ w10.cell? ⟨B1 + 1, 1, none⟩ = some (.slice pr1 Sn cr1) := ⟨gG.lt, gG.cell 0, gG.cell 1⟩
                clear e2 e1 gG
                rcases hio with hi | ⟨hi, rfl⟩
                all_goals
                  rw [hi] at hInX
                  go_upto_region 21 with fail
                  refine wp_region_plus (by kernel_rfl) (by kernel_rfl) fun hpc => ?_
                  repeat (first | go_big_quiet_step ((first | (go_at_call 15; exact quiet_plus (hInX _ (hgI.below (plus_below _ _)))))) | quiet_step ((first | (go_at_call 15; exact quiet_plus (hInX _ (hgI.below (plus_below _ _)))))))
                  refine wpQuiet_nil ?_
                  intro w' hbq
                  clear hpc
                  obtain ⟨hc, hf, hb, hz⟩ := bstep hbq (w := w10) (by go_grown)
                  try simp only [World.size_alloc, World.size_setCell, World.size_drew] at hc hf hz
                  have hb11 := bjoin hb hb10
                  clear hb hc hf hz
                  go_wp2
                  go_roundg (L.length - (t + 1))
                  case measure => omega
                  case rel => exact ⟨t + 1, by omega, rfl, by go_num, by rw [hE1, e2'.out], hb11⟩
            · rw [hWB] at hB2X e1
              simp only [Bool.true_or] at hB2X
              refine wp_late (ds := [some 94, some 95, some 96, some 97, some 98, some 99, some 100, some 101, some 102, some 103, some 104, some 105, some 106, some 107, some 108, some 109, some 110, some 111, some 112, some 113, some 114, some 115, some 116, some 117, some 118, some 119, some 120]) (ts := [94, 95, 96, 97, 98, 99, 100, 101, 102, 103, 104, 105, 106, 107, 108, 109, 110, 111, 112, 113, 114, 115, 116, 117, 118, 119, 120]) (pv := [(fun v _ => v = .agg #[.slice p1 h.n c1, .slice q1 h.m d1, .bool h.b]), (fun v _ => v = .slice (some ⟨bl, ol, none⟩) L.length cl), (fun v _ => v = .int .i64 (t : Int)), (fun v _ => v = .pointer (some ⟨bl, ol + t, none⟩)), (fun v _ => v = .int .i64 X), (fun v _ => v = .bool true), (fun v _ => v = .bool true), (fun v _ => v = .bool true), (fun _ _ => True), (fun v _ => v = .bool true), (fun v _ => v = .bool false), (fun v _ => v = .bool false), (fun v _ => v = .agg #[.slice p h.n c, .slice q h.m d, .bool h.b]), (fun v _ => v = .slice (some ⟨bl, ol, none⟩) L.length cl), (fun v _ => v = .int .i64 (t : Int)), (fun v _ => v = .pointer (some ⟨bl, ol + t, none⟩)), (fun v _ => v = .int .i64 X), RowV (R) (yR), (fun v _ => v = .agg #[.slice p1 h.n c1, .slice q1 h.m d1, .bool h.b]), (fun v _ => v = .slice (some ⟨bl, ol, none⟩) L.length cl), (fun v _ => v = .int .i64 (t : Int)), (fun v _ => v = .pointer (some ⟨bl, ol + t, none⟩)), (fun v _ => v = .int .i64 X), RowV (R) (yR), (fun v _ => v = .bool true), (fun v _ => v = .bool false), (fun v _ => v = .bool false)]) (skip := fun i => ([8] : List Nat).contains i) (ia := 1000) (is := 1000) (k := 121) (Shape := (fun _ _ => True)) (Full := (fun _ _ => True)) (by kernel_rfl) (by kernel_rfl) rfl rfl (by decide) (by decide) (by simp) ?_ (by decide) (fun _ _ _ _ _ => trivial) (fun _ _ _ _ _ => trivial) ?_ ?_ ?_ ?_
              · exact .inl rfl
              · exact ⟨fun _ _ _ h _ => h, fun _ _ _ h _ => h, fun _ _ _ h _ => h, fun _ _ _ h _ => h, fun _ _ _ h _ => h, fun _ _ _ h _ => h, fun _ _ _ h _ => h, fun _ _ _ h _ => h, fun _ _ _ h _ => h, fun _ _ _ h _ => h, fun _ _ _ h _ => h, fun _ _ _ h _ => h, fun _ _ _ h _ => h, fun _ _ _ h _ => h, fun _ _ _ h _ => h, fun _ _ _ h _ => h, fun _ _ _ h _ => h, fun _ _ _ h hb => h.below hb, fun _ _ _ h _ => h, fun _ _ _ h _ => h, fun _ _ _ h _ => h, fun _ _ _ h _ => h, fun _ _ _ h _ => h, fun _ _ _ h hb => h.below hb, fun _ _ _ h _ => h, fun _ _ _ h _ => h, fun _ _ _ h _ => h, trivial⟩
              · exact ⟨rfl, rfl, rfl, rfl, rfl, rfl, rfl, rfl, ⟨rfl, ⟨_, rfl⟩, by decide, by decide, fun _ _ h => h⟩, rfl, rfl, rfl, ⟨rfl, ⟨_, rfl⟩, by decide, by decide, fun _ _ h => h⟩, ⟨rfl, ⟨_, rfl⟩, by decide, by decide, fun _ _ h => h⟩, ⟨rfl, ⟨_, rfl⟩, by decide, by decide, fun _ _ h => h⟩, ⟨rfl, ⟨_, rfl⟩, by decide, by decide, fun _ _ h => h⟩, ⟨rfl, ⟨_, rfl⟩, by decide, by decide, fun _ _ h => h⟩, ⟨rfl, ⟨_, rfl⟩, by decide, by decide, fun _ _ h => h⟩, ⟨rfl, ⟨_, rfl⟩, by decide, by decide, fun _ _ h => h⟩, ⟨rfl, ⟨_, rfl⟩, by decide, by decide, fun _ _ h => h⟩, ⟨rfl, ⟨_, rfl⟩, by decide, by decide, fun _ _ h => h⟩, ⟨rfl, ⟨_, rfl⟩, by decide, by decide, fun _ _ h => h⟩, ⟨rfl, ⟨_, rfl⟩, by decide, by decide, fun _ _ h => h⟩, ⟨rfl, ⟨_, rfl⟩, by decide, by decide, fun _ _ h => h⟩, ⟨rfl, ⟨_, rfl⟩, by decide, by decide, fun _ _ h => h⟩, ⟨rfl, ⟨_, rfl⟩, by decide, by decide, fun _ _ h => h⟩, rfl, trivial⟩
              · refine ⟨?_, ?_, ?_, ?_, ?_, ?_, ?_, ?_, ?_, ?_, ?_, ?_, ?_, ?_, ?_, ?_, ?_, ?_, ?_, ?_, ?_, ?_, ?_, ?_, ?_, ?_, ?_, trivial⟩
                · intro _ a' w' hb' hs hd hn Kc hK
                  have f7 : a'.tmps[7]?.getD undef = .pointer (some ⟨B1, 0, none⟩) := (hs 7 (by decide)).trans rfl
                  clear hs hd hn
                  rw [if_neg (by decide), if_neg (by decide)] at hK
                  have v4 := (hb'.cell (p := ⟨bl, ol + t, none⟩) l9).trans v9
                  obtain ⟨lA, a0, a1, a2, -, -, -⟩ := gA9.below hb'
                  obtain ⟨l0, x0, x1, x2, -, -, -⟩ := g09.below hb'
                  have hPa : HpAt w' p c q d h ∨ HpAt w' p c q d (pnH h (nmB y j)) := .inl (hat9.below hb')
                  have hPb : HpAt w' p1 c1 q1 d1 h ∨ HpAt w' p1 c1 q1 d1 (pnH h (nmB y j)) := .inr (hat19.below hb')
                  unfold Oper.wp
                  go_simp
                  try go_bits
                  exact hK _ _ (Below.refl _ _) (by first | rfl | (show Value.int _ _ = Value.int _ _; go_num; done) | (simp [valOf, *]; done) | (simp [valOf]; omega))
                · intro _ a' w' hb' hs hd hn Kc hK
                  have f10 : a'.tmps[10]?.getD undef = .slice (some ⟨bl, ol, none⟩) L.length cl := (hs 10 (by decide)).trans rfl
                  clear hs hd hn
                  rw [if_neg (by decide), if_neg (by decide)] at hK
                  have v4 := (hb'.cell (p := ⟨bl, ol + t, none⟩) l9).trans v9
                  obtain ⟨lA, a0, a1, a2, -, -, -⟩ := gA9.below hb'
                  obtain ⟨l0, x0, x1, x2, -, -, -⟩ := g09.below hb'
                  have hPa : HpAt w' p c q d h ∨ HpAt w' p c q d (pnH h (nmB y j)) := .inl (hat9.below hb')
                  have hPb : HpAt w' p1 c1 q1 d1 h ∨ HpAt w' p1 c1 q1 d1 (pnH h (nmB y j)) := .inr (hat19.below hb')
                  unfold Oper.wp
                  go_simp
                  try go_bits
                  exact hK _ _ (Below.refl _ _) (by first | rfl | (show Value.int _ _ = Value.int _ _; go_num; done) | (simp [valOf, *]; done) | (simp [valOf]; omega))
                · intro _ a' w' hb' hs hd hn Kc hK
                  have f12 : a'.tmps[12]?.getD undef = .int .i64 (t : Int) := (hs 12 (by decide)).trans rfl
                  clear hs hd hn
                  rw [if_neg (by decide), if_neg (by decide)] at hK
                  have v4 := (hb'.cell (p := ⟨bl, ol + t, none⟩) l9).trans v9
                  obtain ⟨lA, a0, a1, a2, -, -, -⟩ := gA9.below hb'
                  obtain ⟨l0, x0, x1, x2, -, -, -⟩ := g09.below hb'
                  have hPa : HpAt w' p c q d h ∨ HpAt w' p c q d (pnH h (nmB y j)) := .inl (hat9.below hb')
                  have hPb : HpAt w' p1 c1 q1 d1 h ∨ HpAt w' p1 c1 q1 d1 (pnH h (nmB y j)) := .inr (hat19.below hb')
                  unfold Oper.wp
                  go_simp
                  try go_bits
                  exact hK _ _ (Below.refl _ _) (by first | rfl | (show Value.int _ _ = Value.int _ _; go_num; done) | (simp [valOf, *]; done) | (simp [valOf]; omega))
                · intro _ a' w' hb' hs hd hn Kc hK
                  have f95 : a'.tmps[95]?.getD undef = .slice (some ⟨bl, ol, none⟩) L.length cl := hd 1 95 (by first | rfl | decide | simp [Region.binds]) rfl (by decide) (by decide) rfl
                  have f96 : a'.tmps[96]?.getD undef = .int .i64 (t : Int) := hd 2 96 (by first | rfl | decide | simp [Region.binds]) rfl (by decide) (by decide) rfl
                  clear hs hd hn
                  rw [if_neg (by decide), if_neg (by decide)] at hK
                  have v4 := (hb'.cell (p := ⟨bl, ol + t, none⟩) l9).trans v9
                  obtain ⟨lA, a0, a1, a2, -, -, -⟩ := gA9.below hb'
                  obtain ⟨l0, x0, x1, x2, -, -, -⟩ := g09.below hb'
                  have hPa : HpAt w' p c q d h ∨ HpAt w' p c q d (pnH h (nmB y j)) := .inl (hat9.below hb')
                  have hPb : HpAt w' p1 c1 q1 d1 h ∨ HpAt w' p1 c1 q1 d1 (pnH h (nmB y j)) := .inr (hat19.below hb')
                  unfold Oper.wp
                  go_simp
                  try go_bits
                  exact hK _ _ (Below.refl _ _) (by first | rfl | (show Value.int _ _ = Value.int _ _; go_num; done) | (simp [valOf, *]; done) | (simp [valOf]; omega))
                · intro _ a' w' hb' hs hd hn Kc hK
                  have f97 : a'.tmps[97]?.getD undef = .pointer (some ⟨bl, ol + t, none⟩) := hd 3 97 (by first | rfl | decide | simp [Region.binds]) rfl (by decide) (by decide) rfl
                  clear hs hd hn
                  rw [if_neg (by decide), if_neg (by decide)] at hK
                  have v4 := (hb'.cell (p := ⟨bl, ol + t, none⟩) l9).trans v9
                  obtain ⟨lA, a0, a1, a2, -, -, -⟩ := gA9.below hb'
                  obtain ⟨l0, x0, x1, x2, -, -, -⟩ := g09.below hb'
                  have hPa : HpAt w' p c q d h ∨ HpAt w' p c q d (pnH h (nmB y j)) := .inl (hat9.below hb')
                  have hPb : HpAt w' p1 c1 q1 d1 h ∨ HpAt w' p1 c1 q1 d1 (pnH h (nmB y j)) := .inr (hat19.below hb')
                  unfold Oper.wp
                  go_simp
                  try go_bits
                  exact hK _ _ (Below.refl _ _) (by first | rfl | (show Value.int _ _ = Value.int _ _; go_num; done) | (simp [valOf, *]; done) | (simp [valOf]; omega))
                · intro _ a' w' hb' hs hd hn Kc hK
                  have f94 : a'.tmps[94]?.getD undef = .agg #[.slice p1 h.n c1, .slice q1 h.m d1, .bool h.b] := hd 0 94 (by first | rfl | decide | simp [Region.binds]) rfl (by decide) (by decide) rfl
                  have f98 : a'.tmps[98]?.getD undef = .int .i64 X := hd 4 98 (by first | rfl | decide | simp [Region.binds]) rfl (by decide) (by decide) rfl
                  clear hs hd hn
                  rw [if_neg (by decide), if_neg (by decide)] at hK
                  have v4 := (hb'.cell (p := ⟨bl, ol + t, none⟩) l9).trans v9
                  obtain ⟨lA, a0, a1, a2, -, -, -⟩ := gA9.below hb'
                  obtain ⟨l0, x0, x1, x2, -, -, -⟩ := g09.below hb'
                  have hPa : HpAt w' p c q d h ∨ HpAt w' p c q d (pnH h (nmB y j)) := .inl (hat9.below hb')
                  have hPb : HpAt w' p1 c1 q1 d1 h ∨ HpAt w' p1 c1 q1 d1 (pnH h (nmB y j)) := .inr (hat19.below hb')
                  unfold Oper.wp
                  go_simp
                  try go_bits
                  refine Calls.mono (hB2X _ (hat19.below hb')) ?_
                  rintro e w'' ⟨rfl, hb2⟩
                  exact hK _ _ hb2 rfl
                · intro _ a' w' hb' hs hd hn Kc hK
                  have f15 : a'.tmps[15]?.getD undef = .bool true := (hs 15 (by decide)).trans rfl
                  clear hs hd hn
                  rw [if_neg (by decide), if_neg (by decide)] at hK
                  have v4 := (hb'.cell (p := ⟨bl, ol + t, none⟩) l9).trans v9
                  obtain ⟨lA, a0, a1, a2, -, -, -⟩ := gA9.below hb'
                  obtain ⟨l0, x0, x1, x2, -, -, -⟩ := g09.below hb'
                  have hPa : HpAt w' p c q d h ∨ HpAt w' p c q d (pnH h (nmB y j)) := .inl (hat9.below hb')
                  have hPb : HpAt w' p1 c1 q1 d1 h ∨ HpAt w' p1 c1 q1 d1 (pnH h (nmB y j)) := .inr (hat19.below hb')
                  unfold Oper.wp
                  go_simp
                  try go_bits
                  exact hK _ _ (Below.refl _ _) (by first | rfl | (show Value.int _ _ = Value.int _ _; go_num; done) | (simp [valOf, *]; done) | (simp [valOf]; omega))
                · intro _ a' w' hb' hs hd hn Kc hK
                  have f100 : a'.tmps[100]?.getD undef = .bool true := hd 6 100 (by first | rfl | decide | simp [Region.binds]) rfl (by decide) (by decide) rfl
                  clear hs hd hn
                  rw [if_neg (by decide), if_neg (by decide)] at hK
                  have v4 := (hb'.cell (p := ⟨bl, ol + t, none⟩) l9).trans v9
                  obtain ⟨lA, a0, a1, a2, -, -, -⟩ := gA9.below hb'
                  obtain ⟨l0, x0, x1, x2, -, -, -⟩ := g09.below hb'
                  have hPa : HpAt w' p c q d h ∨ HpAt w' p c q d (pnH h (nmB y j)) := .inl (hat9.below hb')
                  have hPb : HpAt w' p1 c1 q1 d1 h ∨ HpAt w' p1 c1 q1 d1 (pnH h (nmB y j)) := .inr (hat19.below hb')
                  unfold Oper.wp
                  go_simp
                  try go_bits
                  exact hK _ _ (Below.refl _ _) (by first | rfl | (show Value.int _ _ = Value.int _ _; go_num; done) | (simp [valOf, *]; done) | (simp [valOf]; omega))
                · exact fun h => absurd h (by decide)
                · intro _ a' w' hb' hs hd hn Kc hK
                  have f101 : a'.tmps[101]?.getD undef = .bool true := hd 7 101 (by first | rfl | decide | simp [Region.binds]) rfl (by decide) (by decide) rfl
                  clear hs hd hn
                  rw [if_neg (by decide), if_neg (by decide)] at hK
                  have v4 := (hb'.cell (p := ⟨bl, ol + t, none⟩) l9).trans v9
                  obtain ⟨lA, a0, a1, a2, -, -, -⟩ := gA9.below hb'
                  obtain ⟨l0, x0, x1, x2, -, -, -⟩ := g09.below hb'
                  have hPa : HpAt w' p c q d h ∨ HpAt w' p c q d (pnH h (nmB y j)) := .inl (hat9.below hb')
                  have hPb : HpAt w' p1 c1 q1 d1 h ∨ HpAt w' p1 c1 q1 d1 (pnH h (nmB y j)) := .inr (hat19.below hb')
                  unfold Oper.wp
                  go_simp
                  try go_bits
                  exact hK _ _ (Below.refl _ _) (by first | rfl | (show Value.int _ _ = Value.int _ _; go_num; done) | (simp [valOf, *]; done) | (simp [valOf]; omega))
                · intro _ a' w' hb' hs hd hn Kc hK
                  have f99 : a'.tmps[99]?.getD undef = .bool true := hd 5 99 (by first | rfl | decide | simp [Region.binds]) rfl (by decide) (by decide) rfl
                  have f103 : a'.tmps[103]?.getD undef = .bool true := hd 9 103 (by first | rfl | decide | simp [Region.binds]) rfl (by decide) (by decide) rfl
                  clear hs hd hn
                  rw [if_neg (by decide), if_neg (by decide)] at hK
                  have v4 := (hb'.cell (p := ⟨bl, ol + t, none⟩) l9).trans v9
                  obtain ⟨lA, a0, a1, a2, -, -, -⟩ := gA9.below hb'
                  obtain ⟨l0, x0, x1, x2, -, -, -⟩ := g09.below hb'
                  have hPa : HpAt w' p c q d h ∨ HpAt w' p c q d (pnH h (nmB y j)) := .inl (hat9.below hb')
                  have hPb : HpAt w' p1 c1 q1 d1 h ∨ HpAt w' p1 c1 q1 d1 (pnH h (nmB y j)) := .inr (hat19.below hb')
                  unfold Oper.wp
                  go_simp
                  try go_bits
                  exact hK _ _ (Below.refl _ _) (by first | rfl | (show Value.int _ _ = Value.int _ _; go_num; done) | (simp [valOf, *]; done) | (simp [valOf]; omega))
                · intro _ a' w' hb' hs hd hn Kc hK
                  have f104 : a'.tmps[104]?.getD undef = .bool false := hd 10 104 (by first | rfl | decide | simp [Region.binds]) rfl (by decide) (by decide) rfl
                  clear hs hd hn
                  rw [if_neg (by decide), if_neg (by decide)] at hK
                  have v4 := (hb'.cell (p := ⟨bl, ol + t, none⟩) l9).trans v9
                  obtain ⟨lA, a0, a1, a2, -, -, -⟩ := gA9.below hb'
                  obtain ⟨l0, x0, x1, x2, -, -, -⟩ := g09.below hb'
                  have hPa : HpAt w' p c q d h ∨ HpAt w' p c q d (pnH h (nmB y j)) := .inl (hat9.below hb')
                  have hPb : HpAt w' p1 c1 q1 d1 h ∨ HpAt w' p1 c1 q1 d1 (pnH h (nmB y j)) := .inr (hat19.below hb')
                  unfold Oper.wp
                  go_simp
                  try go_bits
                  exact hK _ _ (Below.refl _ _) (by first | rfl | (show Value.int _ _ = Value.int _ _; go_num; done) | (simp [valOf, *]; done) | (simp [valOf]; omega))
                · intro _ a' w' hb' hs hd hn Kc hK
                  have f3 : a'.tmps[3]?.getD undef = .pointer (some ⟨w.heap.size, 0, none⟩) := (hs 3 (by decide)).trans rfl
                  clear hs hd hn
                  rw [if_neg (by decide), if_neg (by decide)] at hK
                  have v4 := (hb'.cell (p := ⟨bl, ol + t, none⟩) l9).trans v9
                  obtain ⟨lA, a0, a1, a2, -, -, -⟩ := gA9.below hb'
                  obtain ⟨l0, x0, x1, x2, -, -, -⟩ := g09.below hb'
                  have hPa : HpAt w' p c q d h ∨ HpAt w' p c q d (pnH h (nmB y j)) := .inl (hat9.below hb')
                  have hPb : HpAt w' p1 c1 q1 d1 h ∨ HpAt w' p1 c1 q1 d1 (pnH h (nmB y j)) := .inr (hat19.below hb')
                  unfold Oper.wp
                  go_simp
                  try go_bits
                  exact hK _ _ (Below.refl _ _) (by first | rfl | (show Value.int _ _ = Value.int _ _; go_num; done) | (simp [valOf, *]; done) | (simp [valOf]; omega))
                · intro _ a' w' hb' hs hd hn Kc hK
                  have f10 : a'.tmps[10]?.getD undef = .slice (some ⟨bl, ol, none⟩) L.length cl := (hs 10 (by decide)).trans rfl
                  clear hs hd hn
                  rw [if_neg (by decide), if_neg (by decide)] at hK
                  have v4 := (hb'.cell (p := ⟨bl, ol + t, none⟩) l9).trans v9
                  obtain ⟨lA, a0, a1, a2, -, -, -⟩ := gA9.below hb'
                  obtain ⟨l0, x0, x1, x2, -, -, -⟩ := g09.below hb'
                  have hPa : HpAt w' p c q d h ∨ HpAt w' p c q d (pnH h (nmB y j)) := .inl (hat9.below hb')
                  have hPb : HpAt w' p1 c1 q1 d1 h ∨ HpAt w' p1 c1 q1 d1 (pnH h (nmB y j)) := .inr (hat19.below hb')
                  unfold Oper.wp
                  go_simp
                  try go_bits
                  exact hK _ _ (Below.refl _ _) (by first | rfl | (show Value.int _ _ = Value.int _ _; go_num; done) | (simp [valOf, *]; done) | (simp [valOf]; omega))
                · intro _ a' w' hb' hs hd hn Kc hK
                  have f12 : a'.tmps[12]?.getD undef = .int .i64 (t : Int) := (hs 12 (by decide)).trans rfl
                  clear hs hd hn
                  rw [if_neg (by decide), if_neg (by decide)] at hK
                  have v4 := (hb'.cell (p := ⟨bl, ol + t, none⟩) l9).trans v9
                  obtain ⟨lA, a0, a1, a2, -, -, -⟩ := gA9.below hb'
                  obtain ⟨l0, x0, x1, x2, -, -, -⟩ := g09.below hb'
                  have hPa : HpAt w' p c q d h ∨ HpAt w' p c q d (pnH h (nmB y j)) := .inl (hat9.below hb')
                  have hPb : HpAt w' p1 c1 q1 d1 h ∨ HpAt w' p1 c1 q1 d1 (pnH h (nmB y j)) := .inr (hat19.below hb')
                  unfold Oper.wp
                  go_simp
                  try go_bits
                  exact hK _ _ (Below.refl _ _) (by first | rfl | (show Value.int _ _ = Value.int _ _; go_num; done) | (simp [valOf, *]; done) | (simp [valOf]; omega))
                · intro _ a' w' hb' hs hd hn Kc hK
                  have f107 : a'.tmps[107]?.getD undef = .slice (some ⟨bl, ol, none⟩) L.length cl := hd 13 107 (by first | rfl | decide | simp [Region.binds]) rfl (by decide) (by decide) rfl
                  have f108 : a'.tmps[108]?.getD undef = .int .i64 (t : Int) := hd 14 108 (by first | rfl | decide | simp [Region.binds]) rfl (by decide) (by decide) rfl
                  clear hs hd hn
                  rw [if_neg (by decide), if_neg (by decide)] at hK
                  have v4 := (hb'.cell (p := ⟨bl, ol + t, none⟩) l9).trans v9
                  obtain ⟨lA, a0, a1, a2, -, -, -⟩ := gA9.below hb'
                  obtain ⟨l0, x0, x1, x2, -, -, -⟩ := g09.below hb'
                  have hPa : HpAt w' p c q d h ∨ HpAt w' p c q d (pnH h (nmB y j)) := .inl (hat9.below hb')
                  have hPb : HpAt w' p1 c1 q1 d1 h ∨ HpAt w' p1 c1 q1 d1 (pnH h (nmB y j)) := .inr (hat19.below hb')
                  unfold Oper.wp
                  go_simp
                  try go_bits
                  exact hK _ _ (Below.refl _ _) (by first | rfl | (show Value.int _ _ = Value.int _ _; go_num; done) | (simp [valOf, *]; done) | (simp [valOf]; omega))
                · intro _ a' w' hb' hs hd hn Kc hK
                  have f109 : a'.tmps[109]?.getD undef = .pointer (some ⟨bl, ol + t, none⟩) := hd 15 109 (by first | rfl | decide | simp [Region.binds]) rfl (by decide) (by decide) rfl
                  clear hs hd hn
                  rw [if_neg (by decide), if_neg (by decide)] at hK
                  have v4 := (hb'.cell (p := ⟨bl, ol + t, none⟩) l9).trans v9
                  obtain ⟨lA, a0, a1, a2, -, -, -⟩ := gA9.below hb'
                  obtain ⟨l0, x0, x1, x2, -, -, -⟩ := g09.below hb'
                  have hPa : HpAt w' p c q d h ∨ HpAt w' p c q d (pnH h (nmB y j)) := .inl (hat9.below hb')
                  have hPb : HpAt w' p1 c1 q1 d1 h ∨ HpAt w' p1 c1 q1 d1 (pnH h (nmB y j)) := .inr (hat19.below hb')
                  unfold Oper.wp
                  go_simp
                  try go_bits
                  exact hK _ _ (Below.refl _ _) (by first | rfl | (show Value.int _ _ = Value.int _ _; go_num; done) | (simp [valOf, *]; done) | (simp [valOf]; omega))
                · intro _ a' w' hb' hs hd hn Kc hK
                  have f106 : a'.tmps[106]?.getD undef = .agg #[.slice p h.n c, .slice q h.m d, .bool h.b] := hd 12 106 (by first | rfl | decide | simp [Region.binds]) rfl (by decide) (by decide) rfl
                  have f110 : a'.tmps[110]?.getD undef = .int .i64 X := hd 16 110 (by first | rfl | decide | simp [Region.binds]) rfl (by decide) (by decide) rfl
                  clear hs hd hn
                  rw [if_neg (by decide), if_neg (by decide)] at hK
                  have v4 := (hb'.cell (p := ⟨bl, ol + t, none⟩) l9).trans v9
                  obtain ⟨lA, a0, a1, a2, -, -, -⟩ := gA9.below hb'
                  obtain ⟨l0, x0, x1, x2, -, -, -⟩ := g09.below hb'
                  have hPa : HpAt w' p c q d h ∨ HpAt w' p c q d (pnH h (nmB y j)) := .inl (hat9.below hb')
                  have hPb : HpAt w' p1 c1 q1 d1 h ∨ HpAt w' p1 c1 q1 d1 (pnH h (nmB y j)) := .inr (hat19.below hb')
                  unfold Oper.wp
                  go_simp
                  try go_bits
                  refine Calls.mono (hRX _ _ _ _ _ (by assumption)) ?_
                  rintro e w'' ⟨pm, cm, rfl, hA, hb2⟩
                  exact hK _ _ hb2 ⟨_, _, rfl, hA⟩
                · intro _ a' w' hb' hs hd hn Kc hK
                  have f7 : a'.tmps[7]?.getD undef = .pointer (some ⟨B1, 0, none⟩) := (hs 7 (by decide)).trans rfl
                  clear hs hd hn
                  rw [if_neg (by decide), if_neg (by decide)] at hK
                  have v4 := (hb'.cell (p := ⟨bl, ol + t, none⟩) l9).trans v9
                  obtain ⟨lA, a0, a1, a2, -, -, -⟩ := gA9.below hb'
                  obtain ⟨l0, x0, x1, x2, -, -, -⟩ := g09.below hb'
                  have hPa : HpAt w' p c q d h ∨ HpAt w' p c q d (pnH h (nmB y j)) := .inl (hat9.below hb')
                  have hPb : HpAt w' p1 c1 q1 d1 h ∨ HpAt w' p1 c1 q1 d1 (pnH h (nmB y j)) := .inr (hat19.below hb')
                  unfold Oper.wp
                  go_simp
                  try go_bits
                  exact hK _ _ (Below.refl _ _) (by first | rfl | (show Value.int _ _ = Value.int _ _; go_num; done) | (simp [valOf, *]; done) | (simp [valOf]; omega))
                · intro _ a' w' hb' hs hd hn Kc hK
                  have f10 : a'.tmps[10]?.getD undef = .slice (some ⟨bl, ol, none⟩) L.length cl := (hs 10 (by decide)).trans rfl
                  clear hs hd hn
                  rw [if_neg (by decide), if_neg (by decide)] at hK
                  have v4 := (hb'.cell (p := ⟨bl, ol + t, none⟩) l9).trans v9
                  obtain ⟨lA, a0, a1, a2, -, -, -⟩ := gA9.below hb'
                  obtain ⟨l0, x0, x1, x2, -, -, -⟩ := g09.below hb'
                  have hPa : HpAt w' p c q d h ∨ HpAt w' p c q d (pnH h (nmB y j)) := .inl (hat9.below hb')
                  have hPb : HpAt w' p1 c1 q1 d1 h ∨ HpAt w' p1 c1 q1 d1 (pnH h (nmB y j)) := .inr (hat19.below hb')
                  unfold Oper.wp
                  go_simp
                  try go_bits
                  exact hK _ _ (Below.refl _ _) (by first | rfl | (show Value.int _ _ = Value.int _ _; go_num; done) | (simp [valOf, *]; done) | (simp [valOf]; omega))
                · intro _ a' w' hb' hs hd hn Kc hK
                  have f12 : a'.tmps[12]?.getD undef = .int .i64 (t : Int) := (hs 12 (by decide)).trans rfl
                  clear hs hd hn
                  rw [if_neg (by decide), if_neg (by decide)] at hK
                  have v4 := (hb'.cell (p := ⟨bl, ol + t, none⟩) l9).trans v9
                  obtain ⟨lA, a0, a1, a2, -, -, -⟩ := gA9.below hb'
                  obtain ⟨l0, x0, x1, x2, -, -, -⟩ := g09.below hb'
                  have hPa : HpAt w' p c q d h ∨ HpAt w' p c q d (pnH h (nmB y j)) := .inl (hat9.below hb')
                  have hPb : HpAt w' p1 c1 q1 d1 h ∨ HpAt w' p1 c1 q1 d1 (pnH h (nmB y j)) := .inr (hat19.below hb')
                  unfold Oper.wp
                  go_simp
                  try go_bits
                  exact hK _ _ (Below.refl _ _) (by first | rfl | (show Value.int _ _ = Value.int _ _; go_num; done) | (simp [valOf, *]; done) | (simp [valOf]; omega))
                · intro _ a' w' hb' hs hd hn Kc hK
                  have f113 : a'.tmps[113]?.getD undef = .slice (some ⟨bl, ol, none⟩) L.length cl := hd 19 113 (by first | rfl | decide | simp [Region.binds]) rfl (by decide) (by decide) rfl
                  have f114 : a'.tmps[114]?.getD undef = .int .i64 (t : Int) := hd 20 114 (by first | rfl | decide | simp [Region.binds]) rfl (by decide) (by decide) rfl
                  clear hs hd hn
                  rw [if_neg (by decide), if_neg (by decide)] at hK
                  have v4 := (hb'.cell (p := ⟨bl, ol + t, none⟩) l9).trans v9
                  obtain ⟨lA, a0, a1, a2, -, -, -⟩ := gA9.below hb'
                  obtain ⟨l0, x0, x1, x2, -, -, -⟩ := g09.below hb'
                  have hPa : HpAt w' p c q d h ∨ HpAt w' p c q d (pnH h (nmB y j)) := .inl (hat9.below hb')
                  have hPb : HpAt w' p1 c1 q1 d1 h ∨ HpAt w' p1 c1 q1 d1 (pnH h (nmB y j)) := .inr (hat19.below hb')
                  unfold Oper.wp
                  go_simp
                  try go_bits
                  exact hK _ _ (Below.refl _ _) (by first | rfl | (show Value.int _ _ = Value.int _ _; go_num; done) | (simp [valOf, *]; done) | (simp [valOf]; omega))
                · intro _ a' w' hb' hs hd hn Kc hK
                  have f115 : a'.tmps[115]?.getD undef = .pointer (some ⟨bl, ol + t, none⟩) := hd 21 115 (by first | rfl | decide | simp [Region.binds]) rfl (by decide) (by decide) rfl
                  clear hs hd hn
                  rw [if_neg (by decide), if_neg (by decide)] at hK
                  have v4 := (hb'.cell (p := ⟨bl, ol + t, none⟩) l9).trans v9
                  obtain ⟨lA, a0, a1, a2, -, -, -⟩ := gA9.below hb'
                  obtain ⟨l0, x0, x1, x2, -, -, -⟩ := g09.below hb'
                  have hPa : HpAt w' p c q d h ∨ HpAt w' p c q d (pnH h (nmB y j)) := .inl (hat9.below hb')
                  have hPb : HpAt w' p1 c1 q1 d1 h ∨ HpAt w' p1 c1 q1 d1 (pnH h (nmB y j)) := .inr (hat19.below hb')
                  unfold Oper.wp
                  go_simp
                  try go_bits
                  exact hK _ _ (Below.refl _ _) (by first | rfl | (show Value.int _ _ = Value.int _ _; go_num; done) | (simp [valOf, *]; done) | (simp [valOf]; omega))
                · intro _ a' w' hb' hs hd hn Kc hK
                  have f112 : a'.tmps[112]?.getD undef = .agg #[.slice p1 h.n c1, .slice q1 h.m d1, .bool h.b] := hd 18 112 (by first | rfl | decide | simp [Region.binds]) rfl (by decide) (by decide) rfl
                  have f116 : a'.tmps[116]?.getD undef = .int .i64 X := hd 22 116 (by first | rfl | decide | simp [Region.binds]) rfl (by decide) (by decide) rfl
                  clear hs hd hn
                  rw [if_neg (by decide), if_neg (by decide)] at hK
                  have v4 := (hb'.cell (p := ⟨bl, ol + t, none⟩) l9).trans v9
                  obtain ⟨lA, a0, a1, a2, -, -, -⟩ := gA9.below hb'
                  obtain ⟨l0, x0, x1, x2, -, -, -⟩ := g09.below hb'
                  have hPa : HpAt w' p c q d h ∨ HpAt w' p c q d (pnH h (nmB y j)) := .inl (hat9.below hb')
                  have hPb : HpAt w' p1 c1 q1 d1 h ∨ HpAt w' p1 c1 q1 d1 (pnH h (nmB y j)) := .inr (hat19.below hb')
                  unfold Oper.wp
                  go_simp
                  try go_bits
                  refine Calls.mono (hRX _ _ _ _ _ (by assumption)) ?_
                  rintro e w'' ⟨pm, cm, rfl, hA, hb2⟩
                  exact hK _ _ hb2 ⟨_, _, rfl, hA⟩
                · intro _ a' w' hb' hs hd hn Kc hK
                  obtain ⟨pm, cm, f111, hA⟩ := hd 17 111 (by first | rfl | decide | simp [Region.binds]) rfl (by decide) (by decide) rfl
                  obtain ⟨pm, cm, f117, hA⟩ := hd 23 117 (by first | rfl | decide | simp [Region.binds]) rfl (by decide) (by decide) rfl
                  clear hs hd hn
                  rw [if_neg (by decide), if_neg (by decide)] at hK
                  have v4 := (hb'.cell (p := ⟨bl, ol + t, none⟩) l9).trans v9
                  obtain ⟨lA, a0, a1, a2, -, -, -⟩ := gA9.below hb'
                  obtain ⟨l0, x0, x1, x2, -, -, -⟩ := g09.below hb'
                  have hPa : HpAt w' p c q d h ∨ HpAt w' p c q d (pnH h (nmB y j)) := .inl (hat9.below hb')
                  have hPb : HpAt w' p1 c1 q1 d1 h ∨ HpAt w' p1 c1 q1 d1 (pnH h (nmB y j)) := .inr (hat19.below hb')
                  unfold Oper.wp
                  go_simp
                  try go_bits
                  refine Calls.mono (hIs2 _ _ _ _ _ (by assumption) (by assumption)) ?_
                  rintro e w'' ⟨rfl, hb2⟩
                  exact hK _ _ hb2 rfl
                · intro _ a' w' hb' hs hd hn Kc hK
                  have f118 : a'.tmps[118]?.getD undef = .bool true := hd 24 118 (by first | rfl | decide | simp [Region.binds]) rfl (by decide) (by decide) rfl
                  clear hs hd hn
                  rw [if_neg (by decide), if_neg (by decide)] at hK
                  have v4 := (hb'.cell (p := ⟨bl, ol + t, none⟩) l9).trans v9
                  obtain ⟨lA, a0, a1, a2, -, -, -⟩ := gA9.below hb'
                  obtain ⟨l0, x0, x1, x2, -, -, -⟩ := g09.below hb'
                  have hPa : HpAt w' p c q d h ∨ HpAt w' p c q d (pnH h (nmB y j)) := .inl (hat9.below hb')
                  have hPb : HpAt w' p1 c1 q1 d1 h ∨ HpAt w' p1 c1 q1 d1 (pnH h (nmB y j)) := .inr (hat19.below hb')
                  unfold Oper.wp
                  go_simp
                  try go_bits
                  exact hK _ _ (Below.refl _ _) (by first | rfl | (show Value.int _ _ = Value.int _ _; go_num; done) | (simp [valOf, *]; done) | (simp [valOf]; omega))
                · intro _ a' w' hb' hs hd hn Kc hK
                  have f105 : a'.tmps[105]?.getD undef = .bool false := hd 11 105 (by first | rfl | decide | simp [Region.binds]) rfl (by decide) (by decide) rfl
                  have f119 : a'.tmps[119]?.getD undef = .bool false := hd 25 119 (by first | rfl | decide | simp [Region.binds]) rfl (by decide) (by decide) rfl
                  clear hs hd hn
                  rw [if_neg (by decide), if_neg (by decide)] at hK
                  have v4 := (hb'.cell (p := ⟨bl, ol + t, none⟩) l9).trans v9
                  obtain ⟨lA, a0, a1, a2, -, -, -⟩ := gA9.below hb'
                  obtain ⟨l0, x0, x1, x2, -, -, -⟩ := g09.below hb'
                  have hPa : HpAt w' p c q d h ∨ HpAt w' p c q d (pnH h (nmB y j)) := .inl (hat9.below hb')
                  have hPb : HpAt w' p1 c1 q1 d1 h ∨ HpAt w' p1 c1 q1 d1 (pnH h (nmB y j)) := .inr (hat19.below hb')
                  unfold Oper.wp
                  go_simp
                  try go_bits
                  exact hK _ _ (Below.refl _ _) (by first | rfl | (show Value.int _ _ = Value.int _ _; go_num; done) | (simp [valOf, *]; done) | (simp [valOf]; omega))
              intro Xf g w' hX hb hv
              have q120 : Xf 120 = .bool false := hv 26 120 rfl rfl (by decide) (by decide)
              clear hX hv
              simp only [List.map_cons, List.map_nil, q120, puts, Act.put, Nat.reduceAdd, List.setIfInBounds_toArray, List.set_cons_succ, List.set_cons_zero]
              have hb10 := bjoin hb hb9
              clear hb hb9 g09 gA9 hat9 hat19 v9 l9 hB2X hRX hIs2
              have e2 : C1 = C := by rw [e1]; simp
              go_wp2
              go_roundg (L.length - (t + 1))
              case measure => omega
              case rel => exact ⟨t + 1, by omega, rfl, by go_num, by rw [hE1, e2], hb10⟩
      · obtain rfl : t = L.length := by omega
        rw [List.take_length, ← hwh.out]
        have g1r := g1.below hbw
        have gGr : TBox 28 (B1 + 1) #[.int .i64 r, .slice pr1 Sn cr1] wr := gA'.below hbw
        obtain ⟨l1, x0, x1⟩ : w.heap.size + 1 < wr.heap.size ∧ wr.cell? ⟨w.heap.size + 1, 0, none⟩ = some (.int .i64 r) ∧ wr.cell? ⟨w.heap.size + 1, 1, none⟩ = some (.slice pr k cr) := ⟨g1r.lt, g1r.cell 0, g1r.cell 1⟩
        obtain ⟨lG, y0, y1⟩ : B1 + 1 < wr.heap.size ∧ wr.cell? ⟨B1 + 1, 0, none⟩ = some (.int .i64 r) ∧ wr.cell? ⟨B1 + 1, 1, none⟩ = some (.slice pr1 Sn cr1) := ⟨gGr.lt, gGr.cell 0, gGr.cell 1⟩
        have hWn : whN h (nmB y l) ≤ 512 := by rw [hwh.out]; exact Nat.le_trans List.countP_le_length (by omega)
        have hsn' := hsn.out
        have hso' := hso.out
        generalize whN h (nmB y l) = Wn at *
        have ed : So = decide ((Wn : Int) > r - k) := by
          rw [hso']
          exact decide_eq_decide.2 (by omega)
        have en : (Sn : Int) = k + min (Wn : Int) (r - k) := by
          rw [hsn']
          omega
        have hb8 := bjoin hbw hbW
        have wr1 : wrap64 (r - k) = r - k := by unfold wrap64; omega
        have hW0 : (0 : Int) ≤ Wn := by omega
        clear hsn hso hwh hsn' hso' g1r gGr hB1 hB2 hRe1 hRe2 hRl hCn hLm sdI hIs
        by_cases hov : (Wn : Int) > r - k
        · have e1 : So = true := by rw [ed]; simpa using hov
          have t1 : (Sn : Int) = k + (r - k) := by omega
          have t2 : decide (r - (k : Int) < Wn) = true := by simpa using hov
          have t3 : ¬ (Wn : Int) ≤ r - k := by omega
          have t4 : r - (k : Int) < Wn := by omega
          subst e1
          clear en ed hov
          go_wp2
          go_returns
          exact ⟨rfl, hb8⟩
        · have e1 : So = false := by rw [ed]; simpa using hov
          have t1 : (Sn : Int) = k + Wn := by omega
          have t2 : decide (r - (k : Int) < Wn) = false := by simpa using hov
          have t3 : ¬ r - (k : Int) < Wn := by omega
          have t4 : (Wn : Int) ≤ r - k := by omega
          subst e1
          clear en ed hov
          go_wp2
          go_returns
          exact ⟨rfl, hb8⟩
  · have hex : (formB h = false) ∨ (formB h = true ∧ apB h = false) ∨ (formB h = true ∧ apB h = true ∧ rightG r k z = false) ∨ (formB h = true ∧ apB h = true ∧ rightG r k z = true ∧ decide (100 < (l : Int)) = true) := by
      cases h1 : formB h with
      | false => exact .inl rfl
      | true =>
        cases h2 : apB h with
        | false => exact .inr (.inl ⟨rfl, rfl⟩)
        | true =>
          cases h3 : rightG r k z with
          | false => exact .inr (.inr (.inl ⟨rfl, rfl, rfl⟩))
          | true =>
            refine .inr (.inr (.inr ⟨rfl, rfl, rfl, ?_⟩))
            have : ¬ l ≤ 100 := fun e => hgo ⟨h1, h2, h3, e⟩
            simp
            omega
    clear hgo
    have hAp := fun (hF : formB h = true) W (hW : Below w0.heap.size w0 W) => rapart_any _ _ _ _ _ W (hat.below hW) hF
    rcases hex with e | ⟨e, e2⟩ | ⟨e, e2, e3⟩ | ⟨e, e2, e3, e4⟩
    · rw [e] at hFo
      clear hAp e
      go_enter Tryd.func3, Tryd.ntmps3
      go_upto_region 1 with fail
      rw [← hw0]
      clear hw0
      go_wp2_with (first
    | (go_at_call 6; refine Calls.mono (awake16_any _ (hS.below (by go_grown))) ?_; rintro e w' ⟨rfl, hb⟩; obtain ⟨hc, hf, hb, hz⟩ := bstep hb (w := w0) (by go_grown); try simp only [World.size_alloc, World.size_setCell, World.size_drew] at hc hf hz)
    | (go_at_call 7; refine Calls.mono (hFo _ (by go_grown)) ?_; rintro e w' ⟨rfl, hb⟩; obtain ⟨hc, hf, hb, hz⟩ := bstep hb (w := w0) (by go_grown); try simp only [World.size_alloc, World.size_setCell, World.size_drew] at hc hf hz)
      )
      go_returns
      exact ⟨rfl, bjoin hb hB0⟩
    · replace hAp := hAp e
      rw [e] at hFo
      rw [e2] at hAp
      clear e e2
      go_enter Tryd.func3, Tryd.ntmps3
      go_upto_region 1 with fail
      rw [← hw0]
      clear hw0
      go_wp2_with (first
    | (go_at_call 6; refine Calls.mono (awake16_any _ (hS.below (by go_grown))) ?_; rintro e w' ⟨rfl, hb⟩; obtain ⟨hc, hf, hb, hz⟩ := bstep hb (w := w0) (by go_grown); try simp only [World.size_alloc, World.size_setCell, World.size_drew] at hc hf hz)
    | (go_at_call 7; refine Calls.mono (hFo _ (by go_grown)) ?_; rintro e w' ⟨rfl, hb⟩; obtain ⟨hc, hf, hb, hz⟩ := bstep hb (w := w0) (by go_grown); try simp only [World.size_alloc, World.size_setCell, World.size_drew] at hc hf hz)
    | (go_at_call 8; refine Calls.mono (hAp _ (by go_grown)) ?_; rintro e w' ⟨rfl, hb⟩; obtain ⟨hc, hf, hb, hz⟩ := bstep hb (w := w0) (by go_grown); try simp only [World.size_alloc, World.size_setCell, World.size_drew] at hc hf hz)
      )
      go_returns
      exact ⟨rfl, bjoin hb hB0⟩
    all_goals
      replace hAp := hAp e
      rw [e] at hFo
      rw [e2] at hAp
      rw [e3] at hRi
      clear e e2 e3
      go_enter Tryd.func3, Tryd.ntmps3
      go_upto_region 1 with fail
      rw [← hw0]
      clear hw0
      go_wp2_with (first
    | (go_at_call 6; refine Calls.mono (awake16_any _ (hS.below (by go_grown))) ?_; rintro e w' ⟨rfl, hb⟩; obtain ⟨hc, hf, hb, hz⟩ := bstep hb (w := w0) (by go_grown); try simp only [World.size_alloc, World.size_setCell, World.size_drew] at hc hf hz)
    | (go_at_call 7; refine Calls.mono (hFo _ (by go_grown)) ?_; rintro e w' ⟨rfl, hb⟩; obtain ⟨hc, hf, hb, hz⟩ := bstep hb (w := w0) (by go_grown); try simp only [World.size_alloc, World.size_setCell, World.size_drew] at hc hf hz)
    | (go_at_call 8; refine Calls.mono (hAp _ (by go_grown)) ?_; rintro e w' ⟨rfl, hb⟩; obtain ⟨hc, hf, hb, hz⟩ := bstep hb (w := w0) (by go_grown); try simp only [World.size_alloc, World.size_setCell, World.size_drew] at hc hf hz)
    | (go_at_call 9; refine Calls.mono (hRi _ (by go_grown)) ?_; rintro e w' ⟨rfl, hb⟩; obtain ⟨hc, hf, hb, hz⟩ := bstep hb (w := w0) (by go_grown); try simp only [World.size_alloc, World.size_setCell, World.size_drew] at hc hf hz)
      )
      go_returns
      exact ⟨rfl, bjoin hb hB0⟩
namespace ShadeBlack
/-- What the row lists. -/
def lists : List (String × DataW Unit) := [("flotsam/class.sizes", Rows.laid_flotsam_class_sizes)]
set_option maxRecDepth 100000 in
theorem lifted (os : Os) (started : os.Started) (H : Type) (enc : TypeId × Value → H) :
    ReturnsInHanded {} Tryd.checked os 3 .any (fun w args => (Rows.shadeBlackSpec.pre enc Tryd.prog Tryd.f3 Rows.shadeBlackRow.domain false w args ∧ laidMetH Tryd.prog lists w) ∧ sizedMet enc Tryd.prog Tryd.f3 (OpenSpec.ofChange Rows.shadeBlackSpec) false w args) (Rows.shadeBlackSpec.post enc Tryd.prog Tryd.f3 false true false false) := by
  refine law_lifted_laid (C := Tryd.checked) seat_own started (by kernel_rfl) Tryd.func3 (by kernel_rfl) (of_decide_eq_true (by kernel_rfl)) rfl
    (fun ds hd => by have hd' : ds.length = 3 := hd; match ds, hd' with | [d0, d1, d2], _ => rfl) rfl Tryd.underlying4
    (ChangeSpec.witness_shaped (enc := enc) (C := Tryd.checked) (os := os) (X := fun w _ => laidMetH Tryd.prog lists w) false (World.laidAll Tryd.prog os lists) #[.agg #[.slice none 0 0, .slice none 0 0, .bool false], .agg #[.int .i64 0, .slice none 0 0], .slice none 0 0] 8 (World.laidAll_os _ _ _)
      (World.shaped_of_ZipB (by kernel_rfl) (by kernel_rfl)) (by kernel_rfl) (by kernel_rfl) (by kernel_rfl)
      (by rw [MakeChecks.laidMetH_plain _ _ _ (by kernel_rfl)]; exact laidMet_laidAll _ (by kernel_rfl) (by kernel_rfl))) ?_
  intro W base args ds p hval hA hlt hL
  have hS : Sz W := sizes_of hL (by kernel_rfl) rfl
  rw [Tryd.params3] at hA hval
  obtain ⟨v0, v1, v2, d0, d1, d2, p0, p1, p2, rfl, rfl, rfl, h0, h1, h2⟩ := trodAll_three hA
  obtain ⟨x0, q0, c0, s0, e0, rfl, hh0⟩ := open_heap Tryd.underlying25 (by kernel_rfl) (by kernel_rfl) Tryd.underlying22 (by kernel_rfl) (by kernel_rfl) Tryd.underlying23 Tryd.underlying50 (by kernel_rfl) (by kernel_rfl) (by kernel_rfl) (by kernel_rfl) (by kernel_rfl) (by kernel_rfl) (hval 0 25 v0 rfl rfl) h0
  obtain ⟨r1, q1, n1, c1, z1, rfl, hr1, hg1⟩ := open_grey Tryd.underlying28 (by kernel_rfl) (by kernel_rfl) (by kernel_rfl) Tryd.underlying26 (by kernel_rfl) (by kernel_rfl) (hval 1 28 v1 rfl rfl) h1
  obtain ⟨q2, n2, cap2, z2, rfl, hv2⟩ := open_vals Tryd.underlying29 Tryd.underlying38 (by kernel_rfl) (by kernel_rfl) (by kernel_rfl) (by kernel_rfl) (hval 2 29 v2 rfl rfl) h2
  exact black16_walk r1 q1 n1 c1 z1 q2 n2 cap2 z2 W hh0 hr1 hg1 hv2 hS

theorem row_holds : Rows.ShadeBlackSaid :=
  OpenClaim.holds_of_wide 3 Tryd.f3 rfl rfl rfl rfl rfl rfl rfl ⟨rfl, rfl, rfl, rfl, rfl⟩ rfl rfl rfl rfl rfl (by kernel_rfl) Tryd.func3 (by kernel_rfl)
    (of_decide_eq_true (by kernel_rfl)) (by unfold Func.isWrapper; first | (rw [if_pos (by decide +kernel)]; kernel_rfl) | (rw [if_neg (by decide +kernel)]; exact ⟨rfl, rfl⟩))
    (fun os started H enc _ => lifted os started H enc)
/-- The tied card. -/
theorem holds : Rows.ShadeBlackCardSaid :=
  Claim7.holds_tied_plain_at .later [] [.data] true (true, "6ef351fabaceb77f7170fd89529baea29d54cde26c4cce2a2406eb6ef4667159") false row_holds (fun _ h => by cases h) (by kernel_rfl) (fun _ h => by cases h) shadeBlack_row_tie rfl ⟨rfl, rfl⟩ (by kernel_rfl) rfl
    (fun f fn hf hfn => by
      obtain rfl : f = 3 := Option.some.inj ((show Tryd.prog.funcNamed "flotsam/flotsamlaw16.ShadeBlack" = some 3 by kernel_rfl).symm.trans hf) |>.symm
      obtain rfl : fn = Tryd.f3 := (Option.some.inj (Tryd.func3.symm.trans hfn)).symm
      exact ⟨by kernel_rfl, fun j t ht => by
        rw [Tryd.params3] at ht
        have hm : t ∈ [25, 28, 29] := by simpa using Array.mem_of_getElem? ht
        have hall : ([25, 28, 29].all fun u => !Tryd.prog.wantsStandIn u) = true := by kernel_rfl
        exact (show Tryd.prog.wantsStandIn t = false by simpa using List.all_eq_true.1 hall t hm)⟩)
    (by kernel_rfl)
#print axioms holds
end ShadeBlack
end Go.Proofs.YtokbggokkjefhaaDoor
