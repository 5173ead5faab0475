/- SnapTwice: two cycles begun one behind the other leave the heap as it was; with the mutators in the other order the same heap comes out, and what is reached from the roots is the same. No condition; the table that the code reads is tied to the program's text. -/
import Derived.Test.YtmbgodncagjncaaDoorA47
import Derived.Test.YtmbgodncagjncaaDoorA48
import Derived.Test.YtmbgodncagjncaaDoorA50
import Derived.Test.YtmbgodncagjncaaDoorA51
import Derived.Test.YtmbgodncagjncaaDoorRows
import Derived.Test.YtmbgodncagjncaaDoorCards
import Derived.Test.YtmbgodncagjncaaDoorTie
import Derived.SevenTiedAt
namespace Go.Proofs.YtmbgodncagjncaaDoor
set_option linter.unusedSimpArgs false
set_option linter.unusedVariables false
open Go.ChangeShapes Go.WideShapes Go.ChangeAt Go.RowKit Go.Joins

theorem two_hm {w w0 : World} {p : Option Addr} {n c : Nat} {q : Option Addr} {k d : Nat} {b : Bool} {x0 x1 x2 x3 x4 x5 x6 x7 : Value} (e : w0 = (w.alloc (.cells #[.slice p n c, .slice q k d, .bool b] 25)).alloc (.cells #[x0, x1, x2, x3, x4, x5, x6, x7] 37)) :
    TBox 25 w.heap.size #[.slice p n c, .slice q k d, .bool b] w0 ∧ TBox 37 (w.heap.size + 1) #[x0, x1, x2, x3, x4, x5, x6, x7] w0 ∧ Below w.heap.size w w0 := tbox_two e
theorem box_three {T g : Nat} {x0 x1 x2 : Value} {w : World} (h : TBox T g #[x0, x1, x2] w) : g < w.heap.size ∧ w.cell? ⟨g, 0, none⟩ = some x0 ∧ w.cell? ⟨g, 1, none⟩ = some x1 ∧ w.cell? ⟨g, 2, none⟩ = some x2 := ⟨h.lt, h.cell 0, h.cell 1, h.cell 2⟩
theorem box_five {T g : Nat} {x0 x1 x2 x3 x4 : Value} {w : World} (h : TBox T g #[x0, x1, x2, x3, x4] w) : g < w.heap.size ∧ w.cell? ⟨g, 0, none⟩ = some x0 ∧ w.cell? ⟨g, 1, none⟩ = some x1 ∧ w.cell? ⟨g, 2, none⟩ = some x2 ∧ w.cell? ⟨g, 3, none⟩ = some x3 ∧ w.cell? ⟨g, 4, none⟩ = some x4 := ⟨h.lt, h.cell 0, h.cell 1, h.cell 2, h.cell 3, h.cell 4⟩
/-- A cycle's beginning, of a heap by its three cells. -/
theorem sbegin_in {cG cB : Int} {p : Option Addr} {nn c : Nat} {q : Option Addr} {k d : Nat} {b : Bool} {h : Hp} {n : Nat} {z : Nat → Mu} {pm : Option Addr} {cm : Nat} {w : World} (hS : Sz w) (hG : 0 ≤ cG ∧ cG ≤ 16) (hB : 0 ≤ cB ∧ cB ≤ 16) (hh : HpIn w p nn c q k d b h) (hF : formB h = true) (hz : RAt MuC 13 w pm cm n z) (hn : n ≤ 10) (hst : ∀ i, i < n → (z i).n ≤ 20) :
    Calls Tryd.prog 9 #[.agg #[.int .i64 0, .int .i64 0, .int .i64 0, .int .i64 cG, .int .i64 cB], .agg #[.slice p nn c, .slice q k d, .bool b], .slice pm n cm] w fun e w' => ∃ p' c' q' d' pg cg pb cb pr cr, e = .returned (.tuple #[.agg #[.slice p' nn c', .slice q' k d', .bool (!b)], .agg #[.int .i64 cG, .slice pg 0 cg, .slice pb n cb, .slice pr (rootL h z n).length cr, .int .i64 (-1), .int .i64 0, .int .i64 (-1), .bool false]]) ∧
      HpIn w' p' nn c' q' k d' (!b) (flipB h) ∧ VAt w' pr cr (rootL h z n).length (lvF (rootL h z n)) ∧ Below w.heap.size w w' := by
  obtain ⟨rfl, rfl, rfl, ha⟩ := hh
  refine (sbegin_any 0 0 0 cG cB p c q d h n z pm cm w hS hG hB ha hF hz hn hst).mono ?_
  rintro e w' ⟨p', c', q', d', pg, cg, pb, cb, pr, cr, rfl, hI, hM, -, hb⟩
  exact ⟨p', c', q', d', pg, cg, pb, cb, pr, cr, rfl, hI, hM.r, hb⟩
theorem same_roots {h : Hp} {L L' : List Vl} (e : ∀ v, v ∈ L ↔ v ∈ L') : rcL h (vrL (lvF L) L.length) = rcL h (vrL (lvF L') L'.length) := by
  have key : ∀ {A B : List Vl}, (∀ v, v ∈ A → v ∈ B) → ∀ x, x ∈ vrL (lvF A) A.length → x ∈ vrL (lvF B) B.length := fun hAB x hx => by
    obtain ⟨v, hv, h1, h2⟩ := vrL_list.1 hx
    exact vrL_list.2 ⟨v, hAB v hv, h1, h2⟩
  unfold rcL
  congr 1
  funext a
  rw [decide_eq_decide]
  exact ⟨fun hr => hr.mono (key fun v => (e v).1), fun hr => hr.mono (key fun v => (e v).2)⟩
/-- Mutators whose stacks lie in older memory. -/
def MuF (w0 : World) (_ : World) (m : Mu) (L : List Value) : Prop := MuC w0 m L
theorem muF_rat {w0 w : World} {p : Option Addr} {c n : Nat} {z : Nat → Mu} (h : RAt (MuF w0) 13 w p c n z) (hb : Below w0.heap.size w0 w) : RAt MuC 13 w p c n z :=
  ⟨fun i hi => by
    obtain ⟨b, off, L, e, hl, hL, hc, hm⟩ := h.row i hi
    exact ⟨b, off, L, e, hl, hL, hc, muC_below _ _ _ _ hm hb⟩, h.nle, h.pnil, h.ncap⟩
set_option maxHeartbeats 16000000 in
set_option maxRecDepth 20000 in
theorem twice18_walk {p : Option Addr} {c : Nat} {q : Option Addr} {d : Nat} {h : Hp} (pm : Option Addr) (n cm : Nat) (z : Nat → Mu) (w : World) (hat : HpAt w p c q d h) (hz0 : RAt MuC 13 w pm cm n z) (hS : Sz w) :
    Calls Tryd.prog 6 #[.agg #[.slice p h.n c, .slice q h.m d, .bool h.b], .slice pm n cm] w fun e w' => e = .returned (.bool true) ∧ Below w.heap.size w w' := by
  obtain ⟨w0, hw0⟩ : ∃ w0, w0 = w.alloc (.cells #[.slice p h.n c, .slice q h.m d, .bool h.b] 25) := ⟨_, rfl⟩
  have gH : TBox 25 w.heap.size #[.slice p h.n c, .slice q h.m d, .bool h.b] w0 := by rw [hw0]; exact TBox.new _ _ _
  have hB0 : Below w.heap.size w w0 := by rw [hw0]; exact (Below.refl _ _).alloc (Nat.le_refl _) _
  replace hat := hat.below hB0
  replace hS := hS.below hB0
  replace hz0 := hz0.below muC_below hB0
  have hFi := fun W (hW : Below w0.heap.size w0 W) => fits18_any p c q d h n z pm cm W (hat.below hW) (hz0.below muC_below hW)
  obtain ⟨l0, x0, x1, x2⟩ := box_three gH
  by_cases hgo : (formB h && fewU z n) = true
  · have hgo' := hgo
    rw [Bool.and_eq_true] at hgo'
    obtain ⟨hF, hU⟩ := hgo'
    obtain ⟨hn, hst⟩ := few_u hU
    rw [hgo] at hFi
    have hF' : Hid (formB h = true) := hF
    clear hgo hU hF
    go_enter Tryd.func6, Tryd.ntmps6
    go_upto_region 1 with fail
    rw [← hw0]
    clear hw0
    go_upto_region 3 with (first
    | (go_at_call 7; refine Calls.mono (awake18_any _ (hS.below (by go_grown))) ?_; rintro e w' ⟨rfl, hb⟩; obtain ⟨hc, hf, hb, hz⟩ := bstep hb (w := w0) (by go_grown); try simp only [World.size_alloc, World.size_setCell, World.size_drew] at hc hf hz)
    | (go_at_call 8; refine Calls.mono (hFi _ (by go_grown)) ?_; rintro e w' ⟨rfl, hb⟩; obtain ⟨hc, hf, hb, hz⟩ := bstep hb (w := w0) (by go_grown); try simp only [World.size_alloc, World.size_setCell, World.size_drew] at hc hf hz)
    )
    have hbW := bjoin hb hB0
    have h4 := hat.below hb
    have hM := hz0.below muC_below hb
    replace gH := gH.below hb
    replace hS := hS.below hb
    obtain ⟨l0, x0, x1, x2⟩ := box_three gH
    clear hFi hat hz0 hB0
    have gC := TBox.new 30 w' #[.int .i64 0, .int .i64 0, .int .i64 0, .int .i64 3, .int .i64 2]
    have hbC : Below w'.heap.size w' (w'.alloc (.cells #[.int .i64 0, .int .i64 0, .int .i64 0, .int .i64 3, .int .i64 2] 30)) := (Below.refl _ _).alloc (Nat.le_refl _) _
    go_upto_region 4 with fail
    replace h4 := h4.below hbC
    replace hM := hM.below muC_below hbC
    replace gH := gH.below hbC
    replace hS := hS.below hbC
    replace hbW := bjoin hbC hbW
    generalize w'.alloc (.cells #[.int .i64 0, .int .i64 0, .int .i64 0, .int .i64 3, .int .i64 2] 30) = w3 at *
    clear hb hc hf hz x0 x1 x2 l0 hbC
    generalize w'.heap.size = BC at *
    obtain ⟨l0, x0, x1, x2⟩ := box_three gH
    obtain ⟨l1, y0, y1, y2, y3, y4⟩ := box_five gC
    go_upto_region 5 with (first
      | (go_at_call 9; refine Calls.mono (sbegin_in hS (by decide) (by decide) h4.in hF'.out hM hn hst) ?_; rintro e w5 ⟨p', c', q', d', pg, cg, pb, cb, pr, cr, rfl, hI, hV, hb5⟩)
    )
    have hrl0 : (rootL h z n).length ≤ 230 := by unfold rootL; rw [List.length_append]; have h1 := heldL_len (z := z) (n := n) hst; have := pendL_len h z n; omega
    obtain ⟨K, eK⟩ : ∃ K, K = (rootL h z n).length := ⟨_, rfl⟩
    obtain ⟨R, eR⟩ : ∃ R, R = rootL h z n := ⟨_, rfl⟩
    rw [← eR] at hV eK hrl0
    rw [← eK] at hV
    rw [← eR, ← eK]
    have hRe : Hid (R = rootL h z n) := eR
    have hKe : Hid (K = R.length) := eK
    clear eR eK
    obtain ⟨w6, hw6⟩ : ∃ W, W = (w5.alloc (.cells #[.slice p' h.n c', .slice q' h.m d', .bool (!h.b)] 25)).alloc (.cells #[.int .i64 3, .slice pg 0 cg, .slice pb n cb, .slice pr K cr, .int .i64 (-1), .int .i64 0, .int .i64 (-1), .bool false] 37) := ⟨_, rfl⟩
    obtain ⟨gA, gM, hb6⟩ := two_hm hw6
    rw [← hw6]
    have hb36 := hb5.trans (hb6.mono hb5.size)
    clear hw6 x0 x1 x2 l0 y0 y1 y2 y3 y4 l1
    replace h4 := h4.below hb36
    replace hM := hM.below muC_below hb36
    replace gH := gH.below hb36
    replace gC := gC.below hb36
    replace hS := hS.below hb36
    replace hbW := bjoin hb36 hbW
    replace hI := hI.below hb6
    replace hV := hV.below hb6
    clear hb5 hb6 hb36
    generalize w5.heap.size = BA at *
    obtain ⟨l0, x0, x1, x2⟩ := box_three gA
    obtain ⟨l1, y0, y1, y2, y3, y4⟩ := box_five gC
    have hFf : Hid (formB (flipB h) = true) := hF'
    have hBg2 := sbegin_in (cG := 3) (cB := 2) hS (by decide) (by decide) hI hFf.out hM hn hst
    rw [fl_fl, fl_root, Bool.not_not, ← hRe.out, ← hKe.out] at hBg2
    go_upto_region 6 with (first
      | (go_at_call 9; refine Calls.mono hBg2 ?_; rintro e w7 ⟨p2, c2, q2, d2, pg2, cg2, pb2, cb2, pr2, cr2, rfl, hI2, -, hb7⟩)
    )
    clear hBg2
    obtain ⟨w8, hw8⟩ : ∃ W, W = (w7.alloc (.cells #[.slice p2 h.n c2, .slice q2 h.m d2, .bool h.b] 25)).alloc (.cells #[.int .i64 3, .slice pg2 0 cg2, .slice pb2 n cb2, .slice pr2 K cr2, .int .i64 (-1), .int .i64 0, .int .i64 (-1), .bool false] 37) := ⟨_, rfl⟩
    obtain ⟨gB, -, hb8⟩ := two_hm hw8
    rw [← hw8]
    have hb68 := hb7.trans (hb8.mono hb7.size)
    clear hw8 x0 x1 x2 l0 y0 y1 y2 y3 y4 l1
    replace h4 := h4.below hb68
    replace hM := hM.below muC_below hb68
    replace gH := gH.below hb68
    replace gC := gC.below hb68
    replace gA := gA.below hb68
    replace gM := gM.below hb68
    replace hS := hS.below hb68
    replace hbW := bjoin hb68 hbW
    replace hI := hI.below hb68
    replace hV := hV.below hb68
    replace hI2 := hI2.below hb8
    clear hb7 hb8 hb68
    generalize w7.heap.size = BB at *
    obtain ⟨u0, hu0, hu1, hu2, hu3⟩ := info_parts mut_info
    go_upto_region 8 with fail
    go_loopg [10, 11] n (fun g ov iv wr => ∃ k : Nat, k ≤ n ∧ g = k ∧ iv = .int .i64 ((k : Int) - 1) ∧ GrowR w8.heap.size 49 13 (MuF w8) (n - k) (turM z n) ov wr ∧ Below w8.heap.size w8 wr)
    case atStart => exact ⟨n, by omega, rfl, by go_num, by rw [Nat.sub_self]; exact growR_nil _ _ _ _ _ _, Below.refl _ _⟩
    case round =>
      obtain ⟨k, kh, hgk, rfl, hGr, hbw⟩ := hrel
      have hsz := hbw.size
      by_cases hk : 0 < k
      · obtain ⟨j, rfl⟩ : ∃ j, k = j + 1 := ⟨k - 1, by omega⟩
        rw [show ((j + 1 : Nat) : Int) - 1 = (j : Int) by omega]
        obtain ⟨bb, off, L, rfl, hl, hL, hc, hmu⟩ := hM.row j (by omega)
        have hel : MuF w8 wr (turM z n (n - (j + 1))) L := by
          show MuC w8 (z (n - 1 - (n - (j + 1)))) L
          rw [show n - 1 - (n - (j + 1)) = j by omega]
          exact hmu
        obtain ⟨ps, cs, eL, -, -⟩ := hmu
        have hcw : ∀ k u, ((z j).cells ps cs)[k]? = some u → wr.cell? ⟨bb, off + j * 13 + k, none⟩ = some u := fun k u hk => (hbw.cell (p := ⟨bb, off + j * 13 + k, none⟩) hl).trans (hc k u (by rw [eL]; exact hk))
        have hltb : bb < wr.heap.size := Nat.lt_of_lt_of_le hl hsz
        have v0 := hcw 0 _ rfl
        have v1 := hcw 1 _ rfl
        have v2 := hcw 2 _ rfl
        have v3 := hcw 3 _ rfl
        have v4 := hcw 4 _ rfl
        have v5 := hcw 5 _ rfl
        have v6 := hcw 6 _ rfl
        have v7 := hcw 7 _ rfl
        have v8 := hcw 8 _ rfl
        have v9 := hcw 9 _ rfl
        have v10 := hcw 10 _ rfl
        have v11 := hcw 11 _ rfl
        have v12 := hcw 12 _ rfl
        rw [Nat.add_zero] at v0
        obtain ⟨LL, e1, e2, e3, e4⟩ := id hGr
        subst eL
        dsimp only [Mu.cells] at hel hL
        clear hc hcw hst hF' hFf hGr
        go_wp2_with (first
          | (at_builtin; refine wpList_append_own _ rfl (.tmp 45) (.tmp 50) 26 rfl w8.heap.size 49 u0 _ 13 120 Tryd.underlying26 hu0 hu1 hu2 hu3 rfl (by decide) _ _ _ rfl (e3.1.alloc _) ⟨wr.heap.size, 0, none⟩ 1 1 [.slice ps (z j).n cs, .int .i64 (z j).s, .int .i64 (z j).ok, .int .i64 (z j).oa, .int .i64 (z j).ob, .int .i64 (z j).oc, .int .i64 (z j).o, .int .i64 (z j).v.k, .int .i64 (z j).v.n, .int .i64 (z j).c0, .int .i64 (z j).c1, .int .i64 (z j).c2, .int .i64 (z j).c3] rfl rfl (cells_new _ _ _) (by simp [Value.oneCell']) (by simp only [maxLen]; omega) (by omega) (by simp; omega) ?_; intro ov9 w9 hown9 hgrow9 _)
        )
        have hb9 := (hbw.alloc hsz (.cells #[.slice ps (z j).n cs, .int .i64 (z j).s, .int .i64 (z j).ok, .int .i64 (z j).oa, .int .i64 (z j).ob, .int .i64 (z j).oc, .int .i64 (z j).o, .int .i64 (z j).v.k, .int .i64 (z j).v.n, .int .i64 (z j).c0, .int .i64 (z j).c1, .int .i64 (z j).c2, .int .i64 (z j).c3] 49)).grown hgrow9 (by simp; omega) (fun k hk => (e3.1.lt k hk).1)
        go_roundg j
        case measure => omega
        case rel => exact ⟨j, by omega, rfl, by go_num, by have := GrowR.more (C := MuF w8) (z := turM z n) (w' := w9) e1 e2 rfl hown9 e4 hel; rwa [show n - (j + 1) + 1 = n - j by omega] at this, hb9⟩
      · obtain rfl : k = 0 := by omega
        obtain ⟨pt, ct, ff, hT, -⟩ := GrowR.rat hGr (by simp only [maxLen]; omega)
        subst ff
        rw [Nat.sub_zero] at hT ⊢
        have hT8 := muF_rat hT hbw
        replace h4 := h4.below hbw
        replace gH := gH.below hbw
        replace gC := gC.below hbw
        replace gA := gA.below hbw
        replace gM := gM.below hbw
        replace gB := gB.below hbw
        replace hS := hS.below hbw
        replace hbW := bjoin hbw hbW
        replace hI := hI.below hbw
        replace hV := hV.below hbw
        replace hI2 := hI2.below hbw
        clear hT hGr hbw hsz hM
        obtain ⟨l0, x0, x1, x2⟩ := box_three gH
        obtain ⟨l1, y0, y1, y2, y3, y4⟩ := box_five gC
        have hBg3 := sbegin_in (cG := 3) (cB := 2) hS (by decide) (by decide) h4.in hF'.out hT8 hn (fun i hi => hst (n - 1 - i) (by omega))
        rw [tur_len, ← hRe.out, ← hKe.out] at hBg3
        obtain ⟨R', eR'⟩ : ∃ R', R' = rootL h (turM z n) n := ⟨_, rfl⟩
        rw [← eR'] at hBg3
        have hmem : ∀ v, v ∈ R ↔ v ∈ R' := fun v => by rw [hRe.out, eR']; exact (tur_root v).symm
        have hKe' : Hid (K = R'.length) := show _ = _ by rw [eR', tur_len, ← hRe.out]; exact hKe.out
        clear hst hRe eR'
        go_upto_region 12 with (first
          | (go_at_call 9; refine Calls.mono hBg3 ?_; rintro e w9 ⟨p3, c3, q3, d3, pg3, cg3, pb3, cb3, pr3, cr3, rfl, hI3, hV3, hb9⟩)
        )
        obtain ⟨wZ, hwZ⟩ : ∃ W, W = (w9.alloc (.cells #[.slice p3 h.n c3, .slice q3 h.m d3, .bool (!h.b)] 25)).alloc (.cells #[.int .i64 3, .slice pg3 0 cg3, .slice pb3 n cb3, .slice pr3 K cr3, .int .i64 (-1), .int .i64 0, .int .i64 (-1), .bool false] 37) := ⟨_, rfl⟩
        obtain ⟨gD, gN, hbZ⟩ := two_hm hwZ
        rw [← hwZ]
        have hbrZ := hb9.trans (hbZ.mono hb9.size)
        clear hwZ x0 x1 x2 l0 y0 y1 y2 y3 y4 l1 hBg3 hS gC hT8
        have h4i := (h4.below hbrZ).in
        replace gH := gH.below hbrZ
        replace gA := gA.below hbrZ
        replace gM := gM.below hbrZ
        replace gB := gB.below hbrZ
        replace hbW := bjoin hbrZ hbW
        replace hI := hI.below hbrZ
        replace hV := hV.below hbrZ
        replace hI2 := hI2.below hbrZ
        replace hI3 := hI3.below hbZ
        replace hV3 := hV3.below hbZ
        clear hb9 hbZ hbrZ h4
        generalize w9.heap.size = BD at *
        obtain ⟨RL, eRL⟩ : ∃ RL, RL = rcL (flipB h) (vrL (lvF R) K) := ⟨_, rfl⟩
        have eRL' : RL = rcL (flipB h) (vrL (lvF R') K) := by
          have := same_roots (h := flipB h) hmem
          rw [← hKe.out, ← hKe'.out] at this
          rw [eRL, this]
        have hSm : ∀ W p1 c1 q1 d1 p2 c2 q2 d2 s, ((HpIn W p1 h.n c1 q1 h.m d1 s h ∧ HpIn W p2 h.n c2 q2 h.m d2 s h) ∨ (HpIn W p1 h.n c1 q1 h.m d1 s (flipB h) ∧ HpIn W p2 h.n c2 q2 h.m d2 s (flipB h))) → Calls Tryd.prog 11 #[.agg #[.slice p1 h.n c1, .slice q1 h.m d1, .bool s], .agg #[.slice p2 h.n c2, .slice q2 h.m d2, .bool s]] W fun e w' => e = .returned (.bool true) ∧ Below W.heap.size W w' := fun W p1 c1 q1 d1 p2 c2 q2 d2 s hor => by
          rcases hor with ⟨h1, h2⟩ | ⟨h1, h2⟩
          · have := rsame_in h1 h2
            rwa [sameH_self] at this
          · have := rsame_in h1 h2
            rwa [sameH_self] at this
        have hFr : ∀ W p1 c1 q1 d1 s pv cv, ((HpIn W p1 h.n c1 q1 h.m d1 s (flipB h) ∧ VAt W pv cv K (lvF R)) ∨ (HpIn W p1 h.n c1 q1 h.m d1 s (flipB h) ∧ VAt W pv cv K (lvF R'))) → Calls Tryd.prog 16 #[.agg #[.slice p1 h.n c1, .slice q1 h.m d1, .bool s], .slice pv K cv] W fun e w' => ∃ pl cl, e = .returned (.slice pl RL.length cl) ∧ (Ints .i64 w' pl RL.length fun i => RL[i]?.getD 0) ∧ Below W.heap.size W w' := fun W p1 c1 q1 d1 s pv cv hor => by
          rcases hor with ⟨⟨-, -, es, ha⟩, hv⟩ | ⟨⟨-, -, es, ha⟩, hv⟩
          · have := rfrom15_any p1 c1 q1 d1 (flipB h) pv _ cv _ W ha hFf.out hv (by rw [hKe.out]; omega)
            rw [← eRL] at this
            rw [es]
            refine Calls.mono this ?_
            rintro e w' ⟨pl, cl, rfl, hR, hb⟩
            exact ⟨pl, cl, rfl, hR.ints, hb⟩
          · have := rfrom15_any p1 c1 q1 d1 (flipB h) pv _ cv _ W ha hFf.out hv (by rw [hKe.out]; omega)
            rw [← eRL'] at this
            rw [es]
            refine Calls.mono this ?_
            rintro e w' ⟨pl, cl, rfl, hR, hb⟩
            exact ⟨pl, cl, rfl, hR.ints, hb⟩
        have hRl : RL.length ≤ maxLen := by
          have h1 : RL.length ≤ (obL (flipB h) h.n).length := by rw [eRL]; exact List.length_filter_le _ _
          have h2 := obL_len (flipB h) h.n
          have := form_iff.1 hF'.out
          simp only [maxLen]
          omega
        have hIs : ∀ (W : World) (pl pr : Option Addr) (cl cr : Nat), (Ints .i64 W pl RL.length fun i => RL[i]?.getD 0) → (Ints .i64 W pr RL.length fun i => RL[i]?.getD 0) → Calls Tryd.prog 15 #[.slice pl RL.length cl, .slice pr RL.length cr] W fun e w' => e = .returned (.bool true) ∧ Below W.heap.size W w' := fun W pl pr cl cr h1 h2 => by
          have := rintsG_any pl pr RL.length cl RL.length cr _ _ W h1 h2 hRl hRl
          rwa [sameI_self] at this
        clear eRL eRL' hmem hKe hKe' hrl0 hRl
        refine wp_late (ds := [some 59, some 60, some 61, some 62, some 63, some 64, some 65, some 66, some 67, some 68, some 69, some 70, some 71, some 72, some 73, some 74, some 75, some 76, some 77, some 78, some 79, some 80, some 81, some 82, some 83, some 84, some 85, some 86, some 4]) (ts := [59, 60, 61, 62, 63, 64, 65, 66, 67, 68, 69, 70, 71, 72, 73, 74, 75, 76, 77, 78, 79, 80, 81, 82, 83, 84, 85, 86, 4]) (pv := [(fun v _ => v = .agg #[.slice p2 h.n c2, .slice q2 h.m d2, .bool h.b]), (fun v _ => v = .agg #[.slice p h.n c, .slice q h.m d, .bool h.b]), (fun v _ => v = .bool true), (fun v _ => v = .bool true), (fun v _ => v = .agg #[.slice p' h.n c', .slice q' h.m d', .bool (!h.b)]), (fun v _ => v = .agg #[.slice p3 h.n c3, .slice q3 h.m d3, .bool (!h.b)]), (fun v _ => v = .bool true), (fun v _ => v = .bool true), (fun v _ => v = .bool true), (fun v _ => v = .pointer (some ⟨BA + 1, 3, none⟩)), (fun v _ => v = .slice pr K cr), (fun v _ => v = .int .i64 K), (fun v _ => v = .pointer (some ⟨BD + 1, 3, none⟩)), (fun v _ => v = .slice pr3 K cr3), (fun v _ => v = .int .i64 K), (fun v _ => v = .bool true), (fun v _ => v = .bool true), (fun v _ => v = .bool true), (fun v _ => v = .agg #[.slice p' h.n c', .slice q' h.m d', .bool (!h.b)]), (fun v _ => v = .pointer (some ⟨BA + 1, 3, none⟩)), (fun v _ => v = .slice pr K cr), RowV (RL.length) (fun i => RL[i]?.getD 0), (fun v _ => v = .agg #[.slice p3 h.n c3, .slice q3 h.m d3, .bool (!h.b)]), (fun v _ => v = .pointer (some ⟨BD + 1, 3, none⟩)), (fun v _ => v = .slice pr3 K cr3), RowV (RL.length) (fun i => RL[i]?.getD 0), (fun v _ => v = .bool true), (fun v _ => v = .bool true), (fun v _ => v = .bool true)]) (skip := fun i => ([] : List Nat).contains i) (ia := 1000) (is := 1000) (k := 87) (Shape := (fun _ _ => True)) (Full := (fun _ _ => True)) (by kernel_rfl) (by kernel_rfl) rfl rfl (by decide) (by decide) (by simp) ?_ (by decide) (fun _ _ _ _ _ => trivial) (fun _ _ _ _ _ => trivial) ?_ ?_ ?_ ?_
        · exact .inl rfl
        · exact ⟨fun _ _ _ h _ => h, fun _ _ _ h _ => h, fun _ _ _ h _ => h, fun _ _ _ h _ => h, fun _ _ _ h _ => h, fun _ _ _ h _ => h, fun _ _ _ h _ => h, fun _ _ _ h _ => h, fun _ _ _ h _ => h, fun _ _ _ h _ => h, fun _ _ _ h _ => h, fun _ _ _ h _ => h, fun _ _ _ h _ => h, fun _ _ _ h _ => h, fun _ _ _ h _ => h, fun _ _ _ h _ => h, fun _ _ _ h _ => h, fun _ _ _ h _ => h, fun _ _ _ h _ => h, fun _ _ _ h _ => h, fun _ _ _ h _ => h, fun _ _ _ h hb => h.below hb, fun _ _ _ h _ => h, fun _ _ _ h _ => h, fun _ _ _ h _ => h, fun _ _ _ h hb => h.below hb, fun _ _ _ h _ => h, fun _ _ _ h _ => h, fun _ _ _ h _ => h, trivial⟩
        · exact ⟨rfl, rfl, rfl, rfl, ⟨rfl, ⟨_, rfl⟩, by decide, by decide, fun _ _ h => h⟩, ⟨rfl, ⟨_, rfl⟩, by decide, by decide, fun _ _ h => h⟩, ⟨rfl, ⟨_, rfl⟩, by decide, by decide, fun _ _ h => h⟩, rfl, rfl, ⟨rfl, ⟨_, rfl⟩, by decide, by decide, fun _ _ h => h⟩, ⟨rfl, ⟨_, rfl⟩, by decide, by decide, fun _ _ h => h⟩, ⟨rfl, ⟨_, rfl⟩, by decide, by decide, fun _ _ h => h⟩, ⟨rfl, ⟨_, rfl⟩, by decide, by decide, fun _ _ h => h⟩, ⟨rfl, ⟨_, rfl⟩, by decide, by decide, fun _ _ h => h⟩, ⟨rfl, ⟨_, rfl⟩, by decide, by decide, fun _ _ h => h⟩, ⟨rfl, ⟨_, rfl⟩, by decide, by decide, fun _ _ h => h⟩, rfl, rfl, ⟨rfl, ⟨_, rfl⟩, by decide, by decide, fun _ _ h => h⟩, ⟨rfl, ⟨_, rfl⟩, by decide, by decide, fun _ _ h => h⟩, ⟨rfl, ⟨_, rfl⟩, by decide, by decide, fun _ _ h => h⟩, ⟨rfl, ⟨_, rfl⟩, by decide, by decide, fun _ _ h => h⟩, ⟨rfl, ⟨_, rfl⟩, by decide, by decide, fun _ _ h => h⟩, ⟨rfl, ⟨_, rfl⟩, by decide, by decide, fun _ _ h => h⟩, ⟨rfl, ⟨_, rfl⟩, by decide, by decide, fun _ _ h => h⟩, ⟨rfl, ⟨_, rfl⟩, by decide, by decide, fun _ _ h => h⟩, ⟨rfl, ⟨_, rfl⟩, by decide, by decide, fun _ _ h => h⟩, rfl, rfl, trivial⟩
        · refine ⟨?_, ?_, ?_, ?_, ?_, ?_, ?_, ?_, ?_, ?_, ?_, ?_, ?_, ?_, ?_, ?_, ?_, ?_, ?_, ?_, ?_, ?_, ?_, ?_, ?_, ?_, ?_, ?_, ?_, trivial⟩
          · intro _ a' w' hb' hs hd hn Kc hK
            have f8 : a'.tmps[8]?.getD undef = .pointer (some ⟨BB, 0, none⟩) := (hs 8 (by decide)).trans rfl
            clear hs hd hn
            rw [if_neg (by decide), if_neg (by decide)] at hK
            obtain ⟨lH, a0, a1, a2⟩ := box_three (gH.below hb')
            obtain ⟨lA, b0, b1, b2⟩ := box_three (gA.below hb')
            obtain ⟨lB, e0, e1, e2⟩ := box_three (gB.below hb')
            obtain ⟨lD, i0, i1, i2⟩ := box_three (gD.below hb')
            obtain ⟨lM, m0, m1, m2, m3, m4, m5, m6, m7⟩ := mk_cells (gM.below hb')
            obtain ⟨lN, n0, n1, n2, n3, n4, n5, n6, n7⟩ := mk_cells (gN.below hb')
            have hPa : (HpIn w' p2 h.n c2 q2 h.m d2 h.b h ∧ HpIn w' p h.n c q h.m d h.b h) ∨ (HpIn w' p2 h.n c2 q2 h.m d2 h.b (flipB h) ∧ HpIn w' p h.n c q h.m d h.b (flipB h)) := .inl ⟨hI2.below hb', h4i.below hb'⟩
            have hPb : (HpIn w' p' h.n c' q' h.m d' (!h.b) h ∧ HpIn w' p3 h.n c3 q3 h.m d3 (!h.b) h) ∨ (HpIn w' p' h.n c' q' h.m d' (!h.b) (flipB h) ∧ HpIn w' p3 h.n c3 q3 h.m d3 (!h.b) (flipB h)) := .inr ⟨hI.below hb', hI3.below hb'⟩
            have hPc : (HpIn w' p' h.n c' q' h.m d' (!h.b) (flipB h) ∧ VAt w' pr cr K (lvF R)) ∨ (HpIn w' p' h.n c' q' h.m d' (!h.b) (flipB h) ∧ VAt w' pr cr K (lvF R')) := .inl ⟨hI.below hb', hV.below hb'⟩
            have hPd : (HpIn w' p3 h.n c3 q3 h.m d3 (!h.b) (flipB h) ∧ VAt w' pr3 cr3 K (lvF R)) ∨ (HpIn w' p3 h.n c3 q3 h.m d3 (!h.b) (flipB h) ∧ VAt w' pr3 cr3 K (lvF R')) := .inr ⟨hI3.below hb', hV3.below hb'⟩
            unfold Oper.wp
            go_simp
            try go_bits
            exact hK _ _ (Below.refl _ _) (by first | rfl | (show Value.int _ _ = Value.int _ _; go_num; done) | (simp [valOf, *]; done) | (simp [valOf]; omega))
          · intro _ a' w' hb' hs hd hn Kc hK
            have f2 : a'.tmps[2]?.getD undef = .pointer (some ⟨w.heap.size, 0, none⟩) := (hs 2 (by decide)).trans rfl
            clear hs hd hn
            rw [if_neg (by decide), if_neg (by decide)] at hK
            obtain ⟨lH, a0, a1, a2⟩ := box_three (gH.below hb')
            obtain ⟨lA, b0, b1, b2⟩ := box_three (gA.below hb')
            obtain ⟨lB, e0, e1, e2⟩ := box_three (gB.below hb')
            obtain ⟨lD, i0, i1, i2⟩ := box_three (gD.below hb')
            obtain ⟨lM, m0, m1, m2, m3, m4, m5, m6, m7⟩ := mk_cells (gM.below hb')
            obtain ⟨lN, n0, n1, n2, n3, n4, n5, n6, n7⟩ := mk_cells (gN.below hb')
            have hPa : (HpIn w' p2 h.n c2 q2 h.m d2 h.b h ∧ HpIn w' p h.n c q h.m d h.b h) ∨ (HpIn w' p2 h.n c2 q2 h.m d2 h.b (flipB h) ∧ HpIn w' p h.n c q h.m d h.b (flipB h)) := .inl ⟨hI2.below hb', h4i.below hb'⟩
            have hPb : (HpIn w' p' h.n c' q' h.m d' (!h.b) h ∧ HpIn w' p3 h.n c3 q3 h.m d3 (!h.b) h) ∨ (HpIn w' p' h.n c' q' h.m d' (!h.b) (flipB h) ∧ HpIn w' p3 h.n c3 q3 h.m d3 (!h.b) (flipB h)) := .inr ⟨hI.below hb', hI3.below hb'⟩
            have hPc : (HpIn w' p' h.n c' q' h.m d' (!h.b) (flipB h) ∧ VAt w' pr cr K (lvF R)) ∨ (HpIn w' p' h.n c' q' h.m d' (!h.b) (flipB h) ∧ VAt w' pr cr K (lvF R')) := .inl ⟨hI.below hb', hV.below hb'⟩
            have hPd : (HpIn w' p3 h.n c3 q3 h.m d3 (!h.b) (flipB h) ∧ VAt w' pr3 cr3 K (lvF R)) ∨ (HpIn w' p3 h.n c3 q3 h.m d3 (!h.b) (flipB h) ∧ VAt w' pr3 cr3 K (lvF R')) := .inr ⟨hI3.below hb', hV3.below hb'⟩
            unfold Oper.wp
            go_simp
            try go_bits
            exact hK _ _ (Below.refl _ _) (by first | rfl | (show Value.int _ _ = Value.int _ _; go_num; done) | (simp [valOf, *]; done) | (simp [valOf]; omega))
          · intro _ a' w' hb' hs hd hn Kc hK
            have f59 : a'.tmps[59]?.getD undef = .agg #[.slice p2 h.n c2, .slice q2 h.m d2, .bool h.b] := hd 0 59 (by first | rfl | decide | simp [Region.binds]) rfl (by decide) (by decide) rfl
            have f60 : a'.tmps[60]?.getD undef = .agg #[.slice p h.n c, .slice q h.m d, .bool h.b] := hd 1 60 (by first | rfl | decide | simp [Region.binds]) rfl (by decide) (by decide) rfl
            clear hs hd hn
            rw [if_neg (by decide), if_neg (by decide)] at hK
            obtain ⟨lH, a0, a1, a2⟩ := box_three (gH.below hb')
            obtain ⟨lA, b0, b1, b2⟩ := box_three (gA.below hb')
            obtain ⟨lB, e0, e1, e2⟩ := box_three (gB.below hb')
            obtain ⟨lD, i0, i1, i2⟩ := box_three (gD.below hb')
            obtain ⟨lM, m0, m1, m2, m3, m4, m5, m6, m7⟩ := mk_cells (gM.below hb')
            obtain ⟨lN, n0, n1, n2, n3, n4, n5, n6, n7⟩ := mk_cells (gN.below hb')
            have hPa : (HpIn w' p2 h.n c2 q2 h.m d2 h.b h ∧ HpIn w' p h.n c q h.m d h.b h) ∨ (HpIn w' p2 h.n c2 q2 h.m d2 h.b (flipB h) ∧ HpIn w' p h.n c q h.m d h.b (flipB h)) := .inl ⟨hI2.below hb', h4i.below hb'⟩
            have hPb : (HpIn w' p' h.n c' q' h.m d' (!h.b) h ∧ HpIn w' p3 h.n c3 q3 h.m d3 (!h.b) h) ∨ (HpIn w' p' h.n c' q' h.m d' (!h.b) (flipB h) ∧ HpIn w' p3 h.n c3 q3 h.m d3 (!h.b) (flipB h)) := .inr ⟨hI.below hb', hI3.below hb'⟩
            have hPc : (HpIn w' p' h.n c' q' h.m d' (!h.b) (flipB h) ∧ VAt w' pr cr K (lvF R)) ∨ (HpIn w' p' h.n c' q' h.m d' (!h.b) (flipB h) ∧ VAt w' pr cr K (lvF R')) := .inl ⟨hI.below hb', hV.below hb'⟩
            have hPd : (HpIn w' p3 h.n c3 q3 h.m d3 (!h.b) (flipB h) ∧ VAt w' pr3 cr3 K (lvF R)) ∨ (HpIn w' p3 h.n c3 q3 h.m d3 (!h.b) (flipB h) ∧ VAt w' pr3 cr3 K (lvF R')) := .inr ⟨hI3.below hb', hV3.below hb'⟩
            unfold Oper.wp
            go_simp
            try go_bits
            refine Calls.mono (hSm _ _ _ _ _ _ _ _ _ _ (by assumption)) ?_
            rintro e w'' ⟨rfl, hb2⟩
            exact hK _ _ hb2 rfl
          · intro _ a' w' hb' hs hd hn Kc hK
            have f61 : a'.tmps[61]?.getD undef = .bool true := hd 2 61 (by first | rfl | decide | simp [Region.binds]) rfl (by decide) (by decide) rfl
            clear hs hd hn
            rw [if_neg (by decide), if_neg (by decide)] at hK
            obtain ⟨lH, a0, a1, a2⟩ := box_three (gH.below hb')
            obtain ⟨lA, b0, b1, b2⟩ := box_three (gA.below hb')
            obtain ⟨lB, e0, e1, e2⟩ := box_three (gB.below hb')
            obtain ⟨lD, i0, i1, i2⟩ := box_three (gD.below hb')
            obtain ⟨lM, m0, m1, m2, m3, m4, m5, m6, m7⟩ := mk_cells (gM.below hb')
            obtain ⟨lN, n0, n1, n2, n3, n4, n5, n6, n7⟩ := mk_cells (gN.below hb')
            have hPa : (HpIn w' p2 h.n c2 q2 h.m d2 h.b h ∧ HpIn w' p h.n c q h.m d h.b h) ∨ (HpIn w' p2 h.n c2 q2 h.m d2 h.b (flipB h) ∧ HpIn w' p h.n c q h.m d h.b (flipB h)) := .inl ⟨hI2.below hb', h4i.below hb'⟩
            have hPb : (HpIn w' p' h.n c' q' h.m d' (!h.b) h ∧ HpIn w' p3 h.n c3 q3 h.m d3 (!h.b) h) ∨ (HpIn w' p' h.n c' q' h.m d' (!h.b) (flipB h) ∧ HpIn w' p3 h.n c3 q3 h.m d3 (!h.b) (flipB h)) := .inr ⟨hI.below hb', hI3.below hb'⟩
            have hPc : (HpIn w' p' h.n c' q' h.m d' (!h.b) (flipB h) ∧ VAt w' pr cr K (lvF R)) ∨ (HpIn w' p' h.n c' q' h.m d' (!h.b) (flipB h) ∧ VAt w' pr cr K (lvF R')) := .inl ⟨hI.below hb', hV.below hb'⟩
            have hPd : (HpIn w' p3 h.n c3 q3 h.m d3 (!h.b) (flipB h) ∧ VAt w' pr3 cr3 K (lvF R)) ∨ (HpIn w' p3 h.n c3 q3 h.m d3 (!h.b) (flipB h) ∧ VAt w' pr3 cr3 K (lvF R')) := .inr ⟨hI3.below hb', hV3.below hb'⟩
            unfold Oper.wp
            go_simp
            try go_bits
            exact hK _ _ (Below.refl _ _) (by first | rfl | (show Value.int _ _ = Value.int _ _; go_num; done) | (simp [valOf, *]; done) | (simp [valOf]; omega))
          · intro _ a' w' hb' hs hd hn Kc hK
            have f6 : a'.tmps[6]?.getD undef = .pointer (some ⟨BA, 0, none⟩) := (hs 6 (by decide)).trans rfl
            clear hs hd hn
            rw [if_neg (by decide), if_neg (by decide)] at hK
            obtain ⟨lH, a0, a1, a2⟩ := box_three (gH.below hb')
            obtain ⟨lA, b0, b1, b2⟩ := box_three (gA.below hb')
            obtain ⟨lB, e0, e1, e2⟩ := box_three (gB.below hb')
            obtain ⟨lD, i0, i1, i2⟩ := box_three (gD.below hb')
            obtain ⟨lM, m0, m1, m2, m3, m4, m5, m6, m7⟩ := mk_cells (gM.below hb')
            obtain ⟨lN, n0, n1, n2, n3, n4, n5, n6, n7⟩ := mk_cells (gN.below hb')
            have hPa : (HpIn w' p2 h.n c2 q2 h.m d2 h.b h ∧ HpIn w' p h.n c q h.m d h.b h) ∨ (HpIn w' p2 h.n c2 q2 h.m d2 h.b (flipB h) ∧ HpIn w' p h.n c q h.m d h.b (flipB h)) := .inl ⟨hI2.below hb', h4i.below hb'⟩
            have hPb : (HpIn w' p' h.n c' q' h.m d' (!h.b) h ∧ HpIn w' p3 h.n c3 q3 h.m d3 (!h.b) h) ∨ (HpIn w' p' h.n c' q' h.m d' (!h.b) (flipB h) ∧ HpIn w' p3 h.n c3 q3 h.m d3 (!h.b) (flipB h)) := .inr ⟨hI.below hb', hI3.below hb'⟩
            have hPc : (HpIn w' p' h.n c' q' h.m d' (!h.b) (flipB h) ∧ VAt w' pr cr K (lvF R)) ∨ (HpIn w' p' h.n c' q' h.m d' (!h.b) (flipB h) ∧ VAt w' pr cr K (lvF R')) := .inl ⟨hI.below hb', hV.below hb'⟩
            have hPd : (HpIn w' p3 h.n c3 q3 h.m d3 (!h.b) (flipB h) ∧ VAt w' pr3 cr3 K (lvF R)) ∨ (HpIn w' p3 h.n c3 q3 h.m d3 (!h.b) (flipB h) ∧ VAt w' pr3 cr3 K (lvF R')) := .inr ⟨hI3.below hb', hV3.below hb'⟩
            unfold Oper.wp
            go_simp
            try go_bits
            exact hK _ _ (Below.refl _ _) (by first | rfl | (show Value.int _ _ = Value.int _ _; go_num; done) | (simp [valOf, *]; done) | (simp [valOf]; omega))
          · intro _ a' w' hb' hs hd hn Kc hK
            have f12 : a'.tmps[12]?.getD undef = .pointer (some ⟨BD, 0, none⟩) := (hs 12 (by decide)).trans rfl
            clear hs hd hn
            rw [if_neg (by decide), if_neg (by decide)] at hK
            obtain ⟨lH, a0, a1, a2⟩ := box_three (gH.below hb')
            obtain ⟨lA, b0, b1, b2⟩ := box_three (gA.below hb')
            obtain ⟨lB, e0, e1, e2⟩ := box_three (gB.below hb')
            obtain ⟨lD, i0, i1, i2⟩ := box_three (gD.below hb')
            obtain ⟨lM, m0, m1, m2, m3, m4, m5, m6, m7⟩ := mk_cells (gM.below hb')
            obtain ⟨lN, n0, n1, n2, n3, n4, n5, n6, n7⟩ := mk_cells (gN.below hb')
            have hPa : (HpIn w' p2 h.n c2 q2 h.m d2 h.b h ∧ HpIn w' p h.n c q h.m d h.b h) ∨ (HpIn w' p2 h.n c2 q2 h.m d2 h.b (flipB h) ∧ HpIn w' p h.n c q h.m d h.b (flipB h)) := .inl ⟨hI2.below hb', h4i.below hb'⟩
            have hPb : (HpIn w' p' h.n c' q' h.m d' (!h.b) h ∧ HpIn w' p3 h.n c3 q3 h.m d3 (!h.b) h) ∨ (HpIn w' p' h.n c' q' h.m d' (!h.b) (flipB h) ∧ HpIn w' p3 h.n c3 q3 h.m d3 (!h.b) (flipB h)) := .inr ⟨hI.below hb', hI3.below hb'⟩
            have hPc : (HpIn w' p' h.n c' q' h.m d' (!h.b) (flipB h) ∧ VAt w' pr cr K (lvF R)) ∨ (HpIn w' p' h.n c' q' h.m d' (!h.b) (flipB h) ∧ VAt w' pr cr K (lvF R')) := .inl ⟨hI.below hb', hV.below hb'⟩
            have hPd : (HpIn w' p3 h.n c3 q3 h.m d3 (!h.b) (flipB h) ∧ VAt w' pr3 cr3 K (lvF R)) ∨ (HpIn w' p3 h.n c3 q3 h.m d3 (!h.b) (flipB h) ∧ VAt w' pr3 cr3 K (lvF R')) := .inr ⟨hI3.below hb', hV3.below hb'⟩
            unfold Oper.wp
            go_simp
            try go_bits
            exact hK _ _ (Below.refl _ _) (by first | rfl | (show Value.int _ _ = Value.int _ _; go_num; done) | (simp [valOf, *]; done) | (simp [valOf]; omega))
          · intro _ a' w' hb' hs hd hn Kc hK
            have f63 : a'.tmps[63]?.getD undef = .agg #[.slice p' h.n c', .slice q' h.m d', .bool (!h.b)] := hd 4 63 (by first | rfl | decide | simp [Region.binds]) rfl (by decide) (by decide) rfl
            have f64 : a'.tmps[64]?.getD undef = .agg #[.slice p3 h.n c3, .slice q3 h.m d3, .bool (!h.b)] := hd 5 64 (by first | rfl | decide | simp [Region.binds]) rfl (by decide) (by decide) rfl
            clear hs hd hn
            rw [if_neg (by decide), if_neg (by decide)] at hK
            obtain ⟨lH, a0, a1, a2⟩ := box_three (gH.below hb')
            obtain ⟨lA, b0, b1, b2⟩ := box_three (gA.below hb')
            obtain ⟨lB, e0, e1, e2⟩ := box_three (gB.below hb')
            obtain ⟨lD, i0, i1, i2⟩ := box_three (gD.below hb')
            obtain ⟨lM, m0, m1, m2, m3, m4, m5, m6, m7⟩ := mk_cells (gM.below hb')
            obtain ⟨lN, n0, n1, n2, n3, n4, n5, n6, n7⟩ := mk_cells (gN.below hb')
            have hPa : (HpIn w' p2 h.n c2 q2 h.m d2 h.b h ∧ HpIn w' p h.n c q h.m d h.b h) ∨ (HpIn w' p2 h.n c2 q2 h.m d2 h.b (flipB h) ∧ HpIn w' p h.n c q h.m d h.b (flipB h)) := .inl ⟨hI2.below hb', h4i.below hb'⟩
            have hPb : (HpIn w' p' h.n c' q' h.m d' (!h.b) h ∧ HpIn w' p3 h.n c3 q3 h.m d3 (!h.b) h) ∨ (HpIn w' p' h.n c' q' h.m d' (!h.b) (flipB h) ∧ HpIn w' p3 h.n c3 q3 h.m d3 (!h.b) (flipB h)) := .inr ⟨hI.below hb', hI3.below hb'⟩
            have hPc : (HpIn w' p' h.n c' q' h.m d' (!h.b) (flipB h) ∧ VAt w' pr cr K (lvF R)) ∨ (HpIn w' p' h.n c' q' h.m d' (!h.b) (flipB h) ∧ VAt w' pr cr K (lvF R')) := .inl ⟨hI.below hb', hV.below hb'⟩
            have hPd : (HpIn w' p3 h.n c3 q3 h.m d3 (!h.b) (flipB h) ∧ VAt w' pr3 cr3 K (lvF R)) ∨ (HpIn w' p3 h.n c3 q3 h.m d3 (!h.b) (flipB h) ∧ VAt w' pr3 cr3 K (lvF R')) := .inr ⟨hI3.below hb', hV3.below hb'⟩
            unfold Oper.wp
            go_simp
            try go_bits
            refine Calls.mono (hSm _ _ _ _ _ _ _ _ _ _ (by assumption)) ?_
            rintro e w'' ⟨rfl, hb2⟩
            exact hK _ _ hb2 rfl
          · intro _ a' w' hb' hs hd hn Kc hK
            have f62 : a'.tmps[62]?.getD undef = .bool true := hd 3 62 (by first | rfl | decide | simp [Region.binds]) rfl (by decide) (by decide) rfl
            have f65 : a'.tmps[65]?.getD undef = .bool true := hd 6 65 (by first | rfl | decide | simp [Region.binds]) rfl (by decide) (by decide) rfl
            clear hs hd hn
            rw [if_neg (by decide), if_neg (by decide)] at hK
            obtain ⟨lH, a0, a1, a2⟩ := box_three (gH.below hb')
            obtain ⟨lA, b0, b1, b2⟩ := box_three (gA.below hb')
            obtain ⟨lB, e0, e1, e2⟩ := box_three (gB.below hb')
            obtain ⟨lD, i0, i1, i2⟩ := box_three (gD.below hb')
            obtain ⟨lM, m0, m1, m2, m3, m4, m5, m6, m7⟩ := mk_cells (gM.below hb')
            obtain ⟨lN, n0, n1, n2, n3, n4, n5, n6, n7⟩ := mk_cells (gN.below hb')
            have hPa : (HpIn w' p2 h.n c2 q2 h.m d2 h.b h ∧ HpIn w' p h.n c q h.m d h.b h) ∨ (HpIn w' p2 h.n c2 q2 h.m d2 h.b (flipB h) ∧ HpIn w' p h.n c q h.m d h.b (flipB h)) := .inl ⟨hI2.below hb', h4i.below hb'⟩
            have hPb : (HpIn w' p' h.n c' q' h.m d' (!h.b) h ∧ HpIn w' p3 h.n c3 q3 h.m d3 (!h.b) h) ∨ (HpIn w' p' h.n c' q' h.m d' (!h.b) (flipB h) ∧ HpIn w' p3 h.n c3 q3 h.m d3 (!h.b) (flipB h)) := .inr ⟨hI.below hb', hI3.below hb'⟩
            have hPc : (HpIn w' p' h.n c' q' h.m d' (!h.b) (flipB h) ∧ VAt w' pr cr K (lvF R)) ∨ (HpIn w' p' h.n c' q' h.m d' (!h.b) (flipB h) ∧ VAt w' pr cr K (lvF R')) := .inl ⟨hI.below hb', hV.below hb'⟩
            have hPd : (HpIn w' p3 h.n c3 q3 h.m d3 (!h.b) (flipB h) ∧ VAt w' pr3 cr3 K (lvF R)) ∨ (HpIn w' p3 h.n c3 q3 h.m d3 (!h.b) (flipB h) ∧ VAt w' pr3 cr3 K (lvF R')) := .inr ⟨hI3.below hb', hV3.below hb'⟩
            unfold Oper.wp
            go_simp
            try go_bits
            exact hK _ _ (Below.refl _ _) (by first | rfl | (show Value.int _ _ = Value.int _ _; go_num; done) | (simp [valOf, *]; done) | (simp [valOf]; omega))
          · intro _ a' w' hb' hs hd hn Kc hK
            have f66 : a'.tmps[66]?.getD undef = .bool true := hd 7 66 (by first | rfl | decide | simp [Region.binds]) rfl (by decide) (by decide) rfl
            clear hs hd hn
            rw [if_neg (by decide), if_neg (by decide)] at hK
            obtain ⟨lH, a0, a1, a2⟩ := box_three (gH.below hb')
            obtain ⟨lA, b0, b1, b2⟩ := box_three (gA.below hb')
            obtain ⟨lB, e0, e1, e2⟩ := box_three (gB.below hb')
            obtain ⟨lD, i0, i1, i2⟩ := box_three (gD.below hb')
            obtain ⟨lM, m0, m1, m2, m3, m4, m5, m6, m7⟩ := mk_cells (gM.below hb')
            obtain ⟨lN, n0, n1, n2, n3, n4, n5, n6, n7⟩ := mk_cells (gN.below hb')
            have hPa : (HpIn w' p2 h.n c2 q2 h.m d2 h.b h ∧ HpIn w' p h.n c q h.m d h.b h) ∨ (HpIn w' p2 h.n c2 q2 h.m d2 h.b (flipB h) ∧ HpIn w' p h.n c q h.m d h.b (flipB h)) := .inl ⟨hI2.below hb', h4i.below hb'⟩
            have hPb : (HpIn w' p' h.n c' q' h.m d' (!h.b) h ∧ HpIn w' p3 h.n c3 q3 h.m d3 (!h.b) h) ∨ (HpIn w' p' h.n c' q' h.m d' (!h.b) (flipB h) ∧ HpIn w' p3 h.n c3 q3 h.m d3 (!h.b) (flipB h)) := .inr ⟨hI.below hb', hI3.below hb'⟩
            have hPc : (HpIn w' p' h.n c' q' h.m d' (!h.b) (flipB h) ∧ VAt w' pr cr K (lvF R)) ∨ (HpIn w' p' h.n c' q' h.m d' (!h.b) (flipB h) ∧ VAt w' pr cr K (lvF R')) := .inl ⟨hI.below hb', hV.below hb'⟩
            have hPd : (HpIn w' p3 h.n c3 q3 h.m d3 (!h.b) (flipB h) ∧ VAt w' pr3 cr3 K (lvF R)) ∨ (HpIn w' p3 h.n c3 q3 h.m d3 (!h.b) (flipB h) ∧ VAt w' pr3 cr3 K (lvF R')) := .inr ⟨hI3.below hb', hV3.below hb'⟩
            unfold Oper.wp
            go_simp
            try go_bits
            exact hK _ _ (Below.refl _ _) (by first | rfl | (show Value.int _ _ = Value.int _ _; go_num; done) | (simp [valOf, *]; done) | (simp [valOf]; omega))
          · intro _ a' w' hb' hs hd hn Kc hK
            have f7 : a'.tmps[7]?.getD undef = .pointer (some ⟨BA + 1, 0, none⟩) := (hs 7 (by decide)).trans rfl
            clear hs hd hn
            rw [if_neg (by decide), if_neg (by decide)] at hK
            obtain ⟨lH, a0, a1, a2⟩ := box_three (gH.below hb')
            obtain ⟨lA, b0, b1, b2⟩ := box_three (gA.below hb')
            obtain ⟨lB, e0, e1, e2⟩ := box_three (gB.below hb')
            obtain ⟨lD, i0, i1, i2⟩ := box_three (gD.below hb')
            obtain ⟨lM, m0, m1, m2, m3, m4, m5, m6, m7⟩ := mk_cells (gM.below hb')
            obtain ⟨lN, n0, n1, n2, n3, n4, n5, n6, n7⟩ := mk_cells (gN.below hb')
            have hPa : (HpIn w' p2 h.n c2 q2 h.m d2 h.b h ∧ HpIn w' p h.n c q h.m d h.b h) ∨ (HpIn w' p2 h.n c2 q2 h.m d2 h.b (flipB h) ∧ HpIn w' p h.n c q h.m d h.b (flipB h)) := .inl ⟨hI2.below hb', h4i.below hb'⟩
            have hPb : (HpIn w' p' h.n c' q' h.m d' (!h.b) h ∧ HpIn w' p3 h.n c3 q3 h.m d3 (!h.b) h) ∨ (HpIn w' p' h.n c' q' h.m d' (!h.b) (flipB h) ∧ HpIn w' p3 h.n c3 q3 h.m d3 (!h.b) (flipB h)) := .inr ⟨hI.below hb', hI3.below hb'⟩
            have hPc : (HpIn w' p' h.n c' q' h.m d' (!h.b) (flipB h) ∧ VAt w' pr cr K (lvF R)) ∨ (HpIn w' p' h.n c' q' h.m d' (!h.b) (flipB h) ∧ VAt w' pr cr K (lvF R')) := .inl ⟨hI.below hb', hV.below hb'⟩
            have hPd : (HpIn w' p3 h.n c3 q3 h.m d3 (!h.b) (flipB h) ∧ VAt w' pr3 cr3 K (lvF R)) ∨ (HpIn w' p3 h.n c3 q3 h.m d3 (!h.b) (flipB h) ∧ VAt w' pr3 cr3 K (lvF R')) := .inr ⟨hI3.below hb', hV3.below hb'⟩
            unfold Oper.wp
            go_simp
            try go_bits
            exact hK _ _ (Below.refl _ _) (by first | rfl | (show Value.int _ _ = Value.int _ _; go_num; done) | (simp [valOf, *]; done) | (simp [valOf]; omega))
          · intro _ a' w' hb' hs hd hn Kc hK
            have f68 : a'.tmps[68]?.getD undef = .pointer (some ⟨BA + 1, 3, none⟩) := hd 9 68 (by first | rfl | decide | simp [Region.binds]) rfl (by decide) (by decide) rfl
            clear hs hd hn
            rw [if_neg (by decide), if_neg (by decide)] at hK
            obtain ⟨lH, a0, a1, a2⟩ := box_three (gH.below hb')
            obtain ⟨lA, b0, b1, b2⟩ := box_three (gA.below hb')
            obtain ⟨lB, e0, e1, e2⟩ := box_three (gB.below hb')
            obtain ⟨lD, i0, i1, i2⟩ := box_three (gD.below hb')
            obtain ⟨lM, m0, m1, m2, m3, m4, m5, m6, m7⟩ := mk_cells (gM.below hb')
            obtain ⟨lN, n0, n1, n2, n3, n4, n5, n6, n7⟩ := mk_cells (gN.below hb')
            have hPa : (HpIn w' p2 h.n c2 q2 h.m d2 h.b h ∧ HpIn w' p h.n c q h.m d h.b h) ∨ (HpIn w' p2 h.n c2 q2 h.m d2 h.b (flipB h) ∧ HpIn w' p h.n c q h.m d h.b (flipB h)) := .inl ⟨hI2.below hb', h4i.below hb'⟩
            have hPb : (HpIn w' p' h.n c' q' h.m d' (!h.b) h ∧ HpIn w' p3 h.n c3 q3 h.m d3 (!h.b) h) ∨ (HpIn w' p' h.n c' q' h.m d' (!h.b) (flipB h) ∧ HpIn w' p3 h.n c3 q3 h.m d3 (!h.b) (flipB h)) := .inr ⟨hI.below hb', hI3.below hb'⟩
            have hPc : (HpIn w' p' h.n c' q' h.m d' (!h.b) (flipB h) ∧ VAt w' pr cr K (lvF R)) ∨ (HpIn w' p' h.n c' q' h.m d' (!h.b) (flipB h) ∧ VAt w' pr cr K (lvF R')) := .inl ⟨hI.below hb', hV.below hb'⟩
            have hPd : (HpIn w' p3 h.n c3 q3 h.m d3 (!h.b) (flipB h) ∧ VAt w' pr3 cr3 K (lvF R)) ∨ (HpIn w' p3 h.n c3 q3 h.m d3 (!h.b) (flipB h) ∧ VAt w' pr3 cr3 K (lvF R')) := .inr ⟨hI3.below hb', hV3.below hb'⟩
            unfold Oper.wp
            go_simp
            try go_bits
            exact hK _ _ (Below.refl _ _) (by first | rfl | (show Value.int _ _ = Value.int _ _; go_num; done) | (simp [valOf, *]; done) | (simp [valOf]; omega))
          · intro _ a' w' hb' hs hd hn Kc hK
            have f69 : a'.tmps[69]?.getD undef = .slice pr K cr := hd 10 69 (by first | rfl | decide | simp [Region.binds]) rfl (by decide) (by decide) rfl
            clear hs hd hn
            rw [if_neg (by decide), if_neg (by decide)] at hK
            obtain ⟨lH, a0, a1, a2⟩ := box_three (gH.below hb')
            obtain ⟨lA, b0, b1, b2⟩ := box_three (gA.below hb')
            obtain ⟨lB, e0, e1, e2⟩ := box_three (gB.below hb')
            obtain ⟨lD, i0, i1, i2⟩ := box_three (gD.below hb')
            obtain ⟨lM, m0, m1, m2, m3, m4, m5, m6, m7⟩ := mk_cells (gM.below hb')
            obtain ⟨lN, n0, n1, n2, n3, n4, n5, n6, n7⟩ := mk_cells (gN.below hb')
            have hPa : (HpIn w' p2 h.n c2 q2 h.m d2 h.b h ∧ HpIn w' p h.n c q h.m d h.b h) ∨ (HpIn w' p2 h.n c2 q2 h.m d2 h.b (flipB h) ∧ HpIn w' p h.n c q h.m d h.b (flipB h)) := .inl ⟨hI2.below hb', h4i.below hb'⟩
            have hPb : (HpIn w' p' h.n c' q' h.m d' (!h.b) h ∧ HpIn w' p3 h.n c3 q3 h.m d3 (!h.b) h) ∨ (HpIn w' p' h.n c' q' h.m d' (!h.b) (flipB h) ∧ HpIn w' p3 h.n c3 q3 h.m d3 (!h.b) (flipB h)) := .inr ⟨hI.below hb', hI3.below hb'⟩
            have hPc : (HpIn w' p' h.n c' q' h.m d' (!h.b) (flipB h) ∧ VAt w' pr cr K (lvF R)) ∨ (HpIn w' p' h.n c' q' h.m d' (!h.b) (flipB h) ∧ VAt w' pr cr K (lvF R')) := .inl ⟨hI.below hb', hV.below hb'⟩
            have hPd : (HpIn w' p3 h.n c3 q3 h.m d3 (!h.b) (flipB h) ∧ VAt w' pr3 cr3 K (lvF R)) ∨ (HpIn w' p3 h.n c3 q3 h.m d3 (!h.b) (flipB h) ∧ VAt w' pr3 cr3 K (lvF R')) := .inr ⟨hI3.below hb', hV3.below hb'⟩
            unfold Oper.wp
            go_simp
            try go_bits
            exact hK _ _ (Below.refl _ _) (by first | rfl | (show Value.int _ _ = Value.int _ _; go_num; done) | (simp [valOf, *]; done) | (simp [valOf]; omega))
          · intro _ a' w' hb' hs hd hn Kc hK
            have f13 : a'.tmps[13]?.getD undef = .pointer (some ⟨BD + 1, 0, none⟩) := (hs 13 (by decide)).trans rfl
            clear hs hd hn
            rw [if_neg (by decide), if_neg (by decide)] at hK
            obtain ⟨lH, a0, a1, a2⟩ := box_three (gH.below hb')
            obtain ⟨lA, b0, b1, b2⟩ := box_three (gA.below hb')
            obtain ⟨lB, e0, e1, e2⟩ := box_three (gB.below hb')
            obtain ⟨lD, i0, i1, i2⟩ := box_three (gD.below hb')
            obtain ⟨lM, m0, m1, m2, m3, m4, m5, m6, m7⟩ := mk_cells (gM.below hb')
            obtain ⟨lN, n0, n1, n2, n3, n4, n5, n6, n7⟩ := mk_cells (gN.below hb')
            have hPa : (HpIn w' p2 h.n c2 q2 h.m d2 h.b h ∧ HpIn w' p h.n c q h.m d h.b h) ∨ (HpIn w' p2 h.n c2 q2 h.m d2 h.b (flipB h) ∧ HpIn w' p h.n c q h.m d h.b (flipB h)) := .inl ⟨hI2.below hb', h4i.below hb'⟩
            have hPb : (HpIn w' p' h.n c' q' h.m d' (!h.b) h ∧ HpIn w' p3 h.n c3 q3 h.m d3 (!h.b) h) ∨ (HpIn w' p' h.n c' q' h.m d' (!h.b) (flipB h) ∧ HpIn w' p3 h.n c3 q3 h.m d3 (!h.b) (flipB h)) := .inr ⟨hI.below hb', hI3.below hb'⟩
            have hPc : (HpIn w' p' h.n c' q' h.m d' (!h.b) (flipB h) ∧ VAt w' pr cr K (lvF R)) ∨ (HpIn w' p' h.n c' q' h.m d' (!h.b) (flipB h) ∧ VAt w' pr cr K (lvF R')) := .inl ⟨hI.below hb', hV.below hb'⟩
            have hPd : (HpIn w' p3 h.n c3 q3 h.m d3 (!h.b) (flipB h) ∧ VAt w' pr3 cr3 K (lvF R)) ∨ (HpIn w' p3 h.n c3 q3 h.m d3 (!h.b) (flipB h) ∧ VAt w' pr3 cr3 K (lvF R')) := .inr ⟨hI3.below hb', hV3.below hb'⟩
            unfold Oper.wp
            go_simp
            try go_bits
            exact hK _ _ (Below.refl _ _) (by first | rfl | (show Value.int _ _ = Value.int _ _; go_num; done) | (simp [valOf, *]; done) | (simp [valOf]; omega))
          · intro _ a' w' hb' hs hd hn Kc hK
            have f71 : a'.tmps[71]?.getD undef = .pointer (some ⟨BD + 1, 3, none⟩) := hd 12 71 (by first | rfl | decide | simp [Region.binds]) rfl (by decide) (by decide) rfl
            clear hs hd hn
            rw [if_neg (by decide), if_neg (by decide)] at hK
            obtain ⟨lH, a0, a1, a2⟩ := box_three (gH.below hb')
            obtain ⟨lA, b0, b1, b2⟩ := box_three (gA.below hb')
            obtain ⟨lB, e0, e1, e2⟩ := box_three (gB.below hb')
            obtain ⟨lD, i0, i1, i2⟩ := box_three (gD.below hb')
            obtain ⟨lM, m0, m1, m2, m3, m4, m5, m6, m7⟩ := mk_cells (gM.below hb')
            obtain ⟨lN, n0, n1, n2, n3, n4, n5, n6, n7⟩ := mk_cells (gN.below hb')
            have hPa : (HpIn w' p2 h.n c2 q2 h.m d2 h.b h ∧ HpIn w' p h.n c q h.m d h.b h) ∨ (HpIn w' p2 h.n c2 q2 h.m d2 h.b (flipB h) ∧ HpIn w' p h.n c q h.m d h.b (flipB h)) := .inl ⟨hI2.below hb', h4i.below hb'⟩
            have hPb : (HpIn w' p' h.n c' q' h.m d' (!h.b) h ∧ HpIn w' p3 h.n c3 q3 h.m d3 (!h.b) h) ∨ (HpIn w' p' h.n c' q' h.m d' (!h.b) (flipB h) ∧ HpIn w' p3 h.n c3 q3 h.m d3 (!h.b) (flipB h)) := .inr ⟨hI.below hb', hI3.below hb'⟩
            have hPc : (HpIn w' p' h.n c' q' h.m d' (!h.b) (flipB h) ∧ VAt w' pr cr K (lvF R)) ∨ (HpIn w' p' h.n c' q' h.m d' (!h.b) (flipB h) ∧ VAt w' pr cr K (lvF R')) := .inl ⟨hI.below hb', hV.below hb'⟩
            have hPd : (HpIn w' p3 h.n c3 q3 h.m d3 (!h.b) (flipB h) ∧ VAt w' pr3 cr3 K (lvF R)) ∨ (HpIn w' p3 h.n c3 q3 h.m d3 (!h.b) (flipB h) ∧ VAt w' pr3 cr3 K (lvF R')) := .inr ⟨hI3.below hb', hV3.below hb'⟩
            unfold Oper.wp
            go_simp
            try go_bits
            exact hK _ _ (Below.refl _ _) (by first | rfl | (show Value.int _ _ = Value.int _ _; go_num; done) | (simp [valOf, *]; done) | (simp [valOf]; omega))
          · intro _ a' w' hb' hs hd hn Kc hK
            have f72 : a'.tmps[72]?.getD undef = .slice pr3 K cr3 := hd 13 72 (by first | rfl | decide | simp [Region.binds]) rfl (by decide) (by decide) rfl
            clear hs hd hn
            rw [if_neg (by decide), if_neg (by decide)] at hK
            obtain ⟨lH, a0, a1, a2⟩ := box_three (gH.below hb')
            obtain ⟨lA, b0, b1, b2⟩ := box_three (gA.below hb')
            obtain ⟨lB, e0, e1, e2⟩ := box_three (gB.below hb')
            obtain ⟨lD, i0, i1, i2⟩ := box_three (gD.below hb')
            obtain ⟨lM, m0, m1, m2, m3, m4, m5, m6, m7⟩ := mk_cells (gM.below hb')
            obtain ⟨lN, n0, n1, n2, n3, n4, n5, n6, n7⟩ := mk_cells (gN.below hb')
            have hPa : (HpIn w' p2 h.n c2 q2 h.m d2 h.b h ∧ HpIn w' p h.n c q h.m d h.b h) ∨ (HpIn w' p2 h.n c2 q2 h.m d2 h.b (flipB h) ∧ HpIn w' p h.n c q h.m d h.b (flipB h)) := .inl ⟨hI2.below hb', h4i.below hb'⟩
            have hPb : (HpIn w' p' h.n c' q' h.m d' (!h.b) h ∧ HpIn w' p3 h.n c3 q3 h.m d3 (!h.b) h) ∨ (HpIn w' p' h.n c' q' h.m d' (!h.b) (flipB h) ∧ HpIn w' p3 h.n c3 q3 h.m d3 (!h.b) (flipB h)) := .inr ⟨hI.below hb', hI3.below hb'⟩
            have hPc : (HpIn w' p' h.n c' q' h.m d' (!h.b) (flipB h) ∧ VAt w' pr cr K (lvF R)) ∨ (HpIn w' p' h.n c' q' h.m d' (!h.b) (flipB h) ∧ VAt w' pr cr K (lvF R')) := .inl ⟨hI.below hb', hV.below hb'⟩
            have hPd : (HpIn w' p3 h.n c3 q3 h.m d3 (!h.b) (flipB h) ∧ VAt w' pr3 cr3 K (lvF R)) ∨ (HpIn w' p3 h.n c3 q3 h.m d3 (!h.b) (flipB h) ∧ VAt w' pr3 cr3 K (lvF R')) := .inr ⟨hI3.below hb', hV3.below hb'⟩
            unfold Oper.wp
            go_simp
            try go_bits
            exact hK _ _ (Below.refl _ _) (by first | rfl | (show Value.int _ _ = Value.int _ _; go_num; done) | (simp [valOf, *]; done) | (simp [valOf]; omega))
          · intro _ a' w' hb' hs hd hn Kc hK
            have f70 : a'.tmps[70]?.getD undef = .int .i64 K := hd 11 70 (by first | rfl | decide | simp [Region.binds]) rfl (by decide) (by decide) rfl
            have f73 : a'.tmps[73]?.getD undef = .int .i64 K := hd 14 73 (by first | rfl | decide | simp [Region.binds]) rfl (by decide) (by decide) rfl
            clear hs hd hn
            rw [if_neg (by decide), if_neg (by decide)] at hK
            obtain ⟨lH, a0, a1, a2⟩ := box_three (gH.below hb')
            obtain ⟨lA, b0, b1, b2⟩ := box_three (gA.below hb')
            obtain ⟨lB, e0, e1, e2⟩ := box_three (gB.below hb')
            obtain ⟨lD, i0, i1, i2⟩ := box_three (gD.below hb')
            obtain ⟨lM, m0, m1, m2, m3, m4, m5, m6, m7⟩ := mk_cells (gM.below hb')
            obtain ⟨lN, n0, n1, n2, n3, n4, n5, n6, n7⟩ := mk_cells (gN.below hb')
            have hPa : (HpIn w' p2 h.n c2 q2 h.m d2 h.b h ∧ HpIn w' p h.n c q h.m d h.b h) ∨ (HpIn w' p2 h.n c2 q2 h.m d2 h.b (flipB h) ∧ HpIn w' p h.n c q h.m d h.b (flipB h)) := .inl ⟨hI2.below hb', h4i.below hb'⟩
            have hPb : (HpIn w' p' h.n c' q' h.m d' (!h.b) h ∧ HpIn w' p3 h.n c3 q3 h.m d3 (!h.b) h) ∨ (HpIn w' p' h.n c' q' h.m d' (!h.b) (flipB h) ∧ HpIn w' p3 h.n c3 q3 h.m d3 (!h.b) (flipB h)) := .inr ⟨hI.below hb', hI3.below hb'⟩
            have hPc : (HpIn w' p' h.n c' q' h.m d' (!h.b) (flipB h) ∧ VAt w' pr cr K (lvF R)) ∨ (HpIn w' p' h.n c' q' h.m d' (!h.b) (flipB h) ∧ VAt w' pr cr K (lvF R')) := .inl ⟨hI.below hb', hV.below hb'⟩
            have hPd : (HpIn w' p3 h.n c3 q3 h.m d3 (!h.b) (flipB h) ∧ VAt w' pr3 cr3 K (lvF R)) ∨ (HpIn w' p3 h.n c3 q3 h.m d3 (!h.b) (flipB h) ∧ VAt w' pr3 cr3 K (lvF R')) := .inr ⟨hI3.below hb', hV3.below hb'⟩
            unfold Oper.wp
            go_simp
            try go_bits
            exact hK _ _ (Below.refl _ _) (by first | rfl | (show Value.int _ _ = Value.int _ _; go_num; done) | (simp [valOf, *]; done) | (simp [valOf]; omega))
          · intro _ a' w' hb' hs hd hn Kc hK
            have f67 : a'.tmps[67]?.getD undef = .bool true := hd 8 67 (by first | rfl | decide | simp [Region.binds]) rfl (by decide) (by decide) rfl
            have f74 : a'.tmps[74]?.getD undef = .bool true := hd 15 74 (by first | rfl | decide | simp [Region.binds]) rfl (by decide) (by decide) rfl
            clear hs hd hn
            rw [if_neg (by decide), if_neg (by decide)] at hK
            obtain ⟨lH, a0, a1, a2⟩ := box_three (gH.below hb')
            obtain ⟨lA, b0, b1, b2⟩ := box_three (gA.below hb')
            obtain ⟨lB, e0, e1, e2⟩ := box_three (gB.below hb')
            obtain ⟨lD, i0, i1, i2⟩ := box_three (gD.below hb')
            obtain ⟨lM, m0, m1, m2, m3, m4, m5, m6, m7⟩ := mk_cells (gM.below hb')
            obtain ⟨lN, n0, n1, n2, n3, n4, n5, n6, n7⟩ := mk_cells (gN.below hb')
            have hPa : (HpIn w' p2 h.n c2 q2 h.m d2 h.b h ∧ HpIn w' p h.n c q h.m d h.b h) ∨ (HpIn w' p2 h.n c2 q2 h.m d2 h.b (flipB h) ∧ HpIn w' p h.n c q h.m d h.b (flipB h)) := .inl ⟨hI2.below hb', h4i.below hb'⟩
            have hPb : (HpIn w' p' h.n c' q' h.m d' (!h.b) h ∧ HpIn w' p3 h.n c3 q3 h.m d3 (!h.b) h) ∨ (HpIn w' p' h.n c' q' h.m d' (!h.b) (flipB h) ∧ HpIn w' p3 h.n c3 q3 h.m d3 (!h.b) (flipB h)) := .inr ⟨hI.below hb', hI3.below hb'⟩
            have hPc : (HpIn w' p' h.n c' q' h.m d' (!h.b) (flipB h) ∧ VAt w' pr cr K (lvF R)) ∨ (HpIn w' p' h.n c' q' h.m d' (!h.b) (flipB h) ∧ VAt w' pr cr K (lvF R')) := .inl ⟨hI.below hb', hV.below hb'⟩
            have hPd : (HpIn w' p3 h.n c3 q3 h.m d3 (!h.b) (flipB h) ∧ VAt w' pr3 cr3 K (lvF R)) ∨ (HpIn w' p3 h.n c3 q3 h.m d3 (!h.b) (flipB h) ∧ VAt w' pr3 cr3 K (lvF R')) := .inr ⟨hI3.below hb', hV3.below hb'⟩
            unfold Oper.wp
            go_simp
            try go_bits
            exact hK _ _ (Below.refl _ _) (by first | rfl | (show Value.int _ _ = Value.int _ _; go_num; done) | (simp [valOf, *]; done) | (simp [valOf]; omega))
          · intro _ a' w' hb' hs hd hn Kc hK
            have f75 : a'.tmps[75]?.getD undef = .bool true := hd 16 75 (by first | rfl | decide | simp [Region.binds]) rfl (by decide) (by decide) rfl
            clear hs hd hn
            rw [if_neg (by decide), if_neg (by decide)] at hK
            obtain ⟨lH, a0, a1, a2⟩ := box_three (gH.below hb')
            obtain ⟨lA, b0, b1, b2⟩ := box_three (gA.below hb')
            obtain ⟨lB, e0, e1, e2⟩ := box_three (gB.below hb')
            obtain ⟨lD, i0, i1, i2⟩ := box_three (gD.below hb')
            obtain ⟨lM, m0, m1, m2, m3, m4, m5, m6, m7⟩ := mk_cells (gM.below hb')
            obtain ⟨lN, n0, n1, n2, n3, n4, n5, n6, n7⟩ := mk_cells (gN.below hb')
            have hPa : (HpIn w' p2 h.n c2 q2 h.m d2 h.b h ∧ HpIn w' p h.n c q h.m d h.b h) ∨ (HpIn w' p2 h.n c2 q2 h.m d2 h.b (flipB h) ∧ HpIn w' p h.n c q h.m d h.b (flipB h)) := .inl ⟨hI2.below hb', h4i.below hb'⟩
            have hPb : (HpIn w' p' h.n c' q' h.m d' (!h.b) h ∧ HpIn w' p3 h.n c3 q3 h.m d3 (!h.b) h) ∨ (HpIn w' p' h.n c' q' h.m d' (!h.b) (flipB h) ∧ HpIn w' p3 h.n c3 q3 h.m d3 (!h.b) (flipB h)) := .inr ⟨hI.below hb', hI3.below hb'⟩
            have hPc : (HpIn w' p' h.n c' q' h.m d' (!h.b) (flipB h) ∧ VAt w' pr cr K (lvF R)) ∨ (HpIn w' p' h.n c' q' h.m d' (!h.b) (flipB h) ∧ VAt w' pr cr K (lvF R')) := .inl ⟨hI.below hb', hV.below hb'⟩
            have hPd : (HpIn w' p3 h.n c3 q3 h.m d3 (!h.b) (flipB h) ∧ VAt w' pr3 cr3 K (lvF R)) ∨ (HpIn w' p3 h.n c3 q3 h.m d3 (!h.b) (flipB h) ∧ VAt w' pr3 cr3 K (lvF R')) := .inr ⟨hI3.below hb', hV3.below hb'⟩
            unfold Oper.wp
            go_simp
            try go_bits
            exact hK _ _ (Below.refl _ _) (by first | rfl | (show Value.int _ _ = Value.int _ _; go_num; done) | (simp [valOf, *]; done) | (simp [valOf]; omega))
          · intro _ a' w' hb' hs hd hn Kc hK
            have f6 : a'.tmps[6]?.getD undef = .pointer (some ⟨BA, 0, none⟩) := (hs 6 (by decide)).trans rfl
            clear hs hd hn
            rw [if_neg (by decide), if_neg (by decide)] at hK
            obtain ⟨lH, a0, a1, a2⟩ := box_three (gH.below hb')
            obtain ⟨lA, b0, b1, b2⟩ := box_three (gA.below hb')
            obtain ⟨lB, e0, e1, e2⟩ := box_three (gB.below hb')
            obtain ⟨lD, i0, i1, i2⟩ := box_three (gD.below hb')
            obtain ⟨lM, m0, m1, m2, m3, m4, m5, m6, m7⟩ := mk_cells (gM.below hb')
            obtain ⟨lN, n0, n1, n2, n3, n4, n5, n6, n7⟩ := mk_cells (gN.below hb')
            have hPa : (HpIn w' p2 h.n c2 q2 h.m d2 h.b h ∧ HpIn w' p h.n c q h.m d h.b h) ∨ (HpIn w' p2 h.n c2 q2 h.m d2 h.b (flipB h) ∧ HpIn w' p h.n c q h.m d h.b (flipB h)) := .inl ⟨hI2.below hb', h4i.below hb'⟩
            have hPb : (HpIn w' p' h.n c' q' h.m d' (!h.b) h ∧ HpIn w' p3 h.n c3 q3 h.m d3 (!h.b) h) ∨ (HpIn w' p' h.n c' q' h.m d' (!h.b) (flipB h) ∧ HpIn w' p3 h.n c3 q3 h.m d3 (!h.b) (flipB h)) := .inr ⟨hI.below hb', hI3.below hb'⟩
            have hPc : (HpIn w' p' h.n c' q' h.m d' (!h.b) (flipB h) ∧ VAt w' pr cr K (lvF R)) ∨ (HpIn w' p' h.n c' q' h.m d' (!h.b) (flipB h) ∧ VAt w' pr cr K (lvF R')) := .inl ⟨hI.below hb', hV.below hb'⟩
            have hPd : (HpIn w' p3 h.n c3 q3 h.m d3 (!h.b) (flipB h) ∧ VAt w' pr3 cr3 K (lvF R)) ∨ (HpIn w' p3 h.n c3 q3 h.m d3 (!h.b) (flipB h) ∧ VAt w' pr3 cr3 K (lvF R')) := .inr ⟨hI3.below hb', hV3.below hb'⟩
            unfold Oper.wp
            go_simp
            try go_bits
            exact hK _ _ (Below.refl _ _) (by first | rfl | (show Value.int _ _ = Value.int _ _; go_num; done) | (simp [valOf, *]; done) | (simp [valOf]; omega))
          · intro _ a' w' hb' hs hd hn Kc hK
            have f7 : a'.tmps[7]?.getD undef = .pointer (some ⟨BA + 1, 0, none⟩) := (hs 7 (by decide)).trans rfl
            clear hs hd hn
            rw [if_neg (by decide), if_neg (by decide)] at hK
            obtain ⟨lH, a0, a1, a2⟩ := box_three (gH.below hb')
            obtain ⟨lA, b0, b1, b2⟩ := box_three (gA.below hb')
            obtain ⟨lB, e0, e1, e2⟩ := box_three (gB.below hb')
            obtain ⟨lD, i0, i1, i2⟩ := box_three (gD.below hb')
            obtain ⟨lM, m0, m1, m2, m3, m4, m5, m6, m7⟩ := mk_cells (gM.below hb')
            obtain ⟨lN, n0, n1, n2, n3, n4, n5, n6, n7⟩ := mk_cells (gN.below hb')
            have hPa : (HpIn w' p2 h.n c2 q2 h.m d2 h.b h ∧ HpIn w' p h.n c q h.m d h.b h) ∨ (HpIn w' p2 h.n c2 q2 h.m d2 h.b (flipB h) ∧ HpIn w' p h.n c q h.m d h.b (flipB h)) := .inl ⟨hI2.below hb', h4i.below hb'⟩
            have hPb : (HpIn w' p' h.n c' q' h.m d' (!h.b) h ∧ HpIn w' p3 h.n c3 q3 h.m d3 (!h.b) h) ∨ (HpIn w' p' h.n c' q' h.m d' (!h.b) (flipB h) ∧ HpIn w' p3 h.n c3 q3 h.m d3 (!h.b) (flipB h)) := .inr ⟨hI.below hb', hI3.below hb'⟩
            have hPc : (HpIn w' p' h.n c' q' h.m d' (!h.b) (flipB h) ∧ VAt w' pr cr K (lvF R)) ∨ (HpIn w' p' h.n c' q' h.m d' (!h.b) (flipB h) ∧ VAt w' pr cr K (lvF R')) := .inl ⟨hI.below hb', hV.below hb'⟩
            have hPd : (HpIn w' p3 h.n c3 q3 h.m d3 (!h.b) (flipB h) ∧ VAt w' pr3 cr3 K (lvF R)) ∨ (HpIn w' p3 h.n c3 q3 h.m d3 (!h.b) (flipB h) ∧ VAt w' pr3 cr3 K (lvF R')) := .inr ⟨hI3.below hb', hV3.below hb'⟩
            unfold Oper.wp
            go_simp
            try go_bits
            exact hK _ _ (Below.refl _ _) (by first | rfl | (show Value.int _ _ = Value.int _ _; go_num; done) | (simp [valOf, *]; done) | (simp [valOf]; omega))
          · intro _ a' w' hb' hs hd hn Kc hK
            have f78 : a'.tmps[78]?.getD undef = .pointer (some ⟨BA + 1, 3, none⟩) := hd 19 78 (by first | rfl | decide | simp [Region.binds]) rfl (by decide) (by decide) rfl
            clear hs hd hn
            rw [if_neg (by decide), if_neg (by decide)] at hK
            obtain ⟨lH, a0, a1, a2⟩ := box_three (gH.below hb')
            obtain ⟨lA, b0, b1, b2⟩ := box_three (gA.below hb')
            obtain ⟨lB, e0, e1, e2⟩ := box_three (gB.below hb')
            obtain ⟨lD, i0, i1, i2⟩ := box_three (gD.below hb')
            obtain ⟨lM, m0, m1, m2, m3, m4, m5, m6, m7⟩ := mk_cells (gM.below hb')
            obtain ⟨lN, n0, n1, n2, n3, n4, n5, n6, n7⟩ := mk_cells (gN.below hb')
            have hPa : (HpIn w' p2 h.n c2 q2 h.m d2 h.b h ∧ HpIn w' p h.n c q h.m d h.b h) ∨ (HpIn w' p2 h.n c2 q2 h.m d2 h.b (flipB h) ∧ HpIn w' p h.n c q h.m d h.b (flipB h)) := .inl ⟨hI2.below hb', h4i.below hb'⟩
            have hPb : (HpIn w' p' h.n c' q' h.m d' (!h.b) h ∧ HpIn w' p3 h.n c3 q3 h.m d3 (!h.b) h) ∨ (HpIn w' p' h.n c' q' h.m d' (!h.b) (flipB h) ∧ HpIn w' p3 h.n c3 q3 h.m d3 (!h.b) (flipB h)) := .inr ⟨hI.below hb', hI3.below hb'⟩
            have hPc : (HpIn w' p' h.n c' q' h.m d' (!h.b) (flipB h) ∧ VAt w' pr cr K (lvF R)) ∨ (HpIn w' p' h.n c' q' h.m d' (!h.b) (flipB h) ∧ VAt w' pr cr K (lvF R')) := .inl ⟨hI.below hb', hV.below hb'⟩
            have hPd : (HpIn w' p3 h.n c3 q3 h.m d3 (!h.b) (flipB h) ∧ VAt w' pr3 cr3 K (lvF R)) ∨ (HpIn w' p3 h.n c3 q3 h.m d3 (!h.b) (flipB h) ∧ VAt w' pr3 cr3 K (lvF R')) := .inr ⟨hI3.below hb', hV3.below hb'⟩
            unfold Oper.wp
            go_simp
            try go_bits
            exact hK _ _ (Below.refl _ _) (by first | rfl | (show Value.int _ _ = Value.int _ _; go_num; done) | (simp [valOf, *]; done) | (simp [valOf]; omega))
          · intro _ a' w' hb' hs hd hn Kc hK
            have f77 : a'.tmps[77]?.getD undef = .agg #[.slice p' h.n c', .slice q' h.m d', .bool (!h.b)] := hd 18 77 (by first | rfl | decide | simp [Region.binds]) rfl (by decide) (by decide) rfl
            have f79 : a'.tmps[79]?.getD undef = .slice pr K cr := hd 20 79 (by first | rfl | decide | simp [Region.binds]) rfl (by decide) (by decide) rfl
            clear hs hd hn
            rw [if_neg (by decide), if_neg (by decide)] at hK
            obtain ⟨lH, a0, a1, a2⟩ := box_three (gH.below hb')
            obtain ⟨lA, b0, b1, b2⟩ := box_three (gA.below hb')
            obtain ⟨lB, e0, e1, e2⟩ := box_three (gB.below hb')
            obtain ⟨lD, i0, i1, i2⟩ := box_three (gD.below hb')
            obtain ⟨lM, m0, m1, m2, m3, m4, m5, m6, m7⟩ := mk_cells (gM.below hb')
            obtain ⟨lN, n0, n1, n2, n3, n4, n5, n6, n7⟩ := mk_cells (gN.below hb')
            have hPa : (HpIn w' p2 h.n c2 q2 h.m d2 h.b h ∧ HpIn w' p h.n c q h.m d h.b h) ∨ (HpIn w' p2 h.n c2 q2 h.m d2 h.b (flipB h) ∧ HpIn w' p h.n c q h.m d h.b (flipB h)) := .inl ⟨hI2.below hb', h4i.below hb'⟩
            have hPb : (HpIn w' p' h.n c' q' h.m d' (!h.b) h ∧ HpIn w' p3 h.n c3 q3 h.m d3 (!h.b) h) ∨ (HpIn w' p' h.n c' q' h.m d' (!h.b) (flipB h) ∧ HpIn w' p3 h.n c3 q3 h.m d3 (!h.b) (flipB h)) := .inr ⟨hI.below hb', hI3.below hb'⟩
            have hPc : (HpIn w' p' h.n c' q' h.m d' (!h.b) (flipB h) ∧ VAt w' pr cr K (lvF R)) ∨ (HpIn w' p' h.n c' q' h.m d' (!h.b) (flipB h) ∧ VAt w' pr cr K (lvF R')) := .inl ⟨hI.below hb', hV.below hb'⟩
            have hPd : (HpIn w' p3 h.n c3 q3 h.m d3 (!h.b) (flipB h) ∧ VAt w' pr3 cr3 K (lvF R)) ∨ (HpIn w' p3 h.n c3 q3 h.m d3 (!h.b) (flipB h) ∧ VAt w' pr3 cr3 K (lvF R')) := .inr ⟨hI3.below hb', hV3.below hb'⟩
            unfold Oper.wp
            go_simp
            try go_bits
            refine Calls.mono (hFr _ _ _ _ _ _ _ _ (by assumption)) ?_
            rintro e w'' ⟨pm', cm', rfl, hA, hb2⟩
            exact hK _ _ hb2 ⟨_, _, rfl, hA⟩
          · intro _ a' w' hb' hs hd hn Kc hK
            have f12 : a'.tmps[12]?.getD undef = .pointer (some ⟨BD, 0, none⟩) := (hs 12 (by decide)).trans rfl
            clear hs hd hn
            rw [if_neg (by decide), if_neg (by decide)] at hK
            obtain ⟨lH, a0, a1, a2⟩ := box_three (gH.below hb')
            obtain ⟨lA, b0, b1, b2⟩ := box_three (gA.below hb')
            obtain ⟨lB, e0, e1, e2⟩ := box_three (gB.below hb')
            obtain ⟨lD, i0, i1, i2⟩ := box_three (gD.below hb')
            obtain ⟨lM, m0, m1, m2, m3, m4, m5, m6, m7⟩ := mk_cells (gM.below hb')
            obtain ⟨lN, n0, n1, n2, n3, n4, n5, n6, n7⟩ := mk_cells (gN.below hb')
            have hPa : (HpIn w' p2 h.n c2 q2 h.m d2 h.b h ∧ HpIn w' p h.n c q h.m d h.b h) ∨ (HpIn w' p2 h.n c2 q2 h.m d2 h.b (flipB h) ∧ HpIn w' p h.n c q h.m d h.b (flipB h)) := .inl ⟨hI2.below hb', h4i.below hb'⟩
            have hPb : (HpIn w' p' h.n c' q' h.m d' (!h.b) h ∧ HpIn w' p3 h.n c3 q3 h.m d3 (!h.b) h) ∨ (HpIn w' p' h.n c' q' h.m d' (!h.b) (flipB h) ∧ HpIn w' p3 h.n c3 q3 h.m d3 (!h.b) (flipB h)) := .inr ⟨hI.below hb', hI3.below hb'⟩
            have hPc : (HpIn w' p' h.n c' q' h.m d' (!h.b) (flipB h) ∧ VAt w' pr cr K (lvF R)) ∨ (HpIn w' p' h.n c' q' h.m d' (!h.b) (flipB h) ∧ VAt w' pr cr K (lvF R')) := .inl ⟨hI.below hb', hV.below hb'⟩
            have hPd : (HpIn w' p3 h.n c3 q3 h.m d3 (!h.b) (flipB h) ∧ VAt w' pr3 cr3 K (lvF R)) ∨ (HpIn w' p3 h.n c3 q3 h.m d3 (!h.b) (flipB h) ∧ VAt w' pr3 cr3 K (lvF R')) := .inr ⟨hI3.below hb', hV3.below hb'⟩
            unfold Oper.wp
            go_simp
            try go_bits
            exact hK _ _ (Below.refl _ _) (by first | rfl | (show Value.int _ _ = Value.int _ _; go_num; done) | (simp [valOf, *]; done) | (simp [valOf]; omega))
          · intro _ a' w' hb' hs hd hn Kc hK
            have f13 : a'.tmps[13]?.getD undef = .pointer (some ⟨BD + 1, 0, none⟩) := (hs 13 (by decide)).trans rfl
            clear hs hd hn
            rw [if_neg (by decide), if_neg (by decide)] at hK
            obtain ⟨lH, a0, a1, a2⟩ := box_three (gH.below hb')
            obtain ⟨lA, b0, b1, b2⟩ := box_three (gA.below hb')
            obtain ⟨lB, e0, e1, e2⟩ := box_three (gB.below hb')
            obtain ⟨lD, i0, i1, i2⟩ := box_three (gD.below hb')
            obtain ⟨lM, m0, m1, m2, m3, m4, m5, m6, m7⟩ := mk_cells (gM.below hb')
            obtain ⟨lN, n0, n1, n2, n3, n4, n5, n6, n7⟩ := mk_cells (gN.below hb')
            have hPa : (HpIn w' p2 h.n c2 q2 h.m d2 h.b h ∧ HpIn w' p h.n c q h.m d h.b h) ∨ (HpIn w' p2 h.n c2 q2 h.m d2 h.b (flipB h) ∧ HpIn w' p h.n c q h.m d h.b (flipB h)) := .inl ⟨hI2.below hb', h4i.below hb'⟩
            have hPb : (HpIn w' p' h.n c' q' h.m d' (!h.b) h ∧ HpIn w' p3 h.n c3 q3 h.m d3 (!h.b) h) ∨ (HpIn w' p' h.n c' q' h.m d' (!h.b) (flipB h) ∧ HpIn w' p3 h.n c3 q3 h.m d3 (!h.b) (flipB h)) := .inr ⟨hI.below hb', hI3.below hb'⟩
            have hPc : (HpIn w' p' h.n c' q' h.m d' (!h.b) (flipB h) ∧ VAt w' pr cr K (lvF R)) ∨ (HpIn w' p' h.n c' q' h.m d' (!h.b) (flipB h) ∧ VAt w' pr cr K (lvF R')) := .inl ⟨hI.below hb', hV.below hb'⟩
            have hPd : (HpIn w' p3 h.n c3 q3 h.m d3 (!h.b) (flipB h) ∧ VAt w' pr3 cr3 K (lvF R)) ∨ (HpIn w' p3 h.n c3 q3 h.m d3 (!h.b) (flipB h) ∧ VAt w' pr3 cr3 K (lvF R')) := .inr ⟨hI3.below hb', hV3.below hb'⟩
            unfold Oper.wp
            go_simp
            try go_bits
            exact hK _ _ (Below.refl _ _) (by first | rfl | (show Value.int _ _ = Value.int _ _; go_num; done) | (simp [valOf, *]; done) | (simp [valOf]; omega))
          · intro _ a' w' hb' hs hd hn Kc hK
            have f82 : a'.tmps[82]?.getD undef = .pointer (some ⟨BD + 1, 3, none⟩) := hd 23 82 (by first | rfl | decide | simp [Region.binds]) rfl (by decide) (by decide) rfl
            clear hs hd hn
            rw [if_neg (by decide), if_neg (by decide)] at hK
            obtain ⟨lH, a0, a1, a2⟩ := box_three (gH.below hb')
            obtain ⟨lA, b0, b1, b2⟩ := box_three (gA.below hb')
            obtain ⟨lB, e0, e1, e2⟩ := box_three (gB.below hb')
            obtain ⟨lD, i0, i1, i2⟩ := box_three (gD.below hb')
            obtain ⟨lM, m0, m1, m2, m3, m4, m5, m6, m7⟩ := mk_cells (gM.below hb')
            obtain ⟨lN, n0, n1, n2, n3, n4, n5, n6, n7⟩ := mk_cells (gN.below hb')
            have hPa : (HpIn w' p2 h.n c2 q2 h.m d2 h.b h ∧ HpIn w' p h.n c q h.m d h.b h) ∨ (HpIn w' p2 h.n c2 q2 h.m d2 h.b (flipB h) ∧ HpIn w' p h.n c q h.m d h.b (flipB h)) := .inl ⟨hI2.below hb', h4i.below hb'⟩
            have hPb : (HpIn w' p' h.n c' q' h.m d' (!h.b) h ∧ HpIn w' p3 h.n c3 q3 h.m d3 (!h.b) h) ∨ (HpIn w' p' h.n c' q' h.m d' (!h.b) (flipB h) ∧ HpIn w' p3 h.n c3 q3 h.m d3 (!h.b) (flipB h)) := .inr ⟨hI.below hb', hI3.below hb'⟩
            have hPc : (HpIn w' p' h.n c' q' h.m d' (!h.b) (flipB h) ∧ VAt w' pr cr K (lvF R)) ∨ (HpIn w' p' h.n c' q' h.m d' (!h.b) (flipB h) ∧ VAt w' pr cr K (lvF R')) := .inl ⟨hI.below hb', hV.below hb'⟩
            have hPd : (HpIn w' p3 h.n c3 q3 h.m d3 (!h.b) (flipB h) ∧ VAt w' pr3 cr3 K (lvF R)) ∨ (HpIn w' p3 h.n c3 q3 h.m d3 (!h.b) (flipB h) ∧ VAt w' pr3 cr3 K (lvF R')) := .inr ⟨hI3.below hb', hV3.below hb'⟩
            unfold Oper.wp
            go_simp
            try go_bits
            exact hK _ _ (Below.refl _ _) (by first | rfl | (show Value.int _ _ = Value.int _ _; go_num; done) | (simp [valOf, *]; done) | (simp [valOf]; omega))
          · intro _ a' w' hb' hs hd hn Kc hK
            have f81 : a'.tmps[81]?.getD undef = .agg #[.slice p3 h.n c3, .slice q3 h.m d3, .bool (!h.b)] := hd 22 81 (by first | rfl | decide | simp [Region.binds]) rfl (by decide) (by decide) rfl
            have f83 : a'.tmps[83]?.getD undef = .slice pr3 K cr3 := hd 24 83 (by first | rfl | decide | simp [Region.binds]) rfl (by decide) (by decide) rfl
            clear hs hd hn
            rw [if_neg (by decide), if_neg (by decide)] at hK
            obtain ⟨lH, a0, a1, a2⟩ := box_three (gH.below hb')
            obtain ⟨lA, b0, b1, b2⟩ := box_three (gA.below hb')
            obtain ⟨lB, e0, e1, e2⟩ := box_three (gB.below hb')
            obtain ⟨lD, i0, i1, i2⟩ := box_three (gD.below hb')
            obtain ⟨lM, m0, m1, m2, m3, m4, m5, m6, m7⟩ := mk_cells (gM.below hb')
            obtain ⟨lN, n0, n1, n2, n3, n4, n5, n6, n7⟩ := mk_cells (gN.below hb')
            have hPa : (HpIn w' p2 h.n c2 q2 h.m d2 h.b h ∧ HpIn w' p h.n c q h.m d h.b h) ∨ (HpIn w' p2 h.n c2 q2 h.m d2 h.b (flipB h) ∧ HpIn w' p h.n c q h.m d h.b (flipB h)) := .inl ⟨hI2.below hb', h4i.below hb'⟩
            have hPb : (HpIn w' p' h.n c' q' h.m d' (!h.b) h ∧ HpIn w' p3 h.n c3 q3 h.m d3 (!h.b) h) ∨ (HpIn w' p' h.n c' q' h.m d' (!h.b) (flipB h) ∧ HpIn w' p3 h.n c3 q3 h.m d3 (!h.b) (flipB h)) := .inr ⟨hI.below hb', hI3.below hb'⟩
            have hPc : (HpIn w' p' h.n c' q' h.m d' (!h.b) (flipB h) ∧ VAt w' pr cr K (lvF R)) ∨ (HpIn w' p' h.n c' q' h.m d' (!h.b) (flipB h) ∧ VAt w' pr cr K (lvF R')) := .inl ⟨hI.below hb', hV.below hb'⟩
            have hPd : (HpIn w' p3 h.n c3 q3 h.m d3 (!h.b) (flipB h) ∧ VAt w' pr3 cr3 K (lvF R)) ∨ (HpIn w' p3 h.n c3 q3 h.m d3 (!h.b) (flipB h) ∧ VAt w' pr3 cr3 K (lvF R')) := .inr ⟨hI3.below hb', hV3.below hb'⟩
            unfold Oper.wp
            go_simp
            try go_bits
            refine Calls.mono (hFr _ _ _ _ _ _ _ _ (by assumption)) ?_
            rintro e w'' ⟨pm', cm', rfl, hA, hb2⟩
            exact hK _ _ hb2 ⟨_, _, rfl, hA⟩
          · intro _ a' w' hb' hs hd hn Kc hK
            obtain ⟨pm, cm, f80, hA⟩ := hd 21 80 (by first | rfl | decide | simp [Region.binds]) rfl (by decide) (by decide) rfl
            obtain ⟨pm, cm, f84, hA⟩ := hd 25 84 (by first | rfl | decide | simp [Region.binds]) rfl (by decide) (by decide) rfl
            clear hs hd hn
            rw [if_neg (by decide), if_neg (by decide)] at hK
            obtain ⟨lH, a0, a1, a2⟩ := box_three (gH.below hb')
            obtain ⟨lA, b0, b1, b2⟩ := box_three (gA.below hb')
            obtain ⟨lB, e0, e1, e2⟩ := box_three (gB.below hb')
            obtain ⟨lD, i0, i1, i2⟩ := box_three (gD.below hb')
            obtain ⟨lM, m0, m1, m2, m3, m4, m5, m6, m7⟩ := mk_cells (gM.below hb')
            obtain ⟨lN, n0, n1, n2, n3, n4, n5, n6, n7⟩ := mk_cells (gN.below hb')
            have hPa : (HpIn w' p2 h.n c2 q2 h.m d2 h.b h ∧ HpIn w' p h.n c q h.m d h.b h) ∨ (HpIn w' p2 h.n c2 q2 h.m d2 h.b (flipB h) ∧ HpIn w' p h.n c q h.m d h.b (flipB h)) := .inl ⟨hI2.below hb', h4i.below hb'⟩
            have hPb : (HpIn w' p' h.n c' q' h.m d' (!h.b) h ∧ HpIn w' p3 h.n c3 q3 h.m d3 (!h.b) h) ∨ (HpIn w' p' h.n c' q' h.m d' (!h.b) (flipB h) ∧ HpIn w' p3 h.n c3 q3 h.m d3 (!h.b) (flipB h)) := .inr ⟨hI.below hb', hI3.below hb'⟩
            have hPc : (HpIn w' p' h.n c' q' h.m d' (!h.b) (flipB h) ∧ VAt w' pr cr K (lvF R)) ∨ (HpIn w' p' h.n c' q' h.m d' (!h.b) (flipB h) ∧ VAt w' pr cr K (lvF R')) := .inl ⟨hI.below hb', hV.below hb'⟩
            have hPd : (HpIn w' p3 h.n c3 q3 h.m d3 (!h.b) (flipB h) ∧ VAt w' pr3 cr3 K (lvF R)) ∨ (HpIn w' p3 h.n c3 q3 h.m d3 (!h.b) (flipB h) ∧ VAt w' pr3 cr3 K (lvF R')) := .inr ⟨hI3.below hb', hV3.below hb'⟩
            unfold Oper.wp
            go_simp
            try go_bits
            refine Calls.mono (hIs _ _ _ _ _ (by assumption) (by assumption)) ?_
            rintro e w'' ⟨rfl, hb2⟩
            exact hK _ _ hb2 rfl
          · intro _ a' w' hb' hs hd hn Kc hK
            have f76 : a'.tmps[76]?.getD undef = .bool true := hd 17 76 (by first | rfl | decide | simp [Region.binds]) rfl (by decide) (by decide) rfl
            have f85 : a'.tmps[85]?.getD undef = .bool true := hd 26 85 (by first | rfl | decide | simp [Region.binds]) rfl (by decide) (by decide) rfl
            clear hs hd hn
            rw [if_neg (by decide), if_neg (by decide)] at hK
            obtain ⟨lH, a0, a1, a2⟩ := box_three (gH.below hb')
            obtain ⟨lA, b0, b1, b2⟩ := box_three (gA.below hb')
            obtain ⟨lB, e0, e1, e2⟩ := box_three (gB.below hb')
            obtain ⟨lD, i0, i1, i2⟩ := box_three (gD.below hb')
            obtain ⟨lM, m0, m1, m2, m3, m4, m5, m6, m7⟩ := mk_cells (gM.below hb')
            obtain ⟨lN, n0, n1, n2, n3, n4, n5, n6, n7⟩ := mk_cells (gN.below hb')
            have hPa : (HpIn w' p2 h.n c2 q2 h.m d2 h.b h ∧ HpIn w' p h.n c q h.m d h.b h) ∨ (HpIn w' p2 h.n c2 q2 h.m d2 h.b (flipB h) ∧ HpIn w' p h.n c q h.m d h.b (flipB h)) := .inl ⟨hI2.below hb', h4i.below hb'⟩
            have hPb : (HpIn w' p' h.n c' q' h.m d' (!h.b) h ∧ HpIn w' p3 h.n c3 q3 h.m d3 (!h.b) h) ∨ (HpIn w' p' h.n c' q' h.m d' (!h.b) (flipB h) ∧ HpIn w' p3 h.n c3 q3 h.m d3 (!h.b) (flipB h)) := .inr ⟨hI.below hb', hI3.below hb'⟩
            have hPc : (HpIn w' p' h.n c' q' h.m d' (!h.b) (flipB h) ∧ VAt w' pr cr K (lvF R)) ∨ (HpIn w' p' h.n c' q' h.m d' (!h.b) (flipB h) ∧ VAt w' pr cr K (lvF R')) := .inl ⟨hI.below hb', hV.below hb'⟩
            have hPd : (HpIn w' p3 h.n c3 q3 h.m d3 (!h.b) (flipB h) ∧ VAt w' pr3 cr3 K (lvF R)) ∨ (HpIn w' p3 h.n c3 q3 h.m d3 (!h.b) (flipB h) ∧ VAt w' pr3 cr3 K (lvF R')) := .inr ⟨hI3.below hb', hV3.below hb'⟩
            unfold Oper.wp
            go_simp
            try go_bits
            exact hK _ _ (Below.refl _ _) (by first | rfl | (show Value.int _ _ = Value.int _ _; go_num; done) | (simp [valOf, *]; done) | (simp [valOf]; omega))
          · intro _ a' w' hb' hs hd hn Kc hK
            have f86 : a'.tmps[86]?.getD undef = .bool true := hd 27 86 (by first | rfl | decide | simp [Region.binds]) rfl (by decide) (by decide) rfl
            clear hs hd hn
            rw [if_neg (by decide), if_neg (by decide)] at hK
            obtain ⟨lH, a0, a1, a2⟩ := box_three (gH.below hb')
            obtain ⟨lA, b0, b1, b2⟩ := box_three (gA.below hb')
            obtain ⟨lB, e0, e1, e2⟩ := box_three (gB.below hb')
            obtain ⟨lD, i0, i1, i2⟩ := box_three (gD.below hb')
            obtain ⟨lM, m0, m1, m2, m3, m4, m5, m6, m7⟩ := mk_cells (gM.below hb')
            obtain ⟨lN, n0, n1, n2, n3, n4, n5, n6, n7⟩ := mk_cells (gN.below hb')
            have hPa : (HpIn w' p2 h.n c2 q2 h.m d2 h.b h ∧ HpIn w' p h.n c q h.m d h.b h) ∨ (HpIn w' p2 h.n c2 q2 h.m d2 h.b (flipB h) ∧ HpIn w' p h.n c q h.m d h.b (flipB h)) := .inl ⟨hI2.below hb', h4i.below hb'⟩
            have hPb : (HpIn w' p' h.n c' q' h.m d' (!h.b) h ∧ HpIn w' p3 h.n c3 q3 h.m d3 (!h.b) h) ∨ (HpIn w' p' h.n c' q' h.m d' (!h.b) (flipB h) ∧ HpIn w' p3 h.n c3 q3 h.m d3 (!h.b) (flipB h)) := .inr ⟨hI.below hb', hI3.below hb'⟩
            have hPc : (HpIn w' p' h.n c' q' h.m d' (!h.b) (flipB h) ∧ VAt w' pr cr K (lvF R)) ∨ (HpIn w' p' h.n c' q' h.m d' (!h.b) (flipB h) ∧ VAt w' pr cr K (lvF R')) := .inl ⟨hI.below hb', hV.below hb'⟩
            have hPd : (HpIn w' p3 h.n c3 q3 h.m d3 (!h.b) (flipB h) ∧ VAt w' pr3 cr3 K (lvF R)) ∨ (HpIn w' p3 h.n c3 q3 h.m d3 (!h.b) (flipB h) ∧ VAt w' pr3 cr3 K (lvF R')) := .inr ⟨hI3.below hb', hV3.below hb'⟩
            unfold Oper.wp
            go_simp
            try go_bits
            exact hK _ _ (Below.refl _ _) (by first | rfl | (show Value.int _ _ = Value.int _ _; go_num; done) | (simp [valOf, *]; done) | (simp [valOf]; omega))
        intro Xf g w' hX hb hv
        have q4 : Xf 4 = .bool true := hv 28 4 rfl rfl (by decide) (by decide)
        clear hX hv
        simp only [List.map_cons, List.map_nil, q4, puts, Act.put, Nat.reduceAdd, List.setIfInBounds_toArray, List.set_cons_succ, List.set_cons_zero]
        go_wp2
        go_returns
        exact ⟨rfl, bjoin hb hbW⟩
  · have hgo' : (formB h && fewU z n) = false := by simpa using hgo
    rw [hgo'] at hFi
    clear hgo hgo'
    go_enter Tryd.func6, Tryd.ntmps6
    go_upto_region 1 with fail
    rw [← hw0]
    clear hw0
    go_wp2_with (first
    | (go_at_call 7; refine Calls.mono (awake18_any _ (hS.below (by go_grown))) ?_; rintro e w' ⟨rfl, hb⟩; obtain ⟨hc, hf, hb, hz⟩ := bstep hb (w := w0) (by go_grown); try simp only [World.size_alloc, World.size_setCell, World.size_drew] at hc hf hz)
    | (go_at_call 8; refine Calls.mono (hFi _ (by go_grown)) ?_; rintro e w' ⟨rfl, hb⟩; obtain ⟨hc, hf, hb, hz⟩ := bstep hb (w := w0) (by go_grown); try simp only [World.size_alloc, World.size_setCell, World.size_drew] at hc hf hz)
    )
    go_returns
    exact ⟨rfl, bjoin hb hB0⟩
namespace SnapTwice
/-- What the row lists. -/
def lists : List (String × DataW Unit) := [("flotsam/class.sizes", Rows.laid_flotsam_class_sizes)]
set_option maxRecDepth 100000 in
theorem lifted (os : Os) (started : os.Started) (H : Type) (enc : TypeId × Value → H) :
    ReturnsInHanded {} Tryd.checked os 6 .any (fun w args => (Rows.snapTwiceSpec.pre enc Tryd.prog Tryd.f6 Rows.snapTwiceRow.domain false w args ∧ laidMetH Tryd.prog lists w) ∧ sizedMet enc Tryd.prog Tryd.f6 (OpenSpec.ofChange Rows.snapTwiceSpec) false w args) (Rows.snapTwiceSpec.post enc Tryd.prog Tryd.f6 false true false false) := by
  refine law_lifted_laid (C := Tryd.checked) seat_own started (by kernel_rfl) Tryd.func6 (by kernel_rfl) (of_decide_eq_true (by kernel_rfl)) rfl
    (fun ds hd => by have hd' : ds.length = 2 := hd; match ds, hd' with | [d0, d1], _ => rfl) rfl Tryd.underlying4
    (ChangeSpec.witness_shaped (enc := enc) (C := Tryd.checked) (os := os) (X := fun w _ => laidMetH Tryd.prog lists w) false (World.laidAll Tryd.prog os lists) #[.agg #[.slice none 0 0, .slice none 0 0, .bool false], .slice none 0 0] 8 (World.laidAll_os _ _ _)
      (World.shaped_of_ZipB (by kernel_rfl) (by kernel_rfl)) (by kernel_rfl) (by kernel_rfl) (by kernel_rfl)
      (by rw [MakeChecks.laidMetH_plain _ _ _ (by kernel_rfl)]; exact laidMet_laidAll _ (by kernel_rfl) (by kernel_rfl))) ?_
  intro W base args ds p hval hA hlt hL
  have hS : Sz W := sizes_of hL (by kernel_rfl) rfl
  rw [Tryd.params6] at hA hval
  obtain ⟨v0, v1, d0, d1, p0, p1, rfl, rfl, rfl, h0, h1⟩ := trodAll_two hA
  obtain ⟨x0, q0, c0, s0, e0, rfl, hh0⟩ := open_heap Tryd.underlying25 (by kernel_rfl) (by kernel_rfl) Tryd.underlying22 (by kernel_rfl) (by kernel_rfl) Tryd.underlying23 Tryd.underlying68 (by kernel_rfl) (by kernel_rfl) (by kernel_rfl) (by kernel_rfl) (by kernel_rfl) (by kernel_rfl) (hval 0 25 v0 rfl rfl) h0
  obtain ⟨q1, n1, cap1, z1, rfl, hm1⟩ := open_mutators Tryd.underlying26 Tryd.underlying49 (by kernel_rfl) ⟨rfl, rfl, rfl, rfl, rfl, rfl⟩ ⟨by kernel_rfl, by kernel_rfl, by kernel_rfl, by kernel_rfl, by kernel_rfl, by kernel_rfl⟩ Tryd.underlying35 Tryd.underlying46 (by kernel_rfl) (by kernel_rfl) (by kernel_rfl) (by kernel_rfl) (by kernel_rfl) (by kernel_rfl) rfl Tryd.underlying44 ⟨rfl, rfl, rfl, rfl⟩ ⟨by kernel_rfl, by kernel_rfl, by kernel_rfl, by kernel_rfl⟩ ⟨by kernel_rfl, by kernel_rfl, by kernel_rfl, by kernel_rfl⟩ ⟨rfl, rfl⟩ ⟨by kernel_rfl, by kernel_rfl⟩ Tryd.underlying47 (by kernel_rfl) (by kernel_rfl) (hval 1 26 v1 rfl rfl) h1
  exact twice18_walk q1 n1 cap1 z1 W hh0 hm1 hS

theorem row_holds : Rows.SnapTwiceSaid :=
  OpenClaim.holds_of_wide 6 Tryd.f6 rfl rfl rfl rfl rfl rfl rfl ⟨rfl, rfl, rfl, rfl, rfl⟩ rfl rfl rfl rfl rfl (by kernel_rfl) Tryd.func6 (by kernel_rfl)
    (of_decide_eq_true (by kernel_rfl)) (by unfold Func.isWrapper; first | (rw [if_pos (by decide +kernel)]; kernel_rfl) | (rw [if_neg (by decide +kernel)]; exact ⟨rfl, rfl⟩))
    (fun os started H enc _ => lifted os started H enc)
/-- The tied card. -/
theorem holds : Rows.SnapTwiceCardSaid :=
  Claim7.holds_tied_plain_at .later [] [.data] true (true, "1fc3ee0dc7588e3d27a7d5a24eafd86ac73523e010a7788d053712e9af2933f6") false row_holds (fun _ h => by cases h) (by kernel_rfl) (fun _ h => by cases h) snapTwice_row_tie rfl ⟨rfl, rfl⟩ (by kernel_rfl) rfl
    (fun f fn hf hfn => by
      obtain rfl : f = 6 := Option.some.inj ((show Tryd.prog.funcNamed "flotsam/flotsamlaw18.SnapTwice" = some 6 by kernel_rfl).symm.trans hf) |>.symm
      obtain rfl : fn = Tryd.f6 := (Option.some.inj (Tryd.func6.symm.trans hfn)).symm
      exact ⟨by kernel_rfl, fun j t ht => by
        rw [Tryd.params6] at ht
        have hm : t ∈ [25, 26] := by simpa using Array.mem_of_getElem? ht
        have hall : ([25, 26].all fun u => !Tryd.prog.wantsStandIn u) = true := by kernel_rfl
        exact (show Tryd.prog.wantsStandIn t = false by simpa using List.all_eq_true.1 hall t hm)⟩)
    (by kernel_rfl)
#print axioms holds
end SnapTwice
end Go.Proofs.YtmbgodncagjncaaDoor
