/- Contracts of the reference's Apart (chapter 8) and Black (chapter 15). -/
import Derived.Test.YtiofeebiejkajaaDoorB24
import Derived.Test.YtiofeebiejkajaaDoorB25
import Derived.Test.YtiofeebiejkajaaDoorB27
namespace Go.Proofs.YtiofeebiejkajaaDoor
set_option linter.unusedSimpArgs false
set_option linter.unusedVariables false
open Go.ChangeShapes Go.WideShapes Go.ChangeAt Go.RowKit Go.Joins

set_option maxRecDepth 20000 in
set_option maxHeartbeats 4000000 in
theorem rapart_any (p : Option Addr) (c : Nat) (q : Option Addr) (d : Nat) (h : Hp) (w : World) (hh : HpAt w p c q d h) (hF : formB h = true) :
    Calls Tryd.prog 9 #[.agg #[.slice p h.n c, .slice q h.m d, .bool h.b]] w fun e w' => e = .returned (.bool (apB h)) ∧ Below w.heap.size w w' := by
  obtain ⟨w0, hw0⟩ : ∃ w0, w0 = w.alloc (.cells #[.slice p h.n c, .slice q h.m d, .bool h.b] 25) := ⟨_, rfl⟩
  have gB : Box3 w.heap.size (.slice p h.n c) (.slice q h.m d) (.bool h.b) w0 := by rw [hw0]; exact Box3.new _ _ _ _ _
  have hst : Below w.heap.size w w0 := by rw [hw0]; go_grown
  have hat := hh.below hst
  obtain ⟨l0, x0, x1, x2, -, -, -⟩ := id gB
  have hm16 : h.m ≤ 16 := by have := form_iff.1 hF; omega
  have hnl : h.n ≤ 512 := by have := form_iff.1 hF; omega
  have hlen := obL_len h h.n
  have hL := rlist8_any p c q d h w0 hat hF
  have hwfL := obL_wf h hnl
  have hLm : ∀ a ∈ obL h h.n, 0 ≤ a / 32 ∧ a / 32 < h.m ∧ 0 ≤ a ∧ obB h a = true := fun a ha => by
    have h1 := (obL_mem h a h.n).1 ha
    have h2 := form_iff.1 hF
    exact ⟨by omega, by omega, h1.1, h1.2.2⟩
  have hG := fun a W (hW : HpAt W p c q d h) => rget8_any p c q d h a W hW hF
  have hap : Hid (apB h = (obL h h.n).all fun a => obK h a == (spH h (a / 32)).cl) := (rfl : apB h = (obL h h.n).all fun a => obK h a == (spH h (a / 32)).cl)
  clear hF hh
  generalize apB h = AB at *
  generalize obL h h.n = L at *
  go_enter Tryd.func9, Tryd.ntmps9
  go_upto_region 1 with fail
  rw [← hw0]
  clear hw0
  go_upto_region 2 with (first
    | (go_at_call 14; refine Calls.mono hL ?_; rintro e w1 ⟨v, rfl, hown, hb1⟩)
  )
  obtain ⟨pl, cl, rfl, hR⟩ := row_owned hown hwfL
  have gB1 := gB.below hb1
  have hat1 := hat.below hb1
  have hI1 := hR.ints
  have hb0 := bjoin hb1 hst
  clear hown hR hL hb1 x0 x1 x2 l0 gB hat
  go_wp2
  go_loopg [4] L.length (fun g iv wr => ∃ j : Nat, j ≤ L.length ∧ g = L.length - j ∧ iv = .int .i64 j ∧ (∀ t, t < j → obK h (L[t]?.getD 0) = (spH h (L[t]?.getD 0 / 32)).cl) ∧ Below w1.heap.size w1 wr)
  case atStart => exact ⟨0, by omega, by omega, rfl, fun t ht => by omega, Below.refl _ _⟩
  case round =>
    obtain ⟨j, jh, rfl, rfl, hall, hbw⟩ := hrel
    have gr := gB1.below hbw
    have hatr := hat1.below hbw
    have hall' : Hid (∀ t, t < j → obK h (L[t]?.getD 0) = (spH h (L[t]?.getD 0 / 32)).cl) := hall
    clear hall
    by_cases hj : j < L.length
    · obtain ⟨⟨bl, ol, rfl, hlt, v0⟩, -⟩ := (hI1.below hbw) j hj
      dsimp only at v0
      obtain ⟨X0, X1, XP, hoX⟩ := hLm (L[j]?.getD 0) (by rw [List.getElem?_eq_getElem hj]; exact List.getElem_mem hj)
      have hno : Hid (¬ obK h (L[j]?.getD 0) = (spH h (L[j]?.getD 0 / 32)).cl → AB = false) := fun e => by
        rw [hap.out, List.all_eq_false]
        exact ⟨L[j]?.getD 0, by rw [List.getElem?_eq_getElem hj]; exact List.getElem_mem hj, by simpa using e⟩
      have hyes : Hid (obK h (L[j]?.getD 0) = (spH h (L[j]?.getD 0 / 32)).cl → ∀ t, t < j + 1 → obK h (L[t]?.getD 0) = (spH h (L[t]?.getD 0 / 32)).cl) := fun e t ht => by
        by_cases et : t = j
        · subst et; exact e
        · exact hall'.out t (by omega)
      have hGj := hG (L[j]?.getD 0)
      clear hG hall'
      generalize hX : L[j]?.getD 0 = X at *
      clear hX
      rw [hoX] at hGj
      generalize obC h X = C at *
      generalize obN h X = F at *
      go_upto_region 5 with fail
      refine wp_late (ds := [some 16, some 17, some 18, some 19, some 20, some 21, some 15, some 22, some 23, some 5, none, some 6]) (ts := [16, 17, 18, 19, 20, 21, 15, 22, 23, 5, 6]) (pv := [(fun v _ => v = .agg #[.slice p h.n c, .slice q h.m d, .bool h.b]), (fun v _ => v = .slice (some ⟨bl, ol, none⟩) L.length cl), (fun v _ => v = .int .i64 (j : Int)), (fun v _ => v = .pointer (some ⟨bl, ol + j, none⟩)), (fun v _ => v = .int .i64 X), (fun v _ => v = .tuple #[.agg #[.bool true, .bool C, .int .i64 (obK h X), .int .i64 F], .bool true]), (fun v _ => v = .tuple #[.agg #[.bool true, .bool C, .int .i64 (obK h X), .int .i64 F], .bool true]), (fun v _ => v = .agg #[.bool true, .bool C, .int .i64 (obK h X), .int .i64 F]), (fun v _ => v = .bool true), (fun _ _ => True), (fun _ _ => True), (fun v _ => v = .bool true)]) (skip := fun i => ([] : List Nat).contains i) (ia := 9) (is := 10) (k := 24) (Shape := Shape4) (Full := (fun g w => Box4 g (.bool true) (.bool C) (.int .i64 (obK h X)) (.int .i64 F) w)) (by kernel_rfl) (by kernel_rfl) rfl rfl (by decide) (by decide) (by simp) ?_ (by decide) shape4_below (fun _ _ _ h hb => h.below hb) ?_ ?_ ?_ ?_
      · exact .inr ⟨⟨_, rfl⟩, rfl, _, rfl, (by first | rfl | decide | simp [Region.binds]), by decide, rfl⟩
      · exact ⟨fun _ _ _ h _ => h, fun _ _ _ h _ => h, fun _ _ _ h _ => h, fun _ _ _ h _ => h, fun _ _ _ h _ => h, fun _ _ _ h _ => h, fun _ _ _ h _ => h, fun _ _ _ h _ => h, fun _ _ _ h _ => h, fun _ _ _ h _ => h, fun _ _ _ h _ => h, fun _ _ _ h _ => h, trivial⟩
      · exact ⟨rfl, rfl, rfl, rfl, rfl, rfl, rfl, rfl, rfl, rfl, rfl, rfl, trivial⟩
      · refine ⟨?_, ?_, ?_, ?_, ?_, ?_, ?_, ?_, ?_, ?_, ?_, ?_, trivial⟩
        · intro _ a' w' hb' hs hd hn Kc hK
          have f1 : a'.tmps[1]?.getD undef = .pointer (some ⟨w.heap.size, 0, none⟩) := (hs 1 (by decide)).trans rfl
          clear hs hd hn
          rw [if_neg (by decide), if_neg (by decide)] at hK
          have v0' : w'.cell? ⟨bl, ol + j, none⟩ = some (.int .i64 X) := (hb'.cell (p := ⟨bl, ol + j, none⟩) hlt).trans v0
          obtain ⟨lB, k0, k1, k2, -, -, -⟩ := gr.below hb'
          unfold Oper.wp
          go_simp
          try go_bits
          exact hK _ _ (Below.refl _ _) (by first | rfl | (show Value.int _ _ = Value.int _ _; go_num; done) | (simp [valOf, *]; done) | (simp [valOf]; omega))
        · intro _ a' w' hb' hs hd hn Kc hK
          have f3 : a'.tmps[3]?.getD undef = .slice (some ⟨bl, ol, none⟩) L.length cl := (hs 3 (by decide)).trans rfl
          clear hs hd hn
          rw [if_neg (by decide), if_neg (by decide)] at hK
          have v0' : w'.cell? ⟨bl, ol + j, none⟩ = some (.int .i64 X) := (hb'.cell (p := ⟨bl, ol + j, none⟩) hlt).trans v0
          obtain ⟨lB, k0, k1, k2, -, -, -⟩ := gr.below hb'
          unfold Oper.wp
          go_simp
          try go_bits
          exact hK _ _ (Below.refl _ _) (by first | rfl | (show Value.int _ _ = Value.int _ _; go_num; done) | (simp [valOf, *]; done) | (simp [valOf]; omega))
        · intro _ a' w' hb' hs hd hn Kc hK
          have f4 : a'.tmps[4]?.getD undef = .int .i64 (j : Int) := (hs 4 (by decide)).trans rfl
          clear hs hd hn
          rw [if_neg (by decide), if_neg (by decide)] at hK
          have v0' : w'.cell? ⟨bl, ol + j, none⟩ = some (.int .i64 X) := (hb'.cell (p := ⟨bl, ol + j, none⟩) hlt).trans v0
          obtain ⟨lB, k0, k1, k2, -, -, -⟩ := gr.below hb'
          unfold Oper.wp
          go_simp
          try go_bits
          exact hK _ _ (Below.refl _ _) (by first | rfl | (show Value.int _ _ = Value.int _ _; go_num; done) | (simp [valOf, *]; done) | (simp [valOf]; omega))
        · intro _ a' w' hb' hs hd hn Kc hK
          have f17 : a'.tmps[17]?.getD undef = .slice (some ⟨bl, ol, none⟩) L.length cl := hd 1 17 (by first | rfl | decide | simp [Region.binds]) rfl (by decide) (by decide) rfl
          have f18 : a'.tmps[18]?.getD undef = .int .i64 (j : Int) := hd 2 18 (by first | rfl | decide | simp [Region.binds]) rfl (by decide) (by decide) rfl
          clear hs hd hn
          rw [if_neg (by decide), if_neg (by decide)] at hK
          have v0' : w'.cell? ⟨bl, ol + j, none⟩ = some (.int .i64 X) := (hb'.cell (p := ⟨bl, ol + j, none⟩) hlt).trans v0
          obtain ⟨lB, k0, k1, k2, -, -, -⟩ := gr.below hb'
          unfold Oper.wp
          go_simp
          try go_bits
          exact hK _ _ (Below.refl _ _) (by first | rfl | (show Value.int _ _ = Value.int _ _; go_num; done) | (simp [valOf, *]; done) | (simp [valOf]; omega))
        · intro _ a' w' hb' hs hd hn Kc hK
          have f19 : a'.tmps[19]?.getD undef = .pointer (some ⟨bl, ol + j, none⟩) := hd 3 19 (by first | rfl | decide | simp [Region.binds]) rfl (by decide) (by decide) rfl
          clear hs hd hn
          rw [if_neg (by decide), if_neg (by decide)] at hK
          have v0' : w'.cell? ⟨bl, ol + j, none⟩ = some (.int .i64 X) := (hb'.cell (p := ⟨bl, ol + j, none⟩) hlt).trans v0
          obtain ⟨lB, k0, k1, k2, -, -, -⟩ := gr.below hb'
          unfold Oper.wp
          go_simp
          try go_bits
          exact hK _ _ (Below.refl _ _) (by first | rfl | (show Value.int _ _ = Value.int _ _; go_num; done) | (simp [valOf, *]; done) | (simp [valOf]; omega))
        · intro _ a' w' hb' hs hd hn Kc hK
          have f16 : a'.tmps[16]?.getD undef = .agg #[.slice p h.n c, .slice q h.m d, .bool h.b] := hd 0 16 (by first | rfl | decide | simp [Region.binds]) rfl (by decide) (by decide) rfl
          have f20 : a'.tmps[20]?.getD undef = .int .i64 X := hd 4 20 (by first | rfl | decide | simp [Region.binds]) rfl (by decide) (by decide) rfl
          clear hs hd hn
          rw [if_neg (by decide), if_neg (by decide)] at hK
          have v0' : w'.cell? ⟨bl, ol + j, none⟩ = some (.int .i64 X) := (hb'.cell (p := ⟨bl, ol + j, none⟩) hlt).trans v0
          obtain ⟨lB, k0, k1, k2, -, -, -⟩ := gr.below hb'
          unfold Oper.wp
          go_simp
          try go_bits
          refine Calls.mono (hGj _ (hatr.below hb')) ?_
          rintro e w'' ⟨rfl, hb2⟩
          exact hK _ _ hb2 rfl
        · intro _ a' w' hb' hs hd hn Kc hK
          have f21 : a'.tmps[21]?.getD undef = .tuple #[.agg #[.bool true, .bool C, .int .i64 (obK h X), .int .i64 F], .bool true] := hd 5 21 (by first | rfl | decide | simp [Region.binds]) rfl (by decide) (by decide) rfl
          clear hs hd hn
          rw [if_neg (by decide), if_neg (by decide)] at hK
          have v0' : w'.cell? ⟨bl, ol + j, none⟩ = some (.int .i64 X) := (hb'.cell (p := ⟨bl, ol + j, none⟩) hlt).trans v0
          obtain ⟨lB, k0, k1, k2, -, -, -⟩ := gr.below hb'
          unfold Oper.wp
          go_simp
          try go_bits
          exact hK _ _ (Below.refl _ _) (by first | rfl | (show Value.int _ _ = Value.int _ _; go_num; done) | (simp [valOf, *]; done) | (simp [valOf]; omega))
        · intro _ a' w' hb' hs hd hn Kc hK
          have f15 : a'.tmps[15]?.getD undef = .tuple #[.agg #[.bool true, .bool C, .int .i64 (obK h X), .int .i64 F], .bool true] := hd 6 15 (by first | rfl | decide | simp [Region.binds]) rfl (by decide) (by decide) rfl
          clear hs hd hn
          rw [if_neg (by decide), if_neg (by decide)] at hK
          have v0' : w'.cell? ⟨bl, ol + j, none⟩ = some (.int .i64 X) := (hb'.cell (p := ⟨bl, ol + j, none⟩) hlt).trans v0
          obtain ⟨lB, k0, k1, k2, -, -, -⟩ := gr.below hb'
          unfold Oper.wp
          go_simp
          try go_bits
          exact hK _ _ (Below.refl _ _) (by first | rfl | (show Value.int _ _ = Value.int _ _; go_num; done) | (simp [valOf, *]; done) | (simp [valOf]; omega))
        · intro _ a' w' hb' hs hd hn Kc hK
          have f15 : a'.tmps[15]?.getD undef = .tuple #[.agg #[.bool true, .bool C, .int .i64 (obK h X), .int .i64 F], .bool true] := hd 6 15 (by first | rfl | decide | simp [Region.binds]) rfl (by decide) (by decide) rfl
          clear hs hd hn
          rw [if_neg (by decide), if_neg (by decide)] at hK
          have v0' : w'.cell? ⟨bl, ol + j, none⟩ = some (.int .i64 X) := (hb'.cell (p := ⟨bl, ol + j, none⟩) hlt).trans v0
          obtain ⟨lB, k0, k1, k2, -, -, -⟩ := gr.below hb'
          unfold Oper.wp
          go_simp
          try go_bits
          exact hK _ _ (Below.refl _ _) (by first | rfl | (show Value.int _ _ = Value.int _ _; go_num; done) | (simp [valOf, *]; done) | (simp [valOf]; omega))
        · intro _ a' w' hb' hs hd hn Kc hK
          clear hs hd hn
          rw [if_pos rfl] at hK
          unfold Oper.wp
          go_simp
          exact hK _ _ ((Below.refl _ _).alloc (Nat.le_refl _) _) (Nat.le_refl _) ⟨_, _, _, _, Box4.new _ _ _ _ _ _⟩
        · intro _ a' w' hb' hs hd hn Kc hK
          obtain ⟨g, f5, hg, hsh⟩ := hn 5 (by first | rfl | decide | simp [Region.binds]) rfl rfl
          have f22 : a'.tmps[22]?.getD undef = .agg #[.bool true, .bool C, .int .i64 (obK h X), .int .i64 F] := hd 7 22 (by first | rfl | decide | simp [Region.binds]) rfl (by decide) (by decide) rfl
          obtain ⟨x0, x1, x2, x3, h3⟩ := id hsh
          rw [if_neg (by decide), if_pos rfl] at hK
          have hfin := hK g (.tuple #[]) (puts4 g (.bool true) (.bool C) (.int .i64 (obK h X)) (.int .i64 F) w') (fun d hd => by obtain rfl : 5 = d := Option.some.inj (Option.some.inj hd); exact f5) (puts4_below hg _ _ _ _ w') hg (h3.put (.bool true) (.bool C) (.int .i64 (obK h X)) (.int .i64 F)) (shape4_puts h3 (.bool true) (.bool C) (.int .i64 (obK h X)) (.int .i64 F)) ⟨fun _ h => h, fun _ h => h, fun _ h => h, fun _ h => h, fun _ h => h, fun _ h => h, fun _ h => h, fun _ h => h, fun _ h => h, fun _ h => h, fun _ h => h, fun _ h => h, trivial⟩
          clear hs hd hn hK
          obtain ⟨h0, c0, c1, c2, c3, g0, g1, g2, g3⟩ := h3
          unfold puts4 at hfin
          unfold Oper.wp
          go_simp
          exact hfin
        · intro _ a' w' hb' hs hd hn Kc hK
          have f23 : a'.tmps[23]?.getD undef = .bool true := hd 8 23 (by first | rfl | decide | simp [Region.binds]) rfl (by decide) (by decide) rfl
          clear hs hd hn
          rw [if_neg (by decide), if_neg (by decide)] at hK
          have v0' : w'.cell? ⟨bl, ol + j, none⟩ = some (.int .i64 X) := (hb'.cell (p := ⟨bl, ol + j, none⟩) hlt).trans v0
          obtain ⟨lB, k0, k1, k2, -, -, -⟩ := gr.below hb'
          unfold Oper.wp
          go_simp
          try go_bits
          exact hK _ _ (Below.refl _ _) (by first | rfl | (show Value.int _ _ = Value.int _ _; go_num; done) | (simp [valOf, *]; done) | (simp [valOf]; omega))
      intro Xf g w' hX hb hv
      obtain ⟨hg, gX, hgp⟩ := hX (by decide)
      have q5 : Xf 5 = .pointer (some ⟨g, 0, none⟩) := hgp 5 rfl
      clear hX hv hgp
      simp only [List.map_cons, List.map_nil, q5, puts, Act.put, Nat.reduceAdd, List.setIfInBounds_toArray, List.set_cons_succ, List.set_cons_zero]
      obtain ⟨T, hT, hT1⟩ : ∃ T : Nat, X / 32 = (T : Int) ∧ T < h.m := ⟨(X / 32).toNat, by omega, by omega⟩
      have hTd : X.tdiv 32 = (T : Int) := by rw [Int.tdiv_eq_ediv_of_nonneg XP]; exact hT
      have ew : IntKind.i64.wrap (T : Int) = T := by rw [IntKind.wrap_i64]; omega
      have hsp : spH h (X / 32) = h.s T := by rw [hT]; exact spH_nat h T
      rw [hsp] at hno hyes
      have hat6 := hatr.below hb
      obtain ⟨⟨bs, os, rfl, hls, s0, s1, s2⟩, -⟩ := hat6.spans T hT1
      obtain ⟨lB, k0, k1, k2, -, -, -⟩ := gr.below hb
      obtain ⟨lX, y0, y1, y2, y3, -, -, -, -⟩ := gX
      have v06 : w'.cell? ⟨bl, ol + j, none⟩ = some (.int .i64 X) := (hb.cell (p := ⟨bl, ol + j, none⟩) hlt).trans v0
      have hlt6 : bl < w'.heap.size := Nat.lt_of_lt_of_le hlt hb.size
      have hbw6 := hbw.trans (hb.mono hbw.size)
      have hmc : (T : Int) < h.m := by omega
      clear hT hsp hb hatr gr v0 hlt hGj q5 hbw
      generalize obK h X = KK at *
      generalize (h.s T).cl = CC at *
      clear hat6 X0 X1
      by_cases e : KK = CC
      · replace hyes := hyes.out e
        subst e
        go_upto_region 6 with fail
        go_quiet (fail)
        go_wp2
        go_roundg (L.length - (j + 1))
        case measure => omega
        case rel => exact ⟨j + 1, by omega, rfl, by go_num, hyes, hbw6.trans ⟨rfl, rfl, rfl, Nat.le_refl _, fun _ _ => rfl⟩⟩
      · replace hno := hno.out e
        have e' : (KK != CC) = true := by simpa using e
        clear e hyes
        go_upto_region 6 with fail
        go_quiet (fail)
        go_wp2
        go_returns
        exact ⟨ret_bool hno.symm, bjoin (hbw6.trans ⟨rfl, rfl, rfl, Nat.le_refl _, fun _ _ => rfl⟩) hb0⟩
    · obtain rfl : j = L.length := by omega
      have hyes : AB = true := by
        rw [hap.out, List.all_eq_true]
        intro a ha
        obtain ⟨t, ht, rfl⟩ := List.getElem_of_mem ha
        have := hall'.out t ht
        rw [List.getElem?_eq_getElem ht] at this
        simpa using this
      go_wp2
      go_returns
      exact ⟨ret_bool hyes.symm, bjoin hbw hb0⟩
end Go.Proofs.YtiofeebiejkajaaDoor
