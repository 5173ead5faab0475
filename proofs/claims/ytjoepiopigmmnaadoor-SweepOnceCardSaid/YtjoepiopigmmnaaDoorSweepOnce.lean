/- SweepOnce: of every sound heap, and caches (of at most ten mutators): caches say nothing on what is freed; what was swept to its end and is black alone, begun and swept again, is the same, and nothing is freed. No condition; the table that the code reads is tied to the program's text. -/
import Derived.Test.YtjoepiopigmmnaaDoorRows
import Derived.Test.YtjoepiopigmmnaaDoorCards
import Derived.Test.YtjoepiopigmmnaaDoorTie
import Derived.Test.YtjoepiopigmmnaaDoorAwake12
import Derived.SevenTiedAt
namespace Go.Proofs.YtjoepiopigmmnaaDoor
set_option linter.unusedSimpArgs false
set_option linter.unusedVariables false
open Go.ChangeShapes Go.WideShapes Go.ChangeAt Go.RowKit Go.Joins

set_option maxHeartbeats 32000000 in
set_option maxRecDepth 20000 in
theorem once_walk {p : Option Addr} {c : Nat} {q : Option Addr} {d : Nat} {h : Hp} {pc : Option Addr} {k cc : Nat} {y : Nat → Int} (w : World) (hat : HpAt w p c q d h) (hin : Ints .i64 w pc (k * 4) y) (hk : k ≤ maxLen) (hS : Sz w) (hT : Tab w) :
    Calls Tryd.prog 5 #[.agg #[.slice p h.n c, .slice q h.m d, .bool h.b], .slice pc k cc] w fun e w' => e = .returned (.bool true) ∧ Below w.heap.size w w' := by
  obtain ⟨w0, hw0⟩ : ∃ w0, w0 = w.alloc (.cells #[.slice p h.n c, .slice q h.m d, .bool h.b] 25) := ⟨_, rfl⟩
  have g3 : Box3 w.heap.size (.slice p h.n c) (.slice q h.m d) (.bool h.b) w0 := by rw [hw0]; exact Box3.new _ _ _ _ _
  have hB0 : Below w.heap.size w w0 := by rw [hw0]; exact (Below.refl _ _).alloc (Nat.le_refl _) _
  replace hat := hat.below hB0
  replace hin := hin.below hB0
  replace hS := hS.below hB0
  replace hT := hT.below hB0
  obtain ⟨l3, x0, x1, x2, -, -, -⟩ := id g3
  have hCk := fun W (hW : Below w0.heap.size w0 W) => rcheck12_in (hat.below hW).in
  have hFe := fun W => few12_any pc k cc W hk
  by_cases hck : ckH h = 0
  case neg =>
    have hck' : (ckH h == 0) = false := beq_eq_false_iff_ne.2 hck
    generalize ckH h = C at *
    go_enter Tryd.func5, Tryd.ntmps5
    go_upto_region 1 with fail
    rw [← hw0]
    clear hw0
    go_wp2_with (first
    | (go_at_call 7; refine Calls.mono (awake12_any _ (hS.below (by go_grown)) (hT.below (by go_grown))) ?_; rintro e w' ⟨rfl, hb⟩; obtain ⟨hc, hf, hb, hz⟩ := bstep hb (w := w0) (by go_grown); try simp only [World.size_alloc, World.size_setCell, World.size_drew] at hc hf hz)
    | (go_at_call 8; refine Calls.mono (hCk _ (by go_grown)) ?_; rintro e w' ⟨rfl, hb⟩; obtain ⟨hc, hf, hb, hz⟩ := bstep hb (w := w0) (by go_grown); try simp only [World.size_alloc, World.size_setCell, World.size_drew] at hc hf hz)
    )
    go_returns
    exact ⟨rfl, bjoin hb hB0⟩
  case pos =>
    rw [hck] at hCk
    by_cases hk10 : k ≤ 10
    case neg =>
      rw [decide_eq_false hk10] at hFe
      clear hck
      go_enter Tryd.func5, Tryd.ntmps5
      go_upto_region 1 with fail
      rw [← hw0]
      clear hw0
      go_wp2_with (first
    | (go_at_call 7; refine Calls.mono (awake12_any _ (hS.below (by go_grown)) (hT.below (by go_grown))) ?_; rintro e w' ⟨rfl, hb⟩; obtain ⟨hc, hf, hb, hz⟩ := bstep hb (w := w0) (by go_grown); try simp only [World.size_alloc, World.size_setCell, World.size_drew] at hc hf hz)
    | (go_at_call 8; refine Calls.mono (hCk _ (by go_grown)) ?_; rintro e w' ⟨rfl, hb⟩; obtain ⟨hc, hf, hb, hz⟩ := bstep hb (w := w0) (by go_grown); try simp only [World.size_alloc, World.size_setCell, World.size_drew] at hc hf hz)
    | (go_at_call 9; refine Calls.mono (hFe _) ?_; rintro e w' ⟨rfl, hb⟩; obtain ⟨hc, hf, hb, hz⟩ := bstep hb (w := w0) (by go_grown); try simp only [World.size_alloc, World.size_setCell, World.size_drew] at hc hf hz)
      )
      go_returns
      exact ⟨rfl, bjoin hb hB0⟩
    case pos =>
      rw [decide_eq_true hk10] at hFe
      obtain ⟨hF, h2, h3, -⟩ := ck_zero.1 hck
      have hF' : Hid (formB h = true) := hF
      have hwf := hat.wf
      have S := swept hF hwf h2 h3 k y
      have S0 := swept hF hwf h2 h3 0 (fun _ => 0)
      obtain ⟨eW, eL⟩ := once_same hF hwf h2 h3 k y 0 (fun _ => 0)
      have hAl := fun W (hW : Below w0.heap.size w0 W) => sall_in (cc := cc) (hS.below hW) (hT.below hW) (hat.below hW).in hF'.out (hin.below hW) (show k ≤ 1000 by omega)
      have hAl0 := fun W (hW : Below w0.heap.size w0 W) => sall_in (pc := none) (k := 0) (cc := 0) (y := fun _ => 0) (hS.below hW) (hT.below hW) (hat.below hW).in hF'.out (fun i hi => by omega) (by decide)
      rw [← eW] at hAl0
      have wA := (al_form hF hwf k y 17)
      generalize (alA h k y 17).1 = A at *
      generalize (alA h k y 17).2 = WA at *
      generalize (alA h 0 (fun _ => 0) 17).1 = B at *
      have hAF : Hid (formB A = true) := S.form
      have hBF : Hid (formB B = true) := S0.form
      obtain ⟨M, z, eM, ez, hM, hzm, hzs, -⟩ := list_all hAF.out
      have hLi : ∀ W p c q d G, HpIn W p h.n c q h.m d h.b G → formB G = true → obL G G.n = obL A A.n → Calls Tryd.prog 14 #[.agg #[.slice p h.n c, .slice q h.m d, .bool h.b]] W fun e w' => ∃ pl cl, e = .returned (.slice pl M cl) ∧ Ints .i64 w' pl M z ∧ Below W.heap.size W w' := fun W p c q d G hh hf he => rlist12_row hh hf (by rw [he]; exact eM) (by rw [he]; exact ez)
      have hk10' : Hid (k ≤ 10) := hk10
      have eL' : Hid (obL B B.n = obL A A.n) := eL.symm
      have dW : (WA != WA) = false := by simp
      clear hF h2 h3 hwf hck eW eL wA S0 hk10 eM ez
      go_enter Tryd.func5, Tryd.ntmps5
      go_upto_region 1 with fail
      rw [← hw0]
      clear hw0
      go_upto_region 4 with (first
    | (go_at_call 7; refine Calls.mono (awake12_any _ (hS.below (by go_grown)) (hT.below (by go_grown))) ?_; rintro e w' ⟨rfl, hb⟩; obtain ⟨hc, hf, hb, hz⟩ := bstep hb (w := w0) (by go_grown); try simp only [World.size_alloc, World.size_setCell, World.size_drew] at hc hf hz)
    | (go_at_call 8; refine Calls.mono (hCk _ (by go_grown)) ?_; rintro e w' ⟨rfl, hb⟩; obtain ⟨hc, hf, hb, hz⟩ := bstep hb (w := w0) (by go_grown); try simp only [World.size_alloc, World.size_setCell, World.size_drew] at hc hf hz)
    | (go_at_call 9; refine Calls.mono (hFe _) ?_; rintro e w' ⟨rfl, hb⟩; obtain ⟨hc, hf, hb, hz⟩ := bstep hb (w := w0) (by go_grown); try simp only [World.size_alloc, World.size_setCell, World.size_drew] at hc hf hz)
    | (go_at_call 10; refine Calls.mono (hAl _ (by go_grown)) ?_; rintro e w' ⟨p1, c1, q1, d1, rfl, hh1, hb⟩; obtain ⟨hc, hf, hb, hz⟩ := bstep hb (w := w0) (by go_grown); try simp only [World.size_alloc, World.size_setCell, World.size_drew] at hc hf hz)
      )
      obtain ⟨w4, hw4⟩ : ∃ W, W = w'.alloc (.cells #[.slice p1 h.n c1, .slice q1 h.m d1, .bool h.b] 25) := ⟨_, rfl⟩
      have hB4 : Below w'.heap.size w' w4 := by rw [hw4]; exact (Below.refl _ _).alloc (Nat.le_refl _) _
      have gA : Box3 w'.heap.size (.slice p1 h.n c1) (.slice q1 h.m d1) (.bool h.b) w4 := by rw [hw4]; exact Box3.new _ _ _ _ _
      have hb4 := bjoin hB4 hb
      replace hh1 := hh1.below hB4
      replace g3 := g3.below hb4
      have hAl4 := hAl0 w4 hb4
      have hbW := bjoin hb4 hB0
      have hS4 := hS.below hb4
      have hT4 := hT.below hb4
      have hin4 := hin.below hb4
      rw [← hw4]
      clear hw4 hB4 hb4 hb hc hf hz x0 x1 x2 l3 hAl hAl0 hCk hFe hS hT hin hat
      generalize w'.heap.size = BA at *
      obtain ⟨l3, x0, x1, x2, -, -, -⟩ := id g3
      go_upto_region 5 with (first
    | (go_at_call 10; refine Calls.mono (hAl4) ?_; rintro e w' ⟨p2, c2, q2, d2, rfl, hh2, hb⟩; obtain ⟨hc, hf, hb, hz⟩ := bstep hb (w := w4) (by go_grown); try simp only [World.size_alloc, World.size_setCell, World.size_drew] at hc hf hz)
      )
      obtain ⟨w5, hw5⟩ : ∃ W, W = w'.alloc (.cells #[.slice p2 h.n c2, .slice q2 h.m d2, .bool h.b] 25) := ⟨_, rfl⟩
      have hB5 : Below w'.heap.size w' w5 := by rw [hw5]; exact (Below.refl _ _).alloc (Nat.le_refl _) _
      have gB : Box3 w'.heap.size (.slice p2 h.n c2) (.slice q2 h.m d2) (.bool h.b) w5 := by rw [hw5]; exact Box3.new _ _ _ _ _
      have hb5 := bjoin hB5 hb
      replace hh2 := hh2.below hB5
      replace hh1 := hh1.below hb5
      replace gA := gA.below hb5
      replace hbW := bjoin hb5 hbW
      replace hS4 := hS4.below hb5
      replace hT4 := hT4.below hb5
      replace hin4 := hin4.below hb5
      rw [← hw5]
      clear hw5 hB5 hb5 hb hc hf hz x0 x1 x2 l3 hAl4 g3
      generalize w'.heap.size = BB at *
      have hP1 : Hid (formB A = true ∧ obL A A.n = obL A A.n) := ⟨hAF.out, rfl⟩
      have hP2 : Hid (formB B = true ∧ obL B B.n = obL A A.n) := ⟨hBF.out, eL'.out⟩
      have hI : ∀ W p p' c c', Ints .i64 W p M z → Ints .i64 W p' M z → Calls Tryd.prog 17 #[.slice p M c, .slice p' M c'] W fun e w' => e = .returned (.bool true) ∧ Below W.heap.size W w' := fun W p p' c c' h1 h2 => by
        have := rints8_any p p' M c M c' z z W h1 h2 (by simp only [maxLen]; omega) (by simp only [maxLen]; omega)
        rw [show sameZ M z M z = true by simp [sameZ]] at this
        exact this
      refine wp_late (ds := [some 37, some 38, some 39, some 40, some 41, some 42, some 43, some 44, some 45, some 46, some 47, some 48, some 49, some 50, some 51, some 52, some 53, some 54, some 55]) (ts := [37, 38, 39, 40, 41, 42, 43, 44, 45, 46, 47, 48, 49, 50, 51, 52, 53, 54, 55]) (pv := [(fun v _ => v = .int .i64 WA), (fun v _ => v = .int .i64 WA), (fun v _ => v = .bool false), (fun v _ => v = .bool false), (fun v _ => v = .agg #[.slice p1 h.n c1, .slice q1 h.m d1, .bool h.b]), RowV (M) (z), (fun v _ => v = .agg #[.slice p2 h.n c2, .slice q2 h.m d2, .bool h.b]), RowV (M) (z), (fun v _ => v = .bool true), (fun v _ => v = .bool false), (fun v _ => v = .bool false), (fun v _ => v = .bool false), (fun v _ => v = .agg #[.slice p1 h.n c1, .slice q1 h.m d1, .bool h.b]), RowV (M) (z), (fun v _ => v = .agg #[.slice p2 h.n c2, .slice q2 h.m d2, .bool h.b]), RowV (M) (z), (fun v _ => v = .bool true), (fun v _ => v = .bool false), (fun v _ => v = .bool false)]) (skip := fun i => ([] : List Nat).contains i) (ia := 1000) (is := 1000) (k := 56) (Shape := (fun _ _ => True)) (Full := (fun _ _ => True)) (by kernel_rfl) (by kernel_rfl) rfl rfl (by decide) (by decide) (by simp) ?_ (by decide) (fun _ _ _ _ _ => trivial) (fun _ _ _ _ _ => trivial) ?_ ?_ ?_ ?_
      · exact .inl rfl
      · exact ⟨fun _ _ _ h _ => h, fun _ _ _ h _ => h, fun _ _ _ h _ => h, fun _ _ _ h _ => h, fun _ _ _ h _ => h, fun _ _ _ h hb => h.below hb, fun _ _ _ h _ => h, fun _ _ _ h hb => h.below hb, fun _ _ _ h _ => h, fun _ _ _ h _ => h, fun _ _ _ h _ => h, fun _ _ _ h _ => h, fun _ _ _ h _ => h, fun _ _ _ h hb => h.below hb, fun _ _ _ h _ => h, fun _ _ _ h hb => h.below hb, fun _ _ _ h _ => h, fun _ _ _ h _ => h, fun _ _ _ h _ => h, trivial⟩
      · exact ⟨rfl, rfl, rfl, rfl, ⟨rfl, ⟨_, rfl⟩, by decide, by decide, fun _ _ h => h⟩, ⟨rfl, ⟨_, rfl⟩, by decide, by decide, fun _ _ h => h⟩, ⟨rfl, ⟨_, rfl⟩, by decide, by decide, fun _ _ h => h⟩, ⟨rfl, ⟨_, rfl⟩, by decide, by decide, fun _ _ h => h⟩, ⟨rfl, ⟨_, rfl⟩, by decide, by decide, fun _ _ h => h⟩, ⟨rfl, ⟨_, rfl⟩, by decide, by decide, fun _ _ h => h⟩, rfl, rfl, ⟨rfl, ⟨_, rfl⟩, by decide, by decide, fun _ _ h => h⟩, ⟨rfl, ⟨_, rfl⟩, by decide, by decide, fun _ _ h => h⟩, ⟨rfl, ⟨_, rfl⟩, by decide, by decide, fun _ _ h => h⟩, ⟨rfl, ⟨_, rfl⟩, by decide, by decide, fun _ _ h => h⟩, ⟨rfl, ⟨_, rfl⟩, by decide, by decide, fun _ _ h => h⟩, ⟨rfl, ⟨_, rfl⟩, by decide, by decide, fun _ _ h => h⟩, rfl, trivial⟩
      · refine ⟨?_, ?_, ?_, ?_, ?_, ?_, ?_, ?_, ?_, ?_, ?_, ?_, ?_, ?_, ?_, ?_, ?_, ?_, ?_, trivial⟩
        · intro _ a' w' hb' hs hd hn Kc hK
          have f6 : a'.tmps[6]?.getD undef = .int .i64 WA := (hs 6 (by decide)).trans rfl
          clear hs hd hn
          rw [if_neg (by decide), if_neg (by decide)] at hK
          obtain ⟨lA, x0, x1, x2, -, -, -⟩ := gA.below hb'
          obtain ⟨lB, y0, y1, y2, -, -, -⟩ := gB.below hb'
          have k1 := hh1.below hb'
          have k2 := hh2.below hb'
          have k3 := hAF.out
          have k4 := hBF.out
          have k5 := eL'.out
          unfold Oper.wp
          go_simp
          try go_bits
          exact hK _ _ (Below.refl _ _) (by first | rfl | (show Value.int _ _ = Value.int _ _; go_num; done) | (simp [valOf, *]; done) | (simp [valOf]; omega))
        · intro _ a' w' hb' hs hd hn Kc hK
          have f8 : a'.tmps[8]?.getD undef = .int .i64 WA := (hs 8 (by decide)).trans rfl
          clear hs hd hn
          rw [if_neg (by decide), if_neg (by decide)] at hK
          obtain ⟨lA, x0, x1, x2, -, -, -⟩ := gA.below hb'
          obtain ⟨lB, y0, y1, y2, -, -, -⟩ := gB.below hb'
          have k1 := hh1.below hb'
          have k2 := hh2.below hb'
          have k3 := hAF.out
          have k4 := hBF.out
          have k5 := eL'.out
          unfold Oper.wp
          go_simp
          try go_bits
          exact hK _ _ (Below.refl _ _) (by first | rfl | (show Value.int _ _ = Value.int _ _; go_num; done) | (simp [valOf, *]; done) | (simp [valOf]; omega))
        · intro _ a' w' hb' hs hd hn Kc hK
          have f37 : a'.tmps[37]?.getD undef = .int .i64 WA := hd 0 37 (by first | rfl | decide | simp [Region.binds]) rfl (by decide) (by decide) rfl
          have f38 : a'.tmps[38]?.getD undef = .int .i64 WA := hd 1 38 (by first | rfl | decide | simp [Region.binds]) rfl (by decide) (by decide) rfl
          clear hs hd hn
          rw [if_neg (by decide), if_neg (by decide)] at hK
          obtain ⟨lA, x0, x1, x2, -, -, -⟩ := gA.below hb'
          obtain ⟨lB, y0, y1, y2, -, -, -⟩ := gB.below hb'
          have k1 := hh1.below hb'
          have k2 := hh2.below hb'
          have k3 := hAF.out
          have k4 := hBF.out
          have k5 := eL'.out
          unfold Oper.wp
          go_simp
          try go_bits
          exact hK _ _ (Below.refl _ _) (by first | rfl | (show Value.int _ _ = Value.int _ _; go_num; done) | (simp [valOf, *]; done) | (simp [valOf]; omega))
        · intro _ a' w' hb' hs hd hn Kc hK
          have f39 : a'.tmps[39]?.getD undef = .bool false := hd 2 39 (by first | rfl | decide | simp [Region.binds]) rfl (by decide) (by decide) rfl
          clear hs hd hn
          rw [if_neg (by decide), if_neg (by decide)] at hK
          obtain ⟨lA, x0, x1, x2, -, -, -⟩ := gA.below hb'
          obtain ⟨lB, y0, y1, y2, -, -, -⟩ := gB.below hb'
          have k1 := hh1.below hb'
          have k2 := hh2.below hb'
          have k3 := hAF.out
          have k4 := hBF.out
          have k5 := eL'.out
          unfold Oper.wp
          go_simp
          try go_bits
          exact hK _ _ (Below.refl _ _) (by first | rfl | (show Value.int _ _ = Value.int _ _; go_num; done) | (simp [valOf, *]; done) | (simp [valOf]; omega))
        · intro _ a' w' hb' hs hd hn Kc hK
          have f5 : a'.tmps[5]?.getD undef = .pointer (some ⟨BA, 0, none⟩) := (hs 5 (by decide)).trans rfl
          clear hs hd hn
          rw [if_neg (by decide), if_neg (by decide)] at hK
          obtain ⟨lA, x0, x1, x2, -, -, -⟩ := gA.below hb'
          obtain ⟨lB, y0, y1, y2, -, -, -⟩ := gB.below hb'
          have k1 := hh1.below hb'
          have k2 := hh2.below hb'
          have k3 := hAF.out
          have k4 := hBF.out
          have k5 := eL'.out
          unfold Oper.wp
          go_simp
          try go_bits
          exact hK _ _ (Below.refl _ _) (by first | rfl | (show Value.int _ _ = Value.int _ _; go_num; done) | (simp [valOf, *]; done) | (simp [valOf]; omega))
        · intro _ a' w' hb' hs hd hn Kc hK
          have f41 : a'.tmps[41]?.getD undef = .agg #[.slice p1 h.n c1, .slice q1 h.m d1, .bool h.b] := hd 4 41 (by first | rfl | decide | simp [Region.binds]) rfl (by decide) (by decide) rfl
          clear hs hd hn
          rw [if_neg (by decide), if_neg (by decide)] at hK
          obtain ⟨lA, x0, x1, x2, -, -, -⟩ := gA.below hb'
          obtain ⟨lB, y0, y1, y2, -, -, -⟩ := gB.below hb'
          have k1 := hh1.below hb'
          have k2 := hh2.below hb'
          have k3 := hAF.out
          have k4 := hBF.out
          have k5 := eL'.out
          unfold Oper.wp
          go_simp
          try go_bits
          refine Calls.mono (hLi _ _ _ _ _ _ (by assumption) (by assumption) (by (try assumption); (try rfl))) ?_
          rintro e w'' ⟨pm, cm, rfl, hA, hb2⟩
          exact hK _ _ hb2 ⟨_, _, rfl, hA⟩
        · intro _ a' w' hb' hs hd hn Kc hK
          have f7 : a'.tmps[7]?.getD undef = .pointer (some ⟨BB, 0, none⟩) := (hs 7 (by decide)).trans rfl
          clear hs hd hn
          rw [if_neg (by decide), if_neg (by decide)] at hK
          obtain ⟨lA, x0, x1, x2, -, -, -⟩ := gA.below hb'
          obtain ⟨lB, y0, y1, y2, -, -, -⟩ := gB.below hb'
          have k1 := hh1.below hb'
          have k2 := hh2.below hb'
          have k3 := hAF.out
          have k4 := hBF.out
          have k5 := eL'.out
          unfold Oper.wp
          go_simp
          try go_bits
          exact hK _ _ (Below.refl _ _) (by first | rfl | (show Value.int _ _ = Value.int _ _; go_num; done) | (simp [valOf, *]; done) | (simp [valOf]; omega))
        · intro _ a' w' hb' hs hd hn Kc hK
          have f43 : a'.tmps[43]?.getD undef = .agg #[.slice p2 h.n c2, .slice q2 h.m d2, .bool h.b] := hd 6 43 (by first | rfl | decide | simp [Region.binds]) rfl (by decide) (by decide) rfl
          clear hs hd hn
          rw [if_neg (by decide), if_neg (by decide)] at hK
          obtain ⟨lA, x0, x1, x2, -, -, -⟩ := gA.below hb'
          obtain ⟨lB, y0, y1, y2, -, -, -⟩ := gB.below hb'
          have k1 := hh1.below hb'
          have k2 := hh2.below hb'
          have k3 := hAF.out
          have k4 := hBF.out
          have k5 := eL'.out
          unfold Oper.wp
          go_simp
          try go_bits
          refine Calls.mono (hLi _ _ _ _ _ _ (by assumption) (by assumption) (by (try assumption); (try rfl))) ?_
          rintro e w'' ⟨pm, cm, rfl, hA, hb2⟩
          exact hK _ _ hb2 ⟨_, _, rfl, hA⟩
        · intro _ a' w' hb' hs hd hn Kc hK
          obtain ⟨pm, cm, f42, hA⟩ := hd 5 42 (by first | rfl | decide | simp [Region.binds]) rfl (by decide) (by decide) rfl
          obtain ⟨pm, cm, f44, hA⟩ := hd 7 44 (by first | rfl | decide | simp [Region.binds]) rfl (by decide) (by decide) rfl
          clear hs hd hn
          rw [if_neg (by decide), if_neg (by decide)] at hK
          obtain ⟨lA, x0, x1, x2, -, -, -⟩ := gA.below hb'
          obtain ⟨lB, y0, y1, y2, -, -, -⟩ := gB.below hb'
          have k1 := hh1.below hb'
          have k2 := hh2.below hb'
          have k3 := hAF.out
          have k4 := hBF.out
          have k5 := eL'.out
          unfold Oper.wp
          go_simp
          try go_bits
          refine Calls.mono (hI _ _ _ _ _ (by assumption) (by assumption)) ?_
          rintro e w'' ⟨rfl, hb2⟩
          exact hK _ _ hb2 rfl
        · intro _ a' w' hb' hs hd hn Kc hK
          have f45 : a'.tmps[45]?.getD undef = .bool true := hd 8 45 (by first | rfl | decide | simp [Region.binds]) rfl (by decide) (by decide) rfl
          clear hs hd hn
          rw [if_neg (by decide), if_neg (by decide)] at hK
          obtain ⟨lA, x0, x1, x2, -, -, -⟩ := gA.below hb'
          obtain ⟨lB, y0, y1, y2, -, -, -⟩ := gB.below hb'
          have k1 := hh1.below hb'
          have k2 := hh2.below hb'
          have k3 := hAF.out
          have k4 := hBF.out
          have k5 := eL'.out
          unfold Oper.wp
          go_simp
          try go_bits
          exact hK _ _ (Below.refl _ _) (by first | rfl | (show Value.int _ _ = Value.int _ _; go_num; done) | (simp [valOf, *]; done) | (simp [valOf]; omega))
        · intro _ a' w' hb' hs hd hn Kc hK
          have f40 : a'.tmps[40]?.getD undef = .bool false := hd 3 40 (by first | rfl | decide | simp [Region.binds]) rfl (by decide) (by decide) rfl
          have f46 : a'.tmps[46]?.getD undef = .bool false := hd 9 46 (by first | rfl | decide | simp [Region.binds]) rfl (by decide) (by decide) rfl
          clear hs hd hn
          rw [if_neg (by decide), if_neg (by decide)] at hK
          obtain ⟨lA, x0, x1, x2, -, -, -⟩ := gA.below hb'
          obtain ⟨lB, y0, y1, y2, -, -, -⟩ := gB.below hb'
          have k1 := hh1.below hb'
          have k2 := hh2.below hb'
          have k3 := hAF.out
          have k4 := hBF.out
          have k5 := eL'.out
          unfold Oper.wp
          go_simp
          try go_bits
          exact hK _ _ (Below.refl _ _) (by first | rfl | (show Value.int _ _ = Value.int _ _; go_num; done) | (simp [valOf, *]; done) | (simp [valOf]; omega))
        · intro _ a' w' hb' hs hd hn Kc hK
          have f47 : a'.tmps[47]?.getD undef = .bool false := hd 10 47 (by first | rfl | decide | simp [Region.binds]) rfl (by decide) (by decide) rfl
          clear hs hd hn
          rw [if_neg (by decide), if_neg (by decide)] at hK
          obtain ⟨lA, x0, x1, x2, -, -, -⟩ := gA.below hb'
          obtain ⟨lB, y0, y1, y2, -, -, -⟩ := gB.below hb'
          have k1 := hh1.below hb'
          have k2 := hh2.below hb'
          have k3 := hAF.out
          have k4 := hBF.out
          have k5 := eL'.out
          unfold Oper.wp
          go_simp
          try go_bits
          exact hK _ _ (Below.refl _ _) (by first | rfl | (show Value.int _ _ = Value.int _ _; go_num; done) | (simp [valOf, *]; done) | (simp [valOf]; omega))
        · intro _ a' w' hb' hs hd hn Kc hK
          have f5 : a'.tmps[5]?.getD undef = .pointer (some ⟨BA, 0, none⟩) := (hs 5 (by decide)).trans rfl
          clear hs hd hn
          rw [if_neg (by decide), if_neg (by decide)] at hK
          obtain ⟨lA, x0, x1, x2, -, -, -⟩ := gA.below hb'
          obtain ⟨lB, y0, y1, y2, -, -, -⟩ := gB.below hb'
          have k1 := hh1.below hb'
          have k2 := hh2.below hb'
          have k3 := hAF.out
          have k4 := hBF.out
          have k5 := eL'.out
          unfold Oper.wp
          go_simp
          try go_bits
          exact hK _ _ (Below.refl _ _) (by first | rfl | (show Value.int _ _ = Value.int _ _; go_num; done) | (simp [valOf, *]; done) | (simp [valOf]; omega))
        · intro _ a' w' hb' hs hd hn Kc hK
          have f49 : a'.tmps[49]?.getD undef = .agg #[.slice p1 h.n c1, .slice q1 h.m d1, .bool h.b] := hd 12 49 (by first | rfl | decide | simp [Region.binds]) rfl (by decide) (by decide) rfl
          clear hs hd hn
          rw [if_neg (by decide), if_neg (by decide)] at hK
          obtain ⟨lA, x0, x1, x2, -, -, -⟩ := gA.below hb'
          obtain ⟨lB, y0, y1, y2, -, -, -⟩ := gB.below hb'
          have k1 := hh1.below hb'
          have k2 := hh2.below hb'
          have k3 := hAF.out
          have k4 := hBF.out
          have k5 := eL'.out
          unfold Oper.wp
          go_simp
          try go_bits
          refine Calls.mono (hLi _ _ _ _ _ _ (by assumption) (by assumption) (by (try assumption); (try rfl))) ?_
          rintro e w'' ⟨pm, cm, rfl, hA, hb2⟩
          exact hK _ _ hb2 ⟨_, _, rfl, hA⟩
        · intro _ a' w' hb' hs hd hn Kc hK
          have f7 : a'.tmps[7]?.getD undef = .pointer (some ⟨BB, 0, none⟩) := (hs 7 (by decide)).trans rfl
          clear hs hd hn
          rw [if_neg (by decide), if_neg (by decide)] at hK
          obtain ⟨lA, x0, x1, x2, -, -, -⟩ := gA.below hb'
          obtain ⟨lB, y0, y1, y2, -, -, -⟩ := gB.below hb'
          have k1 := hh1.below hb'
          have k2 := hh2.below hb'
          have k3 := hAF.out
          have k4 := hBF.out
          have k5 := eL'.out
          unfold Oper.wp
          go_simp
          try go_bits
          exact hK _ _ (Below.refl _ _) (by first | rfl | (show Value.int _ _ = Value.int _ _; go_num; done) | (simp [valOf, *]; done) | (simp [valOf]; omega))
        · intro _ a' w' hb' hs hd hn Kc hK
          have f51 : a'.tmps[51]?.getD undef = .agg #[.slice p2 h.n c2, .slice q2 h.m d2, .bool h.b] := hd 14 51 (by first | rfl | decide | simp [Region.binds]) rfl (by decide) (by decide) rfl
          clear hs hd hn
          rw [if_neg (by decide), if_neg (by decide)] at hK
          obtain ⟨lA, x0, x1, x2, -, -, -⟩ := gA.below hb'
          obtain ⟨lB, y0, y1, y2, -, -, -⟩ := gB.below hb'
          have k1 := hh1.below hb'
          have k2 := hh2.below hb'
          have k3 := hAF.out
          have k4 := hBF.out
          have k5 := eL'.out
          unfold Oper.wp
          go_simp
          try go_bits
          refine Calls.mono (hLi _ _ _ _ _ _ (by assumption) (by assumption) (by (try assumption); (try rfl))) ?_
          rintro e w'' ⟨pm, cm, rfl, hA, hb2⟩
          exact hK _ _ hb2 ⟨_, _, rfl, hA⟩
        · intro _ a' w' hb' hs hd hn Kc hK
          obtain ⟨pm, cm, f50, hA⟩ := hd 13 50 (by first | rfl | decide | simp [Region.binds]) rfl (by decide) (by decide) rfl
          obtain ⟨pm, cm, f52, hA⟩ := hd 15 52 (by first | rfl | decide | simp [Region.binds]) rfl (by decide) (by decide) rfl
          clear hs hd hn
          rw [if_neg (by decide), if_neg (by decide)] at hK
          obtain ⟨lA, x0, x1, x2, -, -, -⟩ := gA.below hb'
          obtain ⟨lB, y0, y1, y2, -, -, -⟩ := gB.below hb'
          have k1 := hh1.below hb'
          have k2 := hh2.below hb'
          have k3 := hAF.out
          have k4 := hBF.out
          have k5 := eL'.out
          unfold Oper.wp
          go_simp
          try go_bits
          refine Calls.mono (hI _ _ _ _ _ (by assumption) (by assumption)) ?_
          rintro e w'' ⟨rfl, hb2⟩
          exact hK _ _ hb2 rfl
        · intro _ a' w' hb' hs hd hn Kc hK
          have f53 : a'.tmps[53]?.getD undef = .bool true := hd 16 53 (by first | rfl | decide | simp [Region.binds]) rfl (by decide) (by decide) rfl
          clear hs hd hn
          rw [if_neg (by decide), if_neg (by decide)] at hK
          obtain ⟨lA, x0, x1, x2, -, -, -⟩ := gA.below hb'
          obtain ⟨lB, y0, y1, y2, -, -, -⟩ := gB.below hb'
          have k1 := hh1.below hb'
          have k2 := hh2.below hb'
          have k3 := hAF.out
          have k4 := hBF.out
          have k5 := eL'.out
          unfold Oper.wp
          go_simp
          try go_bits
          exact hK _ _ (Below.refl _ _) (by first | rfl | (show Value.int _ _ = Value.int _ _; go_num; done) | (simp [valOf, *]; done) | (simp [valOf]; omega))
        · intro _ a' w' hb' hs hd hn Kc hK
          have f48 : a'.tmps[48]?.getD undef = .bool false := hd 11 48 (by first | rfl | decide | simp [Region.binds]) rfl (by decide) (by decide) rfl
          have f54 : a'.tmps[54]?.getD undef = .bool false := hd 17 54 (by first | rfl | decide | simp [Region.binds]) rfl (by decide) (by decide) rfl
          clear hs hd hn
          rw [if_neg (by decide), if_neg (by decide)] at hK
          obtain ⟨lA, x0, x1, x2, -, -, -⟩ := gA.below hb'
          obtain ⟨lB, y0, y1, y2, -, -, -⟩ := gB.below hb'
          have k1 := hh1.below hb'
          have k2 := hh2.below hb'
          have k3 := hAF.out
          have k4 := hBF.out
          have k5 := eL'.out
          unfold Oper.wp
          go_simp
          try go_bits
          exact hK _ _ (Below.refl _ _) (by first | rfl | (show Value.int _ _ = Value.int _ _; go_num; done) | (simp [valOf, *]; done) | (simp [valOf]; omega))
      intro Xf g w' hX hb hv
      have q55 : Xf 55 = .bool false := hv 18 55 rfl rfl (by decide) (by decide)
      clear hX hv
      simp only [List.map_cons, List.map_nil, q55, puts, Act.put, Nat.reduceAdd, List.setIfInBounds_toArray, List.set_cons_succ, List.set_cons_zero]
      replace hh1 := hh1.below hb
      replace gA := gA.below hb
      replace hS4 := hS4.below hb
      replace hT4 := hT4.below hb
      replace hin4 := hin4.below hb
      replace hbW := bjoin hb hbW
      clear hb gB hh2 hP1 hP2 hBF eL' q55
      generalize w' = w6 at *
      obtain ⟨lA, x0, x1, x2, -, -, -⟩ := id gA
      have hL1 := hLi _ _ _ _ _ _ hh1 hAF.out rfl
      go_upto_region 8 with (first
    | (go_at_call 14; refine Calls.mono (hL1) ?_; rintro e w' ⟨pl, cl, rfl, hI7, hb⟩; obtain ⟨hc, hf, hb, hz⟩ := bstep hb (w := w6) (by go_grown); try simp only [World.size_alloc, World.size_setCell, World.size_drew] at hc hf hz)
      )
      replace hh1 := hh1.below hb
      replace gA := gA.below hb
      replace hS4 := hS4.below hb
      replace hT4 := hT4.below hb
      replace hin4 := hin4.below hb
      replace hbW := bjoin hb hbW
      clear hb hc hf hz x0 x1 x2 lA hL1
      generalize w' = w7 at *
      go_wp2
      go_loopg [10] M (fun gg iv wr => ∃ t : Int, 0 ≤ t ∧ t ≤ M ∧ gg = (M - t).toNat ∧ iv = .int .i64 t ∧ (∀ j : Nat, j < t → blB A (z j) = true) ∧ Below w7.heap.size w7 wr)
      case atStart => exact ⟨0, by omega, by omega, by omega, rfl, fun j hj => by omega, Below.refl _ _⟩
      case round =>
        obtain ⟨t, t0, t1, rfl, rfl, hall, hbw⟩ := hrel
        by_cases ht : t < M
        · obtain ⟨⟨bl, ol, rfl, ll, v0⟩, -⟩ := (hI7.below hbw) t.toNat (by omega)
          have hBl := fun W (hW : Below wr.heap.size wr W) => rblack12_in (a := z t.toNat) ((hh1.below hbw).below hW) hAF.out
          have gAr := gA.below hbw
          have hnext : Hid (blB A (z t.toNat) = true → ∀ j : Nat, j < t + 1 → blB A (z j) = true) := fun e j hj => by
            by_cases e' : j = t.toNat
            · subst e'; exact e
            · exact hall j (by omega)
          clear hall
          generalize hbk : blB A (z t.toNat) = bk at *
          clear hbk
          generalize z t.toNat = X at *
          go_upto_region 11 with fail
          refine wp_late (ds := [some 64, some 65, some 66, some 67, some 68, some 69, some 70]) (ts := [64, 65, 66, 67, 68, 69, 70]) (pv := [(fun v _ => v = .agg #[.slice p1 h.n c1, .slice q1 h.m d1, .bool h.b]), (fun v _ => v = .slice (some ⟨bl, ol, none⟩) M cl), (fun v _ => v = .int .i64 t), (fun v _ => v = .pointer (some ⟨bl, ol + t.toNat, none⟩)), (fun v _ => v = .int .i64 X), (fun v _ => v = .bool bk), (fun v _ => v = .bool (!bk))]) (skip := fun i => ([] : List Nat).contains i) (ia := 1000) (is := 1000) (k := 71) (Shape := (fun _ _ => True)) (Full := (fun _ _ => True)) (by kernel_rfl) (by kernel_rfl) rfl rfl (by decide) (by decide) (by simp) ?_ (by decide) (fun _ _ _ _ _ => trivial) (fun _ _ _ _ _ => trivial) ?_ ?_ ?_ ?_
          · exact .inl rfl
          · exact ⟨fun _ _ _ h _ => h, fun _ _ _ h _ => h, fun _ _ _ h _ => h, fun _ _ _ h _ => h, fun _ _ _ h _ => h, fun _ _ _ h _ => h, fun _ _ _ h _ => h, trivial⟩
          · exact ⟨rfl, rfl, rfl, rfl, rfl, rfl, rfl, trivial⟩
          · refine ⟨?_, ?_, ?_, ?_, ?_, ?_, ?_, trivial⟩
            · intro _ a' w' hb' hs hd hn Kc hK
              have f5 : a'.tmps[5]?.getD undef = .pointer (some ⟨BA, 0, none⟩) := (hs 5 (by decide)).trans rfl
              clear hs hd hn
              rw [if_neg (by decide), if_neg (by decide)] at hK
              obtain ⟨lA, x0, x1, x2, -, -, -⟩ := gAr.below hb'
              have v0' := (hb'.cell (p := ⟨bl, ol + t.toNat, none⟩) ll).trans v0
              unfold Oper.wp
              go_simp
              try go_bits
              exact hK _ _ (Below.refl _ _) (by first | rfl | (show Value.int _ _ = Value.int _ _; go_num; done) | (simp [valOf, *]; done) | (simp [valOf]; omega))
            · intro _ a' w' hb' hs hd hn Kc hK
              have f9 : a'.tmps[9]?.getD undef = .slice (some ⟨bl, ol, none⟩) M cl := (hs 9 (by decide)).trans rfl
              clear hs hd hn
              rw [if_neg (by decide), if_neg (by decide)] at hK
              obtain ⟨lA, x0, x1, x2, -, -, -⟩ := gAr.below hb'
              have v0' := (hb'.cell (p := ⟨bl, ol + t.toNat, none⟩) ll).trans v0
              unfold Oper.wp
              go_simp
              try go_bits
              exact hK _ _ (Below.refl _ _) (by first | rfl | (show Value.int _ _ = Value.int _ _; go_num; done) | (simp [valOf, *]; done) | (simp [valOf]; omega))
            · intro _ a' w' hb' hs hd hn Kc hK
              have f10 : a'.tmps[10]?.getD undef = .int .i64 t := (hs 10 (by decide)).trans rfl
              clear hs hd hn
              rw [if_neg (by decide), if_neg (by decide)] at hK
              obtain ⟨lA, x0, x1, x2, -, -, -⟩ := gAr.below hb'
              have v0' := (hb'.cell (p := ⟨bl, ol + t.toNat, none⟩) ll).trans v0
              unfold Oper.wp
              go_simp
              try go_bits
              exact hK _ _ (Below.refl _ _) (by first | rfl | (show Value.int _ _ = Value.int _ _; go_num; done) | (simp [valOf, *]; done) | (simp [valOf]; omega))
            · intro _ a' w' hb' hs hd hn Kc hK
              have f65 : a'.tmps[65]?.getD undef = .slice (some ⟨bl, ol, none⟩) M cl := hd 1 65 (by first | rfl | decide | simp [Region.binds]) rfl (by decide) (by decide) rfl
              have f66 : a'.tmps[66]?.getD undef = .int .i64 t := hd 2 66 (by first | rfl | decide | simp [Region.binds]) rfl (by decide) (by decide) rfl
              clear hs hd hn
              rw [if_neg (by decide), if_neg (by decide)] at hK
              obtain ⟨lA, x0, x1, x2, -, -, -⟩ := gAr.below hb'
              have v0' := (hb'.cell (p := ⟨bl, ol + t.toNat, none⟩) ll).trans v0
              unfold Oper.wp
              go_simp
              try go_bits
              exact hK _ _ (Below.refl _ _) (by first | rfl | (show Value.int _ _ = Value.int _ _; go_num; done) | (simp [valOf, *]; done) | (simp [valOf]; omega))
            · intro _ a' w' hb' hs hd hn Kc hK
              have f67 : a'.tmps[67]?.getD undef = .pointer (some ⟨bl, ol + t.toNat, none⟩) := hd 3 67 (by first | rfl | decide | simp [Region.binds]) rfl (by decide) (by decide) rfl
              clear hs hd hn
              rw [if_neg (by decide), if_neg (by decide)] at hK
              obtain ⟨lA, x0, x1, x2, -, -, -⟩ := gAr.below hb'
              have v0' := (hb'.cell (p := ⟨bl, ol + t.toNat, none⟩) ll).trans v0
              unfold Oper.wp
              go_simp
              try go_bits
              exact hK _ _ (Below.refl _ _) (by first | rfl | (show Value.int _ _ = Value.int _ _; go_num; done) | (simp [valOf, *]; done) | (simp [valOf]; omega))
            · intro _ a' w' hb' hs hd hn Kc hK
              have f64 : a'.tmps[64]?.getD undef = .agg #[.slice p1 h.n c1, .slice q1 h.m d1, .bool h.b] := hd 0 64 (by first | rfl | decide | simp [Region.binds]) rfl (by decide) (by decide) rfl
              have f68 : a'.tmps[68]?.getD undef = .int .i64 X := hd 4 68 (by first | rfl | decide | simp [Region.binds]) rfl (by decide) (by decide) rfl
              clear hs hd hn
              rw [if_neg (by decide), if_neg (by decide)] at hK
              obtain ⟨lA, x0, x1, x2, -, -, -⟩ := gAr.below hb'
              have v0' := (hb'.cell (p := ⟨bl, ol + t.toNat, none⟩) ll).trans v0
              unfold Oper.wp
              go_simp
              try go_bits
              refine Calls.mono (hBl _ hb') ?_
              rintro e w'' ⟨rfl, hb2⟩
              exact hK _ _ hb2 rfl
            · intro _ a' w' hb' hs hd hn Kc hK
              have f69 : a'.tmps[69]?.getD undef = .bool bk := hd 5 69 (by first | rfl | decide | simp [Region.binds]) rfl (by decide) (by decide) rfl
              clear hs hd hn
              rw [if_neg (by decide), if_neg (by decide)] at hK
              obtain ⟨lA, x0, x1, x2, -, -, -⟩ := gAr.below hb'
              have v0' := (hb'.cell (p := ⟨bl, ol + t.toNat, none⟩) ll).trans v0
              unfold Oper.wp
              go_simp
              try go_bits
              exact hK _ _ (Below.refl _ _) (by first | rfl | (show Value.int _ _ = Value.int _ _; go_num; done) | (simp [valOf, *]; done) | (simp [valOf]; omega))
          intro Xf g w' hX hb hv
          have q70 : Xf 70 = .bool (!bk) := hv 6 70 rfl rfl (by decide) (by decide)
          clear hX hv
          simp only [List.map_cons, List.map_nil, q70, puts, Act.put, Nat.reduceAdd, List.setIfInBounds_toArray, List.set_cons_succ, List.set_cons_zero]
          replace hbw := bjoin hb hbw
          clear hBl v0 gAr
          cases bk with
          | false =>
            go_wp2
            go_returns
            exact ⟨rfl, bjoin hbw hbW⟩
          | true =>
            have hn1 := hnext.out rfl
            clear hnext
            go_wp2
            go_roundg (M - (t + 1)).toNat
            case measure => omega
            case rel => exact ⟨t + 1, by omega, by omega, rfl, by go_num, hn1, hbw⟩
        · obtain rfl : t = M := by omega
          obtain ⟨bF, bw, b2, bL⟩ := once_black S (fun a ha => by obtain ⟨t, ht, e⟩ := hzs a ha; rw [← e]; exact hall t (by omega)) k y
          have bF' : Hid (formB (bgH A) = true) := bF
          have cF : Hid (formB (alA (bgH A) k y 17).1 = true) := (al_form bF bw k y 17).1
          have bL' : Hid (obL (alA (bgH A) k y 17).1 (alA (bgH A) k y 17).1.n = obL A A.n) := bL
          have hh7 := hh1.below hbw
          have gA7 := gA.below hbw
          have hS7 := hS4.below hbw
          have hT7 := hT4.below hbw
          have hin7 := hin4.below hbw
          have hI8 := hI7.below hbw
          have hbE := bjoin hbw hbW
          have hBg := sbegin_in hS7 hT7 hh7 hAF.out
          have hAl : ∀ W p' c' q' d', Below wr.heap.size wr W → HpIn W p' h.n c' q' h.m d' h.b (bgH A) → Calls Tryd.prog 10 #[.agg #[.slice p' h.n c', .slice q' h.m d', .bool h.b], .slice pc k cc] W fun e w' => ∃ p'' c'' q'' d'', e = .returned (.tuple #[.agg #[.slice p'' h.n c'', .slice q'' h.m d'', .bool h.b], .int .i64 0]) ∧ HpIn w' p'' h.n c'' q'' h.m d'' h.b (alA (bgH A) k y 17).1 ∧ Below W.heap.size W w' := fun W p' c' q' d' hW hh => by
            have := sall_in (cc := cc) (hS7.below hW) (hT7.below hW) hh bF'.out (hin7.below hW) (show k ≤ 1000 by have := hk10'.out; omega)
            rw [b2] at this
            exact this
          generalize (alA (bgH A) k y 17).1 = D at *
          clear hall hzm hzs bF bw b2 bL hbw hh1 gA hS4 hT4 hin4 hI7
          generalize wr = w8 at *
          obtain ⟨lA, x0, x1, x2, -, -, -⟩ := id gA7
          go_upto_region 14 with (first
    | (go_at_call 21; refine Calls.mono (hBg) ?_; rintro e w' ⟨p3, c3, q3, d3, rfl, hh3, -, -, hb⟩; obtain ⟨hc, hf, hb, hz⟩ := bstep hb (w := w8) (by go_grown); try simp only [World.size_alloc, World.size_setCell, World.size_drew] at hc hf hz)
    | (go_at_call 10; refine Calls.mono (hAl _ _ _ _ _ (by assumption) hh3) ?_; rintro e w' ⟨p4, c4, q4, d4, rfl, hh4, hb⟩; obtain ⟨hc, hf, hb, hz⟩ := bstep hb (w := w8) (by go_grown); try simp only [World.size_alloc, World.size_setCell, World.size_drew] at hc hf hz)
          )
          obtain ⟨w9, hw9⟩ : ∃ W, W = w'.alloc (.cells #[.slice p4 h.n c4, .slice q4 h.m d4, .bool h.b] 25) := ⟨_, rfl⟩
          have hB9 : Below w'.heap.size w' w9 := by rw [hw9]; exact (Below.refl _ _).alloc (Nat.le_refl _) _
          have gD : Box3 w'.heap.size (.slice p4 h.n c4) (.slice q4 h.m d4) (.bool h.b) w9 := by rw [hw9]; exact Box3.new _ _ _ _ _
          have hb9 := bjoin hB9 hb
          replace hh4 := hh4.below hB9
          replace hI8 := hI8.below hb9
          replace hbE := bjoin hb9 hbE
          rw [← hw9]
          clear hw9 hB9 hb9 hb hc hf hz x0 x1 x2 lA hh3 hBg hAl
          obtain ⟨lD, y0, y1, y2, -, -, -⟩ := id gD
          have hLD := hLi _ _ _ _ _ _ hh4 cF.out bL'.out
          go_wp2_with (first
    | (go_at_call 14; refine Calls.mono (hLD) ?_; rintro e w' ⟨pm, cm, rfl, hI9, hb⟩; obtain ⟨hc, hf, hb, hz⟩ := bstep hb (w := w9) (by go_grown); try simp only [World.size_alloc, World.size_setCell, World.size_drew] at hc hf hz)
    | (go_at_call 17; refine Calls.mono (hI _ _ _ _ _ hI9 (hI8.below (by assumption))) ?_; rintro e w' ⟨rfl, hb⟩; obtain ⟨hc, hf, hb, hz⟩ := bstep hb (w := w9) (by go_grown); try simp only [World.size_alloc, World.size_setCell, World.size_drew] at hc hf hz)
          )
          go_returns
          exact ⟨ret_bool (by simp), bjoin hb hbE⟩
namespace SweepOnce
/-- What the row lists. -/
def lists : List (String × DataW Unit) := [("flotsam/class.sizes", Rows.laid_flotsam_class_sizes)]
set_option maxRecDepth 100000 in
theorem lifted (os : Os) (started : os.Started) (H : Type) (enc : TypeId × Value → H) :
    ReturnsInHanded {} Tryd.checked os 5 .any (fun w args => (Rows.sweepOnceSpec.pre enc Tryd.prog Tryd.f5 Rows.sweepOnceRow.domain false w args ∧ laidMetH Tryd.prog lists w) ∧ sizedMet enc Tryd.prog Tryd.f5 (OpenSpec.ofChange Rows.sweepOnceSpec) false w args) (Rows.sweepOnceSpec.post enc Tryd.prog Tryd.f5 false true false false) := by
  refine law_lifted_laid (C := Tryd.checked) seat_own started (by kernel_rfl) Tryd.func5 (by kernel_rfl) (of_decide_eq_true (by kernel_rfl)) rfl
    (fun ds hd => by have hd' : ds.length = 2 := hd; match ds, hd' with | [d0, d1], _ => rfl) rfl Tryd.underlying4
    (ChangeSpec.witness_shaped (enc := enc) (C := Tryd.checked) (os := os) (X := fun w _ => laidMetH Tryd.prog lists w) false (World.laidAll Tryd.prog os lists) #[.agg #[.slice none 0 0, .slice none 0 0, .bool false], .slice none 0 0] 8 (World.laidAll_os _ _ _)
      (World.shaped_of_ZipB (by kernel_rfl) (by kernel_rfl)) (by kernel_rfl) (by kernel_rfl) (by kernel_rfl)
      (by rw [MakeChecks.laidMetH_plain _ _ _ (by kernel_rfl)]; exact laidMet_laidAll _ (by kernel_rfl) (by kernel_rfl))) ?_
  intro W base args ds p hval hA hlt hL
  have hS : Sz W := sizes_of hL (by kernel_rfl) rfl
  rw [Tryd.params5] at hA hval
  obtain ⟨v0, v1, d0, d1, p0, p1, rfl, rfl, rfl, h0, h1⟩ := trodAll_two hA
  obtain ⟨x0, q0, c0, s0, e0, rfl, hh0⟩ := open_heap Tryd.underlying25 (by kernel_rfl) (by kernel_rfl) Tryd.underlying22 (by kernel_rfl) (by kernel_rfl) Tryd.underlying23 Tryd.underlying42 (by kernel_rfl) (by kernel_rfl) (by kernel_rfl) (by kernel_rfl) (by kernel_rfl) (by kernel_rfl) (hval 0 25 v0 rfl rfl) h0
  obtain ⟨q1, n1, cap1, z1, rfl, hn1, hz1, hq1⟩ := open_caches Tryd.underlying26 Tryd.underlying50 (by kernel_rfl) (by kernel_rfl) Tryd.underlying3 (hval 1 26 v1 rfl rfl) h1
  exact once_walk W hh0 hz1 hn1 hS (tab_any W)

theorem row_holds : Rows.SweepOnceSaid :=
  OpenClaim.holds_of_wide 5 Tryd.f5 rfl rfl rfl rfl rfl rfl rfl ⟨rfl, rfl, rfl, rfl, rfl⟩ rfl rfl rfl rfl rfl (by kernel_rfl) Tryd.func5 (by kernel_rfl)
    (of_decide_eq_true (by kernel_rfl)) (by unfold Func.isWrapper; first | (rw [if_pos (by decide +kernel)]; kernel_rfl) | (rw [if_neg (by decide +kernel)]; exact ⟨rfl, rfl⟩))
    (fun os started H enc _ => lifted os started H enc)
/-- The tied card. -/
theorem holds : Rows.SweepOnceCardSaid :=
  Claim7.holds_tied_plain_at .later [] [.data] true (true, "b8fd3047d9a688a107e8e65d17c87f1d92279598948f27d970289a927db46c99") false row_holds (fun _ h => by cases h) (by kernel_rfl) (fun _ h => by cases h) sweepOnce_row_tie rfl ⟨rfl, rfl⟩ (by kernel_rfl) rfl
    (fun f fn hf hfn => by
      obtain rfl : f = 5 := Option.some.inj ((show Tryd.prog.funcNamed "flotsam/flotsamlaw12.SweepOnce" = some 5 by kernel_rfl).symm.trans hf) |>.symm
      obtain rfl : fn = Tryd.f5 := (Option.some.inj (Tryd.func5.symm.trans hfn)).symm
      exact ⟨by kernel_rfl, fun j t ht => by
        rw [Tryd.params5] at ht
        have hm : t ∈ [25, 26] := by simpa using Array.mem_of_getElem? ht
        have hall : ([25, 26].all fun u => !Tryd.prog.wantsStandIn u) = true := by kernel_rfl
        exact (show Tryd.prog.wantsStandIn t = false by simpa using List.all_eq_true.1 hall t hm)⟩)
    (by kernel_rfl)
#print axioms holds
end SweepOnce
end Go.Proofs.YtjoepiopigmmnaaDoor
