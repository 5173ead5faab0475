import Derived.Test.YtkehankfnkjnlaaGreatDoorV42
namespace Go.Proofs.YtkehankfnkjnlaaGreatDoor
set_option linter.unusedSimpArgs false
set_option linter.unusedVariables false
set_option maxHeartbeats 16000000
set_option maxRecDepth 20000
open Go.ChangeAt Go.ChangeShapes Go.Joins Go.RowKit Go.WideShapes
variable {h : Hp} {w w' W W' : World} {p q : Option Addr} {n g : Nat} {a : Int} {v : Value}
def putHM (g g' : Nat) (xs ys : List Value) (w : World) : World := putsL g' 0 ys (putsL g 0 xs w)
theorem zgs {N g g' : Nat} {xs ys : Array Value} {n c : Nat} {k d : Nat} {b : Bool} {m : Mk} {pg : Option Addr} {cg : Nat} {pb : Option Addr} {cb : Nat} {pr : Option Addr} {cr : Nat} 
  (h1 : TBox 27 g xs w) (hx : xs.size = 3 ∧ PlainC xs) (h2 : TBox 35 g' ys w) (hy : ys.size = 8 ∧ PlainC ys) (hg : N ≤ g) (hg' : N ≤ g') (hn : 32 ≤ n) (hk : 0 < k) (hh : HpIn w p n c q k d b h) (hM : MAtE N w m pg cg pb cb pr cr) :
  HpIn (putHM g g' [.slice p n c, .slice q k d, .bool b] [.int .i64 m.g.r, .slice pg m.g.n cg, .slice pb m.nb cb, .slice pr m.nr cr, .int .i64 m.ob, .int .i64 m.fi, .int .i64 m.cu, .bool m.ov] w) p n c q k d b h ∧
   MAtE N (putHM g g' [.slice p n c, .slice q k d, .bool b] [.int .i64 m.g.r, .slice pg m.g.n cg, .slice pb m.nb cb, .slice pr m.nr cr, .int .i64 m.ob, .int .i64 m.fi, .int .i64 m.cu, .bool m.ov] w) m pg cg pb cb pr cr := by
 have v1 : VarT 27 3 g w := ⟨xs, hx.1, hx.2, h1⟩
 have v2 : VarT 35 8 g' w := ⟨ys, hy.1, hy.2, h2⟩
 have hA := zan (v1.clear hh hn hk) [.slice p n c, .slice q k d, .bool b] 0 hh
 have hB := hM.puts v1 (by decide) (by decide) (by decide) hg [.slice p n c, .slice q k d, .bool b]
 have v3 := v2.puts (g := g) (zes p n c q k d b)
 exact ⟨zan (v3.clear hA hn hk) _ 0 hA, hB.puts v3 (by decide) (by decide) (by decide) hg' _⟩
theorem zbu {B g g' : Nat} (hg : B ≤ g) (hg' : B ≤ g') (xs ys : List Value) (w : World) : Below B w (putHM g g' xs ys w) := (zao hg xs 0 w).trans (zao hg' ys 0 _)
theorem zdf {g g' : Nat} {xs : Array Value} {x0 x1 x2 x3 x4 x5 x6 x7 : Value} (h1 : TBox 27 g xs w) (hx : xs.size = 3) (h2 : TBox 35 g' #[x0, x1, x2, x3, x4, x5, x6, x7] w) (a0 a1 a2 b0 b1 b2 b3 b4 b5 b6 b7 : Value) :
  TBox 27 g #[a0, a1, a2] (putHM g g' [a0, a1, a2] [b0, b1, b2, b3, b4, b5, b6, b7] w) ∧ TBox 35 g' #[b0, b1, b2, b3, b4, b5, b6, b7] (putHM g g' [a0, a1, a2] [b0, b1, b2, b3, b4, b5, b6, b7] w) := by
 have hne : ¬ g = g' := by
  rintro rfl
  have := h1.symm.trans h2
  injection this with this
  injection this with _ this
  exact absurd this (by decide)
 obtain ⟨⟨l⟩, hl⟩ : ∃ ys, ys = xs := ⟨xs, rfl⟩
 subst hl
 rcases l with _ | ⟨y0, _ | ⟨y1, _ | ⟨y2, _ | ⟨y3, l⟩⟩⟩⟩
 ·simp at hx
 ·simp at hx
 ·simp at hx
 ·have e1 := h1.putsL [a0, a1, a2] 0
  simp only [setFrom, Nat.reduceAdd, List.setIfInBounds_toArray, List.set_cons_succ, List.set_cons_zero] at e1
  have e2 := (h2.of_block (zah (fun e => hne e.symm) [a0, a1, a2] 0 w)).putsL [b0, b1, b2, b3, b4, b5, b6, b7] 0
  rw [zkn] at e2
  exact ⟨e1.of_block (zah hne _ 0 _), e2⟩
 ·simp at hx
theorem zch : PlainC #[.int .i64 0, .slice none 0 0, .slice none 0 0, .slice none 0 0, .int .i64 0, .int .i64 0, .int .i64 0, .bool false] := ⟨by decide, fun i x e => by
 match i, e with
 | 0, e => simp at e
 | 1, e => simp at e
 | 2, e => simp at e
 | 3, e => simp at e
 | 4, e => simp at e
 | 5, e => simp at e
 | 6, e => simp at e
 | 7, e => simp at e
 | i + 8, e => simp at e⟩
theorem zq4 {T B : Nat} {x0 x1 x2 x3 x4 x5 : Value} (h : TBox T B #[x0, x1, x2, x3, x4, x5] w) :
  w.cell? ⟨B, 0, none⟩ = some x0 ∧ w.cell? ⟨B, 1, none⟩ = some x1 ∧ w.cell? ⟨B, 2, none⟩ = some x2 ∧ w.cell? ⟨B, 3, none⟩ = some x3 ∧ w.cell? ⟨B, 4, none⟩ = some x4 ∧ w.cell? ⟨B, 5, none⟩ = some x5 :=
 ⟨h.cell 0, h.cell 1, h.cell 2, h.cell 3, h.cell 4, h.cell 5⟩
theorem StepL.no {N B n k : Nat} {b : Bool} {m : Mk} {j : Nat} {e : Ending} (hs : StepL N B n k b h m j w e w') (hc : cS m j = false) : e = .returned (.bool false) ∧ StV N B n k b h m w' ∧ Aside (fun k => k = B) w w' :=
 ⟨by rw [hs.1, hc], hs.2.2.2 hc, hs.2.1⟩
theorem StepL.yes {N B n k : Nat} {b : Bool} {m : Mk} {j : Nat} {e : Ending} {H : Hp} {M : Mk} {D : Bool} (hs : StepL N B n k b h m j w e w') (hc : cS m j = true) (hR : stM h m = (H, M, D)) : e = .returned (.bool true) ∧ StV N B n k b H M w' ∧ D = false ∧ Aside (fun k => k = B) w w' := by
 obtain ⟨h1, h2, h3, -⟩ := hs
 obtain ⟨h3, h4⟩ := h3 hc
 rw [hR] at h3 h4
 exact ⟨by rw [h1, hc], h3, h4, h2⟩
theorem zu0 (N : Nat) {n c : Nat} {k d : Nat} {b : Bool} {m : Mk} {pg : Option Addr} {cg : Nat} {pb : Option Addr} {cb : Nat} {pr : Option Addr} {cr : Nat} 
  (hS : Sz w) (hh : HpIn w p n c q k d b h) (hF : formB h = true) (hM : MAtE N w m pg cg pb cb pr cr) (hN : N ≤ w.heap.size) (hR : rightM h m) (hr : m.nr ≤ 1000000) (hb : m.nb ≤ 1000) :
  Calls Tryz.prog 94 #[.agg #[.slice p n c, .slice q k d, .bool b], .agg #[.int .i64 m.g.r, .slice pg m.g.n cg, .slice pb m.nb cb, .slice pr m.nr cr, .int .i64 m.ob, .int .i64 m.fi, .int .i64 m.cu, .bool m.ov]] w fun e w' => ∃ p' c' q' d' pg' cg' pb' cb' pr' cr', e = .returned (.tuple #[.agg #[.slice p' n c', .slice q' k d', .bool b],
    .agg #[.int .i64 (stM h m).2.1.g.r, .slice pg' (stM h m).2.1.g.n cg', .slice pb' (stM h m).2.1.nb cb', .slice pr' (stM h m).2.1.nr cr', .int .i64 (stM h m).2.1.ob, .int .i64 (stM h m).2.1.fi, .int .i64 (stM h m).2.1.cu, .bool (stM h m).2.1.ov], .bool (stM h m).2.2]) ∧
   HpIn w' p' n c' q' k d' b (stM h m).1 ∧ MAtE N w' (stM h m).2.1 pg' cg' pb' cb' pr' cr' ∧ Below w.heap.size w w' := by
 obtain ⟨w0, hw0⟩ : ∃ w0, w0 = (((w.alloc (.cells #[.slice p n c, .slice q k d, .bool b] 27)).alloc (.cells #[.int .i64 m.g.r, .slice pg m.g.n cg, .slice pb m.nb cb, .slice pr m.nr cr, .int .i64 m.ob, .int .i64 m.fi, .int .i64 m.cu, .bool m.ov] 35)).alloc (.cells #[.slice none 0 0, .slice none 0 0, .bool false] 27)).alloc (.cells #[.int .i64 0, .slice none 0 0, .slice none 0 0, .slice none 0 0, .int .i64 0, .int .i64 0, .int .i64 0, .bool false] 35) := ⟨_, rfl⟩
 obtain ⟨g2, g3, g4, g5, hb0⟩ := zsr hw0
 have hn32 : 32 ≤ n := by have := zcf hF; have := hh.n_eq; omega
 have hk0 : 0 < k := by have := zcf hF; have := hh.m_eq; omega
 have hSw := hS
 have hhw := hh
 have hMw := hM
 have hb5 := g5.lt
 replace hh := hh.below hb0
 replace hM := hM.below hb0
 replace hS := hS.below hb0
 obtain ⟨⟨H, M, D⟩, hRs⟩ : ∃ R, stM h m = R := ⟨_, rfl⟩
 rw [hRs]
 dsimp only
 go_enter Tryz.func94, Tryz.ntmps94
 go_upto_region 1 with fail
 rw [← hw0]
 clear hw0
 go_upto_region 2 with fail
 obtain ⟨w1, hw1⟩ : ∃ W, W = w0.alloc (.cells #[.func (.func 131) #[] #[], .func (.func 132) #[] #[], .func (.func 133) #[] #[], .func (.func 134) #[] #[], .func (.func 135) #[] #[], .func (.func 136) #[] #[]] 160) := ⟨_, rfl⟩
 have hb1 : Below w0.heap.size w0 w1 := by rw [hw1]; exact zr.alloc (Nat.le_refl _) _
 have gF : TBox 160 w0.heap.size #[.func (.func 131) #[] #[], .func (.func 132) #[] #[], .func (.func 133) #[] #[], .func (.func 134) #[] #[], .func (.func 135) #[] #[], .func (.func 136) #[] #[]] w1 := by rw [hw1]; exact TBox.new _ _ _
 rw [← hw1]
 have hs1 : w1.heap.size = w0.heap.size + 1 := by rw [hw1]; simp
 clear hw1
 replace g2 := g2.below hb1
 replace g3 := g3.below hb1
 replace g4 := g4.below hb1
 replace g5 := g5.below hb1
 replace hh := hh.below hb1
 replace hM := hM.below hb1
 replace hS := hS.below hb1
 have hbw1 := bjoin hb1 hb0
 have y0 := g2.cell 0
 have y1 := g2.cell 1
 have y2 := g2.cell 2
 have z0 := g3.cell 0
 have z1 := g3.cell 1
 have z2 := g3.cell 2
 have z3 := g3.cell 3
 have z4 := g3.cell 4
 have z5 := g3.cell 5
 have z6 := g3.cell 6
 have z7 := g3.cell 7
 simp only [List.getElem?_toArray, List.getElem?_cons_zero, List.getElem?_cons_succ] at y0 y1 y2 z0 z1 z2 z3 z4 z5 z6 z7
 have l2 := g2.lt
 have l3 := g3.lt
 go_upto_region 3 with fail
 obtain ⟨w2, hw2⟩ : ∃ W, W = w1.alloc (.cells #[.int .i64 m.g.r, .slice pg m.g.n cg, .slice pb m.nb cb, .slice pr m.nr cr, .int .i64 m.ob, .int .i64 m.fi, .int .i64 m.cu, .bool m.ov, .slice p n c, .slice q k d, .bool b] 164) := ⟨_, rfl⟩
 have hb2 : Below w1.heap.size w1 w2 := by rw [hw2]; exact zr.alloc (Nat.le_refl _) _
 have gS : TBox 164 w1.heap.size #[.int .i64 m.g.r, .slice pg m.g.n cg, .slice pb m.nb cb, .slice pr m.nr cr, .int .i64 m.ob, .int .i64 m.fi, .int .i64 m.cu, .bool m.ov, .slice p n c, .slice q k d, .bool b] w2 := by rw [hw2]; exact TBox.new _ _ _
 rw [← hw2]
 clear hw2 y0 y1 y2 z0 z1 z2 z3 z4 z5 z6 z7 l2 l3
 replace g2 := g2.below hb2
 replace g3 := g3.below hb2
 replace g4 := g4.below hb2
 replace g5 := g5.below hb2
 replace gF := gF.below hb2
 replace hh := hh.below hb2
 replace hM := hM.below hb2
 replace hS := hS.below hb2
 have hbw2 := bjoin hb2 hbw1
 have hst : StV N w1.heap.size n k b h m w2 := ⟨p, c, q, d, pg, cg, pb, cb, pr, cr, gS, hh, hM⟩
 have hsz0 := hb0.size
 have hl5 : w.heap.size + 1 + 1 + 1 < w0.heap.size := by
  have := g5.lt
  have := hb5
  omega
 have hNB : N ≤ w1.heap.size := by omega
 have hSB : ¬ 0 = w1.heap.size := by have := hSw.1; omega
 have hBF : ¬ w0.heap.size = w1.heap.size := by omega
 have hB2 : ¬ w.heap.size = w1.heap.size := by omega
 have hB3 : ¬ w.heap.size + 1 = w1.heap.size := by omega
 have hB4 : ¬ w.heap.size + 1 + 1 = w1.heap.size := by omega
 have hB5 : ¬ w.heap.size + 1 + 1 + 1 = w1.heap.size := by omega
 have hwB : w.heap.size ≤ w1.heap.size := by omega
 rw [hs1] at hst hNB hSB hB2 hB3 hB4 hB5 hwB
 clear gS hh hM hb0 hb1 hb2 hbw1 hs1 hsz0 hb5 hSw hBF
 have hBF : ¬ w0.heap.size = w0.heap.size + 1 := by omega
 generalize hBB : w0.heap.size + 1 = B at *
 generalize w0.heap.size = BF at *
 clear hBB
 go_upto_region 4 with fail
 go_loopg [17] 6 (fun gh iv wr => ∃ j : Nat, j ≤ 6 ∧ gh = 6 - j ∧ iv = .int .i64 j ∧ (∀ t, t < j → cS m t = false) ∧ StV N B n k b h m wr ∧ Aside (fun k => k = B) w2 wr)
 case atStart => exact ⟨0, by omega, by omega, rfl, fun t ht => by omega, hst, Aside.of zr⟩
 case round =>
  clear hst
  obtain ⟨j, hj, rfl, rfl, hc, hstr, hA⟩ := hrel
  have hSr := hS.aside hA hSB
  have gFr := gF.of_block (hA.block _ gF.lt hBF)
  have lF := gFr.lt
  obtain ⟨k0, k1, k2, k3, k4, k5⟩ := zq4 gFr
  have hnx : cS m j = false → ∀ t, t < j + 1 → cS m t = false := fun e t ht => by
   by_cases e1 : t = j
   ·rw [e1]; exact e
   ·exact hc t (by omega)
  rcases (show j = 0 ∨ j = 1 ∨ j = 2 ∨ j = 3 ∨ j = 4 ∨ j = 5 ∨ j = 6 by omega) with rfl | rfl | rfl | rfl | rfl | rfl | rfl
  ·have hC := step0 hSr hSB hNB hstr hF hR
   cases hcs : cS m 0 with
   | false =>
    replace hC := hC.mono fun e w' hs => StepL.no hs hcs
    replace hnx := hnx hcs
    clear hstr hcs hc
    go_wp2_with (first
     | (go_at_call 131; refine zm hC ?_; rintro e w' ⟨rfl, hs', hA'⟩)
    )
    go_roundg 5
    case measure => omega
    case rel => exact ⟨1, by omega, rfl, by rfl, hnx, hs', hA.trans hA'⟩
   | true =>
    replace hC := hC.mono fun e w' hs => StepL.yes hs hcs hRs
    clear hstr hcs hc hnx
    go_upto_region 7 with (first
     | (go_at_call 131; refine zm hC ?_; rintro e w' ⟨rfl, hs', rfl, hA'⟩)
    )
    obtain ⟨p', c', q', d', pg', cg', pb', cb', pr', cr', gS, hI, hMM⟩ := hs'
    have hAA := hA.trans hA'
    obtain ⟨lS, s0, s1, s2, s3, s4, s5, s6, s7, s8, s9, s10⟩ := zal gS
    have g4' := g4.of_block (hAA.block _ g4.lt hB4)
    have g5' := g5.of_block (hAA.block _ g5.lt hB5)
    obtain ⟨hP1, hP2⟩ := zgs g4' ⟨rfl, zbn⟩ g5' ⟨rfl, zch⟩ (by omega) (by omega) hn32 hk0 hI hMM
    have hbE := (hbw2.trans (hAA.below hbw2.size (fun k e => by rw [e]; exact hwB))).trans (zbu (B := w.heap.size) (g := w.heap.size + 1 + 1) (g' := w.heap.size + 1 + 1 + 1) (by omega) (by omega) [.slice p' n c', .slice q' k d', .bool b] [.int .i64 M.g.r, .slice pg' M.g.n cg', .slice pb' M.nb cb', .slice pr' M.nr cr', .int .i64 M.ob, .int .i64 M.fi, .int .i64 M.cu, .bool M.ov] _)
    obtain ⟨q4, q5⟩ := zdf (xs := #[.slice none 0 0, .slice none 0 0, .bool false]) (x0 := .int .i64 0) (x1 := .slice none 0 0) (x2 := .slice none 0 0) (x3 := .slice none 0 0) (x4 := .int .i64 0) (x5 := .int .i64 0) (x6 := .int .i64 0) (x7 := .bool false) g4' rfl g5' (.slice p' n c') (.slice q' k d') (.bool b) (.int .i64 M.g.r) (.slice pg' M.g.n cg') (.slice pb' M.nb cb') (.slice pr' M.nr cr') (.int .i64 M.ob) (.int .i64 M.fi) (.int .i64 M.cu) (.bool M.ov)
    obtain ⟨w9, hw9⟩ : ∃ W, W = putHM (w.heap.size + 1 + 1) (w.heap.size + 1 + 1 + 1) [.slice p' n c', .slice q' k d', .bool b] [.int .i64 M.g.r, .slice pg' M.g.n cg', .slice pb' M.nb cb', .slice pr' M.nr cr', .int .i64 M.ob, .int .i64 M.fi, .int .i64 M.cu, .bool M.ov] w' := ⟨_, rfl⟩
    rw [← hw9] at hP1 hP2 hbE q4 q5
    simp only [putHM, putsL, Nat.reduceAdd] at hw9
    have l4 := g4'.lt
    have l5 := g5'.lt
    have a0 := g4'.cell 0
    have a1 := g4'.cell 1
    have a2 := g4'.cell 2
    have b0 := g5'.cell 0
    have b1 := g5'.cell 1
    have b2 := g5'.cell 2
    have b3 := g5'.cell 3
    have b4 := g5'.cell 4
    have b5 := g5'.cell 5
    have b6 := g5'.cell 6
    have b7 := g5'.cell 7
    simp only [List.getElem?_toArray, List.getElem?_cons_zero, List.getElem?_cons_succ] at a0 a1 a2 b0 b1 b2 b3 b4 b5 b6 b7
    have fa0 := g4'.frozen 0
    have fa1 := g4'.frozen 1
    have fa2 := g4'.frozen 2
    obtain ⟨fb0, fb1, fb2, fb3, fb4, fb5, fb6, fb7⟩ := zbq g5'
    have hdr : ∀ W : World, Below W.heap.size W W.drew := fun W => zr.drew
    clear hI hMM gS hAA g4' g5' hA hA' g2 g3 g4 g5 gF gFr hS hSr hbw2 hC hRs hF hR
    go_region
    rw [← hw9]
    clear hw9 a0 a1 a2 b0 b1 b2 b3 b4 b5 b6 b7 fa0 fa1 fa2 fb0 fb1 fb2 fb3 fb4 fb5 fb6 fb7 l4 l5 s0 s1 s2 s3 s4 s5 s6 s7 s8 s9 s10 lS
    have c0 := q4.cell 0
    have c1 := q4.cell 1
    have c2 := q4.cell 2
    have d0 := q5.cell 0
    have d1 := q5.cell 1
    have d2 := q5.cell 2
    have d3 := q5.cell 3
    have d4 := q5.cell 4
    have d5 := q5.cell 5
    have d6 := q5.cell 6
    have d7 := q5.cell 7
    simp only [List.getElem?_toArray, List.getElem?_cons_zero, List.getElem?_cons_succ] at c0 c1 c2 d0 d1 d2 d3 d4 d5 d6 d7
    clear q4 q5
    go_wp2
    refine bodyPost_ret (by simp [results, Tryz.results94, go_sem, *]; try rfl) rfl ?_
    exact ⟨p', c', q', d', pg', cg', pb', cb', pr', cr', rfl, hP1.below (hdr _), hP2.below (hdr _), hbE.drew⟩
  ·have hC := step1 hSr hSB hNB hstr hF hR (hc 0 (by omega))
   cases hcs : cS m 1 with
   | false =>
    replace hC := hC.mono fun e w' hs => StepL.no hs hcs
    replace hnx := hnx hcs
    clear hstr hcs hc
    go_wp2_with (first
     | (go_at_call 132; refine zm hC ?_; rintro e w' ⟨rfl, hs', hA'⟩)
    )
    go_roundg 4
    case measure => omega
    case rel => exact ⟨2, by omega, rfl, by rfl, hnx, hs', hA.trans hA'⟩
   | true =>
    replace hC := hC.mono fun e w' hs => StepL.yes hs hcs hRs
    clear hstr hcs hc hnx
    go_upto_region 7 with (first
     | (go_at_call 132; refine zm hC ?_; rintro e w' ⟨rfl, hs', rfl, hA'⟩)
    )
    obtain ⟨p', c', q', d', pg', cg', pb', cb', pr', cr', gS, hI, hMM⟩ := hs'
    have hAA := hA.trans hA'
    obtain ⟨lS, s0, s1, s2, s3, s4, s5, s6, s7, s8, s9, s10⟩ := zal gS
    have g4' := g4.of_block (hAA.block _ g4.lt hB4)
    have g5' := g5.of_block (hAA.block _ g5.lt hB5)
    obtain ⟨hP1, hP2⟩ := zgs g4' ⟨rfl, zbn⟩ g5' ⟨rfl, zch⟩ (by omega) (by omega) hn32 hk0 hI hMM
    have hbE := (hbw2.trans (hAA.below hbw2.size (fun k e => by rw [e]; exact hwB))).trans (zbu (B := w.heap.size) (g := w.heap.size + 1 + 1) (g' := w.heap.size + 1 + 1 + 1) (by omega) (by omega) [.slice p' n c', .slice q' k d', .bool b] [.int .i64 M.g.r, .slice pg' M.g.n cg', .slice pb' M.nb cb', .slice pr' M.nr cr', .int .i64 M.ob, .int .i64 M.fi, .int .i64 M.cu, .bool M.ov] _)
    obtain ⟨q4, q5⟩ := zdf (xs := #[.slice none 0 0, .slice none 0 0, .bool false]) (x0 := .int .i64 0) (x1 := .slice none 0 0) (x2 := .slice none 0 0) (x3 := .slice none 0 0) (x4 := .int .i64 0) (x5 := .int .i64 0) (x6 := .int .i64 0) (x7 := .bool false) g4' rfl g5' (.slice p' n c') (.slice q' k d') (.bool b) (.int .i64 M.g.r) (.slice pg' M.g.n cg') (.slice pb' M.nb cb') (.slice pr' M.nr cr') (.int .i64 M.ob) (.int .i64 M.fi) (.int .i64 M.cu) (.bool M.ov)
    obtain ⟨w9, hw9⟩ : ∃ W, W = putHM (w.heap.size + 1 + 1) (w.heap.size + 1 + 1 + 1) [.slice p' n c', .slice q' k d', .bool b] [.int .i64 M.g.r, .slice pg' M.g.n cg', .slice pb' M.nb cb', .slice pr' M.nr cr', .int .i64 M.ob, .int .i64 M.fi, .int .i64 M.cu, .bool M.ov] w' := ⟨_, rfl⟩
    rw [← hw9] at hP1 hP2 hbE q4 q5
    simp only [putHM, putsL, Nat.reduceAdd] at hw9
    have l4 := g4'.lt
    have l5 := g5'.lt
    have a0 := g4'.cell 0
    have a1 := g4'.cell 1
    have a2 := g4'.cell 2
    have b0 := g5'.cell 0
    have b1 := g5'.cell 1
    have b2 := g5'.cell 2
    have b3 := g5'.cell 3
    have b4 := g5'.cell 4
    have b5 := g5'.cell 5
    have b6 := g5'.cell 6
    have b7 := g5'.cell 7
    simp only [List.getElem?_toArray, List.getElem?_cons_zero, List.getElem?_cons_succ] at a0 a1 a2 b0 b1 b2 b3 b4 b5 b6 b7
    have fa0 := g4'.frozen 0
    have fa1 := g4'.frozen 1
    have fa2 := g4'.frozen 2
    obtain ⟨fb0, fb1, fb2, fb3, fb4, fb5, fb6, fb7⟩ := zbq g5'
    have hdr : ∀ W : World, Below W.heap.size W W.drew := fun W => zr.drew
    clear hI hMM gS hAA g4' g5' hA hA' g2 g3 g4 g5 gF gFr hS hSr hbw2 hC hRs hF hR
    go_region
    rw [← hw9]
    clear hw9 a0 a1 a2 b0 b1 b2 b3 b4 b5 b6 b7 fa0 fa1 fa2 fb0 fb1 fb2 fb3 fb4 fb5 fb6 fb7 l4 l5 s0 s1 s2 s3 s4 s5 s6 s7 s8 s9 s10 lS
    have c0 := q4.cell 0
    have c1 := q4.cell 1
    have c2 := q4.cell 2
    have d0 := q5.cell 0
    have d1 := q5.cell 1
    have d2 := q5.cell 2
    have d3 := q5.cell 3
    have d4 := q5.cell 4
    have d5 := q5.cell 5
    have d6 := q5.cell 6
    have d7 := q5.cell 7
    simp only [List.getElem?_toArray, List.getElem?_cons_zero, List.getElem?_cons_succ] at c0 c1 c2 d0 d1 d2 d3 d4 d5 d6 d7
    clear q4 q5
    go_wp2
    refine bodyPost_ret (by simp [results, Tryz.results94, go_sem, *]; try rfl) rfl ?_
    exact ⟨p', c', q', d', pg', cg', pb', cb', pr', cr', rfl, hP1.below (hdr _), hP2.below (hdr _), hbE.drew⟩
  ·have hC := step2 hSr hSB hNB hstr hF hR hb (hc 0 (by omega)) (hc 1 (by omega))
   cases hcs : cS m 2 with
   | false =>
    replace hC := hC.mono fun e w' hs => StepL.no hs hcs
    replace hnx := hnx hcs
    clear hstr hcs hc
    go_wp2_with (first
     | (go_at_call 133; refine zm hC ?_; rintro e w' ⟨rfl, hs', hA'⟩)
    )
    go_roundg 3
    case measure => omega
    case rel => exact ⟨3, by omega, rfl, by rfl, hnx, hs', hA.trans hA'⟩
   | true =>
    replace hC := hC.mono fun e w' hs => StepL.yes hs hcs hRs
    clear hstr hcs hc hnx
    go_upto_region 7 with (first
     | (go_at_call 133; refine zm hC ?_; rintro e w' ⟨rfl, hs', rfl, hA'⟩)
    )
    obtain ⟨p', c', q', d', pg', cg', pb', cb', pr', cr', gS, hI, hMM⟩ := hs'
    have hAA := hA.trans hA'
    obtain ⟨lS, s0, s1, s2, s3, s4, s5, s6, s7, s8, s9, s10⟩ := zal gS
    have g4' := g4.of_block (hAA.block _ g4.lt hB4)
    have g5' := g5.of_block (hAA.block _ g5.lt hB5)
    obtain ⟨hP1, hP2⟩ := zgs g4' ⟨rfl, zbn⟩ g5' ⟨rfl, zch⟩ (by omega) (by omega) hn32 hk0 hI hMM
    have hbE := (hbw2.trans (hAA.below hbw2.size (fun k e => by rw [e]; exact hwB))).trans (zbu (B := w.heap.size) (g := w.heap.size + 1 + 1) (g' := w.heap.size + 1 + 1 + 1) (by omega) (by omega) [.slice p' n c', .slice q' k d', .bool b] [.int .i64 M.g.r, .slice pg' M.g.n cg', .slice pb' M.nb cb', .slice pr' M.nr cr', .int .i64 M.ob, .int .i64 M.fi, .int .i64 M.cu, .bool M.ov] _)
    obtain ⟨q4, q5⟩ := zdf (xs := #[.slice none 0 0, .slice none 0 0, .bool false]) (x0 := .int .i64 0) (x1 := .slice none 0 0) (x2 := .slice none 0 0) (x3 := .slice none 0 0) (x4 := .int .i64 0) (x5 := .int .i64 0) (x6 := .int .i64 0) (x7 := .bool false) g4' rfl g5' (.slice p' n c') (.slice q' k d') (.bool b) (.int .i64 M.g.r) (.slice pg' M.g.n cg') (.slice pb' M.nb cb') (.slice pr' M.nr cr') (.int .i64 M.ob) (.int .i64 M.fi) (.int .i64 M.cu) (.bool M.ov)
    obtain ⟨w9, hw9⟩ : ∃ W, W = putHM (w.heap.size + 1 + 1) (w.heap.size + 1 + 1 + 1) [.slice p' n c', .slice q' k d', .bool b] [.int .i64 M.g.r, .slice pg' M.g.n cg', .slice pb' M.nb cb', .slice pr' M.nr cr', .int .i64 M.ob, .int .i64 M.fi, .int .i64 M.cu, .bool M.ov] w' := ⟨_, rfl⟩
    rw [← hw9] at hP1 hP2 hbE q4 q5
    simp only [putHM, putsL, Nat.reduceAdd] at hw9
    have l4 := g4'.lt
    have l5 := g5'.lt
    have a0 := g4'.cell 0
    have a1 := g4'.cell 1
    have a2 := g4'.cell 2
    have b0 := g5'.cell 0
    have b1 := g5'.cell 1
    have b2 := g5'.cell 2
    have b3 := g5'.cell 3
    have b4 := g5'.cell 4
    have b5 := g5'.cell 5
    have b6 := g5'.cell 6
    have b7 := g5'.cell 7
    simp only [List.getElem?_toArray, List.getElem?_cons_zero, List.getElem?_cons_succ] at a0 a1 a2 b0 b1 b2 b3 b4 b5 b6 b7
    have fa0 := g4'.frozen 0
    have fa1 := g4'.frozen 1
    have fa2 := g4'.frozen 2
    obtain ⟨fb0, fb1, fb2, fb3, fb4, fb5, fb6, fb7⟩ := zbq g5'
    have hdr : ∀ W : World, Below W.heap.size W W.drew := fun W => zr.drew
    clear hI hMM gS hAA g4' g5' hA hA' g2 g3 g4 g5 gF gFr hS hSr hbw2 hC hRs hF hR
    go_region
    rw [← hw9]
    clear hw9 a0 a1 a2 b0 b1 b2 b3 b4 b5 b6 b7 fa0 fa1 fa2 fb0 fb1 fb2 fb3 fb4 fb5 fb6 fb7 l4 l5 s0 s1 s2 s3 s4 s5 s6 s7 s8 s9 s10 lS
    have c0 := q4.cell 0
    have c1 := q4.cell 1
    have c2 := q4.cell 2
    have d0 := q5.cell 0
    have d1 := q5.cell 1
    have d2 := q5.cell 2
    have d3 := q5.cell 3
    have d4 := q5.cell 4
    have d5 := q5.cell 5
    have d6 := q5.cell 6
    have d7 := q5.cell 7
    simp only [List.getElem?_toArray, List.getElem?_cons_zero, List.getElem?_cons_succ] at c0 c1 c2 d0 d1 d2 d3 d4 d5 d6 d7
    clear q4 q5
    go_wp2
    refine bodyPost_ret (by simp [results, Tryz.results94, go_sem, *]; try rfl) rfl ?_
    exact ⟨p', c', q', d', pg', cg', pb', cb', pr', cr', rfl, hP1.below (hdr _), hP2.below (hdr _), hbE.drew⟩
  ·have hC := step3 hSr hSB hNB hstr hF hR hr (hc 0 (by omega)) (hc 1 (by omega)) (hc 2 (by omega))
   cases hcs : cS m 3 with
   | false =>
    replace hC := hC.mono fun e w' hs => StepL.no hs hcs
    replace hnx := hnx hcs
    clear hstr hcs hc
    go_wp2_with (first
     | (go_at_call 134; refine zm hC ?_; rintro e w' ⟨rfl, hs', hA'⟩)
    )
    go_roundg 2
    case measure => omega
    case rel => exact ⟨4, by omega, rfl, by rfl, hnx, hs', hA.trans hA'⟩
   | true =>
    replace hC := hC.mono fun e w' hs => StepL.yes hs hcs hRs
    clear hstr hcs hc hnx
    go_upto_region 7 with (first
     | (go_at_call 134; refine zm hC ?_; rintro e w' ⟨rfl, hs', rfl, hA'⟩)
    )
    obtain ⟨p', c', q', d', pg', cg', pb', cb', pr', cr', gS, hI, hMM⟩ := hs'
    have hAA := hA.trans hA'
    obtain ⟨lS, s0, s1, s2, s3, s4, s5, s6, s7, s8, s9, s10⟩ := zal gS
    have g4' := g4.of_block (hAA.block _ g4.lt hB4)
    have g5' := g5.of_block (hAA.block _ g5.lt hB5)
    obtain ⟨hP1, hP2⟩ := zgs g4' ⟨rfl, zbn⟩ g5' ⟨rfl, zch⟩ (by omega) (by omega) hn32 hk0 hI hMM
    have hbE := (hbw2.trans (hAA.below hbw2.size (fun k e => by rw [e]; exact hwB))).trans (zbu (B := w.heap.size) (g := w.heap.size + 1 + 1) (g' := w.heap.size + 1 + 1 + 1) (by omega) (by omega) [.slice p' n c', .slice q' k d', .bool b] [.int .i64 M.g.r, .slice pg' M.g.n cg', .slice pb' M.nb cb', .slice pr' M.nr cr', .int .i64 M.ob, .int .i64 M.fi, .int .i64 M.cu, .bool M.ov] _)
    obtain ⟨q4, q5⟩ := zdf (xs := #[.slice none 0 0, .slice none 0 0, .bool false]) (x0 := .int .i64 0) (x1 := .slice none 0 0) (x2 := .slice none 0 0) (x3 := .slice none 0 0) (x4 := .int .i64 0) (x5 := .int .i64 0) (x6 := .int .i64 0) (x7 := .bool false) g4' rfl g5' (.slice p' n c') (.slice q' k d') (.bool b) (.int .i64 M.g.r) (.slice pg' M.g.n cg') (.slice pb' M.nb cb') (.slice pr' M.nr cr') (.int .i64 M.ob) (.int .i64 M.fi) (.int .i64 M.cu) (.bool M.ov)
    obtain ⟨w9, hw9⟩ : ∃ W, W = putHM (w.heap.size + 1 + 1) (w.heap.size + 1 + 1 + 1) [.slice p' n c', .slice q' k d', .bool b] [.int .i64 M.g.r, .slice pg' M.g.n cg', .slice pb' M.nb cb', .slice pr' M.nr cr', .int .i64 M.ob, .int .i64 M.fi, .int .i64 M.cu, .bool M.ov] w' := ⟨_, rfl⟩
    rw [← hw9] at hP1 hP2 hbE q4 q5
    simp only [putHM, putsL, Nat.reduceAdd] at hw9
    have l4 := g4'.lt
    have l5 := g5'.lt
    have a0 := g4'.cell 0
    have a1 := g4'.cell 1
    have a2 := g4'.cell 2
    have b0 := g5'.cell 0
    have b1 := g5'.cell 1
    have b2 := g5'.cell 2
    have b3 := g5'.cell 3
    have b4 := g5'.cell 4
    have b5 := g5'.cell 5
    have b6 := g5'.cell 6
    have b7 := g5'.cell 7
    simp only [List.getElem?_toArray, List.getElem?_cons_zero, List.getElem?_cons_succ] at a0 a1 a2 b0 b1 b2 b3 b4 b5 b6 b7
    have fa0 := g4'.frozen 0
    have fa1 := g4'.frozen 1
    have fa2 := g4'.frozen 2
    obtain ⟨fb0, fb1, fb2, fb3, fb4, fb5, fb6, fb7⟩ := zbq g5'
    have hdr : ∀ W : World, Below W.heap.size W W.drew := fun W => zr.drew
    clear hI hMM gS hAA g4' g5' hA hA' g2 g3 g4 g5 gF gFr hS hSr hbw2 hC hRs hF hR
    go_region
    rw [← hw9]
    clear hw9 a0 a1 a2 b0 b1 b2 b3 b4 b5 b6 b7 fa0 fa1 fa2 fb0 fb1 fb2 fb3 fb4 fb5 fb6 fb7 l4 l5 s0 s1 s2 s3 s4 s5 s6 s7 s8 s9 s10 lS
    have c0 := q4.cell 0
    have c1 := q4.cell 1
    have c2 := q4.cell 2
    have d0 := q5.cell 0
    have d1 := q5.cell 1
    have d2 := q5.cell 2
    have d3 := q5.cell 3
    have d4 := q5.cell 4
    have d5 := q5.cell 5
    have d6 := q5.cell 6
    have d7 := q5.cell 7
    simp only [List.getElem?_toArray, List.getElem?_cons_zero, List.getElem?_cons_succ] at c0 c1 c2 d0 d1 d2 d3 d4 d5 d6 d7
    clear q4 q5
    go_wp2
    refine bodyPost_ret (by simp [results, Tryz.results94, go_sem, *]; try rfl) rfl ?_
    exact ⟨p', c', q', d', pg', cg', pb', cb', pr', cr', rfl, hP1.below (hdr _), hP2.below (hdr _), hbE.drew⟩
  ·have hC := step4 hSr hSB hNB hstr hF hR (hc 0 (by omega)) (hc 1 (by omega)) (hc 2 (by omega)) (hc 3 (by omega))
   cases hcs : cS m 4 with
   | false =>
    replace hC := hC.mono fun e w' hs => StepL.no hs hcs
    replace hnx := hnx hcs
    clear hstr hcs hc
    go_wp2_with (first
     | (go_at_call 135; refine zm hC ?_; rintro e w' ⟨rfl, hs', hA'⟩)
    )
    go_roundg 1
    case measure => omega
    case rel => exact ⟨5, by omega, rfl, by rfl, hnx, hs', hA.trans hA'⟩
   | true =>
    replace hC := hC.mono fun e w' hs => StepL.yes hs hcs hRs
    clear hstr hcs hc hnx
    go_upto_region 7 with (first
     | (go_at_call 135; refine zm hC ?_; rintro e w' ⟨rfl, hs', rfl, hA'⟩)
    )
    obtain ⟨p', c', q', d', pg', cg', pb', cb', pr', cr', gS, hI, hMM⟩ := hs'
    have hAA := hA.trans hA'
    obtain ⟨lS, s0, s1, s2, s3, s4, s5, s6, s7, s8, s9, s10⟩ := zal gS
    have g4' := g4.of_block (hAA.block _ g4.lt hB4)
    have g5' := g5.of_block (hAA.block _ g5.lt hB5)
    obtain ⟨hP1, hP2⟩ := zgs g4' ⟨rfl, zbn⟩ g5' ⟨rfl, zch⟩ (by omega) (by omega) hn32 hk0 hI hMM
    have hbE := (hbw2.trans (hAA.below hbw2.size (fun k e => by rw [e]; exact hwB))).trans (zbu (B := w.heap.size) (g := w.heap.size + 1 + 1) (g' := w.heap.size + 1 + 1 + 1) (by omega) (by omega) [.slice p' n c', .slice q' k d', .bool b] [.int .i64 M.g.r, .slice pg' M.g.n cg', .slice pb' M.nb cb', .slice pr' M.nr cr', .int .i64 M.ob, .int .i64 M.fi, .int .i64 M.cu, .bool M.ov] _)
    obtain ⟨q4, q5⟩ := zdf (xs := #[.slice none 0 0, .slice none 0 0, .bool false]) (x0 := .int .i64 0) (x1 := .slice none 0 0) (x2 := .slice none 0 0) (x3 := .slice none 0 0) (x4 := .int .i64 0) (x5 := .int .i64 0) (x6 := .int .i64 0) (x7 := .bool false) g4' rfl g5' (.slice p' n c') (.slice q' k d') (.bool b) (.int .i64 M.g.r) (.slice pg' M.g.n cg') (.slice pb' M.nb cb') (.slice pr' M.nr cr') (.int .i64 M.ob) (.int .i64 M.fi) (.int .i64 M.cu) (.bool M.ov)
    obtain ⟨w9, hw9⟩ : ∃ W, W = putHM (w.heap.size + 1 + 1) (w.heap.size + 1 + 1 + 1) [.slice p' n c', .slice q' k d', .bool b] [.int .i64 M.g.r, .slice pg' M.g.n cg', .slice pb' M.nb cb', .slice pr' M.nr cr', .int .i64 M.ob, .int .i64 M.fi, .int .i64 M.cu, .bool M.ov] w' := ⟨_, rfl⟩
    rw [← hw9] at hP1 hP2 hbE q4 q5
    simp only [putHM, putsL, Nat.reduceAdd] at hw9
    have l4 := g4'.lt
    have l5 := g5'.lt
    have a0 := g4'.cell 0
    have a1 := g4'.cell 1
    have a2 := g4'.cell 2
    have b0 := g5'.cell 0
    have b1 := g5'.cell 1
    have b2 := g5'.cell 2
    have b3 := g5'.cell 3
    have b4 := g5'.cell 4
    have b5 := g5'.cell 5
    have b6 := g5'.cell 6
    have b7 := g5'.cell 7
    simp only [List.getElem?_toArray, List.getElem?_cons_zero, List.getElem?_cons_succ] at a0 a1 a2 b0 b1 b2 b3 b4 b5 b6 b7
    have fa0 := g4'.frozen 0
    have fa1 := g4'.frozen 1
    have fa2 := g4'.frozen 2
    obtain ⟨fb0, fb1, fb2, fb3, fb4, fb5, fb6, fb7⟩ := zbq g5'
    have hdr : ∀ W : World, Below W.heap.size W W.drew := fun W => zr.drew
    clear hI hMM gS hAA g4' g5' hA hA' g2 g3 g4 g5 gF gFr hS hSr hbw2 hC hRs hF hR
    go_region
    rw [← hw9]
    clear hw9 a0 a1 a2 b0 b1 b2 b3 b4 b5 b6 b7 fa0 fa1 fa2 fb0 fb1 fb2 fb3 fb4 fb5 fb6 fb7 l4 l5 s0 s1 s2 s3 s4 s5 s6 s7 s8 s9 s10 lS
    have c0 := q4.cell 0
    have c1 := q4.cell 1
    have c2 := q4.cell 2
    have d0 := q5.cell 0
    have d1 := q5.cell 1
    have d2 := q5.cell 2
    have d3 := q5.cell 3
    have d4 := q5.cell 4
    have d5 := q5.cell 5
    have d6 := q5.cell 6
    have d7 := q5.cell 7
    simp only [List.getElem?_toArray, List.getElem?_cons_zero, List.getElem?_cons_succ] at c0 c1 c2 d0 d1 d2 d3 d4 d5 d6 d7
    clear q4 q5
    go_wp2
    refine bodyPost_ret (by simp [results, Tryz.results94, go_sem, *]; try rfl) rfl ?_
    exact ⟨p', c', q', d', pg', cg', pb', cb', pr', cr', rfl, hP1.below (hdr _), hP2.below (hdr _), hbE.drew⟩
  ·have hC := step5 hNB hstr hF (hc 0 (by omega)) (hc 1 (by omega)) (hc 2 (by omega)) (hc 3 (by omega)) (hc 4 (by omega))
   cases hcs : cS m 5 with
   | false =>
    replace hC := hC.mono fun e w' hs => StepL.no hs hcs
    replace hnx := hnx hcs
    clear hstr hcs hc
    go_wp2_with (first
     | (go_at_call 136; refine zm hC ?_; rintro e w' ⟨rfl, hs', hA'⟩)
    )
    go_roundg 0
    case measure => omega
    case rel => exact ⟨6, by omega, rfl, by rfl, hnx, hs', hA.trans hA'⟩
   | true =>
    replace hC := hC.mono fun e w' hs => StepL.yes hs hcs hRs
    clear hstr hcs hc hnx
    go_upto_region 7 with (first
     | (go_at_call 136; refine zm hC ?_; rintro e w' ⟨rfl, hs', rfl, hA'⟩)
    )
    obtain ⟨p', c', q', d', pg', cg', pb', cb', pr', cr', gS, hI, hMM⟩ := hs'
    have hAA := hA.trans hA'
    obtain ⟨lS, s0, s1, s2, s3, s4, s5, s6, s7, s8, s9, s10⟩ := zal gS
    have g4' := g4.of_block (hAA.block _ g4.lt hB4)
    have g5' := g5.of_block (hAA.block _ g5.lt hB5)
    obtain ⟨hP1, hP2⟩ := zgs g4' ⟨rfl, zbn⟩ g5' ⟨rfl, zch⟩ (by omega) (by omega) hn32 hk0 hI hMM
    have hbE := (hbw2.trans (hAA.below hbw2.size (fun k e => by rw [e]; exact hwB))).trans (zbu (B := w.heap.size) (g := w.heap.size + 1 + 1) (g' := w.heap.size + 1 + 1 + 1) (by omega) (by omega) [.slice p' n c', .slice q' k d', .bool b] [.int .i64 M.g.r, .slice pg' M.g.n cg', .slice pb' M.nb cb', .slice pr' M.nr cr', .int .i64 M.ob, .int .i64 M.fi, .int .i64 M.cu, .bool M.ov] _)
    obtain ⟨q4, q5⟩ := zdf (xs := #[.slice none 0 0, .slice none 0 0, .bool false]) (x0 := .int .i64 0) (x1 := .slice none 0 0) (x2 := .slice none 0 0) (x3 := .slice none 0 0) (x4 := .int .i64 0) (x5 := .int .i64 0) (x6 := .int .i64 0) (x7 := .bool false) g4' rfl g5' (.slice p' n c') (.slice q' k d') (.bool b) (.int .i64 M.g.r) (.slice pg' M.g.n cg') (.slice pb' M.nb cb') (.slice pr' M.nr cr') (.int .i64 M.ob) (.int .i64 M.fi) (.int .i64 M.cu) (.bool M.ov)
    obtain ⟨w9, hw9⟩ : ∃ W, W = putHM (w.heap.size + 1 + 1) (w.heap.size + 1 + 1 + 1) [.slice p' n c', .slice q' k d', .bool b] [.int .i64 M.g.r, .slice pg' M.g.n cg', .slice pb' M.nb cb', .slice pr' M.nr cr', .int .i64 M.ob, .int .i64 M.fi, .int .i64 M.cu, .bool M.ov] w' := ⟨_, rfl⟩
    rw [← hw9] at hP1 hP2 hbE q4 q5
    simp only [putHM, putsL, Nat.reduceAdd] at hw9
    have l4 := g4'.lt
    have l5 := g5'.lt
    have a0 := g4'.cell 0
    have a1 := g4'.cell 1
    have a2 := g4'.cell 2
    have b0 := g5'.cell 0
    have b1 := g5'.cell 1
    have b2 := g5'.cell 2
    have b3 := g5'.cell 3
    have b4 := g5'.cell 4
    have b5 := g5'.cell 5
    have b6 := g5'.cell 6
    have b7 := g5'.cell 7
    simp only [List.getElem?_toArray, List.getElem?_cons_zero, List.getElem?_cons_succ] at a0 a1 a2 b0 b1 b2 b3 b4 b5 b6 b7
    have fa0 := g4'.frozen 0
    have fa1 := g4'.frozen 1
    have fa2 := g4'.frozen 2
    obtain ⟨fb0, fb1, fb2, fb3, fb4, fb5, fb6, fb7⟩ := zbq g5'
    have hdr : ∀ W : World, Below W.heap.size W W.drew := fun W => zr.drew
    clear hI hMM gS hAA g4' g5' hA hA' g2 g3 g4 g5 gF gFr hS hSr hbw2 hC hRs hF hR
    go_region
    rw [← hw9]
    clear hw9 a0 a1 a2 b0 b1 b2 b3 b4 b5 b6 b7 fa0 fa1 fa2 fb0 fb1 fb2 fb3 fb4 fb5 fb6 fb7 l4 l5 s0 s1 s2 s3 s4 s5 s6 s7 s8 s9 s10 lS
    have c0 := q4.cell 0
    have c1 := q4.cell 1
    have c2 := q4.cell 2
    have d0 := q5.cell 0
    have d1 := q5.cell 1
    have d2 := q5.cell 2
    have d3 := q5.cell 3
    have d4 := q5.cell 4
    have d5 := q5.cell 5
    have d6 := q5.cell 6
    have d7 := q5.cell 7
    simp only [List.getElem?_toArray, List.getElem?_cons_zero, List.getElem?_cons_succ] at c0 c1 c2 d0 d1 d2 d3 d4 d5 d6 d7
    clear q4 q5
    go_wp2
    refine bodyPost_ret (by simp [results, Tryz.results94, go_sem, *]; try rfl) rfl ?_
    exact ⟨p', c', q', d', pg', cg', pb', cb', pr', cr', rfl, hP1.below (hdr _), hP2.below (hdr _), hbE.drew⟩
  ·have hno := zt4 (h := h) hc
   rw [hRs] at hno
   injection hno with e1 e2
   injection e2 with e2 e3
   subst e1 e2 e3
   ·skip
    have hAA := hA
    have hbr : Below w.heap.size w wr := hbw2.trans (hA.below hbw2.size (fun k e => by rw [e]; exact hwB))
    have hI := hhw.below hbr
    have hMM := hMw.below hbr
    have g2' := g2.of_block (hA.block _ g2.lt hB2)
    have g3' := g3.of_block (hA.block _ g3.lt hB3)
    have y0 := g2'.cell 0
    have y1 := g2'.cell 1
    have y2 := g2'.cell 2
    have z0 := g3'.cell 0
    have z1 := g3'.cell 1
    have z2 := g3'.cell 2
    have z3 := g3'.cell 3
    have z4 := g3'.cell 4
    have z5 := g3'.cell 5
    have z6 := g3'.cell 6
    have z7 := g3'.cell 7
    simp only [List.getElem?_toArray, List.getElem?_cons_zero, List.getElem?_cons_succ] at y0 y1 y2 z0 z1 z2 z3 z4 z5 z6 z7
    have l2 := g2'.lt
    have l3 := g3'.lt
    have g4' := g4.of_block (hAA.block _ g4.lt hB4)
    have g5' := g5.of_block (hAA.block _ g5.lt hB5)
    obtain ⟨hP1, hP2⟩ := zgs g4' ⟨rfl, zbn⟩ g5' ⟨rfl, zch⟩ (by omega) (by omega) hn32 hk0 hI hMM
    have hbE := (hbw2.trans (hAA.below hbw2.size (fun k e => by rw [e]; exact hwB))).trans (zbu (B := w.heap.size) (g := w.heap.size + 1 + 1) (g' := w.heap.size + 1 + 1 + 1) (by omega) (by omega) [.slice p n c, .slice q k d, .bool b] [.int .i64 M.g.r, .slice pg M.g.n cg, .slice pb M.nb cb, .slice pr M.nr cr, .int .i64 M.ob, .int .i64 M.fi, .int .i64 M.cu, .bool M.ov] _)
    obtain ⟨q4, q5⟩ := zdf (xs := #[.slice none 0 0, .slice none 0 0, .bool false]) (x0 := .int .i64 0) (x1 := .slice none 0 0) (x2 := .slice none 0 0) (x3 := .slice none 0 0) (x4 := .int .i64 0) (x5 := .int .i64 0) (x6 := .int .i64 0) (x7 := .bool false) g4' rfl g5' (.slice p n c) (.slice q k d) (.bool b) (.int .i64 M.g.r) (.slice pg M.g.n cg) (.slice pb M.nb cb) (.slice pr M.nr cr) (.int .i64 M.ob) (.int .i64 M.fi) (.int .i64 M.cu) (.bool M.ov)
    obtain ⟨w9, hw9⟩ : ∃ W, W = putHM (w.heap.size + 1 + 1) (w.heap.size + 1 + 1 + 1) [.slice p n c, .slice q k d, .bool b] [.int .i64 M.g.r, .slice pg M.g.n cg, .slice pb M.nb cb, .slice pr M.nr cr, .int .i64 M.ob, .int .i64 M.fi, .int .i64 M.cu, .bool M.ov] wr := ⟨_, rfl⟩
    rw [← hw9] at hP1 hP2 hbE q4 q5
    simp only [putHM, putsL, Nat.reduceAdd] at hw9
    have l4 := g4'.lt
    have l5 := g5'.lt
    have a0 := g4'.cell 0
    have a1 := g4'.cell 1
    have a2 := g4'.cell 2
    have b0 := g5'.cell 0
    have b1 := g5'.cell 1
    have b2 := g5'.cell 2
    have b3 := g5'.cell 3
    have b4 := g5'.cell 4
    have b5 := g5'.cell 5
    have b6 := g5'.cell 6
    have b7 := g5'.cell 7
    simp only [List.getElem?_toArray, List.getElem?_cons_zero, List.getElem?_cons_succ] at a0 a1 a2 b0 b1 b2 b3 b4 b5 b6 b7
    have fa0 := g4'.frozen 0
    have fa1 := g4'.frozen 1
    have fa2 := g4'.frozen 2
    obtain ⟨fb0, fb1, fb2, fb3, fb4, fb5, fb6, fb7⟩ := zbq g5'
    have hdr : ∀ W : World, Below W.heap.size W W.drew := fun W => zr.drew
    clear hI hMM hAA g2' g3' g4' g5' hA g2 g3 g4 g5 gF gFr hS hSr hbw2 hF hR hhw hMw hbr
    go_upto_region 9 with fail
    go_region
    rw [← hw9]
    clear hw9 a0 a1 a2 b0 b1 b2 b3 b4 b5 b6 b7 fa0 fa1 fa2 fb0 fb1 fb2 fb3 fb4 fb5 fb6 fb7 l4 l5 y0 y1 y2 z0 z1 z2 z3 z4 z5 z6 z7 l2 l3
    have c0 := q4.cell 0
    have c1 := q4.cell 1
    have c2 := q4.cell 2
    have d0 := q5.cell 0
    have d1 := q5.cell 1
    have d2 := q5.cell 2
    have d3 := q5.cell 3
    have d4 := q5.cell 4
    have d5 := q5.cell 5
    have d6 := q5.cell 6
    have d7 := q5.cell 7
    simp only [List.getElem?_toArray, List.getElem?_cons_zero, List.getElem?_cons_succ] at c0 c1 c2 d0 d1 d2 d3 d4 d5 d6 d7
    clear q4 q5
    go_wp2
    refine bodyPost_ret (by simp [results, Tryz.results94, go_sem, *]; try rfl) rfl ?_
    exact ⟨p, c, q, d, pg, cg, pb, cb, pr, cr, rfl, hP1.below (hdr _), hP2.below (hdr _), hbE.drew⟩
end Go.Proofs.YtkehankfnkjnlaaGreatDoor
