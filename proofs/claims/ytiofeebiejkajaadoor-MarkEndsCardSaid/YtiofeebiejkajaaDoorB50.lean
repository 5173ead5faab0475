/- Contracts of the reference's markers (chapter 17): Right, Few, Same, Bound. -/
import Derived.Test.YtiofeebiejkajaaDoorB36
import Derived.Test.YtiofeebiejkajaaDoorB34
import Derived.Test.YtiofeebiejkajaaDoorB29
import Derived.Test.YtiofeebiejkajaaDoorB16
import Derived.Test.YtiofeebiejkajaaDoorB25
namespace Go.Proofs.YtiofeebiejkajaaDoor
set_option linter.unusedSimpArgs false
set_option linter.unusedVariables false
open Go.ChangeShapes Go.WideShapes Go.ChangeAt Go.RowKit Go.Joins

theorem mk_cells {T : TypeId} {g : Nat} {w : World} {x0 x1 x2 x3 x4 x5 x6 x7 : Value} (h : TBox T g #[x0, x1, x2, x3, x4, x5, x6, x7] w) :
    g < w.heap.size ∧ w.cell? ⟨g, 0, none⟩ = some x0 ∧ w.cell? ⟨g, 1, none⟩ = some x1 ∧ w.cell? ⟨g, 2, none⟩ = some x2 ∧ w.cell? ⟨g, 3, none⟩ = some x3 ∧ w.cell? ⟨g, 4, none⟩ = some x4 ∧ w.cell? ⟨g, 5, none⟩ = some x5 ∧ w.cell? ⟨g, 6, none⟩ = some x6 ∧ w.cell? ⟨g, 7, none⟩ = some x7 :=
  ⟨h.lt, h.cell 0, h.cell 1, h.cell 2, h.cell 3, h.cell 4, h.cell 5, h.cell 6, h.cell 7⟩
/-- A row of a row of rows. -/
theorem RAt.gy {W : World} {p : Option Addr} {c n : Nat} {b : Nat → Gy} (h : RAt GrC 2 W p c n b) {i : Nat} (hi : i < n) :
    ∃ bb off q d, p = some ⟨bb, off, none⟩ ∧ bb < W.heap.size ∧ W.cell? ⟨bb, off + i * 2, none⟩ = some (.int .i64 (b i).r) ∧ W.cell? ⟨bb, off + i * 2 + 1, none⟩ = some (.slice q (b i).n d) ∧ GrAt W q d (b i).n (b i).z ∧ In64 (b i).r := by
  obtain ⟨bb, off, L, e, hl, -, hc, q, d, rfl, hg, hr⟩ := h.row i hi
  exact ⟨bb, off, q, d, e, hl, hc 0 _ rfl, hc 1 _ rfl, hg, hr⟩
def fewM (m : Mk) : Bool := decide ((∀ i, i < m.nb → i < 20 → (m.b i).n ≤ 20) ∧ m.g.n ≤ 20 ∧ m.nb ≤ 10 ∧ m.nr ≤ 300)
theorem few_sum {m : Mk} (h : fewM m = true) : smB m.b m.nb ≤ 200 ∧ m.g.n ≤ 20 ∧ m.nb ≤ 10 ∧ m.nr ≤ 300 := by
  simp only [fewM, decide_eq_true_eq] at h
  obtain ⟨h1, h2, h3, h4⟩ := h
  have key : ∀ k, k ≤ m.nb → smB m.b k ≤ 20 * k := fun k => by
    induction k with
    | zero => intro _; exact Nat.le_refl _
    | succ k ih =>
      intro hk
      have := ih (by omega)
      have := h1 k (by omega) (by omega)
      show smB m.b k + (m.b k).n ≤ 20 * (k + 1)
      omega
  have := key m.nb (Nat.le_refl _)
  omega
set_option maxHeartbeats 1000000 in
theorem rfew17_any (m : Mk) (pg : Option Addr) (cg : Nat) (pb : Option Addr) (cb : Nat) (pr : Option Addr) (cr : Nat) (w : World) (hb : RAt GrC 2 w pb cb m.nb m.b) :
    Calls Tryd.prog 28 #[.agg #[.int .i64 m.g.r, .slice pg m.g.n cg, .slice pb m.nb cb, .slice pr m.nr cr, .int .i64 m.ob, .int .i64 m.fi, .int .i64 m.cu, .bool m.ov]] w fun e w' => e = .returned (.bool (fewM m)) ∧ Below w.heap.size w w' := by
  obtain ⟨w0, hw0⟩ : ∃ w0, w0 = w.alloc (.cells #[.int .i64 m.g.r, .slice pg m.g.n cg, .slice pb m.nb cb, .slice pr m.nr cr, .int .i64 m.ob, .int .i64 m.fi, .int .i64 m.cu, .bool m.ov] 32) := ⟨_, rfl⟩
  have gM : TBox 32 w.heap.size #[.int .i64 m.g.r, .slice pg m.g.n cg, .slice pb m.nb cb, .slice pr m.nr cr, .int .i64 m.ob, .int .i64 m.fi, .int .i64 m.cu, .bool m.ov] w0 := by rw [hw0]; exact TBox.new _ _ _
  have hst : Below w.heap.size w w0 := by rw [hw0]; exact (Below.refl _ _).alloc (Nat.le_refl _) _
  replace hb := hb.below grC_below hst
  go_enter Tryd.func28, Tryd.ntmps28
  go_upto_region 1 with fail
  rw [← hw0]
  clear hw0
  go_wp2
  go_loopg [3] m.nb (fun g iv wr => ∃ i : Nat, i ≤ m.nb ∧ i ≤ 20 ∧ g = m.nb - i ∧ iv = .int .i64 i ∧ (∀ j, j < i → (m.b j).n ≤ 20) ∧ Below w0.heap.size w0 wr)
  case atStart => exact ⟨0, by omega, by omega, by omega, rfl, fun j hj => absurd hj (Nat.not_lt_zero _), Below.refl _ _⟩
  case round =>
    obtain ⟨i, ih, i20, rfl, rfl, hall, hbw⟩ := hrel
    obtain ⟨l0, x0, x1, x2, x3, x4, x5, x6, x7⟩ := mk_cells (gM.below hbw)
    have hbe := bjoin hbw hst
    by_cases hi : i < m.nb ∧ i < 20
    · obtain ⟨hi, hi2⟩ := hi
      obtain ⟨bb, off, q, d, rfl, hlt, v0, v1, -, -⟩ := (hb.below grC_below hbw).gy hi
      by_cases e : (m.b i).n ≤ 20
      · have hall2 : Hid (∀ j, j < i + 1 → (m.b j).n ≤ 20) := fun j hj => by
          by_cases e' : j = i
          · subst e'; exact e
          · exact hall j (by omega)
        clear hall
        generalize (m.b i).n = k at *
        go_wp2
        go_roundg (m.nb - (i + 1))
        case measure => omega
        case rel => exact ⟨i + 1, by omega, by omega, rfl, by go_num, hall2.out, hbw⟩
      · have hF : Hid (fewM m = false) := by
          show fewM m = false
          simp only [fewM, decide_eq_false_iff_not]
          exact fun h => e (h.1 i hi hi2)
        clear hall
        generalize (m.b i).n = k at *
        generalize (m.b i).r = r at *
        go_wp2
        go_returns
        exact ⟨ret_bool hF.out.symm, hbe⟩
    · have hF : Hid (fewM m = (decide (m.g.n ≤ 20) && decide (m.nb ≤ 10) && decide (m.nr ≤ 300))) := by
        show fewM m = _
        rw [Bool.eq_iff_iff]
        simp only [fewM, decide_eq_true_eq, Bool.and_eq_true]
        constructor
        · rintro ⟨-, h2, h3, h4⟩; exact ⟨⟨h2, h3⟩, h4⟩
        · rintro ⟨⟨h2, h3⟩, h4⟩; exact ⟨fun j hj hj2 => hall j (by omega), h2, h3, h4⟩
      clear hall
      have hor : m.nb ≤ i ∨ 20 ≤ i := by omega
      clear hi
      rcases hor with hor | hor
      · obtain rfl : i = m.nb := by omega
        go_wp2
        all_goals
          go_returns
          exact ⟨ret_bool (by rw [hF.out]; first | (rw [Bool.eq_iff_iff]; simp only [decide_eq_true_eq, Bool.and_eq_true, Bool.false_eq_true]; omega) | (simp; omega) | (simp; done) | (simp_all; done)), hbe⟩
      · obtain rfl : i = 20 := by omega
        go_wp2
        all_goals
          go_returns
          exact ⟨ret_bool (by rw [hF.out]; first | (rw [Bool.eq_iff_iff]; simp only [decide_eq_true_eq, Bool.and_eq_true, Bool.false_eq_true]; omega) | (simp; omega) | (simp; done) | (simp_all; done)), hbe⟩
/-- Is it right, as a Bool. -/
def rtD (h : Hp) (m : Mk) : Bool := decide (∀ i, i < m.nb → (m.b i).right = true) && (m.g.right && decide (-1 ≤ m.cu) && decide (m.cu ≤ h.n)) && (if m.ob = -1 then m.fi == 0 else fdE h m.ob m.fi == 0)
theorem rtD_iff {h : Hp} {m : Mk} : rtD h m = true ↔ rightM h m := by
  unfold rtD rightM
  by_cases e : m.ob = -1
  · simp [e]
    constructor
    · rintro ⟨⟨h1, ⟨h2, h3⟩, h4⟩, h5⟩; exact ⟨h2, h1, ⟨h3, h4⟩, h5⟩
    · rintro ⟨h2, h1, ⟨h3, h4⟩, h5⟩; exact ⟨⟨h1, ⟨h2, h3⟩, h4⟩, h5⟩
  · simp [e]
    constructor
    · rintro ⟨⟨h1, ⟨h2, h3⟩, h4⟩, h5⟩; exact ⟨h2, h1, ⟨h3, h4⟩, h5⟩
    · rintro ⟨h2, h1, ⟨h3, h4⟩, h5⟩; exact ⟨⟨h1, ⟨h2, h3⟩, h4⟩, h5⟩
set_option maxHeartbeats 2000000 in
theorem rbound17_any (p : Option Addr) (c : Nat) (q : Option Addr) (d : Nat) (h : Hp) (m : Mk) (pg : Option Addr) (cg : Nat) (pb : Option Addr) (cb : Nat) (pr : Option Addr) (cr : Nat) (w : World) (hh : HpAt w p c q d h) (hF : formB h = true) (hb : RAt GrC 2 w pb cb m.nb m.b) (hw : fewM m = true) :
    Calls Tryd.prog 12 #[.agg #[.slice p h.n c, .slice q h.m d, .bool h.b], .agg #[.int .i64 m.g.r, .slice pg m.g.n cg, .slice pb m.nb cb, .slice pr m.nr cr, .int .i64 m.ob, .int .i64 m.fi, .int .i64 m.cu, .bool m.ov]] w fun e w' => e = .returned (.int .i64 (boM h m : Int)) ∧ Below w.heap.size w w' := by
  obtain ⟨w0, hw0⟩ : ∃ w0, w0 = (w.alloc (.cells #[.slice p h.n c, .slice q h.m d, .bool h.b] 25)).alloc (.cells #[.int .i64 m.g.r, .slice pg m.g.n cg, .slice pb m.nb cb, .slice pr m.nr cr, .int .i64 m.ob, .int .i64 m.fi, .int .i64 m.cu, .bool m.ov] 32) := ⟨_, rfl⟩
  obtain ⟨gH, gM, hst⟩ := tbox_two hw0
  replace hb := hb.below grC_below hst
  obtain ⟨s1, s2, s3, s4⟩ := few_sum hw
  have hnl : h.n ≤ 512 := by have := form_iff.1 hF; omega
  have hlen := obL_len h h.n
  have hL := rlist8_any p c q d h w0 (hh.below hst) hF
  have hwfL := obL_wf h hnl
  have hBo : Hid ((boM h m : Int) = ((obL h h.n).length + 3) * (17 * (obL h h.n).length + 8) + m.nr + 17 * (m.g.n + smB m.b m.nb) + 20) := by
    show (boM h m : Int) = _
    unfold boM nOb
    push_cast
    rfl
  have hsm : ∀ k, k ≤ m.nb → smB m.b k ≤ 200 := fun k hk => by
    have : ∀ j, k + j ≤ m.nb → smB m.b k ≤ smB m.b (k + j) := fun j => by
      induction j with
      | zero => intro _; exact Nat.le_refl _
      | succ j ih =>
        intro hj
        have := ih (by omega)
        show smB m.b k ≤ smB m.b (k + j) + (m.b (k + j)).n
        omega
    have := this (m.nb - k) (by omega)
    rw [show k + (m.nb - k) = m.nb by omega] at this
    omega
  generalize obL h h.n = L at *
  obtain ⟨l0, x0, x1, x2⟩ : w.heap.size < w0.heap.size ∧ w0.cell? ⟨w.heap.size, 0, none⟩ = some (.slice p h.n c) ∧ w0.cell? ⟨w.heap.size, 1, none⟩ = some (.slice q h.m d) ∧ w0.cell? ⟨w.heap.size, 2, none⟩ = some (.bool h.b) := ⟨gH.lt, gH.cell 0, gH.cell 1, gH.cell 2⟩
  obtain ⟨l8, y0, y1, y2, y3, y4, y5, y6, y7⟩ := mk_cells gM
  clear hF hh hw
  go_enter Tryd.func12, Tryd.ntmps12
  go_upto_region 1 with fail
  rw [← hw0]
  clear hw0
  go_upto_region 2 with (first
    | (go_at_call 14; refine Calls.mono hL ?_; rintro e w1 ⟨v, rfl, hown, hb1⟩; obtain ⟨pl, cl, rfl, hNR⟩ := row_owned hown hwfL)
  )
  replace hb := hb.below grC_below hb1
  have gM1 := gM.below hb1
  have hb0 := bjoin hb1 hst
  clear hown hNR hL x0 x1 x2 l0 gH l8 y0 y1 y2 y3 y4 y5 y6 y7 gM hst hb1
  obtain ⟨l8, y0, y1, y2, y3, y4, y5, y6, y7⟩ := mk_cells gM1
  go_wp2
  go_loopg [6, 7] m.nb (fun g sv iv wr => ∃ i : Nat, i ≤ m.nb ∧ g = m.nb - i ∧ iv = .int .i64 i ∧ sv = .int .i64 ((m.g.n + smB m.b i : Nat) : Int) ∧ Below w1.heap.size w1 wr)
  case atStart => exact ⟨0, by omega, by omega, rfl, by simp [smB], Below.refl _ _⟩
  case round =>
    clear l8 y0 y1 y2 y3 y4 y5 y6 y7
    obtain ⟨i, ih, rfl, rfl, rfl, hbw⟩ := hrel
    obtain ⟨l8, y0, y1, y2, y3, y4, y5, y6, y7⟩ := mk_cells (gM1.below hbw)
    have hsi := hsm i ih
    by_cases hi : i < m.nb
    · obtain ⟨bb, off, q2, d2, rfl, hlt, v0, v1, -, -⟩ := (hb.below grC_below hbw).gy hi
      have hsi2 := hsm (i + 1) hi
      have es : smB m.b (i + 1) = smB m.b i + (m.b i).n := rfl
      rw [es] at hsi2
      have es2 : Hid (((m.g.n + smB m.b i : Nat) : Int) + ((m.b i).n : Int) = ((m.g.n + smB m.b (i + 1) : Nat) : Int)) := by
        show ((m.g.n + smB m.b i : Nat) : Int) + ((m.b i).n : Int) = ((m.g.n + smB m.b (i + 1) : Nat) : Int)
        rw [es]; push_cast; omega
      clear es
      generalize (m.b i).r = r at *
      generalize (m.b i).n = k at *
      generalize smB m.b i = S0 at *
      go_wp2
      go_roundg (m.nb - (i + 1))
      case measure => omega
      case rel => exact ⟨i + 1, by omega, rfl, by go_num, by rw [← es2.out]; go_num, hbw⟩
    · obtain rfl : i = m.nb := by omega
      generalize smB m.b m.nb = S0 at *
      have hL5 : L.length ≤ 512 := by omega
      clear hsm
      have hmul : (L.length + 3 : Int) * (17 * L.length + 8) ≤ 515 * 8712 := Int.mul_le_mul (by omega) (by omega) (by omega) (by omega)
      have hmul0 : 0 ≤ (L.length + 3 : Int) * (17 * L.length + 8) := Int.mul_nonneg (by omega) (by omega)
      go_wp2
      go_returns
      exact ⟨by rw [hBo.out]; congr 2, bjoin hbw hb0⟩
set_option maxHeartbeats 4000000 in
set_option maxRecDepth 20000 in
theorem rright17_any (p : Option Addr) (c : Nat) (q : Option Addr) (d : Nat) (h : Hp) (m : Mk) (pg : Option Addr) (cg : Nat) (pb : Option Addr) (cb : Nat) (pr : Option Addr) (cr : Nat) (w : World) (hh : HpAt w p c q d h) (hF : formB h = true) (hg : GrAt w pg cg m.g.n m.g.z) (hb : RAt GrC 2 w pb cb m.nb m.b) :
    Calls Tryd.prog 18 #[.agg #[.slice p h.n c, .slice q h.m d, .bool h.b], .agg #[.int .i64 m.g.r, .slice pg m.g.n cg, .slice pb m.nb cb, .slice pr m.nr cr, .int .i64 m.ob, .int .i64 m.fi, .int .i64 m.cu, .bool m.ov]] w fun e w' => e = .returned (.bool (rtD h m)) ∧ Below w.heap.size w w' := by
  obtain ⟨w0, hw0⟩ : ∃ w0, w0 = (w.alloc (.cells #[.slice p h.n c, .slice q h.m d, .bool h.b] 25)).alloc (.cells #[.int .i64 m.g.r, .slice pg m.g.n cg, .slice pb m.nb cb, .slice pr m.nr cr, .int .i64 m.ob, .int .i64 m.fi, .int .i64 m.cu, .bool m.ov] 32) := ⟨_, rfl⟩
  obtain ⟨gH, gM, hst⟩ := tbox_two hw0
  replace hb := hb.below grC_below hst
  replace hg := hg.below hst
  have hat := hh.below hst
  have hnb := hb.nle
  simp only [maxLen] at hnb
  have hnl : h.n ≤ 512 := by have := form_iff.1 hF; omega
  have hFd := fun W (hW : Below w0.heap.size w0 W) => rfield8_any p c q d h m.ob m.fi W (hat.below hW) hF
  have hRg := fun W (hW : Below w0.heap.size w0 W) => rgright_any m.g.r pg m.g.n cg m.g.z W (hg.below hW)
  clear hF hh
  go_enter Tryd.func18, Tryd.ntmps18
  go_upto_region 1 with fail
  rw [← hw0]
  clear hw0
  go_wp2
  go_loopg [5] m.nb (fun g iv wr => ∃ i : Nat, i ≤ m.nb ∧ g = m.nb - i ∧ iv = .int .i64 i ∧ (∀ j, j < i → (m.b j).right = true) ∧ Below w0.heap.size w0 wr)
  case atStart => exact ⟨0, by omega, by omega, rfl, fun j hj => absurd hj (Nat.not_lt_zero _), Below.refl _ _⟩
  case round =>
    obtain ⟨i, ih, rfl, rfl, hall, hbw⟩ := hrel
    obtain ⟨l8, y0, y1, y2, y3, y4, y5, y6, y7⟩ := mk_cells (gM.below hbw)
    have gHr := gH.below hbw
    obtain ⟨l0, x0, x1, x2⟩ : w.heap.size < wr.heap.size ∧ wr.cell? ⟨w.heap.size, 0, none⟩ = some (.slice p h.n c) ∧ wr.cell? ⟨w.heap.size, 1, none⟩ = some (.slice q h.m d) ∧ wr.cell? ⟨w.heap.size, 2, none⟩ = some (.bool h.b) := ⟨gHr.lt, gHr.cell 0, gHr.cell 1, gHr.cell 2⟩
    by_cases hi : i < m.nb
    · obtain ⟨bb, off, q2, d2, rfl, hlt, v0, v1, hgi, -⟩ := (hb.below grC_below hbw).gy hi
      have hRi := rgright_any (m.b i).r q2 (m.b i).n d2 (m.b i).z wr hgi
      rw [show rightG (m.b i).r (m.b i).n (m.b i).z = (m.b i).right from rfl] at hRi
      cases e : (m.b i).right with
      | true =>
        have hall2 : Hid (∀ j, j < i + 1 → (m.b j).right = true) := fun j hj => by
          by_cases e' : j = i
          · subst e'; exact e
          · exact hall j (by omega)
        rw [e] at hRi
        clear hall e hgi hFd hRg
        generalize (m.b i).r = r at *
        generalize (m.b i).n = k at *
        go_wp2_with (first
    | (go_at_call 37; refine Calls.mono (hRi) ?_; rintro e w' ⟨rfl, hb⟩; obtain ⟨hc, hf, hb, hz⟩ := bstep hb (w := wr) (by go_grown); try simp only [World.size_alloc, World.size_setCell, World.size_drew] at hc hf hz)
        )
        have hbw2 := bjoin hb hbw
        go_roundg (m.nb - (i + 1))
        case measure => omega
        case rel => exact ⟨i + 1, by omega, rfl, by go_num, hall2.out, hbw2⟩
      | false =>
        have hF2 : Hid (rtD h m = false) := by
          show rtD h m = false
          unfold rtD
          rw [show decide (∀ i, i < m.nb → (m.b i).right = true) = false by simp only [decide_eq_false_iff_not]; exact fun h => by have := h i hi; rw [e] at this; cases this]
          rfl
        rw [e] at hRi
        clear hall e hgi hFd hRg
        generalize (m.b i).r = r at *
        generalize (m.b i).n = k at *
        go_wp2_with (first
    | (go_at_call 37; refine Calls.mono (hRi) ?_; rintro e w' ⟨rfl, hb⟩; obtain ⟨hc, hf, hb, hz⟩ := bstep hb (w := wr) (by go_grown); try simp only [World.size_alloc, World.size_setCell, World.size_drew] at hc hf hz)
        )
        have hbw2 := bjoin hb hbw
        go_returns
        exact ⟨ret_bool hF2.out.symm, bjoin hbw2 hst⟩
    · obtain rfl : i = m.nb := by omega
      have hR2 : Hid (rtD h m = ((m.g.right && decide (-1 ≤ m.cu) && decide (m.cu ≤ h.n)) && (if m.ob = -1 then m.fi == 0 else fdE h m.ob m.fi == 0))) := by
        show rtD h m = _
        unfold rtD
        rw [show decide (∀ i, i < m.nb → (m.b i).right = true) = true by simp only [decide_eq_true_eq]; exact hall]
        rfl
      have hRgr := hRg wr hbw
      rw [show rightG m.g.r m.g.n m.g.z = m.g.right from rfl] at hRgr
      have hFd2 := fun W hW => hFd W (bjoin hW hbw)
      clear hall hRg hFd hi
      generalize getK (fdX h m.ob m.fi) = fk at *
      generalize getN (fdX h m.ob m.fi) = fn at *
      generalize fdE h m.ob m.fi = fe at *
      cases eg : m.g.right with
      | false =>
        rw [eg] at hRgr hR2
        generalize m.g.r = gr at *
        go_wp2_with (first
    | (go_at_call 37; refine Calls.mono (hRgr) ?_; rintro e w' ⟨rfl, hb⟩; obtain ⟨hc, hf, hb, hz⟩ := bstep hb (w := wr) (by go_grown); try simp only [World.size_alloc, World.size_setCell, World.size_drew] at hc hf hz)
        )
        go_returns
        exact ⟨ret_bool (by rw [hR2.out]; rfl), bjoin (bjoin hb hbw) hst⟩
      | true =>
        rw [eg] at hRgr hR2
        by_cases ec : -1 ≤ m.cu ∧ m.cu ≤ h.n
        · obtain ⟨c1, c2⟩ := ec
          by_cases eo : m.ob = -1
          · have hR3 : Hid (rtD h m = (m.fi == 0)) := by
              show rtD h m = (m.fi == 0)
              rw [hR2.out, if_pos eo]; simp [c1, c2]
            clear hR2
            go_wp2_with (first
    | (go_at_call 37; refine Calls.mono (hRgr) ?_; rintro e w' ⟨rfl, hb⟩; obtain ⟨hc, hf, hb, hz⟩ := bstep hb (w := wr) (by go_grown); try simp only [World.size_alloc, World.size_setCell, World.size_drew] at hc hf hz)
            )
            all_goals
              go_returns
              exact ⟨ret_bool (by rw [hR3.out]; try simp_all), bjoin (bjoin hb hbw) hst⟩
          · have hR3 : Hid (rtD h m = (fe == 0)) := by
              show rtD h m = (fe == 0)
              rw [hR2.out, if_neg eo]; simp [c1, c2]
            clear hR2
            go_upto_region 10 with (first
    | (go_at_call 37; refine Calls.mono (hRgr) ?_; rintro e w' ⟨rfl, hb⟩; obtain ⟨hc, hf, hb, hz⟩ := bstep hb (w := wr) (by go_grown); try simp only [World.size_alloc, World.size_setCell, World.size_drew] at hc hf hz)
            )
            have hbw2 := bjoin hb hbw
            have gH2 := gHr.below hb
            have gM2 := (gM.below hbw).below hb
            have hFd3 := hFd2 _ hb
            clear hb hc hf hz l0 x0 x1 x2 l8 y0 y1 y2 y3 y4 y5 y6 y7 hFd2 gHr gM hRgr
            generalize w' = w5 at *
            obtain ⟨l8, y0, y1, y2, y3, y4, y5, y6, y7⟩ := mk_cells gM2
            obtain ⟨l0, x0, x1, x2⟩ : w.heap.size < w5.heap.size ∧ w5.cell? ⟨w.heap.size, 0, none⟩ = some (.slice p h.n c) ∧ w5.cell? ⟨w.heap.size, 1, none⟩ = some (.slice q h.m d) ∧ w5.cell? ⟨w.heap.size, 2, none⟩ = some (.bool h.b) := ⟨gH2.lt, gH2.cell 0, gH2.cell 1, gH2.cell 2⟩
            go_wp2_with (first
    | (go_at_call 36; refine Calls.mono (hFd3) ?_; rintro e w' ⟨rfl, hb⟩; obtain ⟨hc, hf, hb, hz⟩ := bstep hb (w := w5) (by go_grown); try simp only [World.size_alloc, World.size_setCell, World.size_drew] at hc hf hz)
            )
            all_goals
              go_returns
              exact ⟨ret_bool (by rw [hR3.out]; try simp_all), bjoin (hb.alloc hb.size _) (bjoin hbw2 hst)⟩
        · have hR3 : Hid (rtD h m = false) := by
            show rtD h m = false
            rw [hR2.out]
            by_cases c1 : -1 ≤ m.cu
            · have : ¬ m.cu ≤ h.n := fun c2 => ec ⟨c1, c2⟩
              simp [this]
            · simp [c1]
          clear hR2
          have hor : m.cu < -1 ∨ (h.n : Int) < m.cu := by omega
          clear ec
          rcases hor with hor | hor
          · go_wp2_with (first
    | (go_at_call 37; refine Calls.mono (hRgr) ?_; rintro e w' ⟨rfl, hb⟩; obtain ⟨hc, hf, hb, hz⟩ := bstep hb (w := wr) (by go_grown); try simp only [World.size_alloc, World.size_setCell, World.size_drew] at hc hf hz)
            )
            go_returns
            exact ⟨ret_bool (by rw [hR3.out]), bjoin (bjoin hb hbw) hst⟩
          · have hor2 : ¬ m.cu < -1 := by omega
            go_wp2_with (first
    | (go_at_call 37; refine Calls.mono (hRgr) ?_; rintro e w' ⟨rfl, hb⟩; obtain ⟨hc, hf, hb, hz⟩ := bstep hb (w := wr) (by go_grown); try simp only [World.size_alloc, World.size_setCell, World.size_drew] at hc hf hz)
            )
            go_returns
            exact ⟨ret_bool (by rw [hR3.out]), bjoin (bjoin hb hbw) hst⟩
end Go.Proofs.YtiofeebiejkajaaDoor
