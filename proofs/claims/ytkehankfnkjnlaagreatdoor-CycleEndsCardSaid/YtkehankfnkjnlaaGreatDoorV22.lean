import Derived.Test.YtkehankfnkjnlaaGreatDoorV21
namespace Go.Proofs.YtkehankfnkjnlaaGreatDoor
set_option linter.unusedSimpArgs false
set_option linter.unusedVariables false
set_option maxHeartbeats 16000000
set_option maxRecDepth 20000
open Go.ChangeAt Go.ChangeShapes Go.Joins Go.RowKit Go.WideShapes
variable {h : Hp} {w w' W W' : World} {p q : Option Addr} {n g : Nat} {a : Int} {v : Value}
theorem zar {T : TypeId} {x0 x1 x2 x3 x4 x5 x6 x7 : Value} (h : TBox T g #[x0, x1, x2, x3, x4, x5, x6, x7] w) :
  g < w.heap.size ∧ w.cell? ⟨g, 0, none⟩ = some x0 ∧ w.cell? ⟨g, 1, none⟩ = some x1 ∧ w.cell? ⟨g, 2, none⟩ = some x2 ∧ w.cell? ⟨g, 3, none⟩ = some x3 ∧ w.cell? ⟨g, 4, none⟩ = some x4 ∧ w.cell? ⟨g, 5, none⟩ = some x5 ∧ w.cell? ⟨g, 6, none⟩ = some x6 ∧ w.cell? ⟨g, 7, none⟩ = some x7 :=
 ⟨h.lt, h.cell 0, h.cell 1, h.cell 2, h.cell 3, h.cell 4, h.cell 5, h.cell 6, h.cell 7⟩
theorem RAt.gy {c n : Nat} {b : Nat → Gy} (h : RAt GrC 2 W p c n b) {i : Nat} (hi : i < n) :
  ∃ bb off q d, p = some ⟨bb, off, none⟩ ∧ bb < W.heap.size ∧ W.cell? ⟨bb, off + i * 2, none⟩ = some (.int .i64 (b i).r) ∧ W.cell? ⟨bb, off + i * 2 + 1, none⟩ = some (.slice q (b i).n d) ∧ GrAt W q d (b i).n (b i).z ∧ In64 (b i).r := by
 obtain ⟨bb, off, L, e, hl, -, hc, q, d, rfl, hg, hr⟩ := h.row i hi
 exact ⟨bb, off, q, d, e, hl, hc 0 _ rfl, hc 1 _ rfl, hg, hr⟩
def fewM (m : Mk) : Bool := decide ((∀ i, i < m.nb → i < 20 → (m.b i).n ≤ 20) ∧ m.g.n ≤ 20 ∧ m.nb ≤ 10 ∧ m.nr ≤ 300)
theorem zex {m : Mk} (h : fewM m = true) : smB m.b m.nb ≤ 200 ∧ m.g.n ≤ 20 ∧ m.nb ≤ 10 ∧ m.nr ≤ 300 := by
 simp only [fewM, decide_eq_true_eq] at h
 obtain ⟨h1, h2, h3, h4⟩ := h
 have key : ∀ k, k ≤ m.nb → smB m.b k ≤ 20 * k := fun k => by
  induction k with
  | zero => intro _; exact Nat.le_refl _
  | succ k ih =>
   intro hk
   have := ih (by omega)
   have := h1 k (by omega) (by omega)
   show smB m.b k + (m.b k).n ≤ 20 * (k + 1)
   omega
 have := key m.nb (Nat.le_refl _)
 omega
theorem zqb (m : Mk) (pg : Option Addr) (cg : Nat) (pb : Option Addr) (cb : Nat) (pr : Option Addr) (cr : Nat) (w : World) (hb : RAt GrC 2 w pb cb m.nb m.b) :
  Calls Tryz.prog 56 #[.agg #[.int .i64 m.g.r, .slice pg m.g.n cg, .slice pb m.nb cb, .slice pr m.nr cr, .int .i64 m.ob, .int .i64 m.fi, .int .i64 m.cu, .bool m.ov]] w fun e w' => e = .returned (.bool (fewM m)) ∧ Below w.heap.size w w' := by
 obtain ⟨w0, hw0⟩ : ∃ w0, w0 = w.alloc (.cells #[.int .i64 m.g.r, .slice pg m.g.n cg, .slice pb m.nb cb, .slice pr m.nr cr, .int .i64 m.ob, .int .i64 m.fi, .int .i64 m.cu, .bool m.ov] 35) := ⟨_, rfl⟩
 have gM : TBox 35 w.heap.size #[.int .i64 m.g.r, .slice pg m.g.n cg, .slice pb m.nb cb, .slice pr m.nr cr, .int .i64 m.ob, .int .i64 m.fi, .int .i64 m.cu, .bool m.ov] w0 := by rw [hw0]; exact TBox.new _ _ _
 have hst : Below w.heap.size w w0 := by rw [hw0]; exact zr.alloc (Nat.le_refl _) _
 replace hb := hb.below za2 hst
 go_enter Tryz.func56, Tryz.ntmps56
 go_upto_region 1 with fail
 rw [← hw0]
 clear hw0
 go_wp2
 go_loopg [3] m.nb (fun g iv wr => ∃ i : Nat, i ≤ m.nb ∧ i ≤ 20 ∧ g = m.nb - i ∧ iv = .int .i64 i ∧ (∀ j, j < i → (m.b j).n ≤ 20) ∧ Below w0.heap.size w0 wr)
 case atStart => exact ⟨0, by omega, by omega, by omega, rfl, fun j hj => absurd hj (Nat.not_lt_zero _), zr⟩
 case round =>
  obtain ⟨i, ih, i20, rfl, rfl, hall, hbw⟩ := hrel
  obtain ⟨l0, x0, x1, x2, x3, x4, x5, x6, x7⟩ := zar (gM.below hbw)
  have hbe := bjoin hbw hst
  by_cases hi : i < m.nb ∧ i < 20
  ·obtain ⟨hi, hi2⟩ := hi
   obtain ⟨bb, off, q, d, rfl, hlt, v0, v1, -, -⟩ := (hb.below za2 hbw).gy hi
   by_cases e : (m.b i).n ≤ 20
   ·have hall2 : Hid (∀ j, j < i + 1 → (m.b j).n ≤ 20) := fun j hj => by
     by_cases e' : j = i
     ·subst e'; exact e
     ·exact hall j (by omega)
    clear hall
    generalize (m.b i).n = k at *
    go_wp2
    go_roundg (m.nb - (i + 1))
    case measure => omega
    case rel => exact ⟨i + 1, by omega, by omega, rfl, by go_num, hall2.out, hbw⟩
   ·have hF : Hid (fewM m = false) := by
     show fewM m = false
     simp only [fewM, decide_eq_false_iff_not]
     exact fun h => e (h.1 i hi hi2)
    clear hall
    generalize (m.b i).n = k at *
    generalize (m.b i).r = r at *
    go_wp2
    go_returns
    exact ⟨zab hF.out.symm, hbe⟩
  ·have hF : Hid (fewM m = (decide (m.g.n ≤ 20) && decide (m.nb ≤ 10) && decide (m.nr ≤ 300))) := by
    show fewM m = _
    rw [Bool.eq_iff_iff]
    simp only [fewM, decide_eq_true_eq, Bool.and_eq_true]
    constructor
    ·rintro ⟨-, h2, h3, h4⟩; exact ⟨⟨h2, h3⟩, h4⟩
    ·rintro ⟨⟨h2, h3⟩, h4⟩; exact ⟨fun j hj hj2 => hall j (by omega), h2, h3, h4⟩
   clear hall
   have hor : m.nb ≤ i ∨ 20 ≤ i := by omega
   clear hi
   rcases hor with hor | hor
   ·obtain rfl : i = m.nb := by omega
    go_wp2
    all_goals
     go_returns
     exact ⟨zab (by rw [hF.out]; first | (rw [Bool.eq_iff_iff]; simp only [decide_eq_true_eq, Bool.and_eq_true, Bool.false_eq_true]; omega) | (simp; omega) | (simp; done) | (simp_all; done)), hbe⟩
   ·obtain rfl : i = 20 := by omega
    go_wp2
    all_goals
     go_returns
     exact ⟨zab (by rw [hF.out]; first | (rw [Bool.eq_iff_iff]; simp only [decide_eq_true_eq, Bool.and_eq_true, Bool.false_eq_true]; omega) | (simp; omega) | (simp; done) | (simp_all; done)), hbe⟩
def rtD (h : Hp) (m : Mk) : Bool := decide (∀ i, i < m.nb → (m.b i).right = true) && (m.g.right && decide (-1 ≤ m.cu) && decide (m.cu ≤ h.n)) && (if m.ob = -1 then m.fi == 0 else fdE h m.ob m.fi == 0)
theorem zsx {m : Mk} : rtD h m = true ↔ rightM h m := by
 unfold rtD rightM
 by_cases e : m.ob = -1
 ·simp [e]
  constructor
  ·rintro ⟨⟨h1, ⟨h2, h3⟩, h4⟩, h5⟩; exact ⟨h2, h1, ⟨h3, h4⟩, h5⟩
  ·rintro ⟨h2, h1, ⟨h3, h4⟩, h5⟩; exact ⟨⟨h1, ⟨h2, h3⟩, h4⟩, h5⟩
 ·simp [e]
  constructor
  ·rintro ⟨⟨h1, ⟨h2, h3⟩, h4⟩, h5⟩; exact ⟨h2, h1, ⟨h3, h4⟩, h5⟩
  ·rintro ⟨h2, h1, ⟨h3, h4⟩, h5⟩; exact ⟨⟨h1, ⟨h2, h3⟩, h4⟩, h5⟩
theorem zld (p : Option Addr) (c : Nat) (q : Option Addr) (d : Nat) (h : Hp) (m : Mk) (pg : Option Addr) (cg : Nat) (pb : Option Addr) (cb : Nat) (pr : Option Addr) (cr : Nat) (w : World) (hh : HpAt w p c q d h) (hF : formB h = true) (hg : GrAt w pg cg m.g.n m.g.z) (hb : RAt GrC 2 w pb cb m.nb m.b) :
  Calls Tryz.prog 31 #[.agg #[.slice p h.n c, .slice q h.m d, .bool h.b], .agg #[.int .i64 m.g.r, .slice pg m.g.n cg, .slice pb m.nb cb, .slice pr m.nr cr, .int .i64 m.ob, .int .i64 m.fi, .int .i64 m.cu, .bool m.ov]] w fun e w' => e = .returned (.bool (rtD h m)) ∧ Below w.heap.size w w' := by
 obtain ⟨w0, hw0⟩ : ∃ w0, w0 = (w.alloc (.cells #[.slice p h.n c, .slice q h.m d, .bool h.b] 27)).alloc (.cells #[.int .i64 m.g.r, .slice pg m.g.n cg, .slice pb m.nb cb, .slice pr m.nr cr, .int .i64 m.ob, .int .i64 m.fi, .int .i64 m.cu, .bool m.ov] 35) := ⟨_, rfl⟩
 obtain ⟨gH, gM, hst⟩ := zbw hw0
 replace hb := hb.below za2 hst
 replace hg := hg.below hst
 have hat := hh.below hst
 have hnb := hb.nle
 simp only [maxLen] at hnb
 have hnl : h.n ≤ 512 := by have := zad.1 hF; omega
 have hFd := fun W (hW : Below w0.heap.size w0 W) => zmv p c q d h m.ob m.fi W (hat.below hW) hF
 have hRg := fun W (hW : Below w0.heap.size w0 W) => zgd m.g.r pg m.g.n cg m.g.z W (hg.below hW)
 clear hF hh
 go_enter Tryz.func31, Tryz.ntmps31
 go_upto_region 1 with fail
 rw [← hw0]
 clear hw0
 go_wp2
 go_loopg [5] m.nb (fun g iv wr => ∃ i : Nat, i ≤ m.nb ∧ g = m.nb - i ∧ iv = .int .i64 i ∧ (∀ j, j < i → (m.b j).right = true) ∧ Below w0.heap.size w0 wr)
 case atStart => exact ⟨0, by omega, by omega, rfl, fun j hj => absurd hj (Nat.not_lt_zero _), zr⟩
 case round =>
  obtain ⟨i, ih, rfl, rfl, hall, hbw⟩ := hrel
  obtain ⟨l8, y0, y1, y2, y3, y4, y5, y6, y7⟩ := zar (gM.below hbw)
  have gHr := gH.below hbw
  obtain ⟨l0, x0, x1, x2⟩ : w.heap.size < wr.heap.size ∧ wr.cell? ⟨w.heap.size, 0, none⟩ = some (.slice p h.n c) ∧ wr.cell? ⟨w.heap.size, 1, none⟩ = some (.slice q h.m d) ∧ wr.cell? ⟨w.heap.size, 2, none⟩ = some (.bool h.b) := ⟨gHr.lt, gHr.cell 0, gHr.cell 1, gHr.cell 2⟩
  by_cases hi : i < m.nb
  ·obtain ⟨bb, off, q2, d2, rfl, hlt, v0, v1, hgi, -⟩ := (hb.below za2 hbw).gy hi
   have hRi := zgd (m.b i).r q2 (m.b i).n d2 (m.b i).z wr hgi
   rw [show rightG (m.b i).r (m.b i).n (m.b i).z = (m.b i).right from rfl] at hRi
   cases e : (m.b i).right with
   | true =>
    have hall2 : Hid (∀ j, j < i + 1 → (m.b j).right = true) := fun j hj => by
     by_cases e' : j = i
     ·subst e'; exact e
     ·exact hall j (by omega)
    rw [e] at hRi
    clear hall e hgi hFd hRg
    generalize (m.b i).r = r at *
    generalize (m.b i).n = k at *
    go_wp2_with (first
  | (go_at_call 62; refine zm (hRi) ?_; rintro e w' ⟨rfl, hb⟩; obtain ⟨hc, hf, hb, hz⟩ := bstep hb (w := wr) (by go_grown); try simp only [za, zb, zd] at hc hf hz)
    )
    have hbw2 := bjoin hb hbw
    go_roundg (m.nb - (i + 1))
    case measure => omega
    case rel => exact ⟨i + 1, by omega, rfl, by go_num, hall2.out, hbw2⟩
   | false =>
    have hF2 : Hid (rtD h m = false) := by
     show rtD h m = false
     unfold rtD
     rw [show decide (∀ i, i < m.nb → (m.b i).right = true) = false by simp only [decide_eq_false_iff_not]; exact fun h => by have := h i hi; rw [e] at this; cases this]
     rfl
    rw [e] at hRi
    clear hall e hgi hFd hRg
    generalize (m.b i).r = r at *
    generalize (m.b i).n = k at *
    go_wp2_with (first
  | (go_at_call 62; refine zm (hRi) ?_; rintro e w' ⟨rfl, hb⟩; obtain ⟨hc, hf, hb, hz⟩ := bstep hb (w := wr) (by go_grown); try simp only [za, zb, zd] at hc hf hz)
    )
    have hbw2 := bjoin hb hbw
    go_returns
    exact ⟨zab hF2.out.symm, bjoin hbw2 hst⟩
  ·obtain rfl : i = m.nb := by omega
   have hR2 : Hid (rtD h m = ((m.g.right && decide (-1 ≤ m.cu) && decide (m.cu ≤ h.n)) && (if m.ob = -1 then m.fi == 0 else fdE h m.ob m.fi == 0))) := by
    show rtD h m = _
    unfold rtD
    rw [show decide (∀ i, i < m.nb → (m.b i).right = true) = true by simp only [decide_eq_true_eq]; exact hall]
    rfl
   have hRgr := hRg wr hbw
   rw [show rightG m.g.r m.g.n m.g.z = m.g.right from rfl] at hRgr
   have hFd2 := fun W hW => hFd W (bjoin hW hbw)
   clear hall hRg hFd hi
   generalize getK (fdX h m.ob m.fi) = fk at *
   generalize getN (fdX h m.ob m.fi) = fn at *
   generalize fdE h m.ob m.fi = fe at *
   cases eg : m.g.right with
   | false =>
    rw [eg] at hRgr hR2
    generalize m.g.r = gr at *
    go_wp2_with (first
  | (go_at_call 62; refine zm (hRgr) ?_; rintro e w' ⟨rfl, hb⟩; obtain ⟨hc, hf, hb, hz⟩ := bstep hb (w := wr) (by go_grown); try simp only [za, zb, zd] at hc hf hz)
    )
    go_returns
    exact ⟨zab (by rw [hR2.out]; rfl), bjoin (bjoin hb hbw) hst⟩
   | true =>
    rw [eg] at hRgr hR2
    by_cases ec : -1 ≤ m.cu ∧ m.cu ≤ h.n
    ·obtain ⟨c1, c2⟩ := ec
     by_cases eo : m.ob = -1
     ·have hR3 : Hid (rtD h m = (m.fi == 0)) := by
       show rtD h m = (m.fi == 0)
       rw [hR2.out, if_pos eo]; simp [c1, c2]
      clear hR2
      go_wp2_with (first
  | (go_at_call 62; refine zm (hRgr) ?_; rintro e w' ⟨rfl, hb⟩; obtain ⟨hc, hf, hb, hz⟩ := bstep hb (w := wr) (by go_grown); try simp only [za, zb, zd] at hc hf hz)
      )
      all_goals
       go_returns
       exact ⟨zab (by rw [hR3.out]; try simp_all), bjoin (bjoin hb hbw) hst⟩
     ·have hR3 : Hid (rtD h m = (fe == 0)) := by
       show rtD h m = (fe == 0)
       rw [hR2.out, if_neg eo]; simp [c1, c2]
      clear hR2
      go_upto_region 10 with (first
  | (go_at_call 62; refine zm (hRgr) ?_; rintro e w' ⟨rfl, hb⟩; obtain ⟨hc, hf, hb, hz⟩ := bstep hb (w := wr) (by go_grown); try simp only [za, zb, zd] at hc hf hz)
      )
      have hbw2 := bjoin hb hbw
      have gH2 := gHr.below hb
      have gM2 := (gM.below hbw).below hb
      have hFd3 := hFd2 _ hb
      clear hb hc hf hz l0 x0 x1 x2 l8 y0 y1 y2 y3 y4 y5 y6 y7 hFd2 gHr gM hRgr
      generalize w' = w5 at *
      obtain ⟨l8, y0, y1, y2, y3, y4, y5, y6, y7⟩ := zar gM2
      obtain ⟨l0, x0, x1, x2⟩ : w.heap.size < w5.heap.size ∧ w5.cell? ⟨w.heap.size, 0, none⟩ = some (.slice p h.n c) ∧ w5.cell? ⟨w.heap.size, 1, none⟩ = some (.slice q h.m d) ∧ w5.cell? ⟨w.heap.size, 2, none⟩ = some (.bool h.b) := ⟨gH2.lt, gH2.cell 0, gH2.cell 1, gH2.cell 2⟩
      go_wp2_with (first
  | (go_at_call 63; refine zm (hFd3) ?_; rintro e w' ⟨rfl, hb⟩; obtain ⟨hc, hf, hb, hz⟩ := bstep hb (w := w5) (by go_grown); try simp only [za, zb, zd] at hc hf hz)
      )
      all_goals
       go_returns
       exact ⟨zab (by rw [hR3.out]; try simp_all), bjoin (hb.alloc hb.size _) (bjoin hbw2 hst)⟩
    ·have hR3 : Hid (rtD h m = false) := by
      show rtD h m = false
      rw [hR2.out]
      by_cases c1 : -1 ≤ m.cu
      ·have : ¬ m.cu ≤ h.n := fun c2 => ec ⟨c1, c2⟩
       simp [this]
      ·simp [c1]
     clear hR2
     have hor : m.cu < -1 ∨ (h.n : Int) < m.cu := by omega
     clear ec
     rcases hor with hor | hor
     ·go_wp2_with (first
  | (go_at_call 62; refine zm (hRgr) ?_; rintro e w' ⟨rfl, hb⟩; obtain ⟨hc, hf, hb, hz⟩ := bstep hb (w := wr) (by go_grown); try simp only [za, zb, zd] at hc hf hz)
      )
      go_returns
      exact ⟨zab (by rw [hR3.out]), bjoin (bjoin hb hbw) hst⟩
     ·have hor2 : ¬ m.cu < -1 := by omega
      go_wp2_with (first
  | (go_at_call 62; refine zm (hRgr) ?_; rintro e w' ⟨rfl, hb⟩; obtain ⟨hc, hf, hb, hz⟩ := bstep hb (w := wr) (by go_grown); try simp only [za, zb, zd] at hc hf hz)
      )
      go_returns
      exact ⟨zab (by rw [hR3.out]), bjoin (bjoin hb hbw) hst⟩
theorem zj8 (m : Mk) (pg : Option Addr) (cg : Nat) (pb : Option Addr) (cb : Nat) (pr : Option Addr) (cr : Nat) (pg' : Option Addr) (cg' : Nat) (pb' : Option Addr) (cb' : Nat) (pr' : Option Addr) (cr' : Nat) (w : World) (hg : GrAt w pg cg m.g.n m.g.z) (hB : RAt GrC 2 w pb cb m.nb m.b) (hv : VAt w pr cr m.nr m.ro) (hg' : GrAt w pg' cg' m.g.n m.g.z) (hB' : RAt GrC 2 w pb' cb' m.nb m.b) (hv' : VAt w pr' cr' m.nr m.ro) :
  Calls Tryz.prog 49 #[.agg #[.int .i64 m.g.r, .slice pg m.g.n cg, .slice pb m.nb cb, .slice pr m.nr cr, .int .i64 m.ob, .int .i64 m.fi, .int .i64 m.cu, .bool m.ov], .agg #[.int .i64 m.g.r, .slice pg' m.g.n cg', .slice pb' m.nb cb', .slice pr' m.nr cr', .int .i64 m.ob, .int .i64 m.fi, .int .i64 m.cu, .bool m.ov]] w fun e w' => e = .returned (.bool true) ∧ Below w.heap.size w w' := by
 obtain ⟨w0, hw0⟩ : ∃ w0, w0 = (w.alloc (.cells #[.int .i64 m.g.r, .slice pg m.g.n cg, .slice pb m.nb cb, .slice pr m.nr cr, .int .i64 m.ob, .int .i64 m.fi, .int .i64 m.cu, .bool m.ov] 35)).alloc (.cells #[.int .i64 m.g.r, .slice pg' m.g.n cg', .slice pb' m.nb cb', .slice pr' m.nr cr', .int .i64 m.ob, .int .i64 m.fi, .int .i64 m.cu, .bool m.ov] 35) := ⟨_, rfl⟩
 obtain ⟨gA, gB, hst⟩ := zbw hw0
 replace hg := hg.below hst
 replace hB := hB.below za2 hst
 replace hv := hv.below hst
 replace hg' := hg'.below hst
 replace hB' := hB'.below za2 hst
 replace hv' := hv'.below hst
 have hnb := hB.nle
 simp only [maxLen] at hnb
 have hSg : ∀ W, Below w0.heap.size w0 W → Calls Tryz.prog 82 #[.agg #[.int .i64 m.g.r, .slice pg m.g.n cg], .agg #[.int .i64 m.g.r, .slice pg' m.g.n cg']] W fun e w' => e = .returned (.bool true) ∧ Below W.heap.size W w' := fun W hW => by
  have := zht m.g.r m.g.r pg pg' m.g.n cg m.g.n cg' m.g.z m.g.z W (hg.below hW) (hg'.below hW)
  rwa [zic] at this
 have hSv : ∀ W, Below w0.heap.size w0 W → Calls Tryz.prog 83 #[.slice pr m.nr cr, .slice pr' m.nr cr'] W fun e w' => e = .returned (.bool true) ∧ Below W.heap.size W w' := fun W hW => by
  have := zhx pr pr' m.nr cr m.nr cr' m.ro m.ro W (hv.below hW) (hv'.below hW)
  rwa [zie] at this
 obtain ⟨l8, y0, y1, y2, y3, y4, y5, y6, y7⟩ := zar gA
 obtain ⟨k8, z0, z1, z2, z3, z4, z5, z6, z7⟩ := zar gB
 go_enter Tryz.func49, Tryz.ntmps49
 go_upto_region 1 with fail
 rw [← hw0]
 clear hw0
 go_upto_region 3 with (first
  | (go_at_call 82; refine zm (hSg _ (by go_grown)) ?_; rintro e w' ⟨rfl, hb⟩; obtain ⟨hc, hf, hb, hz⟩ := bstep hb (w := w0) (by go_grown); try simp only [za, zb, zd] at hc hf hz)
  | (go_at_call 83; refine zm (hSv _ (by go_grown)) ?_; rintro e w' ⟨rfl, hb⟩; obtain ⟨hc, hf, hb, hz⟩ := bstep hb (w := w0) (by go_grown); try simp only [za, zb, zd] at hc hf hz)
 )
 have hb0 := bjoin hb hst
 replace gA := gA.below hb
 replace gB := gB.below hb
 replace hB := hB.below za2 hb
 replace hB' := hB'.below za2 hb
 clear hb hc hf hz l8 y0 y1 y2 y3 y4 y5 y6 y7 k8 z0 z1 z2 z3 z4 z5 z6 z7 hSg hSv hg hg' hv hv' hst
 try clear hc hf hz
 generalize w' = w3 at *
 obtain ⟨l8, y0, y1, y2, y3, y4, y5, y6, y7⟩ := zar gA
 go_wp2
 go_loopg [5] m.nb (fun g iv wr => ∃ i : Nat, i ≤ m.nb ∧ g = m.nb - i ∧ iv = .int .i64 i ∧ Below w3.heap.size w3 wr)
 case atStart => exact ⟨0, by omega, by omega, rfl, zr⟩
 case round =>
  clear l8 y0 y1 y2 y3 y4 y5 y6 y7
  obtain ⟨i, ih, rfl, rfl, hbw⟩ := hrel
  have gAr := gA.below hbw
  have gBr := gB.below hbw
  obtain ⟨l8, y0, y1, y2, y3, y4, y5, y6, y7⟩ := zar gAr
  by_cases hi : i < m.nb
  ·obtain ⟨bb, off, q1, d1, rfl, hlt, v0, v1, hgi, -⟩ := (hB.below za2 hbw).gy hi
   obtain ⟨bc, off', q2, d2, rfl, hlt', u0, u1, hgi', -⟩ := (hB'.below za2 hbw).gy hi
   have hSi : ∀ W, Below wr.heap.size wr W → Calls Tryz.prog 82 #[.agg #[.int .i64 (m.b i).r, .slice q1 (m.b i).n d1], .agg #[.int .i64 (m.b i).r, .slice q2 (m.b i).n d2]] W fun e w' => e = .returned (.bool true) ∧ Below W.heap.size W w' := fun W hW => by
    have := zht (m.b i).r (m.b i).r q1 q2 (m.b i).n d1 (m.b i).n d2 (m.b i).z (m.b i).z W (hgi.below hW) (hgi'.below hW)
    rwa [zic] at this
   clear hgi hgi'
   generalize (m.b i).r = r at *
   generalize (m.b i).n = k at *
   go_upto_region 6 with fail
   refine zbg [some 64, some 65, some 66, some 67, some 68, some 69, some 70, some 71, some 72, some 73, some 74, some 75] [64, 65, 66, 67, 68, 69, 70, 71, 72, 73, 74, 75] [(fun v _ => v = .pointer (some ⟨w.heap.size, 2, none⟩)), (fun v _ => v = .slice (some ⟨bb, off, none⟩) m.nb cb), (fun v _ => v = .int .i64 (i : Int)), (fun v _ => v = .pointer (some ⟨bb, off + i * 2, none⟩)), (fun v _ => v = .agg #[.int .i64 r, .slice q1 k d1]), (fun v _ => v = .pointer (some ⟨w.heap.size + 1, 2, none⟩)), (fun v _ => v = .slice (some ⟨bc, off', none⟩) m.nb cb'), (fun v _ => v = .int .i64 (i : Int)), (fun v _ => v = .pointer (some ⟨bc, off' + i * 2, none⟩)), (fun v _ => v = .agg #[.int .i64 r, .slice q2 k d2]), (fun v _ => v = .bool true), (fun v _ => v = .bool false)] (fun _ => false) 76 (by kernel_rfl) (by kernel_rfl) rfl rfl (by decide) (by decide) (by simp) ⟨kv, kv, kv, kv, kv, kv, kv, kv, kv, kv, kv, kv, trivial⟩ ⟨rfl, rfl, rfl, rfl, rfl, rfl, rfl, rfl, rfl, rfl, rfl, rfl, trivial⟩ ?_ ?_
   ·refine ⟨?_, ?_, ?_, ?_, ?_, ?_, ?_, ?_, ?_, ?_, ?_, ?_, trivial⟩
    ·intro _ a' w' hb' hs hd Kc hK
     have f2 : a'.tmps[2]?.getD undef = .pointer (some ⟨w.heap.size, 0, none⟩) := (hs 2 (by decide)).trans rfl
     clear hs hd
     unfold Oper.wp
     go_simp
     try go_bits
     exact hK _ _ zr rfl
    ·intro _ a' w' hb' hs hd Kc hK
     have f64 : a'.tmps[64]?.getD undef = .pointer (some ⟨w.heap.size, 2, none⟩) := hd 0 64 zt rfl rfl
     clear hs hd
     have a0 : w'.cell? ⟨bb, off + i * 2, none⟩ = some (.int .i64 r) := zcl hb' hlt v0
     have a1 : w'.cell? ⟨bb, off + i * 2 + 1, none⟩ = some (.slice q1 k d1) := zcl hb' hlt v1
     have c0 : w'.cell? ⟨bc, off' + i * 2, none⟩ = some (.int .i64 r) := zcl hb' hlt' u0
     have c1 : w'.cell? ⟨bc, off' + i * 2 + 1, none⟩ = some (.slice q2 k d2) := zcl hb' hlt' u1
     obtain ⟨l8', k0, k1, k2, k3, k4, k5, k6, k7⟩ := zar (gAr.below hb')
     obtain ⟨l9', j0, j1, j2, j3, j4, j5, j6, j7⟩ := zar (gBr.below hb')
     unfold Oper.wp
     go_simp
     try go_bits
     exact hK _ _ zr rfl
    ·intro _ a' w' hb' hs hd Kc hK
     have f5 : a'.tmps[5]?.getD undef = .int .i64 (i : Int) := (hs 5 (by decide)).trans rfl
     clear hs hd
     unfold Oper.wp
     go_simp
     try go_bits
     exact hK _ _ zr rfl
    ·intro _ a' w' hb' hs hd Kc hK
     have f65 : a'.tmps[65]?.getD undef = .slice (some ⟨bb, off, none⟩) m.nb cb := hd 1 65 zt rfl rfl
     have f66 : a'.tmps[66]?.getD undef = .int .i64 (i : Int) := hd 2 66 zt rfl rfl
     clear hs hd
     have a0 : w'.cell? ⟨bb, off + i * 2, none⟩ = some (.int .i64 r) := zcl hb' hlt v0
     have a1 : w'.cell? ⟨bb, off + i * 2 + 1, none⟩ = some (.slice q1 k d1) := zcl hb' hlt v1
     have c0 : w'.cell? ⟨bc, off' + i * 2, none⟩ = some (.int .i64 r) := zcl hb' hlt' u0
     have c1 : w'.cell? ⟨bc, off' + i * 2 + 1, none⟩ = some (.slice q2 k d2) := zcl hb' hlt' u1
     obtain ⟨l8', k0, k1, k2, k3, k4, k5, k6, k7⟩ := zar (gAr.below hb')
     obtain ⟨l9', j0, j1, j2, j3, j4, j5, j6, j7⟩ := zar (gBr.below hb')
     unfold Oper.wp
     go_simp
     try go_bits
     exact hK _ _ zr rfl
    ·intro _ a' w' hb' hs hd Kc hK
     have f67 : a'.tmps[67]?.getD undef = .pointer (some ⟨bb, off + i * 2, none⟩) := hd 3 67 zt rfl rfl
     clear hs hd
     have a0 : w'.cell? ⟨bb, off + i * 2, none⟩ = some (.int .i64 r) := zcl hb' hlt v0
     have a1 : w'.cell? ⟨bb, off + i * 2 + 1, none⟩ = some (.slice q1 k d1) := zcl hb' hlt v1
     have c0 : w'.cell? ⟨bc, off' + i * 2, none⟩ = some (.int .i64 r) := zcl hb' hlt' u0
     have c1 : w'.cell? ⟨bc, off' + i * 2 + 1, none⟩ = some (.slice q2 k d2) := zcl hb' hlt' u1
     obtain ⟨l8', k0, k1, k2, k3, k4, k5, k6, k7⟩ := zar (gAr.below hb')
     obtain ⟨l9', j0, j1, j2, j3, j4, j5, j6, j7⟩ := zar (gBr.below hb')
     unfold Oper.wp
     go_simp
     try go_bits
     exact hK _ _ zr rfl
    ·intro _ a' w' hb' hs hd Kc hK
     have f3 : a'.tmps[3]?.getD undef = .pointer (some ⟨w.heap.size + 1, 0, none⟩) := (hs 3 (by decide)).trans rfl
     clear hs hd
     unfold Oper.wp
     go_simp
     try go_bits
     exact hK _ _ zr rfl
    ·intro _ a' w' hb' hs hd Kc hK
     have f69 : a'.tmps[69]?.getD undef = .pointer (some ⟨w.heap.size + 1, 2, none⟩) := hd 5 69 zt rfl rfl
     clear hs hd
     have a0 : w'.cell? ⟨bb, off + i * 2, none⟩ = some (.int .i64 r) := zcl hb' hlt v0
     have a1 : w'.cell? ⟨bb, off + i * 2 + 1, none⟩ = some (.slice q1 k d1) := zcl hb' hlt v1
     have c0 : w'.cell? ⟨bc, off' + i * 2, none⟩ = some (.int .i64 r) := zcl hb' hlt' u0
     have c1 : w'.cell? ⟨bc, off' + i * 2 + 1, none⟩ = some (.slice q2 k d2) := zcl hb' hlt' u1
     obtain ⟨l8', k0, k1, k2, k3, k4, k5, k6, k7⟩ := zar (gAr.below hb')
     obtain ⟨l9', j0, j1, j2, j3, j4, j5, j6, j7⟩ := zar (gBr.below hb')
     unfold Oper.wp
     go_simp
     try go_bits
     exact hK _ _ zr rfl
    ·intro _ a' w' hb' hs hd Kc hK
     have f5 : a'.tmps[5]?.getD undef = .int .i64 (i : Int) := (hs 5 (by decide)).trans rfl
     clear hs hd
     unfold Oper.wp
     go_simp
     try go_bits
     exact hK _ _ zr rfl
    ·intro _ a' w' hb' hs hd Kc hK
     have f70 : a'.tmps[70]?.getD undef = .slice (some ⟨bc, off', none⟩) m.nb cb' := hd 6 70 zt rfl rfl
     have f71 : a'.tmps[71]?.getD undef = .int .i64 (i : Int) := hd 7 71 zt rfl rfl
     clear hs hd
     have a0 : w'.cell? ⟨bb, off + i * 2, none⟩ = some (.int .i64 r) := zcl hb' hlt v0
     have a1 : w'.cell? ⟨bb, off + i * 2 + 1, none⟩ = some (.slice q1 k d1) := zcl hb' hlt v1
     have c0 : w'.cell? ⟨bc, off' + i * 2, none⟩ = some (.int .i64 r) := zcl hb' hlt' u0
     have c1 : w'.cell? ⟨bc, off' + i * 2 + 1, none⟩ = some (.slice q2 k d2) := zcl hb' hlt' u1
     obtain ⟨l8', k0, k1, k2, k3, k4, k5, k6, k7⟩ := zar (gAr.below hb')
     obtain ⟨l9', j0, j1, j2, j3, j4, j5, j6, j7⟩ := zar (gBr.below hb')
     unfold Oper.wp
     go_simp
     try go_bits
     exact hK _ _ zr rfl
    ·intro _ a' w' hb' hs hd Kc hK
     have f72 : a'.tmps[72]?.getD undef = .pointer (some ⟨bc, off' + i * 2, none⟩) := hd 8 72 zt rfl rfl
     clear hs hd
     have a0 : w'.cell? ⟨bb, off + i * 2, none⟩ = some (.int .i64 r) := zcl hb' hlt v0
     have a1 : w'.cell? ⟨bb, off + i * 2 + 1, none⟩ = some (.slice q1 k d1) := zcl hb' hlt v1
     have c0 : w'.cell? ⟨bc, off' + i * 2, none⟩ = some (.int .i64 r) := zcl hb' hlt' u0
     have c1 : w'.cell? ⟨bc, off' + i * 2 + 1, none⟩ = some (.slice q2 k d2) := zcl hb' hlt' u1
     obtain ⟨l8', k0, k1, k2, k3, k4, k5, k6, k7⟩ := zar (gAr.below hb')
     obtain ⟨l9', j0, j1, j2, j3, j4, j5, j6, j7⟩ := zar (gBr.below hb')
     unfold Oper.wp
     go_simp
     try go_bits
     exact hK _ _ zr rfl
    ·intro _ a' w' hb' hs hd Kc hK
     have f68 : a'.tmps[68]?.getD undef = .agg #[.int .i64 r, .slice q1 k d1] := hd 4 68 zt rfl rfl
     have f73 : a'.tmps[73]?.getD undef = .agg #[.int .i64 r, .slice q2 k d2] := hd 9 73 zt rfl rfl
     clear hs hd
     have a0 : w'.cell? ⟨bb, off + i * 2, none⟩ = some (.int .i64 r) := zcl hb' hlt v0
     have a1 : w'.cell? ⟨bb, off + i * 2 + 1, none⟩ = some (.slice q1 k d1) := zcl hb' hlt v1
     have c0 : w'.cell? ⟨bc, off' + i * 2, none⟩ = some (.int .i64 r) := zcl hb' hlt' u0
     have c1 : w'.cell? ⟨bc, off' + i * 2 + 1, none⟩ = some (.slice q2 k d2) := zcl hb' hlt' u1
     obtain ⟨l8', k0, k1, k2, k3, k4, k5, k6, k7⟩ := zar (gAr.below hb')
     obtain ⟨l9', j0, j1, j2, j3, j4, j5, j6, j7⟩ := zar (gBr.below hb')
     unfold Oper.wp
     go_simp
     try go_bits
     refine zm (hSi _ hb') ?_
     rintro e w'' ⟨rfl, hb2⟩
     exact hK _ _ hb2 rfl
    ·intro _ a' w' hb' hs hd Kc hK
     have f74 : a'.tmps[74]?.getD undef = .bool true := hd 10 74 zt rfl rfl
     clear hs hd
     unfold Oper.wp
     go_simp
     try go_bits
     exact hK _ _ zr zl
   intro Xf w' hb hv
   have q75 : Xf 75 = .bool false := hv 11 75 rfl rfl
   clear hv
   simp only [List.map_cons, List.map_nil, q75, puts, Act.put, Nat.reduceAdd, List.setIfInBounds_toArray, List.set_cons_succ, List.set_cons_zero]
   have hbw2 := bjoin hb hbw
   go_wp2
   go_roundg (m.nb - (i + 1))
   case measure => omega
   case rel => exact ⟨i + 1, by omega, rfl, by go_num, hbw2⟩
  ·obtain rfl : i = m.nb := by omega
   go_wp2
   go_returns
   exact ⟨rfl, bjoin hbw hb0⟩
end Go.Proofs.YtkehankfnkjnlaaGreatDoor
