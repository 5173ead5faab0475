/- CycleEnds: from whatever world that has its form, where objects lie apart, the marker's turns alone end a cycle that was begun or is asked for, within so many turns; the world keeps its form. No condition; the table that the code reads is tied to the program's text. -/
import Derived.Test.YtkehankfnkjnlaaGreatDoorV47
import Derived.Test.YtkehankfnkjnlaaGreatDoorCards
import Derived.Test.YtkehankfnkjnlaaGreatDoorTie
import Derived.SevenTiedAt
namespace Go.Proofs.YtkehankfnkjnlaaGreatDoor
set_option linter.unusedSimpArgs false
set_option linter.unusedVariables false
set_option maxHeartbeats 16000000
set_option maxRecDepth 20000
open Go.ChangeAt Go.ChangeShapes Go.Joins Go.RowKit Go.WideShapes
variable {h : Hp} {w w' W W' : World} {p q : Option Addr} {n g : Nat} {a : Int} {v : Value}
theorem zl0 (Z : Wd) (q : Wp) (w : World) (hv : WdIn w Z q) (hS : Sz w) :
  Calls Tryz.prog 3 #[.agg (Z.cells q).toArray] w fun e w' => e = .returned (.bool true) ∧ Below w.heap.size w w' := by
 obtain ⟨w0, hw0⟩ : ∃ w0, w0 = w.alloc (.cells (Z.cells q).toArray 38) := ⟨_, rfl⟩
 have gW : TBox 38 w.heap.size (Z.cells q).toArray w0 := by rw [hw0]; exact TBox.new _ _ _
 have hst : Below w.heap.size w w0 := by rw [hw0]; exact zr.alloc (Nat.le_refl _) _
 have hAw := fun W (hW : Below w.heap.size w W) => zer W (hS.below hW)
 have hFi := fun W (hW : Below w.heap.size w W) => ze1 Z q W (hv.below hW)
 have a5 := gW.cell 5
 have a6 := gW.cell 6
 have a7 := gW.cell 7
 have cy19 := gW.cell 19
 have lW := gW.lt
 simp only [List.getElem?_toArray, List.getElem?_cons_zero, List.getElem?_cons_succ] at a5 a6 a7 cy19
 by_cases hgo : (fewW Z = true ∧ FormW Z) ∧ apB Z.h = true ∧ Z.cy ≤ 1099511627776
 case pos =>
  obtain ⟨⟨hfew, F⟩, hap, c2⟩ := hgo
  rw [hfew, zby.2 F] at hFi
  have hAp := fun W (hW : Below w.heap.size w W) => zh1 q.h q.hc q.s q.sc Z.h W (hv.heap.below hW) F.hF
  rw [hap] at hAp
  have c2' : ¬ Z.cy > 1099511627776 := by omega
  have hBo := fun W (hW : Below w.heap.size w W) => zkc Z q W (hv.below hW) F.hF hfew
  have hrk := zu4 F
  have hbo := bo_le hfew
  have hnr : Z.nr ≤ 50 := (zhj hfew).2.2.2.2
  have hmr : Z.m.nr ≤ 1000 := by have := (zex (zhj hfew).2.2.2.1).2.2.2; omega
  have hn10 : Z.n ≤ 10 := (zhj hfew).2.2.1.1
  have F' : Hid (FormW Z) := F
  clear F hfew
  generalize boW Z = BO at *
  go_enter Tryz.func3, Tryz.ntmps3
  go_upto_region 1 with fail
  rw [← hw0]
  clear hw0
  go_upto_region 3 with (first
  | (with_reducible refine zbx (gW.below hb) (by simp [Region.wanted, yielded, Act.put]; done) (by with_unfolding_all rfl) ?_)
  | (go_at_call 7; refine zm (hAw _ (bjoin (by go_grown) hst)) ?_; rintro e w' ⟨rfl, hb⟩; obtain ⟨hc, hf, hb, hz⟩ := bstep hb (w := w0) (by go_grown); try simp only [za, zb, zd] at hc hf hz)
  | (go_at_call 8; refine zm (hFi _ (bjoin (by go_grown) hst)) ?_; rintro e w' ⟨rfl, hb⟩; obtain ⟨hc, hf, hb, hz⟩ := bstep hb (w := w0) (by go_grown); try simp only [za, zb, zd] at hc hf hz)
  | (go_at_call 9; refine zm (hAp _ (bjoin (by go_grown) hst)) ?_; rintro e w' ⟨rfl, hb⟩; obtain ⟨hc, hf, hb, hz⟩ := bstep hb (w := w0) (by go_grown); try simp only [za, zb, zd] at hc hf hz)
  )
  have hbW := bjoin hb hst
  replace gW := gW.below hb
  clear hb hc hf hz hAw hFi hAp hst cy19 lW a5 a6 a7 c2' hap c2
  try clear hc hf hz
  generalize w' = wA at *
  go_upto_region 4 with (first
  | (with_reducible refine ld_w gW (by with_unfolding_all rfl) ?_)
  | (go_at_call 10; refine zm (hBo _ hbW) ?_; rintro e w1 ⟨rfl, hb1⟩)
  )
  replace gW := gW.below hb1
  replace hbW := bjoin hb1 hbW
  clear hBo hb1
  obtain ⟨N, hN⟩ : ∃ N : Nat, N = 2 * BO + 1000 := ⟨_, rfl⟩
  have hNi : Hid (((2 : Int) * (BO : Int) + 1000) = (N : Int)) := by show ((2 : Int) * (BO : Int) + 1000) = (N : Int); omega
  rw [← hN] at hrk
  have hN9 : N ≤ 243000 := by omega
  have hNi2 : (2 : Int) * (BO : Int) + 1000 = (N : Int) := hNi.out
  go_upto_region 5 with fail
  rw [hNi2]
  clear hNi2 hNi hN
  go_wp2
  go_loopg [4] N (fun g iv wr => ∃ (i : Nat) (Y : Wd) (qy : Wp), i ≤ N ∧ g = N - i ∧ iv = .int .i64 i ∧ TBox 38 w.heap.size (Y.cells qy).toArray wr ∧ WdE w.heap.size wr Y qy ∧ Hid (FormW Y) ∧ Hid (rkW Y + i ≤ rkW Z) ∧ Hid (Y.nr + rkW Y ≤ Z.nr + rkW Z) ∧ Hid (Y.m.nr ≤ 1000) ∧ Hid (Y.n = Z.n) ∧ Below w.heap.size w wr)
  case atStart => exact ⟨0, Z, q, by omega, by omega, rfl, gW, (WdE.old hv (Nat.le_refl _)).below hbW, F', Nat.le_refl _, Nat.le_refl _, hmr, rfl, hbW⟩
  case round =>
   obtain ⟨i, Y, qy, ih, rfl, rfl, gY, hvY, hFY, hk1, hk2, hk3, hk4, hbr⟩ := hrel
   have b17 := gY.cell 17
   have b18 := gY.cell 18
   have lY := gY.lt
   simp only [List.getElem?_toArray, List.getElem?_cons_zero, List.getElem?_cons_succ] at b17 b18
   by_cases hi : i < N
   case neg =>
    exfalso
    have h1 := hk1.out
    omega
   case pos =>
    by_cases hid : Y.ph = 0 ∧ Y.wa = false
    case pos =>
     obtain ⟨e1, e2⟩ := hid
     rw [e1] at b17
     rw [e2] at b18
     go_wp2
     go_returns
     exact ⟨rfl, by first | exact hbr | go_grown⟩
    case neg =>
     have hBd : BdW Y := by
      have h2 := hk2.out
      have h3 := hk3.out
      exact ⟨by omega, h3⟩
     obtain ⟨t1, t2, t3⟩ := zwq hFY.out hvY.heap.wf hid
     have hFn : Hid (FormW (tuM Y).1) := zi4 hFY.out hvY.heap.wf
     obtain ⟨u1, u2, u3, -⟩ := zvo Y hFY.out hk3.out
     have hn1 : Hid (rkW (tuM Y).1 + (i + 1) ≤ rkW Z) := by have := hk1.out; show rkW (tuM Y).1 + (i + 1) ≤ rkW Z; omega
     have hn2 : Hid ((tuM Y).1.nr + rkW (tuM Y).1 ≤ Z.nr + rkW Z) := by have := hk2.out; show (tuM Y).1.nr + rkW (tuM Y).1 ≤ Z.nr + rkW Z; omega
     have hn3 : Hid ((tuM Y).1.m.nr ≤ 1000) := u2
     have hn4 : Hid ((tuM Y).1.n = Z.n) := u1.trans hk4.out
     have hMk := zif w.heap.size Y qy wr hbr.size (hS.below hbr) hvY hFY.out hBd
     clear t1 t3 u1 u2 u3 hBd hk1 hk2 hk3 hk4 hFY
     have hx0 : ((tuM Y).2 == 0) = false := by simpa using t2
     clear t2
     generalize tuM Y = TU at *
     obtain ⟨A, x⟩ := TU
     dsimp only at *
     have hph : Y.ph = 0 → Y.wa = true := fun e => by
      cases hw : Y.wa with
      | true => rfl
      | false => exact absurd ⟨e, hw⟩ hid
     have hor : (Y.ph == 0) = false ∨ (Y.ph = 0 ∧ Y.wa = true) := by
      by_cases e : Y.ph = 0
      ·exact .inr ⟨e, hph e⟩
      ·exact .inl (by simpa using e)
     clear hid hph
     have hA10 : Hid (A.n ≤ 10) := by have := hn4.out; show A.n ≤ 10; omega
     rcases hor with e1 | ⟨e1, e2⟩
     case inr =>
      rw [e1] at b17
      rw [e2] at b18
      clear e1 e2
      go_upto_region 10 with (first
  | (with_reducible refine ld_w gY (by with_unfolding_all rfl) ?_)
  | (with_reducible refine nw_w (v := A) (q := qa) (by intro p; with_unfolding_all rfl) (by intro p; with_unfolding_all rfl) ?_; intro wB gA hbB)
  | (go_at_call 11; refine zm hMk ?_; rintro e w2 ⟨qa, rfl, hvA, hb2⟩)
      )
      have hb3 := bjoin hbB hb2
      replace gY := gY.below hb3
      replace hvA := hvA.below hbB
      have hbr3 := bjoin hb3 hbr
      clear b17 b18 lY hMk hbB hb2 hb3
      have hFo := ze0 A qa wB hvA.in hA10.out
      rw [zby.2 hFn.out] at hFo
      go_upto_region 12 with (first
  | (with_reducible refine ld_w gA (by with_unfolding_all rfl) ?_)
  | (go_at_call 12; refine zm hFo ?_; rintro e w3 ⟨rfl, hb4⟩)
      )
      replace gY := gY.below hb4
      replace gA := gA.below hb4
      replace hvA := hvA.below hb4
      have hbr4 := bjoin hb4 hbr3
      clear hFo hb4
      have hn32 : 32 ≤ A.h.n ∧ 0 < A.h.m := by have := zad.1 hFn.out.hF; omega
      go_upto_region 6 with (first
  | (with_reducible refine ld_w gA (by with_unfolding_all rfl) ?_)
  | (with_reducible refine st_w gY (v := A) (q := qa) (by with_unfolding_all rfl) (by with_unfolding_all rfl) (by with_unfolding_all rfl) ?_; intro wz gZ hst)
      )
      have hvZ := hvA.aside gY.varW (Nat.le_refl _) hn32.1 hn32.2 hst.aside
      have hbz := hbr4.trans (hst.below _ (Nat.le_refl _))
      clear gY gA hvA hst hn32
      go_wp2
      go_roundg (N - (i + 1))
      case measure => omega
      case rel => exact ⟨i + 1, A, qa, by omega, rfl, by go_num, gZ, hvZ, hFn, hn1, hn2, hn3, hn4, hbz⟩
     case inl =>
      go_upto_region 10 with (first
  | (with_reducible refine ld_w gY (by with_unfolding_all rfl) ?_)
  | (with_reducible refine nw_w (v := A) (q := qa) (by intro p; with_unfolding_all rfl) (by intro p; with_unfolding_all rfl) ?_; intro wB gA hbB)
  | (go_at_call 11; refine zm hMk ?_; rintro e w2 ⟨qa, rfl, hvA, hb2⟩)
      )
      have hb3 := bjoin hbB hb2
      replace gY := gY.below hb3
      replace hvA := hvA.below hbB
      have hbr3 := bjoin hb3 hbr
      clear b17 b18 lY hMk hbB hb2 hb3
      have hFo := ze0 A qa wB hvA.in hA10.out
      rw [zby.2 hFn.out] at hFo
      go_upto_region 12 with (first
  | (with_reducible refine ld_w gA (by with_unfolding_all rfl) ?_)
  | (go_at_call 12; refine zm hFo ?_; rintro e w3 ⟨rfl, hb4⟩)
      )
      replace gY := gY.below hb4
      replace gA := gA.below hb4
      replace hvA := hvA.below hb4
      have hbr4 := bjoin hb4 hbr3
      clear hFo hb4
      have hn32 : 32 ≤ A.h.n ∧ 0 < A.h.m := by have := zad.1 hFn.out.hF; omega
      go_upto_region 6 with (first
  | (with_reducible refine ld_w gA (by with_unfolding_all rfl) ?_)
  | (with_reducible refine st_w gY (v := A) (q := qa) (by with_unfolding_all rfl) (by with_unfolding_all rfl) (by with_unfolding_all rfl) ?_; intro wz gZ hst)
      )
      have hvZ := hvA.aside gY.varW (Nat.le_refl _) hn32.1 hn32.2 hst.aside
      have hbz := hbr4.trans (hst.below _ (Nat.le_refl _))
      clear gY gA hvA hst hn32
      go_wp2
      go_roundg (N - (i + 1))
      case measure => omega
      case rel => exact ⟨i + 1, A, qa, by omega, rfl, by go_num, gZ, hvZ, hFn, hn1, hn2, hn3, hn4, hbz⟩
 case neg =>
  have hcase : (fewW Z && fmW Z) = false ∨ ((fewW Z && fmW Z) = true ∧ formB Z.h = true ∧ (apB Z.h = false ∨ (apB Z.h = true ∧ Z.cy > 1099511627776))) := by
   by_cases h1 : (fewW Z && fmW Z) = true
   ·have h1' := h1
    rw [Bool.and_eq_true] at h1'
    refine .inr ⟨h1, (zby.1 h1'.2).hF, ?_⟩
    by_cases h2 : apB Z.h = true
    ·refine .inr ⟨h2, ?_⟩
     by_cases h3 : Z.cy > 1099511627776
     ·exact h3
     ·exact absurd ⟨⟨h1'.1, zby.1 h1'.2⟩, h2, by omega⟩ hgo
    ·exact .inl (by simpa using h2)
   ·exact .inl (by simpa using h1)
  clear hgo
  rcases hcase with h1 | ⟨h1, hF, hap⟩
  case inl =>
   rw [h1] at hFi
   clear h1
   go_enter Tryz.func3, Tryz.ntmps3
   go_upto_region 1 with fail
   rw [← hw0]
   clear hw0
   go_wp2_with (first
  | (with_reducible refine zbx (gW.below hb) (by simp [Region.wanted, yielded, Act.put]; done) (by with_unfolding_all rfl) ?_)
  | (go_at_call 7; refine zm (hAw _ (bjoin (by go_grown) hst)) ?_; rintro e w' ⟨rfl, hb⟩; obtain ⟨hc, hf, hb, hz⟩ := bstep hb (w := w0) (by go_grown); try simp only [za, zb, zd] at hc hf hz)
  | (go_at_call 8; refine zm (hFi _ (bjoin (by go_grown) hst)) ?_; rintro e w' ⟨rfl, hb⟩; obtain ⟨hc, hf, hb, hz⟩ := bstep hb (w := w0) (by go_grown); try simp only [za, zb, zd] at hc hf hz)
   )
   go_returns
   exact ⟨rfl, bjoin (by go_grown) hst⟩
  case inr =>
   rw [h1] at hFi
   have hAp := fun W (hW : Below w.heap.size w W) => zh1 q.h q.hc q.s q.sc Z.h W (hv.heap.below hW) hF
   clear h1 hF
   generalize apB Z.h = AP at *
   rcases hap with rfl | ⟨rfl, h3⟩
   all_goals
    go_enter Tryz.func3, Tryz.ntmps3
    go_upto_region 1 with fail
    rw [← hw0]
    clear hw0
    go_wp2_with (first
  | (with_reducible refine zbx (gW.below hb) (by simp [Region.wanted, yielded, Act.put]; done) (by with_unfolding_all rfl) ?_)
  | (go_at_call 7; refine zm (hAw _ (bjoin (by go_grown) hst)) ?_; rintro e w' ⟨rfl, hb⟩; obtain ⟨hc, hf, hb, hz⟩ := bstep hb (w := w0) (by go_grown); try simp only [za, zb, zd] at hc hf hz)
  | (go_at_call 8; refine zm (hFi _ (bjoin (by go_grown) hst)) ?_; rintro e w' ⟨rfl, hb⟩; obtain ⟨hc, hf, hb, hz⟩ := bstep hb (w := w0) (by go_grown); try simp only [za, zb, zd] at hc hf hz)
  | (go_at_call 9; refine zm (hAp _ (bjoin (by go_grown) hst)) ?_; rintro e w' ⟨rfl, hb⟩; obtain ⟨hc, hf, hb, hz⟩ := bstep hb (w := w0) (by go_grown); try simp only [za, zb, zd] at hc hf hz)
    )
    go_returns
    exact ⟨rfl, bjoin (by go_grown) hst⟩
namespace CycleEnds
def lists : List (String × DataW Unit) := [("flotsam/class.sizes", Rows.laid_flotsam_class_sizes)]
set_option maxRecDepth 100000 in
theorem lifted (os : Os) (started : os.Started) (H : Type) (enc : TypeId × Value → H) :
  ReturnsInHanded {} Tryz.checked os 3 .any (fun w args => (Rows.cycleEndsSpec.pre enc Tryz.prog Tryz.f3 Rows.cycleEndsRow.domain false w args ∧ laidMetH Tryz.prog lists w) ∧ sizedMet enc Tryz.prog Tryz.f3 (OpenSpec.ofChange Rows.cycleEndsSpec) false w args) (Rows.cycleEndsSpec.post enc Tryz.prog Tryz.f3 false true false false) := by
 refine zcn (C := Tryz.checked) zjf started (by kernel_rfl) Tryz.func3 (by kernel_rfl) (of_decide_eq_true (by kernel_rfl)) rfl
  (fun ds hd => by have hd' : ds.length = 1 := hd; match ds, hd' with | [d0], _ => rfl) rfl Tryz.underlying4
  (ChangeSpec.witness_shaped (enc := enc) (C := Tryz.checked) (os := os) (X := fun w _ => laidMetH Tryz.prog lists w) false (World.laidAll Tryz.prog os lists) #[.agg #[.int .i64 0, .int .i64 0, .int .i64 0, .int .i64 0, .int .i64 0, .slice none 0 0, .slice none 0 0, .bool false, .slice none 0 0, .int .i64 0, .slice none 0 0, .slice none 0 0, .slice none 0 0, .int .i64 0, .int .i64 0, .int .i64 0, .bool false, .int .i64 0, .bool false, .int .i64 0, .slice none 0 0]] 8 (World.laidAll_os _ _ _)
   (World.shaped_of_ZipB (by kernel_rfl) (by kernel_rfl)) (by kernel_rfl) (by kernel_rfl) (by kernel_rfl)
   (by rw [MakeChecks.laidMetH_plain _ _ _ (by kernel_rfl)]; exact laidMet_laidAll _ (by kernel_rfl) (by kernel_rfl))) ?_
 intro W base args ds p hval hA hlt hL
 have hS : Sz W := zim hL (by kernel_rfl) rfl
 rw [Tryz.params3] at hA hval
 obtain ⟨v0, d0, rfl, rfl, h0⟩ := trodAll_one hA
 obtain ⟨W0, Q0, rfl, hW0⟩ := zfs (hval 0 38 v0 rfl rfl) h0
 exact zl0 W0 Q0 W hW0 hS
theorem zdq : Rows.CycleEndsSaid :=
 OpenClaim.holds_of_wide 3 Tryz.f3 rfl rfl rfl rfl rfl rfl rfl ⟨rfl, rfl, rfl, rfl, rfl⟩ rfl rfl rfl rfl rfl (by kernel_rfl) Tryz.func3 (by kernel_rfl)
  (of_decide_eq_true (by kernel_rfl)) (by unfold Func.isWrapper; first | (rw [if_pos (by decide +kernel)]; kernel_rfl) | (rw [if_neg (by decide +kernel)]; exact ⟨rfl, rfl⟩))
  (fun os started H enc _ => lifted os started H enc)
theorem holds : Rows.CycleEndsCardSaid :=
 Claim7.holds_tied_plain_at .later [] [.data] true (true, "77e10e6948e1cb6b76057977a1652a8dc83c1e52771500d7a90269e55426328f") false zdq (fun _ h => by cases h) (by kernel_rfl) (fun _ h => by cases h) cycleEnds_row_tie rfl ⟨rfl, rfl⟩ (by kernel_rfl) rfl
  (fun f fn hf hfn => by
   obtain rfl : f = 3 := Option.some.inj ((show Tryz.prog.funcNamed "flotsam/flotsamlaw20.CycleEnds" = some 3 by kernel_rfl).symm.trans hf) |>.symm
   obtain rfl : fn = Tryz.f3 := (Option.some.inj (Tryz.func3.symm.trans hfn)).symm
   exact ⟨by kernel_rfl, fun j t ht => by
    rw [Tryz.params3] at ht
    have hm : t ∈ [38] := by simpa using Array.mem_of_getElem? ht
    have hall : ([38].all fun u => !Tryz.prog.wantsStandIn u) = true := by kernel_rfl
    exact (show Tryz.prog.wantsStandIn t = false by simpa using List.all_eq_true.1 hall t hm)⟩)
  (by kernel_rfl)
#print axioms holds
end CycleEnds
end Go.Proofs.YtkehankfnkjnlaaGreatDoor
