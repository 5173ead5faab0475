import Derived.Test.YtkehankfnkjnlaaGreatDoorV46
namespace Go.Proofs.YtkehankfnkjnlaaGreatDoor
set_option linter.unusedSimpArgs false
set_option linter.unusedVariables false
set_option maxHeartbeats 16000000
set_option maxRecDepth 20000
open Go.ChangeAt Go.ChangeShapes Go.Joins Go.RowKit Go.WideShapes
variable {h : Hp} {w w' W W' : World} {p q : Option Addr} {n g : Nat} {a : Int} {v : Value}
theorem zgh (Z : Wd) (q : Wp) (w : World) (hS : Sz w) (hv : WdIn w Z q) (hF : FormW Z) (hB : BdW Z) :
  Calls Tryz.prog 11 #[.agg (Z.cells q).toArray] w fun e w' => ∃ q', e = .returned (.tuple #[.agg ((tuM Z).1.cells q').toArray, .int .i64 (tuM Z).2]) ∧ WdIn w' (tuM Z).1 q' ∧ Below w.heap.size w w' := by
 refine (zif w.heap.size Z q w (Nat.le_refl _) hS (WdE.old hv (Nat.le_refl _)) hF hB).mono ?_
 rintro e w' ⟨q', rfl, h, hb⟩
 exact ⟨q', rfl, h.in, hb⟩
theorem zfe (Z : Wd) (q : Wp) (w : World) (hS : Sz w) (hv : WdIn w Z q) (hF : FormW Z) (hB : BdW Z) :
  Calls Tryz.prog 16 #[.agg (Z.cells q).toArray] w fun e w' => ∃ q', e = .returned (.tuple #[.agg ((suM Z).1.cells q').toArray, .int .i64 (suM Z).2]) ∧ WdIn w' (suM Z).1 q' ∧ Below w.heap.size w w' := by
 refine (zmq w.heap.size Z q w (Nat.le_refl _) hS (WdE.old hv (Nat.le_refl _)) hF hB).mono ?_
 rintro e w' ⟨q', rfl, h, hb⟩
 exact ⟨q', rfl, h.in, hb⟩
def muS : Mu := ⟨0, fun _ => ⟨0, 0⟩, 0, 0, 0, 0, 0, 0, ⟨0, 0⟩, -1, -1, -1, -1⟩
def smW : Wd := ⟨1, 1, 2, 1, 0, newH 1, 1, fun _ => muS, zeM, 0, true, 0, 0, fun _ => ⟨0, 0, 0, 0, 0⟩⟩
theorem zmr : FormW smW := ⟨by decide, znc (by decide) (by decide), rfl, rfl, ⟨by decide, by decide⟩, fun i hi => by show ((0 : Nat) : Int) ≤ 2; decide, by
 rw [zc3]
 intro j hj
 refine .inl ?_
 show caY smW.z j = -1
 unfold caY
 split
 ·rfl
 ·split
  ·rfl
  ·split
   ·rfl
   ·rfl, fun e => absurd e (by decide)⟩
noncomputable def sm1 : Wd := (tuM smW).1
noncomputable def sm2 : Wd := (tuM sm1).1
noncomputable def sm3 : Wd := (suM sm2).1
theorem zr8 : tuM smW = ({ smW with h := flipB (newH 1), m := newM 1 1 (fun _ => 0) 0 (lvF []), wa := false, ph := 1, cy := 1 }, 3) := by
 unfold tuM
 rw [if_neg (by decide), if_pos (by rfl), if_pos (by rfl), show rootL smW.h smW.z smW.n = [] from rfl, show wrap64 (smW.cy + 1) = 1 from by decide +kernel]
 rfl
theorem zop : sm1.h = flipB (newH 1) ∧ sm1.m = newM 1 1 (fun _ => 0) 0 (lvF []) ∧ sm1.ph = 1 ∧ sm1.wa = false ∧ sm1.cy = 1 ∧ sm1.n = 1 ∧ sm1.nr = 0 ∧ sm1.h.b = true := by
 unfold sm1
 rw [zr8]
 exact ⟨rfl, rfl, rfl, rfl, rfl, rfl, rfl, rfl⟩
theorem zxi : (stM (flipB (newH 1)) (newM 1 1 (fun _ => 0) 0 (lvF []))).2.2 = true := by decide +kernel
theorem zwz : obL (flipB (newH 1)) 32 = [] ∧ usH (flipB (newH 1)) = 0 := by decide +kernel
theorem zrc : tuM sm1 = ({ sm1 with h := bgH sm1.h, m := zeM, ph := 2, nr := sm1.nr + 1, rp := fun i => if i = sm1.nr then teW sm1 else sm1.rp i }, 4) := by
 obtain ⟨h1, h2, h3, -⟩ := zop
 unfold tuM
 rw [if_neg (by rw [h3]; decide), if_neg (by rw [h3]; decide), if_pos (by rw [h1, h2]; exact zxi)]
theorem zmn : sm2.h = bgH (flipB (newH 1)) ∧ sm2.ph = 2 ∧ sm2.wa = false ∧ sm2.nr = 1 ∧ sm2.n = 1 ∧ sm2.z = smW.z ∧ sm2.rp 0 = ⟨1, 32, 0, 0, 0⟩ := by
 obtain ⟨h1, h2, h3, h4, h5, h6, h7, -⟩ := zop
 unfold sm2
 rw [zrc]
 refine ⟨by show bgH sm1.h = _; rw [h1], rfl, h4, by show sm1.nr + 1 = 1; rw [h7], h6, by show sm1.z = smW.z; unfold sm1; rw [zr8], ?_⟩
 show (if 0 = sm1.nr then teW sm1 else sm1.rp 0) = _
 rw [if_pos h7.symm]
 obtain ⟨n1, n2⟩ := zwz
 have hw : ∀ l, wdL sm1.h l = 0 := fun l => by
  unfold wdL
  rw [h1, show (flipB (newH 1)).n = 32 from rfl, n1]
  rfl
 unfold teW
 rw [hw, hw, h5, h1, n2]
 rfl
theorem ztj : suM sm2 = ({ sm2 with h := onH sm2.h sm2.n (caY sm2.z), ph := 0 }, 5) := by
 obtain ⟨h1, h2, h3, h4, h5, h6, -⟩ := zmn
 have hd : drH (onH sm2.h sm2.n (caY sm2.z)) = 0 := by rw [h1, h5, h6]; decide +kernel
 unfold suM
 rw [if_pos h2, if_pos hd]
theorem zwv : sm3.ph = 0 ∧ sm3.wa = false := by
 obtain ⟨h1, h2, h3, -⟩ := zmn
 unfold sm3
 rw [ztj]
 exact ⟨rfl, h3⟩
theorem zny : tuM sm2 = suM sm2 ∧ tuM sm3 = (sm3, 0) ∧ suM smW = (smW, 0) := by
 obtain ⟨h1, h2, -⟩ := zmn
 obtain ⟨h3, h4⟩ := zwv
 refine ⟨?_, ?_, rfl⟩
 ·unfold tuM
  rw [if_pos h2]
 ·unfold tuM
  rw [if_neg (by rw [h3]; decide), if_pos h3, if_neg (by rw [h4]; decide)]
theorem sm_wf : smW.h.wf := zlf 1
theorem sm1_wf : sm1.h.wf := by rw [zop.1]; exact zlf 1
theorem sm2_wf : sm2.h.wf := by rw [zmn.1]; exact zvh (zlf 1)
theorem aw_sm0 {T g : Nat} {q : Wp} (h : TBox T g (smW.cells q).toArray W) : g < W.heap.size ∧ W.cell? ⟨g, 0, none⟩ = some (.int .i64 1) ∧ W.cell? ⟨g, 1, none⟩ = some (.int .i64 1) ∧ W.cell? ⟨g, 2, none⟩ = some (.int .i64 2) ∧ W.cell? ⟨g, 3, none⟩ = some (.int .i64 1) ∧ W.cell? ⟨g, 4, none⟩ = some (.int .i64 0) :=
 ⟨h.lt, h.cell 0, h.cell 1, h.cell 2, h.cell 3, h.cell 4⟩
theorem aw_sm1 {T g : Nat} {q : Wp} (h : TBox T g (sm1.cells q).toArray W) : g < W.heap.size ∧ W.cell? ⟨g, 7, none⟩ = some (.bool true) ∧ W.cell? ⟨g, 17, none⟩ = some (.int .i64 1) ∧ W.cell? ⟨g, 18, none⟩ = some (.bool false) ∧ W.cell? ⟨g, 19, none⟩ = some (.int .i64 1) := by
 obtain ⟨-, -, p1, p2, p3, -, -, p4⟩ := zop
 refine ⟨h.lt, ?_, ?_, ?_, ?_⟩
 ·rw [h.cell, ← p4]; rfl
 ·rw [h.cell, ← p1]; rfl
 ·rw [h.cell, ← p2]; rfl
 ·rw [h.cell, ← p3]; rfl
theorem aw_sm2 {T g : Nat} {q : Wp} (h : TBox T g (sm2.cells q).toArray W) (hv : WdIn W sm2 q) : ∃ bb off, g < W.heap.size ∧ bb < W.heap.size ∧ W.cell? ⟨g, 20, none⟩ = some (.slice (some ⟨bb, off, none⟩) 1 q.oc) ∧ W.cell? ⟨bb, off, none⟩ = some (.int .i64 1) ∧ W.cell? ⟨bb, off + 1, none⟩ = some (.int .i64 32) ∧ W.cell? ⟨bb, off + 2, none⟩ = some (.int .i64 0) ∧ W.cell? ⟨bb, off + 3, none⟩ = some (.int .i64 0) ∧ W.cell? ⟨bb, off + 4, none⟩ = some (.int .i64 0) := by
 obtain ⟨-, -, -, r1, -, -, r2⟩ := zmn
 have hr := hv.reps
 obtain ⟨bb, off, L, e, hl, -, hc, rfl, -⟩ := hr.row 0 (by rw [r1]; decide)
 rw [r2] at hc
 refine ⟨bb, off, h.lt, hl, ?_, hc 0 _ rfl, hc 1 _ rfl, hc 2 _ rfl, hc 3 _ rfl, hc 4 _ rfl⟩
 rw [h.cell, ← e, ← r1]
 rfl
theorem aw_sm3 {T g : Nat} {q : Wp} (h : TBox T g (sm3.cells q).toArray W) : g < W.heap.size ∧ W.cell? ⟨g, 17, none⟩ = some (.int .i64 0) := by
 refine ⟨h.lt, ?_⟩
 rw [h.cell, ← zwv.1]
 rfl
theorem zwn (W : World) : WdIn W zeW zeP where
 heap := ⟨fun i hi => absurd hi (Nat.not_lt_zero _), fun i hi => absurd hi (Nat.not_lt_zero _), by decide, by decide, fun _ => ⟨rfl, rfl⟩, fun _ => ⟨rfl, rfl⟩, by decide, by decide⟩
 muts := zew _ _
 grey := zgt _ _
 bars := zew _ _
 roots := zfw _ _
 reps := zew _ _
 conf := ⟨⟨by decide, by decide⟩, ⟨by decide, by decide⟩, ⟨by decide, by decide⟩, ⟨by decide, by decide⟩, ⟨by decide, by decide⟩⟩
 mark := ⟨⟨by decide, by decide⟩, ⟨by decide, by decide⟩, ⟨by decide, by decide⟩, ⟨by decide, by decide⟩⟩
 own := ⟨⟨by decide, by decide⟩, ⟨by decide, by decide⟩⟩
theorem zuz (w : World) (B : Nat) (p' : Option Addr) (c' : Nat) (q' : Option Addr) (d' : Nat) (hB : TBox 73 B (muS.cells none 0).toArray w) (hh : HpIn w p' 32 c' q' 1 d' false (newH 1)) : WdIn w smW { zeP with h := p', hc := c', s := q', sc := d', m := some ⟨B, 0, none⟩, mc := 1 } where
 heap := hh.at'
 muts := ⟨fun i hi => by
  have h0 : i = 0 := by change i < 1 at hi; omega
  subst h0
  refine ⟨B, 0, muS.cells none 0, rfl, hB.lt, rfl, fun k u hk => ?_, none, 0, rfl, zfw _ _, ⟨⟨by decide, by decide⟩, ⟨by decide, by decide⟩, ⟨by decide, by decide⟩, ⟨by decide, by decide⟩, ⟨by decide, by decide⟩, ⟨by decide, by decide⟩, ⟨by decide, by decide⟩, ⟨⟨by decide, by decide⟩, ⟨by decide, by decide⟩, ⟨by decide, by decide⟩, ⟨by decide, by decide⟩⟩⟩⟩
  show w.cell? ⟨B, 0 + 0 * 13 + k, none⟩ = some u
  rw [show 0 + 0 * 13 + k = k by omega, hB.cell]
  simpa using hk, (by decide : (1 : Nat) ≤ maxLen), fun e => (by cases e), (by decide : (1 : Nat) ≤ 1 ∧ 1 ≤ maxLen)⟩
 grey := zgt _ _
 bars := zew _ _
 roots := zfw _ _
 reps := zew _ _
 conf := ⟨⟨by decide, by decide⟩, ⟨by decide, by decide⟩, ⟨by decide, by decide⟩, ⟨by decide, by decide⟩, ⟨by decide, by decide⟩⟩
 mark := ⟨⟨by decide, by decide⟩, ⟨by decide, by decide⟩, ⟨by decide, by decide⟩, ⟨by decide, by decide⟩⟩
 own := ⟨⟨by decide, by decide⟩, ⟨by decide, by decide⟩⟩
theorem rsmall20 (w : World) : Calls Tryz.prog 19 #[] w fun e w' => ∃ q', e = .returned (.agg (smW.cells q').toArray) ∧ WdIn w' smW q' ∧ Below w.heap.size w w' := by
 obtain ⟨R0, hR0⟩ : ∃ R : Array Value, R = #[.int .i64 0, .int .i64 0, .int .i64 0, .int .i64 0, .int .i64 0, .slice none 0 0, .slice none 0 0, .bool false, .slice none 0 0, .int .i64 0, .slice none 0 0, .slice none 0 0, .slice none 0 0, .int .i64 0, .int .i64 0, .int .i64 0, .bool false, .int .i64 0, .bool false, .int .i64 0, .slice none 0 0] := ⟨_, rfl⟩
 have hRs : R0.size = 21 := by rw [hR0]; rfl
 have hRv : PlainC R0 := by rw [hR0]; exact zbh zeW zeP
 obtain ⟨w0, hw0⟩ : ∃ w0, w0 = w.alloc (.cells R0 38) := ⟨_, rfl⟩
 have gR : TBox 38 w.heap.size R0 w0 := by rw [hw0]; exact TBox.new _ _ _
 have hb0 : Below w.heap.size w w0 := by rw [hw0]; exact zr.alloc (Nat.le_refl _) _
 have hM : ∀ W, Calls Tryz.prog 50 #[.int .i64 1, .slice none 0 0] W fun e w' => ∃ p c q d, e = .returned (.agg #[.slice p 32 c, .slice q 1 d, .bool false]) ∧ HpIn w' p 32 c q 1 d false (newH 1) ∧ Below W.heap.size W w' := fun W => zt9 1 W (by decide) (by decide)
 go_enter Tryz.func19, Tryz.ntmps19
 go_upto_region 1 with fail
 rw [← hR0, ← hw0]
 clear hw0 hR0
 go_wp2_with (first
  | (with_reducible refine st_w (gR.below (hb1.alloc hb1.size _)) hRs (v := smW) (q := { zeP with h := p, hc := c, s := q, sc := d, m := some ⟨w1.heap.size, 0, none⟩, mc := 1 }) (by with_unfolding_all rfl) (by with_unfolding_all rfl) ?_; intro wz gZ hst)
  | (go_at_call 50; refine zm (hM _) ?_; rintro e w1 ⟨p, c, q, d, rfl, hh, hb1⟩)
 )
 have hbA : Below w1.heap.size w1 (w1.alloc (.cells (muS.cells none 0).toArray 73)) := zr.alloc (Nat.le_refl _) _
 have gM := TBox.new 73 w1 (muS.cells none 0).toArray
 have hhA := hh.below hbA
 have hlt : w.heap.size < w1.heap.size := Nat.lt_of_lt_of_le gR.lt hb1.size
 have gRA := (gR.below hb1).below hbA
 have hh' : HpIn wz p 32 c q 1 d false (newH 1) := ⟨rfl, rfl, rfl, hhA.at'.aside hst.aside fun g hg => by rw [hg]; exact VarT.clear ⟨R0, hRs, hRv, gRA⟩ hhA (by decide) (by decide)⟩
 have gM' := hst.tbox gM (by omega)
 refine bodyPost_ret (zww rfl rfl gZ) rfl ?_
 exact ⟨_, rfl, zuz wz _ p c q d gM' hh', (bjoin hbA (bjoin hb1 hb0)).trans (hst.below _ (Nat.le_refl _))⟩
theorem zer (w : World) (hS : Sz w) : Calls Tryz.prog 7 #[] w fun e w' => e = .returned (.bool true) ∧ Below w.heap.size w w' := by
 have hSm := rsmall20 w
 have hMk : ∀ (Z Y : Wd) (x : Int) (q : Wp) (W : World), tuM Z = (Y, x) → Below w.heap.size w W → WdIn W Z q → FormW Z → BdW Z → Calls Tryz.prog 11 #[.agg (Z.cells q).toArray] W fun e w' => ∃ q', e = .returned (.tuple #[.agg (Y.cells q').toArray, .int .i64 x]) ∧ WdIn w' Y q' ∧ Below W.heap.size W w' := fun Z Y x q W e hW hv hF hB => by
  have := zgh Z q W (hS.below hW) hv hF hB
  rw [e] at this
  exact this
 have hSw : ∀ (Z Y : Wd) (x : Int) (q : Wp) (W : World), suM Z = (Y, x) → Below w.heap.size w W → WdIn W Z q → FormW Z → BdW Z → Calls Tryz.prog 16 #[.agg (Z.cells q).toArray] W fun e w' => ∃ q', e = .returned (.tuple #[.agg (Y.cells q').toArray, .int .i64 x]) ∧ WdIn w' Y q' ∧ Below W.heap.size W w' := fun Z Y x q W e hW hv hF hB => by
  have := zfe Z q W (hS.below hW) hv hF hB
  rw [e] at this
  exact this
 have F0 := zmr
 have F1 : FormW sm1 := zi4 zmr sm_wf
 have F2 : FormW sm2 := zi4 F1 sm1_wf
 have B0 : BdW smW := ⟨by decide, by decide⟩
 have B1 : BdW sm1 := by
  obtain ⟨-, h2, -, -, -, -, h7, -⟩ := zop
  exact ⟨by rw [h7]; decide, by rw [h2]; decide⟩
 have B2 : BdW sm2 := ⟨by rw [zmn.2.2.2.1]; decide, by unfold sm2; rw [zrc]; decide⟩
 have F3 : FormW sm3 := by
  have := zi4 F2 sm2_wf
  rw [zny.1] at this
  exact this
 have B3 : BdW sm3 := by
  unfold sm3
  rw [ztj]
  exact B2
 have e1 : tuM smW = (sm1, 3) := by unfold sm1; rw [zr8]
 have e2 : tuM sm1 = (sm2, 4) := by unfold sm2; rw [zrc]
 have e3 : suM sm2 = (sm3, 5) := by unfold sm3; rw [ztj]
 have e4 : tuM sm2 = (sm3, 5) := zny.1.trans e3
 have e5 := zny.2.1
 have e6 := zny.2.2
 obtain ⟨-, -, p1, p2, p3, -, -, p4⟩ := zop
 obtain ⟨-, -, -, r1, -, -, r2⟩ := zmn
 obtain ⟨t1, -⟩ := zwv
 go_enter Tryz.func7, Tryz.ntmps7
 go_upto_region 2 with (first
  | (with_reducible refine nw_w (v := smW) (q := q1) (by intro p; with_unfolding_all rfl) (by intro p; with_unfolding_all rfl) ?_; intro wa ga hba)
  | (go_at_call 19; refine zm hSm ?_; rintro e w1 ⟨q1, rfl, hv1, hb1⟩)
 )
 have hv0 := hv1.below hba
 have hbW := bjoin hba hb1
 clear hv1 hba hb1 hSm
 generalize w1.heap.size = B1_ at *
 go_upto_region 3 with (first
  | (with_reducible refine ld_w ga (by with_unfolding_all rfl) ?_)
  | (with_reducible refine nw_w (v := sm1) (q := qa2) (by intro p; with_unfolding_all rfl) (by intro p; with_unfolding_all rfl) ?_; intro w2b g2 hb2b)
  | (go_at_call 11; refine zm (hMk _ _ _ _ _ e1 hbW hv0 F0 B0) ?_; rintro e w2a ⟨qa2, rfl, hv2, hb2⟩)
 )
 replace ga := (ga.below hb2).below hb2b
 replace hv0 := (hv0.below hb2).below hb2b
 replace hv2 := hv2.below hb2b
 replace hbW := bjoin hb2b (bjoin hb2 hbW)
 clear hb2 hb2b
 generalize w2a.heap.size = BK2 at *
 go_upto_region 4 with (first
  | (with_reducible refine ld_w g2 (by with_unfolding_all rfl) ?_)
  | (with_reducible refine nw_w (v := sm2) (q := qa3) (by intro p; with_unfolding_all rfl) (by intro p; with_unfolding_all rfl) ?_; intro w3b g3 hb3b)
  | (go_at_call 11; refine zm (hMk _ _ _ _ _ e2 hbW hv2 F1 B1) ?_; rintro e w3a ⟨qa3, rfl, hv3, hb3⟩)
 )
 replace ga := (ga.below hb3).below hb3b
 replace hv0 := (hv0.below hb3).below hb3b
 replace g2 := (g2.below hb3).below hb3b
 replace hv2 := (hv2.below hb3).below hb3b
 replace hv3 := hv3.below hb3b
 replace hbW := bjoin hb3b (bjoin hb3 hbW)
 clear hb3 hb3b
 generalize w3a.heap.size = BK3 at *
 go_upto_region 5 with (first
  | (with_reducible refine ld_w g3 (by with_unfolding_all rfl) ?_)
  | (with_reducible refine nw_w (v := sm3) (q := qa4) (by intro p; with_unfolding_all rfl) (by intro p; with_unfolding_all rfl) ?_; intro w4b g4 hb4b)
  | (go_at_call 11; refine zm (hMk _ _ _ _ _ e4 hbW hv3 F2 B2) ?_; rintro e w4a ⟨qa4, rfl, hv4, hb4⟩)
 )
 replace ga := (ga.below hb4).below hb4b
 replace hv0 := (hv0.below hb4).below hb4b
 replace g2 := (g2.below hb4).below hb4b
 replace hv2 := (hv2.below hb4).below hb4b
 replace g3 := (g3.below hb4).below hb4b
 replace hv3 := (hv3.below hb4).below hb4b
 replace hv4 := hv4.below hb4b
 replace hbW := bjoin hb4b (bjoin hb4 hbW)
 clear hb4 hb4b
 generalize w4a.heap.size = BK4 at *
 go_upto_region 6 with (first
  | (with_reducible refine ld_w g4 (by with_unfolding_all rfl) ?_)
  | (with_reducible refine nw_w (v := sm3) (q := qa5) (by intro p; with_unfolding_all rfl) (by intro p; with_unfolding_all rfl) ?_; intro w5b g5 hb5b)
  | (go_at_call 11; refine zm (hMk _ _ _ _ _ e5 hbW hv4 F3 B3) ?_; rintro e w5a ⟨qa5, rfl, hv5, hb5⟩)
 )
 replace ga := (ga.below hb5).below hb5b
 replace hv0 := (hv0.below hb5).below hb5b
 replace g2 := (g2.below hb5).below hb5b
 replace hv2 := (hv2.below hb5).below hb5b
 replace g3 := (g3.below hb5).below hb5b
 replace hv3 := (hv3.below hb5).below hb5b
 replace g4 := (g4.below hb5).below hb5b
 replace hv4 := (hv4.below hb5).below hb5b
 replace hv5 := hv5.below hb5b
 replace hbW := bjoin hb5b (bjoin hb5 hbW)
 clear hb5 hb5b
 generalize w5a.heap.size = BK5 at *
 go_upto_region 7 with (first
  | (with_reducible refine ld_w ga (by with_unfolding_all rfl) ?_)
  | (with_reducible refine nw_w (v := smW) (q := qa6) (by intro p; with_unfolding_all rfl) (by intro p; with_unfolding_all rfl) ?_; intro w6b g6 hb6b)
  | (go_at_call 16; refine zm (hSw _ _ _ _ _ e6 hbW hv0 F0 B0) ?_; rintro e w6a ⟨qa6, rfl, hv6, hb6⟩)
 )
 replace ga := (ga.below hb6).below hb6b
 replace hv0 := (hv0.below hb6).below hb6b
 replace g2 := (g2.below hb6).below hb6b
 replace hv2 := (hv2.below hb6).below hb6b
 replace g3 := (g3.below hb6).below hb6b
 replace hv3 := (hv3.below hb6).below hb6b
 replace g4 := (g4.below hb6).below hb6b
 replace hv4 := (hv4.below hb6).below hb6b
 replace g5 := (g5.below hb6).below hb6b
 replace hv5 := (hv5.below hb6).below hb6b
 replace hv6 := hv6.below hb6b
 replace hbW := bjoin hb6b (bjoin hb6 hbW)
 clear hb6 hb6b
 generalize w6a.heap.size = BK6 at *
 have hSame : ∀ (q q' : Wp) (W : World), WdIn W sm3 q → WdIn W sm3 q' → Calls Tryz.prog 18 #[.agg (sm3.cells q).toArray, .agg (sm3.cells q').toArray] W fun e w' => e = .returned (.bool true) ∧ Below W.heap.size W w' := fun q q' W h h' => zdt sm3 q q' W h h'
 have hFo : ∀ (q : Wp) (W : World), Below w.heap.size w W → WdIn W smW q → Calls Tryz.prog 20 #[.agg (smW.cells q).toArray] W fun e w' => e = .returned (.bool true) ∧ Below W.heap.size W w' := fun q W hW h => by
  have := zjq smW q W (hS.below hW) h (by decide +kernel)
  rwa [zby.2 zmr] at this
 have hFz : ∀ W : World, Below w.heap.size w W → Calls Tryz.prog 20 #[.agg (zeW.cells zeP).toArray] W fun e w' => e = .returned (.bool false) ∧ Below W.heap.size W w' := fun W hW => by
  have := zjq zeW zeP W (hS.below hW) (zwn W) (by decide +kernel)
  rwa [zk6 fun F => by have := F.may; revert this; decide] at this
 have hM1 : ∀ W : World, Calls Tryz.prog 21 #[.agg #[.int .i64 1, .int .i64 1, .int .i64 2, .int .i64 1, .int .i64 0]] W fun e w' => e = .returned (.bool true) ∧ Below W.heap.size W w' := fun W => ziw 1 1 2 1 0 W
 have hM0 : ∀ W : World, Calls Tryz.prog 21 #[.agg #[.int .i64 0, .int .i64 0, .int .i64 0, .int .i64 0, .int .i64 0]] W fun e w' => e = .returned (.bool false) ∧ Below W.heap.size W w' := fun W => ziw 0 0 0 0 0 W
 have hCa : ∀ (q : Wp) (W : World), WdIn W smW q → Calls Tryz.prog 22 #[.agg (smW.cells q).toArray] W fun e w' => ∃ p' c', e = .returned (.slice p' 1 c') ∧ Below W.heap.size W w' := fun q W h => by
  refine (zgk smW q W h (by decide)).mono ?_
  rintro e w' ⟨p', c', rfl, -, hb⟩
  exact ⟨p', c', rfl, hb⟩
 clear hMk hS
 go_wp2_with (first
  | (with_reducible refine ld_w g3 (by with_unfolding_all rfl) ?_)
  | (with_reducible refine zbx (g5.below (bjoin (by first | exact zr | go_grown) hbz)) (by simp [Region.wanted, yielded, Act.put]; done) (by with_unfolding_all rfl) ?_)
  | (with_reducible refine zbx (g4.below (bjoin (by first | exact zr | go_grown) hbz)) (by simp [Region.wanted, yielded, Act.put]; done) (by with_unfolding_all rfl) ?_)
  | (with_reducible refine zbx (g7.below (by first | exact zr | go_grown)) (by simp [Region.wanted, yielded, Act.put]; done) (by with_unfolding_all rfl) ?_)
  | (with_reducible refine zbx (ga.below (bjoin (by first | exact zr | go_grown) hbz)) (by simp [Region.wanted, yielded, Act.put]; done) (by with_unfolding_all rfl) ?_)
  | (with_reducible refine nw_w (v := sm3) (q := qa7) (by intro p; with_unfolding_all rfl) (by intro p; with_unfolding_all rfl) ?_; intro w7b g7 hb7b; have hbz := bjoin hb7b hb7; have hbW7 := bjoin hbz hbW; replace hv7 := hv7.below hb7b; obtain ⟨l2, y7, y17, y18, y19⟩ := aw_sm1 (g2.below hbz); obtain ⟨bb, off, l3, lb, y20, s0, s1, s2, s3, s4⟩ := aw_sm2 (g3.below hbz) (hv3.below hbz); obtain ⟨l4, u17⟩ := aw_sm3 (g4.below hbz); obtain ⟨l0, x0, x1, x2, x3, x4⟩ := aw_sm0 (ga.below hbz); clear hb7 hb7b)
  | (go_at_call 16; refine zm (hSw _ _ _ _ _ e3 hbW hv3 F2 B2) ?_; rintro e w7a ⟨qa7, rfl, hv7, hb7⟩; replace hv7 := hv7)
  | (go_at_call 18; refine zm (hSame _ _ _ (by first | exact hv5.below (bjoin (by first | exact zr | go_grown) hbz) | exact hv7.below (by first | exact zr | go_grown)) (hv4.below (bjoin (by first | exact zr | go_grown) hbz))) ?_; rintro e w' ⟨rfl, hb⟩; obtain ⟨hc, hf, hb, hz⟩ := bstep hb (w := w7b) (by first | exact zr | go_grown); try simp only [za, zb, zd] at hc hf hz)
  | (go_at_call 20; have hfm := hForm1; refine zm (hFz _ (bjoin (by first | exact zr | go_grown) hbW7)) ?_; rintro e w' ⟨rfl, hb⟩; obtain ⟨hc, hf, hb, hz⟩ := bstep hb (w := w7b) (by first | exact zr | go_grown); try simp only [za, zb, zd] at hc hf hz)
  | (go_at_call 20; have hForm1 := trivial; refine zm (hFo _ _ (bjoin (by first | exact zr | go_grown) hbW7) (hv0.below (bjoin (by first | exact zr | go_grown) hbz))) ?_; rintro e w' ⟨rfl, hb⟩; obtain ⟨hc, hf, hb, hz⟩ := bstep hb (w := w7b) (by first | exact zr | go_grown); try simp only [za, zb, zd] at hc hf hz)
  | (go_at_call 21; have hmm := hMay1; refine zm (hM0 _) ?_; rintro e w' ⟨rfl, hb⟩; obtain ⟨hc, hf, hb, hz⟩ := bstep hb (w := w7b) (by first | exact zr | go_grown); try simp only [za, zb, zd] at hc hf hz)
  | (go_at_call 21; have hMay1 := trivial; refine zm (hM1 _) ?_; rintro e w' ⟨rfl, hb⟩; obtain ⟨hc, hf, hb, hz⟩ := bstep hb (w := w7b) (by first | exact zr | go_grown); try simp only [za, zb, zd] at hc hf hz)
  | (go_at_call 22; refine zm (hCa _ _ (hv0.below (bjoin (by first | exact zr | go_grown) hbz))) ?_; rintro e w' ⟨pc, cc, rfl, hb⟩; obtain ⟨hc, hf, hb, hz⟩ := bstep hb (w := w7b) (by first | exact zr | go_grown); try simp only [za, zb, zd] at hc hf hz)
 )
 go_returns
 exact ⟨rfl, bjoin (by go_grown) hbW7⟩
theorem zvo (Z : Wd) (F : FormW Z) (hr : Z.m.nr ≤ 1000) : (tuM Z).1.n = Z.n ∧ (tuM Z).1.m.nr ≤ 1000 ∧ (tuM Z).1.nr ≤ Z.nr + 1 ∧ (tuM Z).1.cy = (tuM Z).1.cy := by
 unfold tuM
 by_cases h2 : Z.ph = 2
 ·rw [if_pos h2]
  unfold suM
  rw [if_pos h2]
  split
  ·exact ⟨rfl, hr, Nat.le_succ _, rfl⟩
  ·exact ⟨rfl, hr, Nat.le_succ _, rfl⟩
 rw [if_neg h2]
 by_cases h0 : Z.ph = 0
 ·rw [if_pos h0]
  split
  ·refine ⟨rfl, ?_, Nat.le_succ _, rfl⟩
   have hst := F.st
   obtain ⟨-, ⟨-, k1⟩, ⟨-, k2⟩, -⟩ := zgo.1 F.may
   have hn := F.hn
   have h1 := zce (z := Z.z) (b := 8) (n := Z.n) fun i hi => by have := hst i hi; omega
   have h2 := zdv Z.h Z.z Z.n
   show (rootL Z.h Z.z Z.n).length ≤ 1000
   unfold rootL
   rw [List.length_append]
   omega
  ·exact ⟨rfl, hr, Nat.le_succ _, rfl⟩
 rw [if_neg h0]
 split
 ·exact ⟨rfl, Nat.zero_le _, Nat.le_refl _, rfl⟩
 ·refine ⟨rfl, Nat.le_trans ?_ hr, Nat.le_succ _, rfl⟩
  exact (st_nb Z.h Z.m).2
theorem bo_le {Z : Wd} (h : fewW Z = true) : boW Z ≤ 121000 := by
 obtain ⟨f1, f2, ⟨f3, -⟩, f5, -⟩ := zhj h
 have g4 := (zex f5).2.2.2
 have hl : nOb Z.h ≤ 160 := Nat.le_trans (zb1 Z.h Z.h.n) f1
 have h5 := Nat.mul_le_mul (show Z.h.n / 2 + 1 + 3 ≤ 84 by omega) (show 17 * (Z.h.n / 2 + 1) + 8 ≤ 1385 by omega)
 rw [show 84 * 1385 = 116340 from by decide] at h5
 unfold boW
 generalize (Z.h.n / 2 + 1 + 3) * (17 * (Z.h.n / 2 + 1) + 8) = A at *
 omega
theorem ze1 (Z : Wd) (q : Wp) (w : World) (hv : WdIn w Z q) :
  Calls Tryz.prog 8 #[.agg (Z.cells q).toArray] w fun e w' => e = .returned (.bool (fewW Z && fmW Z)) ∧ Below w.heap.size w w' := by
 obtain ⟨w0, hw0⟩ : ∃ w0, w0 = w.alloc (.cells (Z.cells q).toArray 38) := ⟨_, rfl⟩
 have gW : TBox 38 w.heap.size (Z.cells q).toArray w0 := by rw [hw0]; exact TBox.new _ _ _
 have hst : Below w.heap.size w w0 := by rw [hw0]; exact zr.alloc (Nat.le_refl _) _
 have hA := fun W (hW : Below w.heap.size w W) => zo2 Z q W (hv.below hW)
 by_cases hf : fewW Z = true
 case neg =>
  have hf' : fewW Z = false := by simpa using hf
  rw [hf'] at hA
  rw [hf', Bool.false_and]
  clear hf hf'
  go_enter Tryz.func8, Tryz.ntmps8
  go_upto_region 1 with fail
  rw [← hw0]
  clear hw0
  go_wp2_with (first
  | (with_reducible refine ld_w gW (by with_unfolding_all rfl) ?_)
  | (go_at_call 23; refine zm (hA _ (bjoin (by go_grown) hst)) ?_; rintro e w' ⟨rfl, hb⟩; obtain ⟨hc, hf, hb, hz⟩ := bstep hb (w := w0) (by go_grown); try simp only [za, zb, zd] at hc hf hz)
  )
  go_returns
  exact ⟨rfl, bjoin (by go_grown) hst⟩
 case pos =>
  have hB := fun W (hW : Below w.heap.size w W) => ze0 Z q W (hv.below hW) (zhj hf).2.2.1.1
  rw [hf] at hA
  rw [hf, Bool.true_and]
  generalize fmW Z = F at *
  go_enter Tryz.func8, Tryz.ntmps8
  go_upto_region 1 with fail
  rw [← hw0]
  clear hw0
  go_wp2_with (first
  | (with_reducible refine ld_w gW (by with_unfolding_all rfl) ?_)
  | (with_reducible refine zbx (gW.below hb) (by simp [Region.wanted, yielded, Act.put]; done) (by with_unfolding_all rfl) ?_)
  | (go_at_call 23; refine zm (hA _ (bjoin (by go_grown) hst)) ?_; rintro e w' ⟨rfl, hb⟩; obtain ⟨hc, hf, hb, hz⟩ := bstep hb (w := w0) (by go_grown); try simp only [za, zb, zd] at hc hf hz)
  | (go_at_call 12; refine zm (hB _ (bjoin (by go_grown) hst)) ?_; rintro e w' ⟨rfl, hb⟩; obtain ⟨hc, hf, hb, hz⟩ := bstep hb (w := w0) (by go_grown); try simp only [za, zb, zd] at hc hf hz)
  )
  go_returns
  exact ⟨rfl, bjoin (by go_grown) hst⟩
def LnV (k : Nat) (v : Value) (_ : World) : Prop := ∃ p c, v = .slice p k c
theorem LnV.below {k : Nat} (h : LnV k v w) (_ : Below w.heap.size w w') : LnV k v w' := h
theorem zkc (Z : Wd) (q : Wp) (w : World) (hv : WdIn w Z q) (hF : formB Z.h = true) (hfew : fewW Z = true) :
  Calls Tryz.prog 10 #[.agg (Z.cells q).toArray] w fun e w' => e = .returned (.int .i64 (boW Z : Int)) ∧ Below w.heap.size w w' := by
 obtain ⟨w0, hw0⟩ : ∃ w0, w0 = w.alloc (.cells (Z.cells q).toArray 38) := ⟨_, rfl⟩
 have gW : TBox 38 w.heap.size (Z.cells q).toArray w0 := by rw [hw0]; exact TBox.new _ _ _
 have hst : Below w.heap.size w w0 := by rw [hw0]; exact zr.alloc (Nat.le_refl _) _
 obtain ⟨f1, f2, ⟨f3, f4⟩, f5, f6⟩ := zhj hfew
 obtain ⟨-, g2, g3, g4⟩ := zex f5
 have hL := fun W (hW : Below w.heap.size w W) => zhr q.h q.hc q.s q.sc Z.h W (hv.heap.below hW) hF
 have hle : (obL Z.h Z.h.n).length ≤ 160 := Nat.le_trans (zb1 Z.h Z.h.n) f1
 obtain ⟨K, hK⟩ : ∃ K, K = Z.h.n / 2 := ⟨_, rfl⟩
 have hBo : Hid ((boW Z : Int) = ((K : Int) + 1 + 3) * (17 * ((K : Int) + 1) + 8) + Z.m.nr + 17 * (16 + 16 * Z.n) + 100 + 2 * (obL Z.h Z.h.n).length + Z.h.m) := by
  show (boW Z : Int) = _
  have hA : (((K + 1 + 3) * (17 * (K + 1) + 8) : Nat) : Int) = ((K : Int) + 1 + 3) * (17 * ((K : Int) + 1) + 8) := by
   rw [Int.natCast_mul]
   congr 1 <;> omega
  have hB : boW Z = (K + 1 + 3) * (17 * (K + 1) + 8) + Z.m.nr + 17 * (16 + 16 * Z.n) + 100 + 2 * (obL Z.h Z.h.n).length + Z.h.m := by
   unfold boW nOb
   rw [← hK]
  rw [← hA, hB]
  generalize (K + 1 + 3) * (17 * (K + 1) + 8) = A
  omega
 obtain ⟨l0, ⟨a0, a1, a2, a3, a4⟩, ⟨a5, a6, a7, a8⟩, ⟨a9, a10, a11, a12, a13, a14, a15, a16⟩, a17, a18, a19, a20⟩ := zac gW
 have hdiv : Int.tdiv (Z.h.n : Int) 2 = K := by subst hK; rfl
 have hK80 : K ≤ 80 := by omega
 clear hK
 have hmul : ((K : Int) + 1 + 3) * (17 * ((K : Int) + 1) + 8) ≤ 84 * 1385 := Int.mul_le_mul (by omega) (by omega) (by omega) (by omega)
 have hmul0 : 0 ≤ ((K : Int) + 1 + 3) * (17 * ((K : Int) + 1) + 8) := Int.mul_nonneg (by omega) (by omega)
 generalize hO : obL Z.h Z.h.n = OL at *
 clear hO
 go_enter Tryz.func10, Tryz.ntmps10
 go_upto_region 1 with fail
 rw [← hw0]
 clear hw0
 go_upto_region 2 with fail
 clear a0 a1 a2 a3 a4 a5 a6 a7 a8 a9 a10 a11 a12 a13 a14 a15 a16 a17 a18 a19 a20 l0 hdiv
 obtain ⟨P, hP⟩ : ∃ P : Int, P = ((K : Int) + 1 + 3) * (17 * ((K : Int) + 1) + 8) := ⟨_, rfl⟩
 have hPh : Hid (((K : Int) + 1 + 3) * (17 * ((K : Int) + 1) + 8) = P) := hP.symm
 rw [← hP] at hmul hmul0 hBo
 clear hP
 have hLv : ∀ W, Below w0.heap.size w0 W → Calls Tryz.prog 24 #[.agg #[.slice q.h Z.h.n q.hc, .slice q.s Z.h.m q.sc, .bool Z.h.b]] W fun e w' => ∃ v, e = .returned v ∧ LnV OL.length v w' ∧ Below W.heap.size W w' := fun W hW => by
  refine (hL W (bjoin hW hst)).mono ?_
  rintro e w' ⟨v, rfl, hown, hb⟩
  obtain ⟨p, c, rfl, -⟩ := zaf hown
  exact ⟨_, rfl, ⟨p, c, rfl⟩, hb⟩
 refine zbg [some 10, some 11, some 12, some 13, some 14, some 15, some 16, some 17, some 18, some 19, some 20, some 21, some 22, some 23, some 24, some 25, some 26, some 27, some 28, some 29, some 30, some 31, some 32, some 33, some 34, some 35, some 36, some 37, some 38, some 39, some 2] [10, 11, 12, 13, 14, 15, 16, 17, 18, 19, 20, 21, 22, 23, 24, 25, 26, 27, 28, 29, 30, 31, 32, 33, 34, 35, 36, 37, 38, 39, 2] [(fun v _ => v = .int .i64 ((K : Int) + 1)), (fun v _ => v = .int .i64 ((K : Int) + 1 + 3)), (fun v _ => v = .int .i64 ((K : Int) + 1)), (fun v _ => v = .int .i64 (17 * ((K : Int) + 1))), (fun v _ => v = .int .i64 (17 * ((K : Int) + 1) + 8)), (fun v _ => v = .int .i64 P), (fun v _ => v = .pointer (some ⟨w.heap.size, 9, none⟩)), (fun v _ => v = .pointer (some ⟨w.heap.size, 12, none⟩)), (fun v _ => v = .slice q.r Z.m.nr q.rc), (fun v _ => v = .int .i64 Z.m.nr), (fun v _ => v = .int .i64 (P + Z.m.nr)), (fun v _ => v = .pointer (some ⟨w.heap.size, 8, none⟩)), (fun v _ => v = .slice q.m Z.n q.mc), (fun v _ => v = .int .i64 Z.n), (fun v _ => v = .int .i64 (16 * Z.n)), (fun v _ => v = .int .i64 (16 + 16 * Z.n)), (fun v _ => v = .int .i64 (17 * (16 + 16 * Z.n))), (fun v _ => v = .int .i64 (P + Z.m.nr + 17 * (16 + 16 * Z.n))), (fun v _ => v = .int .i64 (P + Z.m.nr + 17 * (16 + 16 * Z.n) + 100)), (fun v _ => v = .pointer (some ⟨w.heap.size, 5, none⟩)), (fun v _ => v = .agg #[.slice q.h Z.h.n q.hc, .slice q.s Z.h.m q.sc, .bool Z.h.b]), (LnV OL.length), (fun v _ => v = .int .i64 OL.length), (fun v _ => v = .int .i64 (2 * OL.length)), (fun v _ => v = .int .i64 (P + Z.m.nr + 17 * (16 + 16 * Z.n) + 100 + 2 * OL.length)), (fun v _ => v = .pointer (some ⟨w.heap.size, 5, none⟩)), (fun v _ => v = .pointer (some ⟨w.heap.size, 6, none⟩)), (fun v _ => v = .slice q.s Z.h.m q.sc), (fun v _ => v = .int .i64 Z.h.m), (fun v _ => v = .int .i64 (P + Z.m.nr + 17 * (16 + 16 * Z.n) + 100 + 2 * OL.length + Z.h.m)), (fun v _ => v = .int .i64 (P + Z.m.nr + 17 * (16 + 16 * Z.n) + 100 + 2 * OL.length + Z.h.m))] (fun _ => false) 40 (by kernel_rfl) (by kernel_rfl) rfl rfl (by decide) (by decide) (by simp) ⟨kv, kv, kv, kv, kv, kv, kv, kv, kv, kv, kv, kv, kv, kv, kv, kv, kv, kv, kv, kv, kv, fun _ _ _ h hb => h.below hb, kv, kv, kv, kv, kv, kv, kv, kv, kv, trivial⟩ ⟨rfl, rfl, rfl, rfl, rfl, rfl, rfl, rfl, rfl, rfl, rfl, rfl, rfl, rfl, rfl, rfl, rfl, rfl, rfl, rfl, rfl, rfl, rfl, rfl, rfl, rfl, rfl, rfl, rfl, rfl, rfl, trivial⟩ ?_ ?_
 ·refine ⟨?_, ?_, ?_, ?_, ?_, ?_, ?_, ?_, ?_, ?_, ?_, ?_, ?_, ?_, ?_, ?_, ?_, ?_, ?_, ?_, ?_, ?_, ?_, ?_, ?_, ?_, ?_, ?_, ?_, ?_, ?_, trivial⟩
  ·intro _ a' w' hb' hs hd Kc hK
   have f3 : a'.tmps[3]?.getD undef = .int .i64 ((K : Int) + 1) := (hs 3 (by decide)).trans rfl
   clear hs hd
   unfold Oper.wp
   go_simp
   try go_bits
   exact hK _ _ zr rfl
  ·intro _ a' w' hb' hs hd Kc hK
   have f10 : a'.tmps[10]?.getD undef = .int .i64 ((K : Int) + 1) := hd 0 10 zt rfl rfl
   clear hs hd
   unfold Oper.wp
   go_simp
   try go_bits
   exact hK _ _ zr zl
  ·intro _ a' w' hb' hs hd Kc hK
   have f3 : a'.tmps[3]?.getD undef = .int .i64 ((K : Int) + 1) := (hs 3 (by decide)).trans rfl
   clear hs hd
   unfold Oper.wp
   go_simp
   try go_bits
   exact hK _ _ zr rfl
  ·intro _ a' w' hb' hs hd Kc hK
   have f12 : a'.tmps[12]?.getD undef = .int .i64 ((K : Int) + 1) := hd 2 12 zt rfl rfl
   clear hs hd
   unfold Oper.wp
   go_simp
   try go_bits
   exact hK _ _ zr zl
  ·intro _ a' w' hb' hs hd Kc hK
   have f13 : a'.tmps[13]?.getD undef = .int .i64 (17 * ((K : Int) + 1)) := hd 3 13 zt rfl rfl
   clear hs hd
   unfold Oper.wp
   go_simp
   try go_bits
   exact hK _ _ zr zl
  ·intro _ a' w' hb' hs hd Kc hK
   have f11 : a'.tmps[11]?.getD undef = .int .i64 ((K : Int) + 1 + 3) := hd 1 11 zt rfl rfl
   have f14 : a'.tmps[14]?.getD undef = .int .i64 (17 * ((K : Int) + 1) + 8) := hd 4 14 zt rfl rfl
   clear hs hd
   obtain ⟨l0, -, ⟨a5, a6, a7, a8⟩, ⟨-, -, -, a12, -⟩, -⟩ := zac (gW.below hb')
   unfold Oper.wp
   go_simp
   rw [hPh.out, IntWalk.i64_in P (by omega)]
   exact hK _ _ zr rfl
  ·intro _ a' w' hb' hs hd Kc hK
   have f1 : a'.tmps[1]?.getD undef = .pointer (some ⟨w.heap.size, 0, none⟩) := (hs 1 (by decide)).trans rfl
   clear hs hd
   unfold Oper.wp
   go_simp
   try go_bits
   exact hK _ _ zr rfl
  ·intro _ a' w' hb' hs hd Kc hK
   have f16 : a'.tmps[16]?.getD undef = .pointer (some ⟨w.heap.size, 9, none⟩) := hd 6 16 zt rfl rfl
   clear hs hd
   unfold Oper.wp
   go_simp
   try go_bits
   exact hK _ _ zr rfl
  ·intro _ a' w' hb' hs hd Kc hK
   have f17 : a'.tmps[17]?.getD undef = .pointer (some ⟨w.heap.size, 12, none⟩) := hd 7 17 zt rfl rfl
   clear hs hd
   obtain ⟨l0, -, ⟨a5, a6, a7, a8⟩, ⟨-, -, -, a12, -⟩, -⟩ := zac (gW.below hb')
   unfold Oper.wp
   go_simp
   try go_bits
   exact hK _ _ zr rfl
  ·intro _ a' w' hb' hs hd Kc hK
   have f18 : a'.tmps[18]?.getD undef = .slice q.r Z.m.nr q.rc := hd 8 18 zt rfl rfl
   clear hs hd
   unfold Oper.wp
   go_simp
   try go_bits
   exact hK _ _ zr rfl
  ·intro _ a' w' hb' hs hd Kc hK
   have f15 : a'.tmps[15]?.getD undef = .int .i64 P := hd 5 15 zt rfl rfl
   have f19 : a'.tmps[19]?.getD undef = .int .i64 Z.m.nr := hd 9 19 zt rfl rfl
   clear hs hd
   unfold Oper.wp
   go_simp
   try go_bits
   exact hK _ _ zr zl
  ·intro _ a' w' hb' hs hd Kc hK
   have f1 : a'.tmps[1]?.getD undef = .pointer (some ⟨w.heap.size, 0, none⟩) := (hs 1 (by decide)).trans rfl
   clear hs hd
   unfold Oper.wp
   go_simp
   try go_bits
   exact hK _ _ zr rfl
  ·intro _ a' w' hb' hs hd Kc hK
   have f21 : a'.tmps[21]?.getD undef = .pointer (some ⟨w.heap.size, 8, none⟩) := hd 11 21 zt rfl rfl
   clear hs hd
   obtain ⟨l0, -, ⟨a5, a6, a7, a8⟩, ⟨-, -, -, a12, -⟩, -⟩ := zac (gW.below hb')
   unfold Oper.wp
   go_simp
   try go_bits
   exact hK _ _ zr rfl
  ·intro _ a' w' hb' hs hd Kc hK
   have f22 : a'.tmps[22]?.getD undef = .slice q.m Z.n q.mc := hd 12 22 zt rfl rfl
   clear hs hd
   unfold Oper.wp
   go_simp
   try go_bits
   exact hK _ _ zr rfl
  ·intro _ a' w' hb' hs hd Kc hK
   have f23 : a'.tmps[23]?.getD undef = .int .i64 Z.n := hd 13 23 zt rfl rfl
   clear hs hd
   unfold Oper.wp
   go_simp
   try go_bits
   exact hK _ _ zr zl
  ·intro _ a' w' hb' hs hd Kc hK
   have f24 : a'.tmps[24]?.getD undef = .int .i64 (16 * Z.n) := hd 14 24 zt rfl rfl
   clear hs hd
   unfold Oper.wp
   go_simp
   try go_bits
   exact hK _ _ zr zl
  ·intro _ a' w' hb' hs hd Kc hK
   have f25 : a'.tmps[25]?.getD undef = .int .i64 (16 + 16 * Z.n) := hd 15 25 zt rfl rfl
   clear hs hd
   unfold Oper.wp
   go_simp
   try go_bits
   exact hK _ _ zr zl
  ·intro _ a' w' hb' hs hd Kc hK
   have f20 : a'.tmps[20]?.getD undef = .int .i64 (P + Z.m.nr) := hd 10 20 zt rfl rfl
   have f26 : a'.tmps[26]?.getD undef = .int .i64 (17 * (16 + 16 * Z.n)) := hd 16 26 zt rfl rfl
   clear hs hd
   unfold Oper.wp
   go_simp
   try go_bits
   exact hK _ _ zr zl
  ·intro _ a' w' hb' hs hd Kc hK
   have f27 : a'.tmps[27]?.getD undef = .int .i64 (P + Z.m.nr + 17 * (16 + 16 * Z.n)) := hd 17 27 zt rfl rfl
   clear hs hd
   unfold Oper.wp
   go_simp
   try go_bits
   exact hK _ _ zr zl
  ·intro _ a' w' hb' hs hd Kc hK
   have f1 : a'.tmps[1]?.getD undef = .pointer (some ⟨w.heap.size, 0, none⟩) := (hs 1 (by decide)).trans rfl
   clear hs hd
   unfold Oper.wp
   go_simp
   try go_bits
   exact hK _ _ zr rfl
  ·intro _ a' w' hb' hs hd Kc hK
   have f29 : a'.tmps[29]?.getD undef = .pointer (some ⟨w.heap.size, 5, none⟩) := hd 19 29 zt rfl rfl
   clear hs hd
   obtain ⟨l0, -, ⟨a5, a6, a7, a8⟩, ⟨-, -, -, a12, -⟩, -⟩ := zac (gW.below hb')
   unfold Oper.wp
   go_simp
   try go_bits
   exact hK _ _ zr rfl
  ·intro _ a' w' hb' hs hd Kc hK
   have f30 : a'.tmps[30]?.getD undef = .agg #[.slice q.h Z.h.n q.hc, .slice q.s Z.h.m q.sc, .bool Z.h.b] := hd 20 30 zt rfl rfl
   clear hs hd
   obtain ⟨l0, -, ⟨a5, a6, a7, a8⟩, ⟨-, -, -, a12, -⟩, -⟩ := zac (gW.below hb')
   unfold Oper.wp
   go_simp
   refine zm (hLv _ hb') ?_
   rintro e w'' ⟨v9, rfl, hA, hb2⟩
   exact hK _ _ hb2 hA
  ·intro _ a' w' hb' hs hd Kc hK
   have f31 : (LnV OL.length) (a'.tmps[31]?.getD undef) w' := hd 21 31 zt rfl rfl
   clear hs hd
   obtain ⟨l0, -, ⟨a5, a6, a7, a8⟩, ⟨-, -, -, a12, -⟩, -⟩ := zac (gW.below hb')
   obtain ⟨p9, c9, f9⟩ := f31
   unfold Oper.wp
   go_simp
   exact hK _ _ zr rfl
  ·intro _ a' w' hb' hs hd Kc hK
   have f32 : a'.tmps[32]?.getD undef = .int .i64 OL.length := hd 22 32 zt rfl rfl
   clear hs hd
   unfold Oper.wp
   go_simp
   try go_bits
   exact hK _ _ zr zl
  ·intro _ a' w' hb' hs hd Kc hK
   have f28 : a'.tmps[28]?.getD undef = .int .i64 (P + Z.m.nr + 17 * (16 + 16 * Z.n) + 100) := hd 18 28 zt rfl rfl
   have f33 : a'.tmps[33]?.getD undef = .int .i64 (2 * OL.length) := hd 23 33 zt rfl rfl
   clear hs hd
   unfold Oper.wp
   go_simp
   try go_bits
   exact hK _ _ zr zl
  ·intro _ a' w' hb' hs hd Kc hK
   have f1 : a'.tmps[1]?.getD undef = .pointer (some ⟨w.heap.size, 0, none⟩) := (hs 1 (by decide)).trans rfl
   clear hs hd
   unfold Oper.wp
   go_simp
   try go_bits
   exact hK _ _ zr rfl
  ·intro _ a' w' hb' hs hd Kc hK
   have f35 : a'.tmps[35]?.getD undef = .pointer (some ⟨w.heap.size, 5, none⟩) := hd 25 35 zt rfl rfl
   clear hs hd
   unfold Oper.wp
   go_simp
   try go_bits
   exact hK _ _ zr rfl
  ·intro _ a' w' hb' hs hd Kc hK
   have f36 : a'.tmps[36]?.getD undef = .pointer (some ⟨w.heap.size, 6, none⟩) := hd 26 36 zt rfl rfl
   clear hs hd
   obtain ⟨l0, -, ⟨a5, a6, a7, a8⟩, ⟨-, -, -, a12, -⟩, -⟩ := zac (gW.below hb')
   unfold Oper.wp
   go_simp
   try go_bits
   exact hK _ _ zr rfl
  ·intro _ a' w' hb' hs hd Kc hK
   have f37 : a'.tmps[37]?.getD undef = .slice q.s Z.h.m q.sc := hd 27 37 zt rfl rfl
   clear hs hd
   unfold Oper.wp
   go_simp
   try go_bits
   exact hK _ _ zr rfl
  ·intro _ a' w' hb' hs hd Kc hK
   have f34 : a'.tmps[34]?.getD undef = .int .i64 (P + Z.m.nr + 17 * (16 + 16 * Z.n) + 100 + 2 * OL.length) := hd 24 34 zt rfl rfl
   have f38 : a'.tmps[38]?.getD undef = .int .i64 Z.h.m := hd 28 38 zt rfl rfl
   clear hs hd
   unfold Oper.wp
   go_simp
   try go_bits
   exact hK _ _ zr zl
  ·intro _ a' w' hb' hs hd Kc hK
   have f39 : a'.tmps[39]?.getD undef = .int .i64 (P + Z.m.nr + 17 * (16 + 16 * Z.n) + 100 + 2 * OL.length + Z.h.m) := hd 29 39 zt rfl rfl
   clear hs hd
   unfold Oper.wp
   go_simp
   try go_bits
   exact hK _ _ zr rfl
 intro Xf w' hb hv
 have q2 : Xf 2 = .int .i64 (P + Z.m.nr + 17 * (16 + 16 * Z.n) + 100 + 2 * OL.length + Z.h.m) := hv 30 2 rfl rfl
 clear hv
 simp only [List.map_cons, List.map_nil, q2, puts, Act.put, Nat.reduceAdd, List.setIfInBounds_toArray, List.set_cons_succ, List.set_cons_zero]
 go_wp2
 go_returns
 exact ⟨by rw [hBo.out]; rfl, bjoin (by go_grown) hst⟩
end Go.Proofs.YtkehankfnkjnlaaGreatDoor
