import Derived.Test.YtkehankfnkjnlaaGreatDoorV45
import Derived.Test.YtkehankfnkjnlaaGreatDoorV38
import Derived.Test.YtkehankfnkjnlaaGreatDoorV43
namespace Go.Proofs.YtkehankfnkjnlaaGreatDoor
set_option linter.unusedSimpArgs false
set_option linter.unusedVariables false
set_option maxHeartbeats 16000000
set_option maxRecDepth 20000
open Go.ChangeAt Go.ChangeShapes Go.Joins Go.RowKit Go.WideShapes
variable {h : Hp} {w w' W W' : World} {p q : Option Addr} {n g : Nat} {a : Int} {v : Value}
theorem zk3 (w : World) : (zeroValue 63).run Tryz.prog w = .ok .nilFunc w := by kernel_rfl
theorem zs2 (y : Int) : (tuF y).isSome = true ↔ 0 ≤ y ∧ y ≤ 2 := by
 unfold tuF
 by_cases h2 : y = 2
 ·rw [if_pos h2]; simp; omega
 by_cases h1 : y = 1
 ·rw [if_neg h2, if_pos h1]; simp; omega
 by_cases h0 : y = 0
 ·rw [if_neg h2, if_neg h1, if_pos h0]; simp; omega
 ·rw [if_neg h2, if_neg h1, if_neg h0]; simp; omega
theorem zjq (Z : Wd) (q : Wp) (w : World) (hS : Sz w) (hv : WdIn w Z q) (hfew : fewW Z = true) :
  Calls Tryz.prog 20 #[.agg (Z.cells q).toArray] w fun e w' => e = .returned (.bool (fmW Z)) ∧ Below w.heap.size w w' := by
 obtain ⟨f1, f2, ⟨f3, f4⟩, f5, f6⟩ := zhj hfew
 obtain ⟨-, -, g3, -⟩ := zex f5
 obtain ⟨w0, hw0⟩ : ∃ w0, w0 = w.alloc (.cells (Z.cells q).toArray 38) := ⟨_, rfl⟩
 have gW : TBox 38 w.heap.size (Z.cells q).toArray w0 := by rw [hw0]; exact TBox.new _ _ _
 have hst : Below w.heap.size w w0 := by rw [hw0]; exact zr.alloc (Nat.le_refl _) _
 obtain ⟨I, hI⟩ : ∃ I : Bool, I = (tuF Z.ph).isSome := ⟨_, rfl⟩
 obtain ⟨MB, hMB⟩ : ∃ M : Bool, M = mayC Z.c0 Z.c1 Z.c2 Z.c3 Z.c4 := ⟨_, rfl⟩
 obtain ⟨HB, hHB⟩ : ∃ H : Bool, H = (formB Z.h && ((Z.h.m : Int) == Z.c0)) := ⟨_, rfl⟩
 obtain ⟨UB, hUB⟩ : ∃ U : Bool, (U = true ↔ (∀ i, i < Z.n → ((Z.z i).n : Int) ≤ Z.c2) ∧ (Z.n : Int) = Z.c1 ∧ rightY Z.h Z.n (caY Z.z) = true) := ⟨@decide _ (Classical.propDecidable _), @decide_eq_true_iff _ (Classical.propDecidable _)⟩
 obtain ⟨KB, hKB⟩ : ∃ K : Bool, (K = true ↔ rightM Z.h Z.m ∧ Z.m.nb = Z.n) := ⟨@decide _ (Classical.propDecidable _), @decide_eq_true_iff _ (Classical.propDecidable _)⟩
 obtain ⟨E1, hE1⟩ : ∃ E : Bool, (Z.ph != 1) = E := ⟨_, rfl⟩
 have hForm : HB = true → formB Z.h = true := fun h => by rw [hHB, Bool.and_eq_true] at h; exact h.1
 have hMay : ∀ W, Calls Tryz.prog 21 #[.agg #[.int .i64 Z.c0, .int .i64 Z.c1, .int .i64 Z.c2, .int .i64 Z.c3, .int .i64 Z.c4]] W fun e w' => e = .returned (.bool MB) ∧ Below W.heap.size W w' := fun W => by rw [hMB]; exact ziw _ _ _ _ _ W
 have hHp : ∀ W, Below w.heap.size w W → Calls Tryz.prog 51 #[.agg (Z.cells q).toArray] W fun e w' => e = .returned (.bool HB) ∧ Below W.heap.size W w' := fun W hW => by rw [hHB]; exact zj7 Z q W (hS.below hW) (hv.below hW)
 have hMu := fun (h : HB = true) W (hW : Below w.heap.size w W) => zlp Z q W (hS.below hW) (hv.below hW) (hForm h) f3 hUB
 have hMk := fun (h : HB = true) W (hW : Below w.heap.size w W) => zkp Z q W (hS.below hW) (hv.below hW) (hForm h) (by omega) hKB
 have hR : Hid (fmW Z = (I && (MB && (HB && (UB && (E1 || KB)))))) := by
  show fmW Z = _
  rw [Bool.eq_iff_iff, zby]
  simp only [Bool.and_eq_true, Bool.or_eq_true]
  rw [hUB, hKB, hMB, hHB, hI, zs2, ← hE1]
  simp only [Bool.and_eq_true, beq_iff_eq, bne_iff_ne, ne_eq]
  constructor
  ·intro F
   refine ⟨F.ph, F.may, ⟨F.hF, F.hm⟩, ⟨F.st, F.hn, F.ca⟩, ?_⟩
   by_cases e : Z.ph = 1
   ·exact .inr (F.mr e)
   ·exact .inl e
  ·rintro ⟨a1, a2, ⟨a3, a4⟩, ⟨a5, a6, a7⟩, a8⟩
   refine ⟨a2, a3, a4, a6, a1, a5, a7, fun e => ?_⟩
   rcases a8 with h | h
   ·exact absurd e h
   ·exact h
 obtain ⟨R, hRe⟩ : ∃ R, R = fmW Z := ⟨_, rfl⟩
 rw [← hRe]
 rw [← hRe] at hR
 have hwf : (Lit.int .i64 Z.ph).wf = true := za6 hv.own.1.1 hv.own.1.2
 have hask : ∀ (W : World) (b : Nat), FnAt 3 W b tuF → (Instr.lookup 65 (.map (some b)) (.int .i64 Z.ph) true).run Tryz.prog W = .ok (.tuple #[lkV (tuF Z.ph), .bool I]) W := fun W b h => by rw [hI]; exact h.ask Tryz.underlying65 (zk3 W) hwf
 have hTu := fun W => zid W
 clear hI hMB hHB hUB hKB hForm hRe hwf
 generalize lkV (tuF Z.ph) = fv at *
 go_enter Tryz.func20, Tryz.ntmps20
 go_upto_region 1 with fail
 rw [← hw0]
 clear hw0
 refine zbg [some 6, some 7, some 8, some 9, some 5, some 10, some 11, some 3, some 4] [6, 7, 8, 9, 5, 10, 11, 3, 4] [(TuV), (fun v _ => v = .pointer (some ⟨w.heap.size, 17, none⟩)), (fun v _ => v = .int .i64 Z.ph), (fun v _ => v = .tuple #[fv, .bool I]), (fun v _ => v = .tuple #[fv, .bool I]), (fun v _ => v = fv), (fun v _ => v = .bool I), (fun v _ => v = fv), (fun v _ => v = .bool I)] (fun _ => false) 12 (by kernel_rfl) (by kernel_rfl) rfl rfl (by decide) (by decide) (by simp) ⟨fun _ _ _ h hb => h.below hb, kv, kv, kv, kv, kv, kv, kv, kv, trivial⟩ ⟨rfl, rfl, rfl, rfl, rfl, rfl, rfl, rfl, rfl, trivial⟩ ?_ ?_
 ·refine ⟨?_, ?_, ?_, ?_, ?_, ?_, ?_, ?_, ?_, trivial⟩
  ·intro _ a' w' hb' hs hd Kc hK
   clear hs hd
   obtain ⟨l0, -, -, -, a17, -⟩ := zac (gW.below hb')
   unfold Oper.wp
   go_simp
   refine zm (hTu _) ?_
   rintro e w'' ⟨v9, rfl, hA, hb2⟩
   exact hK _ _ hb2 hA
  ·intro _ a' w' hb' hs hd Kc hK
   have f1 : a'.tmps[1]?.getD undef = .pointer (some ⟨w.heap.size, 0, none⟩) := (hs 1 (by decide)).trans rfl
   clear hs hd
   unfold Oper.wp
   go_simp
   try go_bits
   exact hK _ _ zr rfl
  ·intro _ a' w' hb' hs hd Kc hK
   have f7 : a'.tmps[7]?.getD undef = .pointer (some ⟨w.heap.size, 17, none⟩) := hd 1 7 zt rfl rfl
   clear hs hd
   obtain ⟨l0, -, -, -, a17, -⟩ := zac (gW.below hb')
   unfold Oper.wp
   go_simp
   try go_bits
   exact hK _ _ zr rfl
  ·intro _ a' w' hb' hs hd Kc hK
   have f6 : (TuV) (a'.tmps[6]?.getD undef) w' := hd 0 6 zt rfl rfl
   have f8 : a'.tmps[8]?.getD undef = .int .i64 Z.ph := hd 2 8 zt rfl rfl
   clear hs hd
   obtain ⟨l0, -, -, -, a17, -⟩ := zac (gW.below hb')
   obtain ⟨b9, f60, hA⟩ := f6
   have hrun := hask _ _ hA
   unfold Oper.wp
   go_simp
   exact hK _ _ zr rfl
  ·intro _ a' w' hb' hs hd Kc hK
   have f9 : a'.tmps[9]?.getD undef = .tuple #[fv, .bool I] := hd 3 9 zt rfl rfl
   clear hs hd
   unfold Oper.wp
   go_simp
   try go_bits
   exact hK _ _ zr rfl
  ·intro _ a' w' hb' hs hd Kc hK
   have f5 : a'.tmps[5]?.getD undef = .tuple #[fv, .bool I] := hd 4 5 zt rfl rfl
   clear hs hd
   unfold Oper.wp
   go_simp
   try go_bits
   exact hK _ _ zr rfl
  ·intro _ a' w' hb' hs hd Kc hK
   have f5 : a'.tmps[5]?.getD undef = .tuple #[fv, .bool I] := hd 4 5 zt rfl rfl
   clear hs hd
   unfold Oper.wp
   go_simp
   try go_bits
   exact hK _ _ zr rfl
  ·intro _ a' w' hb' hs hd Kc hK
   have f10 : a'.tmps[10]?.getD undef = fv := hd 5 10 zt rfl rfl
   clear hs hd
   unfold Oper.wp
   go_simp
   try go_bits
   exact hK _ _ zr rfl
  ·intro _ a' w' hb' hs hd Kc hK
   have f11 : a'.tmps[11]?.getD undef = .bool I := hd 6 11 zt rfl rfl
   clear hs hd
   unfold Oper.wp
   go_simp
   try go_bits
   exact hK _ _ zr rfl
 intro Xf w' hb hv
 have q4 : Xf 4 = .bool I := hv 8 4 rfl rfl
 clear hv
 simp only [List.map_cons, List.map_nil, q4, puts, Act.put, Nat.reduceAdd, List.setIfInBounds_toArray, List.set_cons_succ, List.set_cons_zero]
 have hbW := bjoin hb hst
 replace gW := gW.below hb
 clear hb hst hask hTu
 generalize w' = w9 at *
 obtain ⟨l0, ⟨a0, a1, a2, a3, a4⟩, -, -, a17, -⟩ := zac gW
 have hcase : I = false ∨ (I = true ∧ MB = false) ∨ (I = true ∧ MB = true ∧ HB = false) ∨ (I = true ∧ MB = true ∧ HB = true ∧ UB = false) ∨ (I = true ∧ MB = true ∧ HB = true ∧ UB = true ∧ E1 = true) ∨ (I = true ∧ MB = true ∧ HB = true ∧ UB = true ∧ E1 = false) := by
  cases I <;> cases MB <;> cases HB <;> cases UB <;> cases E1 <;> simp
 rcases hcase with rfl | ⟨rfl, rfl⟩ | ⟨rfl, rfl, rfl⟩ | ⟨rfl, rfl, rfl, rfl⟩ | ⟨rfl, rfl, rfl, rfl, rfl⟩ | ⟨rfl, rfl, rfl, rfl, rfl⟩
 all_goals
  simp only [Bool.false_and, Bool.true_and, Bool.true_or, Bool.false_or] at hR
  try replace hMu := hMu rfl
  try replace hMk := hMk rfl
  go_wp2_with (first
  | ((with_reducible refine zbx (gW.below hb) ?_ ?_ ?_); (focus (simp [Region.wanted, yielded, Act.put]; done)); (focus (with_unfolding_all rfl)))
  | (go_at_call 21; refine zm (hMay _) ?_; rintro e w' ⟨rfl, hb⟩; obtain ⟨hc, hf, hb, hz⟩ := bstep hb (w := w9) (by go_grown); try simp only [za, zb, zd] at hc hf hz)
  | (go_at_call 51; refine zm (hHp _ (bjoin (by go_grown) hbW)) ?_; rintro e w' ⟨rfl, hb⟩; obtain ⟨hc, hf, hb, hz⟩ := bstep hb (w := w9) (by go_grown); try simp only [za, zb, zd] at hc hf hz)
  | (go_at_call 52; refine zm (hMu _ (bjoin (by go_grown) hbW)) ?_; rintro e w' ⟨rfl, hb⟩; obtain ⟨hc, hf, hb, hz⟩ := bstep hb (w := w9) (by go_grown); try simp only [za, zb, zd] at hc hf hz)
  | (go_at_call 53; refine zm (hMk _ (bjoin (by go_grown) hbW)) ?_; rintro e w' ⟨rfl, hb⟩; obtain ⟨hc, hf, hb, hz⟩ := bstep hb (w := w9) (by go_grown); try simp only [za, zb, zd] at hc hf hz)
  )
  go_returns
  exact ⟨zab hR.out.symm, bjoin (by go_grown) hbW⟩
noncomputable def msM (W : Wd) : Wd × Int := if (stM W.h W.m).2.2 = true then (enM W, 4) else ({ W with h := (stM W.h W.m).1, m := (stM W.h W.m).2.1 }, 1)
@[reducible] def mkL (m : Mk) (pg : Option Addr) (cg : Nat) (pb : Option Addr) (cb : Nat) (pr : Option Addr) (cr : Nat) : List Value := [.int .i64 m.g.r, .slice pg m.g.n cg, .slice pb m.nb cb, .slice pr m.nr cr, .int .i64 m.ob, .int .i64 m.fi, .int .i64 m.cu, .bool m.ov]
theorem zud {m : Mk} (hF : formB h = true) (hR : rightM h m) : In64 m.g.r ∧ In64 m.ob ∧ In64 m.fi ∧ In64 m.cu := by
 obtain ⟨r1, -, r3, r4⟩ := hR
 have hn := zad.1 hF
 obtain ⟨⟨g0, g1, -⟩, -⟩ := zbe.1 r1
 have h2 : In64 m.ob ∧ In64 m.fi := by
  rcases r4 with ⟨e1, e2⟩ | ⟨-, e⟩
  ·rw [e1, e2]; exact ⟨⟨by decide, by decide⟩, ⟨by decide, by decide⟩⟩
  ·obtain ⟨h1, h2, h3⟩ := zoo e
   have h4 := zda hF h1
   have h5 := zgc hF m.ob
   exact ⟨⟨by omega, by omega⟩, ⟨by omega, by omega⟩⟩
 exact ⟨⟨by omega, by omega⟩, h2.1, h2.2, ⟨by omega, by omega⟩⟩
theorem zjm (N : Nat) (Z : Wd) (q : Wp) (w : World) (hN : N ≤ w.heap.size) (hS : Sz w) (hv : WdE N w Z q) (hFW : FormW Z) (hph : Z.ph = 1) (hB : BdW Z) :
  Calls Tryz.prog 60 #[.agg (Z.cells q).toArray] w fun e w' => ∃ q', e = .returned (.tuple #[.agg ((msM Z).1.cells q').toArray, .int .i64 (msM Z).2]) ∧ WdE N w' (msM Z).1 q' ∧ Below w.heap.size w w' := by
 have hF := hFW.hF
 obtain ⟨hR0, hnbn⟩ := hFW.mr hph
 have hnb8 : Z.m.nb ≤ 8 := by have := (ze9 hFW).1; omega
 clear hnbn
 obtain ⟨SW, hSW⟩ : ∃ x, x = msM Z := ⟨_, rfl⟩
 rw [← hSW]
 have hR0' : Hid (rightM Z.h Z.m) := hR0
 obtain ⟨R0, hRe⟩ : ∃ R : Array Value, R = #[.int .i64 0, .int .i64 0, .int .i64 0, .int .i64 0, .int .i64 0, .slice none 0 0, .slice none 0 0, .bool false, .slice none 0 0, .int .i64 0, .slice none 0 0, .slice none 0 0, .slice none 0 0, .int .i64 0, .int .i64 0, .int .i64 0, .bool false, .int .i64 0, .bool false, .int .i64 0, .slice none 0 0] := ⟨_, rfl⟩
 have hRs : R0.size = 21 := by rw [hRe]; rfl
 have hRp : PlainC R0 := by rw [hRe]; exact zbh zeW zeP
 obtain ⟨wB, hwB⟩ : ∃ W, W = (w.alloc (.cells (Z.cells q).toArray 38)).alloc (.cells R0 38) := ⟨_, rfl⟩
 have hC := zfr hv hwB
 have hSt := fun W (hW : Below wB.heap.size wB W) => zu0 N ((hS.below hC.b).below hW) (hC.below hW).e.heap.in hF (hC.below hW).e.mark (Nat.le_trans hN (Nat.le_trans hC.b.size hW.size)) hR0 (by have := hB.2; omega) (by omega)
 have hEn := fun W (hW : Below wB.heap.size wB W) => zut N Z q W (Nat.le_trans hN (Nat.le_trans hC.b.size hW.size)) ((hS.below hC.b).below hW) (hC.below hW).e hFW hB
 have hFe : formB (enM Z).h = true := zd4 hF
 have hFs : formB (stM Z.h Z.m).1 = true := (zvn hF Z.m).form hF
 have hMw : (stM Z.h Z.m).2.2 = false → In64 (stM Z.h Z.m).2.1.g.r ∧ In64 (stM Z.h Z.m).2.1.ob ∧ In64 (stM Z.h Z.m).2.1.fi ∧ In64 (stM Z.h Z.m).2.1.cu := fun e => zud hFs (zmc hF hR0 e).2
 have hR : Hid (SW = if (stM Z.h Z.m).2.2 = true then (enM Z, 4) else ({ Z with h := (stM Z.h Z.m).1, m := (stM Z.h Z.m).2.1 }, 1)) := hSW
 clear hSW hR0 hR0'
 generalize stM Z.h Z.m = S at *
 generalize enM Z = E at *
 obtain ⟨H, M, D⟩ := S
 dsimp only at hR hMw hFs hSt
 obtain ⟨lx, -, ⟨a5, a6, a7, a8⟩, ⟨a9, a10, a11, a12, a13, a14, a15, a16⟩, -, -, -, -⟩ := zac hC.x
 go_enter Tryz.func60, Tryz.ntmps60
 go_upto_region 1 with fail
 rw [← hRe, ← hwB]
 clear hwB hRe
 go_upto_region 2 with (first
  | (go_at_call 94; refine zm (hSt _ (by go_grown)) ?_; rintro e w4 ⟨p4, c4, q4, d4, pg, cg, pb, cb, pr, cr, rfl, hI4, hM4, hb4⟩)
 )
 obtain ⟨w5, hw5⟩ : ∃ W, W = (w4.alloc (.cells #[.slice p4 Z.h.n c4, .slice q4 Z.h.m d4, .bool Z.h.b] 27)).alloc (.cells (mkL M pg cg pb cb pr cr).toArray 35) := ⟨_, rfl⟩
 obtain ⟨gH, gM, hb5⟩ := zbw hw5
 have hC5 := (hC.below hb4).below hb5
 have hI5 := hI4.below hb5
 have hM5 := hM4.below hb5
 have hb45 := bjoin hb5 hb4
 have hG4 : w.heap.size + 1 < w4.heap.size := Nat.lt_of_lt_of_le hC.r.lt hb4.size
 simp only [mkL] at hw5
 rw [← hw5]
 clear hw5 hSt hI4 hM4 hb4 hb5 a5 a6 a7 a8 a9 a10 a11 a12 a13 a14 a15 a16 lx
 generalize w4.heap.size = G at *
 cases D with
 | true =>
  have hR1 : Hid (SW = (E, 4)) := by show SW = _; rw [hR.out, if_pos rfl]
  have hEn5 := hEn _ hb45
  clear hR hMw hI5 hM5 gH gM hEn
  go_upto_region 3 with fail
  refine wp_region_lit ?_
  refine ld_w hC5.x rfl ?_
  go_wp2_with (first
  | (go_at_call 95; refine zm hEn5 ?_; rintro e w6 ⟨q6, rfl, hE6, hb6⟩)
  | (with_reducible refine st_w (hC5.r.below hb6) hRs (v := E) (q := q6) (by with_unfolding_all rfl) (by with_unfolding_all rfl) ?_; intro wz gZ hst)
  )
  refine bodyPost_ret (zdr rfl rfl gZ) rfl ?_
  exact ⟨q6, by rw [hR1.out]; rfl, by rw [hR1.out]; exact zhs hE6 (hC5.r.below hb6) hRs hRp (by omega) hFe hst, (bjoin hb6 hC5.b).trans (hst.below _ (by omega))⟩
 | false =>
  have hR1 : Hid (SW = ({ Z with h := H, m := M }, 1)) := by show SW = _; rw [hR.out, if_neg (by decide)]
  have hE5 := (hC5.e.heaped hI5.at').marked hM5 (hMw rfl)
  have hE6 := hC5.e.heaped hI5.at'
  clear hR hMw hEn
  go_upto_region 4 with fail
  obtain ⟨lx4, -, ⟨b5, b6, b7, b8⟩, ⟨b9, b10, b11, b12, b13, b14, b15, b16⟩, -⟩ := zac hC5.x
  have z5 := hC5.x.frozen 5
  have z6 := hC5.x.frozen 6
  have z7 := hC5.x.frozen 7
  have z9 := hC5.x.frozen 9
  have z10 := hC5.x.frozen 10
  have z11 := hC5.x.frozen 11
  have z12 := hC5.x.frozen 12
  have z13 := hC5.x.frozen 13
  have z14 := hC5.x.frozen 14
  have z15 := hC5.x.frozen 15
  have z16 := hC5.x.frozen 16
  have lH := gH.lt
  have lM := gM.lt
  have y0 := gH.cell 0
  have y1 := gH.cell 1
  have y2 := gH.cell 2
  have x0 := gM.cell 0
  have x1 := gM.cell 1
  have x2 := gM.cell 2
  have x3 := gM.cell 3
  have x4 := gM.cell 4
  have x5 := gM.cell 5
  have x6 := gM.cell 6
  have x7 := gM.cell 7
  simp only [mkL, List.getElem?_toArray, List.getElem?_cons_zero, List.getElem?_cons_succ] at y0 y1 y2 x0 x1 x2 x3 x4 x5 x6 x7
  go_region
  have h5 := hC5.puts hN hE6 hFs 5 [.slice p4 Z.h.n c4, .slice q4 Z.h.m d4, .bool Z.h.b] (by unfold Wd.cells; dsimp only; rw [← hI5.n_eq, ← hI5.m_eq, ← hI5.b_eq]; rfl)
  have h6 := (h5.puts hN (hC5.carry hN hE5 hFs 5 [.slice p4 Z.h.n c4, .slice q4 Z.h.m d4, .bool Z.h.b]) hFs 9 (mkL M pg cg pb cb pr cr) (by simp only [setFrom, List.setIfInBounds_toArray, List.set_cons_zero, List.set_cons_succ])).below zr.drew
  obtain ⟨w6, hw6⟩ : ∃ W, W = (putsL w.heap.size 9 (mkL M pg cg pb cb pr cr) (putsL w.heap.size 5 [.slice p4 Z.h.n c4, .slice q4 Z.h.m d4, .bool Z.h.b] w5)).drew := ⟨_, rfl⟩
  rw [← hw6] at h6
  simp only [putsL, mkL, Nat.reduceAdd] at hw6
  rw [← hw6]
  clear hw6 h5 hE5 hE6 b5 b6 b7 b8 b9 b10 b11 b12 b13 b14 b15 b16 z5 z6 z7 z9 z10 z11 z12 z13 z14 z15 z16 lx4 lH lM y0 y1 y2 x0 x1 x2 x3 x4 x5 x6 x7 hI5 hM5 gH gM
  go_upto_region 5 with fail
  refine wp_region_lit ?_
  refine ld_w h6.x rfl ?_
  refine st_w h6.r hRs rfl rfl fun wz gZ hst => ?_
  obtain ⟨hEz, hbz⟩ := h6.fin hN hFs hRs hRp hst
  go_wp2
  refine bodyPost_ret (zdr rfl rfl gZ) rfl ?_
  exact ⟨_, by rw [hR1.out]; rfl, by rw [hR1.out]; exact hEz, hbz⟩
theorem tu_at {Z : Wd} (h0 : 0 ≤ Z.ph) (h2 : Z.ph ≤ 2) : (tuF Z.ph).isSome = true ∧ ((Z.ph = 2 ∧ tuF Z.ph = some 45 ∧ tuM Z = swM Z) ∨ (Z.ph = 1 ∧ tuF Z.ph = some 60 ∧ tuM Z = msM Z) ∨ (Z.ph = 0 ∧ tuF Z.ph = some 59 ∧ tuM Z = biM Z)) := by
 refine ⟨(zs2 _).2 ⟨h0, h2⟩, ?_⟩
 by_cases e2 : Z.ph = 2
 ·refine .inl ⟨e2, by unfold tuF; rw [if_pos e2], ?_⟩
  unfold tuM
  rw [if_pos e2]
  exact su_sw e2
 by_cases e1 : Z.ph = 1
 ·refine .inr (.inl ⟨e1, by unfold tuF; rw [if_neg e2, if_pos e1], ?_⟩)
  unfold tuM
  rw [if_neg e2, if_neg (by omega)]
  rfl
 ·have e0 : Z.ph = 0 := by omega
  refine .inr (.inr ⟨e0, by unfold tuF; rw [if_neg e2, if_neg e1, if_pos e0], ?_⟩)
  unfold tuM
  rw [if_neg e2, if_pos e0]
  rfl
theorem zur {Z : Wd} (hF : formB Z.h = true) : formB (msM Z).1.h = true := by
 unfold msM
 split
 ·exact zd4 hF
 ·exact (zvn hF Z.m).form hF
theorem zvc {Z : Wd} (hF : formB Z.h = true) : formB (biM Z).1.h = true := by
 unfold biM
 split
 ·exact hF
 ·exact hF
theorem zif (N : Nat) (Z : Wd) (q : Wp) (w : World) (hN : N ≤ w.heap.size) (hS : Sz w) (hv : WdE N w Z q) (hF : FormW Z) (hB : BdW Z) :
  Calls Tryz.prog 11 #[.agg (Z.cells q).toArray] w fun e w' => ∃ q', e = .returned (.tuple #[.agg ((tuM Z).1.cells q').toArray, .int .i64 (tuM Z).2]) ∧ WdE N w' (tuM Z).1 q' ∧ Below w.heap.size w w' := by
 obtain ⟨SW, hSW⟩ : ∃ x, x = tuM Z := ⟨_, rfl⟩
 rw [← hSW]
 obtain ⟨R0, hRe⟩ : ∃ R : Array Value, R = #[.int .i64 0, .int .i64 0, .int .i64 0, .int .i64 0, .int .i64 0, .slice none 0 0, .slice none 0 0, .bool false, .slice none 0 0, .int .i64 0, .slice none 0 0, .slice none 0 0, .slice none 0 0, .int .i64 0, .int .i64 0, .int .i64 0, .bool false, .int .i64 0, .bool false, .int .i64 0, .slice none 0 0] := ⟨_, rfl⟩
 have hRs : R0.size = 21 := by rw [hRe]; rfl
 have hRp : PlainC R0 := by rw [hRe]; exact zbh zeW zeP
 obtain ⟨wB, hwB⟩ : ∃ W, W = (w.alloc (.cells (Z.cells q).toArray 38)).alloc (.cells R0 38) := ⟨_, rfl⟩
 have hC := zfr hv hwB
 have hn8 := (ze9 hF).1
 obtain ⟨hI, hcase⟩ := tu_at (Z := Z) hF.ph.1 hF.ph.2
 have hSp := fun W (hW : Below wB.heap.size wB W) => zeo N Z q W (Nat.le_trans hN (Nat.le_trans hC.b.size hW.size)) ((hS.below hC.b).below hW) (hC.below hW).e hF.hF (by omega)
 have hMs := fun (h : Z.ph = 1) W (hW : Below wB.heap.size wB W) => zjm N Z q W (Nat.le_trans hN (Nat.le_trans hC.b.size hW.size)) ((hS.below hC.b).below hW) (hC.below hW).e hF h hB
 have hBi := fun W (hW : Below wB.heap.size wB W) => zo1 N Z q W (Nat.le_trans hN (Nat.le_trans hC.b.size hW.size)) ((hS.below hC.b).below hW) (hC.below hW).e hF
 have hwf : (Lit.int .i64 Z.ph).wf = true := za6 hv.own.1.1 hv.own.1.2
 have hask : ∀ (W : World) (b : Nat), FnAt 3 W b tuF → (Instr.lookup 65 (.map (some b)) (.int .i64 Z.ph) true).run Tryz.prog W = .ok (.tuple #[lkV (tuF Z.ph), .bool true]) W := fun W b h => by
  have := h.ask Tryz.underlying65 (zk3 W) hwf
  rwa [hI] at this
 have hTu := fun W => zid W
 have f1 := zna hF.hF hv.heap.wf
 have f2 := zur hF.hF
 have f3 := zvc hF.hF
 rw [← hSW] at hcase
 clear hI hwf hSW hB
 obtain ⟨S2, hS2⟩ : ∃ S, S = swM Z := ⟨_, rfl⟩
 obtain ⟨S1, hS1⟩ : ∃ S, S = msM Z := ⟨_, rfl⟩
 obtain ⟨S0, hS0⟩ : ∃ S, S = biM Z := ⟨_, rfl⟩
 rw [← hS2, ← hS1, ← hS0] at hcase
 rw [← hS2] at hSp f1
 rw [← hS1] at hMs f2
 rw [← hS0] at hBi f3
 clear hS2 hS1 hS0
 obtain ⟨fv, hfv0⟩ : ∃ f, f = lkV (tuF Z.ph) := ⟨_, rfl⟩
 rw [← hfv0] at hask
 have hfv : Hid (fv = lkV (tuF Z.ph)) := hfv0
 clear hfv0
 go_enter Tryz.func11, Tryz.ntmps11
 go_upto_region 1 with fail
 rw [← hRe, ← hwB]
 clear hwB hRe
 refine zbg [some 7, some 8, some 9, some 10, some 6, some 11, some 12, some 4, some 5] [7, 8, 9, 10, 6, 11, 12, 4, 5] [(TuV), (fun v _ => v = .pointer (some ⟨w.heap.size, 17, none⟩)), (fun v _ => v = .int .i64 Z.ph), (fun v _ => v = .tuple #[fv, .bool true]), (fun v _ => v = .tuple #[fv, .bool true]), (fun v _ => v = fv), (fun v _ => v = .bool true), (fun v _ => v = fv), (fun v _ => v = .bool true)] (fun _ => false) 13 (by kernel_rfl) (by kernel_rfl) rfl rfl (by decide) (by decide) (by simp) ⟨fun _ _ _ h hb => h.below hb, kv, kv, kv, kv, kv, kv, kv, kv, trivial⟩ ⟨rfl, rfl, rfl, rfl, rfl, rfl, rfl, rfl, rfl, trivial⟩ ?_ ?_
 ·refine ⟨?_, ?_, ?_, ?_, ?_, ?_, ?_, ?_, ?_, trivial⟩
  ·intro _ a' w' hb' hs hd Kc hK
   clear hs hd
   obtain ⟨l0, -, -, -, a17, -⟩ := zac (hC.below hb').x
   unfold Oper.wp
   go_simp
   refine zm (hTu _) ?_
   rintro e w'' ⟨v9, rfl, hA, hb2⟩
   exact hK _ _ hb2 hA
  ·intro _ a' w' hb' hs hd Kc hK
   have f1 : a'.tmps[1]?.getD undef = .pointer (some ⟨w.heap.size, 0, none⟩) := (hs 1 (by decide)).trans rfl
   clear hs hd
   unfold Oper.wp
   go_simp
   try go_bits
   exact hK _ _ zr rfl
  ·intro _ a' w' hb' hs hd Kc hK
   have f8 : a'.tmps[8]?.getD undef = .pointer (some ⟨w.heap.size, 17, none⟩) := hd 1 8 zt rfl rfl
   clear hs hd
   obtain ⟨l0, -, -, -, a17, -⟩ := zac (hC.below hb').x
   unfold Oper.wp
   go_simp
   try go_bits
   exact hK _ _ zr rfl
  ·intro _ a' w' hb' hs hd Kc hK
   have f7 : (TuV) (a'.tmps[7]?.getD undef) w' := hd 0 7 zt rfl rfl
   have f9 : a'.tmps[9]?.getD undef = .int .i64 Z.ph := hd 2 9 zt rfl rfl
   clear hs hd
   obtain ⟨l0, -, -, -, a17, -⟩ := zac (hC.below hb').x
   obtain ⟨b9, f60, hA⟩ := f7
   have hrun := hask _ _ hA
   unfold Oper.wp
   go_simp
   exact hK _ _ zr rfl
  ·intro _ a' w' hb' hs hd Kc hK
   have f10 : a'.tmps[10]?.getD undef = .tuple #[fv, .bool true] := hd 3 10 zt rfl rfl
   clear hs hd
   unfold Oper.wp
   go_simp
   try go_bits
   exact hK _ _ zr rfl
  ·intro _ a' w' hb' hs hd Kc hK
   have f6 : a'.tmps[6]?.getD undef = .tuple #[fv, .bool true] := hd 4 6 zt rfl rfl
   clear hs hd
   unfold Oper.wp
   go_simp
   try go_bits
   exact hK _ _ zr rfl
  ·intro _ a' w' hb' hs hd Kc hK
   have f6 : a'.tmps[6]?.getD undef = .tuple #[fv, .bool true] := hd 4 6 zt rfl rfl
   clear hs hd
   unfold Oper.wp
   go_simp
   try go_bits
   exact hK _ _ zr rfl
  ·intro _ a' w' hb' hs hd Kc hK
   have f11 : a'.tmps[11]?.getD undef = fv := hd 5 11 zt rfl rfl
   clear hs hd
   unfold Oper.wp
   go_simp
   try go_bits
   exact hK _ _ zr rfl
  ·intro _ a' w' hb' hs hd Kc hK
   have f12 : a'.tmps[12]?.getD undef = .bool true := hd 6 12 zt rfl rfl
   clear hs hd
   unfold Oper.wp
   go_simp
   try go_bits
   exact hK _ _ zr rfl
 intro Xf w' hb hv
 have q4 : Xf 4 = fv := hv 7 4 rfl rfl
 have q5 : Xf 5 = .bool true := hv 8 5 rfl rfl
 clear hv
 simp only [List.map_cons, List.map_nil, q4, q5, puts, Act.put, Nat.reduceAdd, List.setIfInBounds_toArray, List.set_cons_succ, List.set_cons_zero]
 have hC9 := hC.below hb
 clear hask hTu
 rcases hcase with ⟨e, et, es⟩ | ⟨e, et, es⟩ | ⟨e, et, es⟩
 ·have hfe : fv = .func (.func 45) #[] #[] := by rw [hfv.out, et]; rfl
  have hR1 : Hid (SW = S2) := es
  have hS9 := hSp _ hb
  clear e et es hSp hMs hBi hfv
  subst hfe
  go_upto_region 4 with fail
  go_wp2_with (first
  | (with_reducible refine ld_w hC9.x (by with_unfolding_all rfl) ?_)
  | (go_at_call 45; refine zm hS9 ?_; rintro e w4 ⟨q4, rfl, hE4, hb4⟩)
  | (with_reducible refine st_w (hC9.r.below hb4) hRs (v := S2.1) (q := q4) (by with_unfolding_all rfl) (by with_unfolding_all rfl) ?_; intro wz gZ hst)
  )
  refine bodyPost_ret (zdr rfl rfl gZ) rfl ?_
  exact ⟨q4, by rw [hR1.out]; rfl, by rw [hR1.out]; exact zhs hE4 (hC9.r.below hb4) hRs hRp (by omega) f1 hst, (bjoin hb4 hC9.b).trans (hst.below _ (by omega))⟩
 ·have hfe : fv = .func (.func 60) #[] #[] := by rw [hfv.out, et]; rfl
  have hR1 : Hid (SW = S1) := es
  have hS9 := hMs e _ hb
  clear e et es hSp hMs hBi hfv
  subst hfe
  go_upto_region 4 with fail
  go_wp2_with (first
  | (with_reducible refine ld_w hC9.x (by with_unfolding_all rfl) ?_)
  | (go_at_call 60; refine zm hS9 ?_; rintro e w4 ⟨q4, rfl, hE4, hb4⟩)
  | (with_reducible refine st_w (hC9.r.below hb4) hRs (v := S1.1) (q := q4) (by with_unfolding_all rfl) (by with_unfolding_all rfl) ?_; intro wz gZ hst)
  )
  refine bodyPost_ret (zdr rfl rfl gZ) rfl ?_
  exact ⟨q4, by rw [hR1.out]; rfl, by rw [hR1.out]; exact zhs hE4 (hC9.r.below hb4) hRs hRp (by omega) f2 hst, (bjoin hb4 hC9.b).trans (hst.below _ (by omega))⟩
 ·have hfe : fv = .func (.func 59) #[] #[] := by rw [hfv.out, et]; rfl
  have hR1 : Hid (SW = S0) := es
  have hS9 := hBi _ hb
  clear e et es hSp hMs hBi hfv
  subst hfe
  go_upto_region 4 with fail
  go_wp2_with (first
  | (with_reducible refine ld_w hC9.x (by with_unfolding_all rfl) ?_)
  | (go_at_call 59; refine zm hS9 ?_; rintro e w4 ⟨q4, rfl, hE4, hb4⟩)
  | (with_reducible refine st_w (hC9.r.below hb4) hRs (v := S0.1) (q := q4) (by with_unfolding_all rfl) (by with_unfolding_all rfl) ?_; intro wz gZ hst)
  )
  refine bodyPost_ret (zdr rfl rfl gZ) rfl ?_
  exact ⟨q4, by rw [hR1.out]; rfl, by rw [hR1.out]; exact zhs hE4 (hC9.r.below hb4) hRs hRp (by omega) f3 hst, (bjoin hb4 hC9.b).trans (hst.below _ (by omega))⟩
end Go.Proofs.YtkehankfnkjnlaaGreatDoor
