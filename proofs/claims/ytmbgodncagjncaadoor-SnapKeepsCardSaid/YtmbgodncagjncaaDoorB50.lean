/- The awake test of layer 18's laws. -/
import Derived.Test.YtmbgodncagjncaaDoorB49
import Derived.Test.YtmbgodncagjncaaDoorB17
import Derived.Laws.AppendOwn
namespace Go.Proofs.YtmbgodncagjncaaDoor
set_option linter.unusedSimpArgs false
set_option linter.unusedVariables false
open Go.ChangeShapes Go.WideShapes Go.ChangeAt Go.RowKit Go.Joins

def mA18 : Mu := ⟨1, lvF [⟨1, 7⟩], 3, 0, 0, 0, 0, 0, ⟨1, 5⟩, 0, 0, 0, 0⟩
def mB18 : Mu := ⟨0, fun _ => ⟨0, 0⟩, 4, 0, 0, 0, 0, 4, ⟨1, 6⟩, 0, 0, 0, 0⟩
def z18 : Nat → Mu := fun i => if i = 0 then mA18 else mB18
def want18 : List Vl := [⟨1, 7⟩, ⟨1, 5⟩, ⟨2, 4⟩, ⟨1, 6⟩]
theorem held18 : heldL z18 2 = want18 := rfl
theorem pend18 : pendL (newH 1) z18 2 = [⟨0, 0⟩] := by
  have e : fdX (newH 1) 4 0 = 0 := by decide +kernel
  show [] ++ [(⟨getK (fdX (newH 1) 4 0), getN (fdX (newH 1) 4 0)⟩ : Vl)] = _
  rw [e]
  rfl
theorem root18 : rootL (newH 1) z18 2 = want18 ++ [⟨0, 0⟩] := by
  unfold rootL
  rw [held18, pend18]
theorem form18 : formB (newH 1) = true := by decide +kernel
theorem mu_wfA : mA18.wf := by
  refine ⟨?_, ?_, ?_, ?_, ?_, ?_, ⟨by decide, by decide⟩, ?_, ?_, ?_, ?_⟩ <;> (show _ ∧ _; decide)
theorem mu_wfB : mB18.wf := by
  refine ⟨?_, ?_, ?_, ?_, ?_, ?_, ⟨by decide, by decide⟩, ?_, ?_, ?_, ?_⟩ <;> (show _ ∧ _; decide)
/-- The two mutators as a row that was just laid. -/
theorem rat18 {w : World} {B : Nat} {p : Option Addr} {c : Nat} {R : Array Value} {t : TypeId} (hB : B = w.heap.size) (hv : VAt w p c 1 (lvF [⟨1, 7⟩])) (hR : R.toList = mA18.cells p c ++ mB18.cells none 0) : RAt MuC 13 (w.alloc (.cells R t)) (some ⟨B, 0, none⟩) 2 2 z18 := by
  subst hB
  have hg := heap_alloc_new w (.cells R t)
  have hb : Below w.heap.size w (w.alloc (.cells R t)) := (Below.refl _ _).alloc (Nat.le_refl _) _
  have hcell : ∀ k, (w.alloc (.cells R t)).cell? ⟨w.heap.size, k, none⟩ = (mA18.cells p c ++ mB18.cells none 0)[k]? := fun k => by
    rw [cell_of_row _ _ _ _ _ _ hg, ← hR, Array.getElem?_toList]
  refine ⟨fun i hi => ?_, by decide, fun e => (by cases e), Nat.le_refl _, by decide⟩
  match i, hi with
  | 0, _ =>
    refine ⟨w.heap.size, 0, mA18.cells p c, rfl, by simp, rfl, fun k u hk => ?_, p, c, rfl, hv.below hb, mu_wfA⟩
    rw [hcell, show 0 + 0 * 13 + k = k by omega, List.getElem?_append_left (List.getElem?_eq_some_iff.1 hk).1]
    exact hk
  | 1, _ =>
    refine ⟨w.heap.size, 0, mB18.cells none 0, rfl, by simp, rfl, fun k u hk => ?_, none, 0, rfl, va_nil _ _, mu_wfB⟩
    rw [hcell, show 0 + 1 * 13 + k = 13 + k by omega, List.getElem?_append_right (by show 13 ≤ _; omega)]
    show (mB18.cells none 0)[13 + k - 13]? = _
    rw [show 13 + k - 13 = k by omega]
    exact hk
def VlN (k : Nat) (L : List Vl) (v : Value) (w : World) : Prop := ∃ p c, v = .slice p k c ∧ VAt w p c k (lvF L)
theorem VlN.below {k : Nat} {L : List Vl} {v : Value} {w w' : World} (h : VlN k L v w) (hb : Below w.heap.size w w') : VlN k L v w' := by
  obtain ⟨p, c, e, h⟩ := h
  exact ⟨p, c, e, h.below hb⟩
def RatV (z : Nat → Mu) (v : Value) (w : World) : Prop := ∃ p, v = .slice p 2 2 ∧ RAt MuC 13 w p 2 2 z
theorem RatV.below {z : Nat → Mu} {v : Value} {w w' : World} (h : RatV z v w) (hb : Below w.heap.size w w') : RatV z v w' := by
  obtain ⟨p, e, h⟩ := h
  exact ⟨p, e, h.below muC_below hb⟩
theorem short18 : ∀ i, i < 2 → (z18 i).n ≤ 20
  | 0, _ => by decide
  | 1, _ => by decide
theorem sbegin18 {p : Option Addr} {c : Nat} {q : Option Addr} {d : Nat} {pm : Option Addr} {w : World} (hS : Sz w) (hh : HpIn w p 32 c q 1 d false (newH 1)) (hz : RAt MuC 13 w pm 2 2 z18) :
    Calls Tryd.prog 9 #[.agg #[.int .i64 0, .int .i64 0, .int .i64 0, .int .i64 2, .int .i64 1], .agg #[.slice p 32 c, .slice q 1 d, .bool false], .slice pm 2 2] w fun e w' => ∃ p' c' q' d' pg cg pb cb pr cr, e = .returned (.tuple #[.agg #[.slice p' 32 c', .slice q' 1 d', .bool true], .agg #[.int .i64 2, .slice pg 0 cg, .slice pb 2 cb, .slice pr 5 cr, .int .i64 (-1), .int .i64 0, .int .i64 (-1), .bool false]]) ∧ VAt w' pr cr 5 (lvF (want18 ++ [⟨0, 0⟩])) ∧ Below w.heap.size w w' := by
  have := sbegin_any 0 0 0 2 1 p c q d (newH 1) 2 z18 pm 2 w hS (by decide) (by decide) hh.at' form18 hz (by decide) short18
  rw [root18] at this
  refine this.mono ?_
  rintro e w' ⟨p', c', q', d', pg, cg, pb, cb, pr, cr, rfl, -, hM, -, hb⟩
  exact ⟨p', c', q', d', pg, cg, pb, cb, pr, cr, rfl, hM.r, hb⟩
theorem spend18 {p : Option Addr} {c : Nat} {q : Option Addr} {d : Nat} {pm : Option Addr} {w : World} (hS : Sz w) (hh : HpIn w p 32 c q 1 d false (newH 1)) (hz : RAt MuC 13 w pm 2 2 z18) :
    Calls Tryd.prog 23 #[.agg #[.slice p 32 c, .slice q 1 d, .bool false], .slice pm 2 2] w fun e w' => ∃ v, e = .returned v ∧ VlN 1 [⟨0, 0⟩] v w' ∧ Below w.heap.size w w' := by
  have := spend_any p c q d (newH 1) 2 z18 pm 2 w hS hh.at' form18 hz (by decide)
  rw [pend18] at this
  refine this.mono ?_
  rintro e w' ⟨p', c', rfl, hV, hb⟩
  exact ⟨_, rfl, ⟨p', c', rfl, hV⟩, hb⟩
theorem sheld18 {pm : Option Addr} {w : World} (hz : RAt MuC 13 w pm 2 2 z18) :
    Calls Tryd.prog 22 #[.slice pm 2 2] w fun e w' => ∃ v, e = .returned v ∧ VlN 4 want18 v w' ∧ Below w.heap.size w w' := by
  have := sheld_any 2 z18 pm 2 w hz (by decide) short18
  rw [held18] at this
  refine this.mono ?_
  rintro e w' ⟨p', c', rfl, hV, hb⟩
  exact ⟨_, rfl, ⟨p', c', rfl, hV⟩, hb⟩
theorem sregs18 {pm : Option Addr} {c : Nat} {w : World} :
    Calls Tryd.prog 21 #[.agg #[.slice pm 1 c, .int .i64 3, .int .i64 0, .int .i64 0, .int .i64 0, .int .i64 0, .int .i64 0, .int .i64 1, .int .i64 5, .int .i64 0, .int .i64 0, .int .i64 0, .int .i64 0]] w fun e w' => ∃ v, e = .returned v ∧ VlN 1 [⟨1, 5⟩] v w' ∧ Below w.heap.size w w' := by
  have := sregs_any mA18 mu_wfA pm c w
  rw [show regL mA18 = [⟨1, 5⟩] from rfl] at this
  refine this.mono ?_
  rintro e w' ⟨p', c', rfl, hV, hb⟩
  exact ⟨_, rfl, ⟨p', c', rfl, hV⟩, hb⟩
theorem rvsame18 {p q : Option Addr} {k c d : Nat} {L : List Vl} {w : World} (h1 : VAt w p c k (lvF L)) (h2 : VAt w q d k (lvF L)) :
    Calls Tryd.prog 20 #[.slice p k c, .slice q k d] w fun e w' => e = .returned (.bool true) ∧ Below w.heap.size w w' := by
  have := rvsame_any p q k c k d _ _ w h1 h2
  rwa [sameV_self] at this
theorem late18_three {T g : Nat} {x0 x1 x2 : Value} {w : World} (h : TBox T g #[x0, x1, x2] w) : g < w.heap.size ∧ w.cell? ⟨g, 0, none⟩ = some x0 ∧ w.cell? ⟨g, 1, none⟩ = some x1 ∧ w.cell? ⟨g, 2, none⟩ = some x2 := ⟨h.lt, h.cell 0, h.cell 1, h.cell 2⟩
theorem wf15 : ∀ v ∈ ([⟨1, 5⟩] : List Vl), v.wf := fun v hv => by rw [List.mem_singleton.1 hv]; exact ⟨by decide, by decide⟩
theorem wf00 : ∀ v ∈ ([⟨0, 0⟩] : List Vl), v.wf := fun v hv => by rw [List.mem_singleton.1 hv]; exact ⟨by decide, by decide⟩
theorem wfWant : ∀ v ∈ want18 ++ [⟨0, 0⟩], v.wf := fun v hv => by
  simp only [want18, List.cons_append, List.nil_append, List.mem_cons, List.not_mem_nil, or_false] at hv
  rcases hv with rfl | rfl | rfl | rfl | rfl <;> exact ⟨by decide, by decide⟩
/-- 'append(want, api.Value{})', want a full row of four. -/
theorem append18 {i0 : TypeInfo} {w : World} {B : Nat} {p : Option Addr} {c : Nat} {o : Oper} {a : Act} {K : Act → World → Prop} {Q : Exit → Act → World → Prop} (hi : Tryd.prog.info? 46 = some i0) (hz0 : i0.zero = some (.agg #[.int .i64 0, .int .i64 0])) (hz1 : i0.size = 2) (hz2 : i0.bytes = 16)
    (h1 : VAt w (some ⟨B, 0, none⟩) 4 4 (lvF want18)) (h2 : VAt w p c 1 (lvF [⟨0, 0⟩])) (f1 : a.tmps[58]?.getD undef = .slice (some ⟨B, 0, none⟩) 4 4) (f2 : a.tmps[60]?.getD undef = .slice p 1 c)
    (hK : ∀ v w'', Below w.heap.size w w'' → VlN 5 (want18 ++ [⟨0, 0⟩]) v w'' → K (a.put o.dst v) w'') (ho : o.op = .call { callee := .builtin .append, args := #[.tmp 58, .tmp 60], argTypes := #[35, 35] } := by rfl) : o.wp Tryd.prog a w K Q := by
  cases p with
  | none => have := (h2.pnil rfl).1; omega
  | some ad =>
    obtain ⟨v', w', hrun, r1, r2⟩ := run_append_arg_grows (P := Tryd.prog) w 35 o.type 46 i0 (.agg #[.int .i64 0, .int .i64 0]) 2 16 Tryd.underlying35 hi hz0 hz1 hz2 rfl (by decide) ⟨B, 0, none⟩ 4 4 (LV want18) (by rw [LV_length]; rfl) (h1.row.cells _ rfl) ad 1 c (LV [⟨0, 0⟩]) (by rw [LV_length]; rfl) (h2.row.cells _ rfl) (by decide) (by decide) (by decide)
    have hb : Below w.heap.size w w' := (Below.refl _ _).grown r2 (Nat.le_refl _) (fun k hk => by cases hk)
    obtain ⟨p9, c9, rfl, -⟩ := owned_new r1
    rw [LV_append] at r1
    unfold Oper.wp
    simp [execOp, ho, resolve, invoke, builtin, Act.eval, f1, f2, hrun, Result.andThen]
    exact hK _ _ hb ⟨p9, c9, rfl, va_list (L := want18 ++ [⟨0, 0⟩]) r1 (by decide) wfWant⟩
set_option maxHeartbeats 16000000 in
set_option maxRecDepth 20000 in
theorem awake18_any (w : World) (hS : Sz w) : Calls Tryd.prog 7 #[] w fun e w' => e = .returned (.bool true) ∧ Below w.heap.size w w' := by
  have hM : ∀ W, Calls Tryd.prog 19 #[.int .i64 1, .slice none 0 0] W fun e w' => ∃ p c q d, e = .returned (.agg #[.slice p 32 c, .slice q 1 d, .bool false]) ∧ HpIn w' p 32 c q 1 d false (newH 1) ∧ Below W.heap.size W w' := fun W => rmade_nil 1 W (by decide) (by decide)
  have hF : Hid (formB (newH 1) = true) := form18
  obtain ⟨t0, hq0, hq1, hq2, hq3⟩ := info_parts val_info
  generalize hHH : newH 1 = HH at *
  go_enter Tryd.func7, Tryd.ntmps7
  go_upto_region 2 with (first
    | (go_at_call 19; refine Calls.mono (hM _) ?_; rintro e wA ⟨p, c, q, d, rfl, hh, hbA⟩)
  )
  obtain ⟨wB, hwB⟩ : ∃ W, W = wA.alloc (.cells #[.slice p 32 c, .slice q 1 d, .bool false] 25) := ⟨_, rfl⟩
  have gH : TBox 25 wA.heap.size #[.slice p 32 c, .slice q 1 d, .bool false] wB := by rw [hwB]; exact TBox.new _ _ _
  have hb2 : Below wA.heap.size wA wB := by rw [hwB]; exact (Below.refl _ _).alloc (Nat.le_refl _) _
  rw [← hwB]
  clear hwB hM
  replace hh := hh.below hb2
  have hbW := bjoin hb2 hbA
  clear hbA hb2
  generalize wA.heap.size = BH at *
  go_upto_region 3 with fail
  obtain ⟨wC, hwC⟩ : ∃ W, W = wB.alloc (.cells #[.int .i64 1, .int .i64 7] 46) := ⟨_, rfl⟩
  have hbC : Below wB.heap.size wB wC := by rw [hwC]; exact (Below.refl _ _).alloc (Nat.le_refl _) _
  have hvC : VAt wC (some ⟨wB.heap.size, 0, none⟩) 1 1 (lvF [⟨1, 7⟩]) := by rw [hwC]; exact va_new (L := [⟨1, 7⟩]) rfl rfl (by decide) (fun v hv => by rw [List.mem_singleton.1 hv]; exact ⟨by decide, by decide⟩)
  have hsC : wC.heap.size = wB.heap.size + 1 := by rw [hwC]; simp
  rw [← hwC, ← hsC]
  replace hh := hh.below hbC
  replace gH := gH.below hbC
  replace hbW := bjoin hbC hbW
  clear hwC hsC hbC
  generalize wB.heap.size = BV at *
  obtain ⟨wD, hwD⟩ : ∃ W, W = wC.alloc (.cells #[.slice (some ⟨BV, 0, none⟩) 1 1, .int .i64 3, .int .i64 0, .int .i64 0, .int .i64 0, .int .i64 0, .int .i64 0, .int .i64 1, .int .i64 5, .int .i64 0, .int .i64 0, .int .i64 0, .int .i64 0] 49) := ⟨_, rfl⟩
  have hbD : Below wC.heap.size wC wD := by rw [hwD]; exact (Below.refl _ _).alloc (Nat.le_refl _) _
  have gA : TBox 49 wC.heap.size #[.slice (some ⟨BV, 0, none⟩) 1 1, .int .i64 3, .int .i64 0, .int .i64 0, .int .i64 0, .int .i64 0, .int .i64 0, .int .i64 1, .int .i64 5, .int .i64 0, .int .i64 0, .int .i64 0, .int .i64 0] wD := by rw [hwD]; exact TBox.new _ _ _
  rw [← hwD]
  replace hh := hh.below hbD
  replace gH := gH.below hbD
  replace hvC := hvC.below hbD
  replace hbW := bjoin hbD hbW
  clear hwD hbD
  generalize wC.heap.size = BA at *
  go_upto_region 4 with fail
  obtain ⟨wE, hwE⟩ : ∃ W, W = wD.alloc (.cells #[.slice none 0 0, .int .i64 4, .int .i64 0, .int .i64 0, .int .i64 0, .int .i64 0, .int .i64 4, .int .i64 1, .int .i64 6, .int .i64 0, .int .i64 0, .int .i64 0, .int .i64 0] 49) := ⟨_, rfl⟩
  have hbE : Below wD.heap.size wD wE := by rw [hwE]; exact (Below.refl _ _).alloc (Nat.le_refl _) _
  have gB : TBox 49 wD.heap.size #[.slice none 0 0, .int .i64 4, .int .i64 0, .int .i64 0, .int .i64 0, .int .i64 0, .int .i64 4, .int .i64 1, .int .i64 6, .int .i64 0, .int .i64 0, .int .i64 0, .int .i64 0] wE := by rw [hwE]; exact TBox.new _ _ _
  rw [← hwE]
  replace hh := hh.below hbE
  replace gH := gH.below hbE
  replace hvC := hvC.below hbE
  replace gA := gA.below hbE
  replace hbW := bjoin hbE hbW
  clear hwE hbE
  generalize wD.heap.size = BB at *
  go_upto_region 5 with fail
  obtain ⟨wF, hwF⟩ : ∃ W, W = wE.alloc (.cells #[.int .i64 1, .int .i64 7, .int .i64 1, .int .i64 5, .int .i64 2, .int .i64 4, .int .i64 1, .int .i64 6] 46) := ⟨_, rfl⟩
  have hbF : Below wE.heap.size wE wF := by rw [hwF]; exact (Below.refl _ _).alloc (Nat.le_refl _) _
  have hvF : VAt wF (some ⟨wE.heap.size, 0, none⟩) 4 4 (lvF want18) := by
    rw [hwF]
    exact va_new (L := want18) rfl rfl (by decide) (fun v hv => by
      simp only [want18, List.mem_cons, List.not_mem_nil, or_false] at hv
      rcases hv with rfl | rfl | rfl | rfl <;> exact ⟨by decide, by decide⟩)
  rw [← hwF]
  replace hh := hh.below hbF
  replace gH := gH.below hbF
  replace hvC := hvC.below hbF
  replace gA := gA.below hbF
  replace gB := gB.below hbF
  replace hbW := bjoin hbF hbW
  clear hwF hbF
  generalize wE.heap.size = BF at *
  obtain ⟨lH, x0, x1, x2⟩ : BH < wF.heap.size ∧ wF.cell? ⟨BH, 0, none⟩ = some (.slice p 32 c) ∧ wF.cell? ⟨BH, 1, none⟩ = some (.slice q 1 d) ∧ wF.cell? ⟨BH, 2, none⟩ = some (.bool false) := ⟨gH.lt, gH.cell 0, gH.cell 1, gH.cell 2⟩
  obtain ⟨lA, a0, a1, a2, a3, a4, a5, a6, a7, a8, a9, a10, a11, a12⟩ := mu_cells gA
  obtain ⟨lB, b0, b1, b2, b3, b4, b5, b6, b7, b8, b9, b10, b11, b12⟩ := mu_cells gB
  have hbn : ∀ R t, Below wF.heap.size wF (wF.alloc (.cells R t)) := fun R t => (Below.refl _ _).alloc (Nat.le_refl _) _
  go_upto_region 6 with (first
    | (go_at_call 9; refine Calls.mono (sbegin18 (hS.below (bjoin (hbn _ _) hbW)) (by rw [hHH]; exact hh.below (hbn _ _)) (rat18 rfl hvC rfl)) ?_; rintro e wG ⟨p2, c2, q2, d2, pg, cg, pb, cb, pr, cr, rfl, hR, hbG⟩)
  )
  obtain ⟨wZ, hwZ⟩ : ∃ W, W = (wG.alloc (.cells #[.slice p2 32 c2, .slice q2 1 d2, .bool true] 25)).alloc (.cells #[.int .i64 2, .slice pg 0 cg, .slice pb 2 cb, .slice pr 5 cr, .int .i64 (-1), .int .i64 0, .int .i64 (-1), .bool false] 37) := ⟨_, rfl⟩
  obtain ⟨gG, gM, hbZ⟩ := tbox_two hwZ
  rw [← hwZ]
  have hbFZ := (bjoin hbG (hbn _ _)).trans (hbZ.mono (bjoin hbG (hbn _ _)).size)
  replace hh := hh.below hbFZ
  replace gH := gH.below hbFZ
  replace hvC := hvC.below hbFZ
  replace hvF := hvF.below hbFZ
  replace gA := gA.below hbFZ
  replace gB := gB.below hbFZ
  replace hR := hR.below hbZ
  replace hbZ := bjoin hbFZ hbW
  clear hwZ hbW hbG hbFZ hbn lH x0 x1 x2 lA a0 a1 a2 a3 a4 a5 a6 a7 a8 a9 a10 a11 a12 lB b0 b1 b2 b3 b4 b5 b6 b7 b8 b9 b10 b11 b12
  generalize wG.heap.size = BG at *
  refine wp_late (ds := [some 28, some 29, some 30, some 31, some 32, some 33, some 34, some 35, some 36, some 37, some 38, some 39, some 40, some 41, some 42, some 43, some 44, some 45, some 46, some 47, some 48, some 49, some 50, some 51, some 52, some 53, some 54, some 55, some 56, some 57, some 58, some 59, some 60, some 61, some 62, some 63, some 64, some 65, some 66, some 67, some 68, some 69, some 70, some 71, some 72, some 73, some 74, some 75, some 76, some 77, some 78, some 79, some 80, some 81, some 82, some 83, some 84, some 85, some 0]) (ts := [28, 29, 30, 31, 32, 33, 34, 35, 36, 37, 38, 39, 40, 41, 42, 43, 44, 45, 46, 47, 48, 49, 50, 51, 52, 53, 54, 55, 56, 57, 58, 59, 60, 61, 62, 63, 64, 65, 66, 67, 68, 69, 70, 71, 72, 73, 74, 75, 76, 77, 78, 79, 80, 81, 82, 83, 84, 85, 0]) (pv := [(fun v _ => v = .agg #[.slice (some ⟨BV, 0, none⟩) 1 1, .int .i64 3, .int .i64 0, .int .i64 0, .int .i64 0, .int .i64 0, .int .i64 0, .int .i64 1, .int .i64 5, .int .i64 0, .int .i64 0, .int .i64 0, .int .i64 0]), (VlN 1 [⟨1, 5⟩]), (fun v _ => v = .agg #[.int .i64 1, .int .i64 5]), (VlN 1 [⟨1, 5⟩]), (fun v _ => v = .bool true), (fun v _ => v = .bool true), (fun v _ => v = .agg #[.slice (some ⟨BV, 0, none⟩) 1 1, .int .i64 3, .int .i64 0, .int .i64 0, .int .i64 0, .int .i64 0, .int .i64 0, .int .i64 1, .int .i64 5, .int .i64 0, .int .i64 0, .int .i64 0, .int .i64 0]), (fun v _ => v = .agg #[.slice none 0 0, .int .i64 4, .int .i64 0, .int .i64 0, .int .i64 0, .int .i64 0, .int .i64 4, .int .i64 1, .int .i64 6, .int .i64 0, .int .i64 0, .int .i64 0, .int .i64 0]), (RatV z18), (VlN 4 want18), (fun v _ => v = .slice (some ⟨BF, 0, none⟩) 4 4), (fun v _ => v = .bool true), (fun v _ => v = .bool true), (fun v _ => v = .bool true), (fun v _ => v = .agg #[.slice p 32 c, .slice q 1 d, .bool false]), (fun v _ => v = .agg #[.slice (some ⟨BV, 0, none⟩) 1 1, .int .i64 3, .int .i64 0, .int .i64 0, .int .i64 0, .int .i64 0, .int .i64 0, .int .i64 1, .int .i64 5, .int .i64 0, .int .i64 0, .int .i64 0, .int .i64 0]), (fun v _ => v = .agg #[.slice none 0 0, .int .i64 4, .int .i64 0, .int .i64 0, .int .i64 0, .int .i64 0, .int .i64 4, .int .i64 1, .int .i64 6, .int .i64 0, .int .i64 0, .int .i64 0, .int .i64 0]), (RatV z18), (VlN 1 [⟨0, 0⟩]), (fun v _ => v = .agg #[.int .i64 0, .int .i64 0]), (VlN 1 [⟨0, 0⟩]), (fun v _ => v = .bool true), (fun v _ => v = .bool true), (fun v _ => v = .bool true), (fun v _ => v = .pointer (some ⟨BG, 2, none⟩)), (fun v _ => v = .bool true), (fun v _ => v = .bool true), (fun v _ => v = .bool true), (fun v _ => v = .pointer (some ⟨BG + 1, 3, none⟩)), (fun v _ => v = .slice pr 5 cr), (fun v _ => v = .slice (some ⟨BF, 0, none⟩) 4 4), (fun v _ => v = .agg #[.int .i64 0, .int .i64 0]), (VlN 1 [⟨0, 0⟩]), (VlN 5 (want18 ++ [⟨0, 0⟩])), (fun v _ => v = .bool true), (fun v _ => v = .bool true), (fun v _ => v = .bool true), (fun v _ => v = .pointer (some ⟨BG + 1, 2, none⟩)), (fun v _ => v = .slice pb 2 cb), (fun v _ => v = .int .i64 2), (fun v _ => v = .bool true), (fun v _ => v = .bool true), (fun v _ => v = .bool true), (fun v _ => v = .pointer (some ⟨BG + 1, 0, none⟩)), (fun v _ => v = .pointer (some ⟨BG + 1, 0, none⟩)), (fun v _ => v = .int .i64 2), (fun v _ => v = .bool true), (fun v _ => v = .bool true), (fun v _ => v = .bool true), (fun v _ => v = .pointer (some ⟨BG + 1, 4, none⟩)), (fun v _ => v = .int .i64 (-1)), (fun v _ => v = .bool true), (fun v _ => v = .bool true), (fun v _ => v = .bool true), (fun v _ => v = .pointer (some ⟨BG + 1, 6, none⟩)), (fun v _ => v = .int .i64 (-1)), (fun v _ => v = .bool true), (fun v _ => v = .bool true), (fun v _ => v = .bool true)]) (skip := fun i => ([] : List Nat).contains i) (ia := 1000) (is := 1000) (k := 86) (Shape := (fun _ _ => True)) (Full := (fun _ _ => True)) (by kernel_rfl) (by kernel_rfl) rfl rfl (by decide) (by decide) (by simp) ?_ (by decide) (fun _ _ _ _ _ => trivial) (fun _ _ _ _ _ => trivial) ?_ ?_ ?_ ?_
  · exact .inl rfl
  · exact ⟨fun _ _ _ h _ => h, fun _ _ _ h hb => h.below hb, fun _ _ _ h _ => h, fun _ _ _ h hb => h.below hb, fun _ _ _ h _ => h, fun _ _ _ h _ => h, fun _ _ _ h _ => h, fun _ _ _ h _ => h, fun _ _ _ h hb => h.below hb, fun _ _ _ h hb => h.below hb, fun _ _ _ h _ => h, fun _ _ _ h _ => h, fun _ _ _ h _ => h, fun _ _ _ h _ => h, fun _ _ _ h _ => h, fun _ _ _ h _ => h, fun _ _ _ h _ => h, fun _ _ _ h hb => h.below hb, fun _ _ _ h hb => h.below hb, fun _ _ _ h _ => h, fun _ _ _ h hb => h.below hb, fun _ _ _ h _ => h, fun _ _ _ h _ => h, fun _ _ _ h _ => h, fun _ _ _ h _ => h, fun _ _ _ h _ => h, fun _ _ _ h _ => h, fun _ _ _ h _ => h, fun _ _ _ h _ => h, fun _ _ _ h _ => h, fun _ _ _ h _ => h, fun _ _ _ h _ => h, fun _ _ _ h hb => h.below hb, fun _ _ _ h hb => h.below hb, fun _ _ _ h _ => h, fun _ _ _ h _ => h, fun _ _ _ h _ => h, fun _ _ _ h _ => h, fun _ _ _ h _ => h, fun _ _ _ h _ => h, fun _ _ _ h _ => h, fun _ _ _ h _ => h, fun _ _ _ h _ => h, fun _ _ _ h _ => h, fun _ _ _ h _ => h, fun _ _ _ h _ => h, fun _ _ _ h _ => h, fun _ _ _ h _ => h, fun _ _ _ h _ => h, fun _ _ _ h _ => h, fun _ _ _ h _ => h, fun _ _ _ h _ => h, fun _ _ _ h _ => h, fun _ _ _ h _ => h, fun _ _ _ h _ => h, fun _ _ _ h _ => h, fun _ _ _ h _ => h, fun _ _ _ h _ => h, fun _ _ _ h _ => h, trivial⟩
  · exact ⟨rfl, rfl, rfl, rfl, rfl, rfl, ⟨rfl, ⟨_, rfl⟩, by decide, by decide, fun _ _ h => h⟩, ⟨rfl, ⟨_, rfl⟩, by decide, by decide, fun _ _ h => h⟩, ⟨rfl, ⟨_, rfl⟩, by decide, by decide, fun _ _ h => h⟩, ⟨rfl, ⟨_, rfl⟩, by decide, by decide, fun _ _ h => h⟩, ⟨rfl, ⟨_, rfl⟩, by decide, by decide, fun _ _ h => h⟩, ⟨rfl, ⟨_, rfl⟩, by decide, by decide, fun _ _ h => h⟩, rfl, rfl, ⟨rfl, ⟨_, rfl⟩, by decide, by decide, fun _ _ h => h⟩, ⟨rfl, ⟨_, rfl⟩, by decide, by decide, fun _ _ h => h⟩, ⟨rfl, ⟨_, rfl⟩, by decide, by decide, fun _ _ h => h⟩, ⟨rfl, ⟨_, rfl⟩, by decide, by decide, fun _ _ h => h⟩, ⟨rfl, ⟨_, rfl⟩, by decide, by decide, fun _ _ h => h⟩, ⟨rfl, ⟨_, rfl⟩, by decide, by decide, fun _ _ h => h⟩, ⟨rfl, ⟨_, rfl⟩, by decide, by decide, fun _ _ h => h⟩, ⟨rfl, ⟨_, rfl⟩, by decide, by decide, fun _ _ h => h⟩, rfl, rfl, ⟨rfl, ⟨_, rfl⟩, by decide, by decide, fun _ _ h => h⟩, ⟨rfl, ⟨_, rfl⟩, by decide, by decide, fun _ _ h => h⟩, rfl, rfl, ⟨rfl, ⟨_, rfl⟩, by decide, by decide, fun _ _ h => h⟩, ⟨rfl, ⟨_, rfl⟩, by decide, by decide, fun _ _ h => h⟩, ⟨rfl, ⟨_, rfl⟩, by decide, by decide, fun _ _ h => h⟩, ⟨rfl, ⟨_, rfl⟩, by decide, by decide, fun _ _ h => h⟩, ⟨rfl, ⟨_, rfl⟩, by decide, by decide, fun _ _ h => h⟩, ⟨rfl, ⟨_, rfl⟩, by decide, by decide, fun _ _ h => h⟩, ⟨rfl, ⟨_, rfl⟩, by decide, by decide, fun _ _ h => h⟩, rfl, rfl, ⟨rfl, ⟨_, rfl⟩, by decide, by decide, fun _ _ h => h⟩, ⟨rfl, ⟨_, rfl⟩, by decide, by decide, fun _ _ h => h⟩, ⟨rfl, ⟨_, rfl⟩, by decide, by decide, fun _ _ h => h⟩, ⟨rfl, ⟨_, rfl⟩, by decide, by decide, fun _ _ h => h⟩, rfl, rfl, ⟨rfl, ⟨_, rfl⟩, by decide, by decide, fun _ _ h => h⟩, ⟨rfl, ⟨_, rfl⟩, by decide, by decide, fun _ _ h => h⟩, ⟨rfl, ⟨_, rfl⟩, by decide, by decide, fun _ _ h => h⟩, ⟨rfl, ⟨_, rfl⟩, by decide, by decide, fun _ _ h => h⟩, rfl, rfl, ⟨rfl, ⟨_, rfl⟩, by decide, by decide, fun _ _ h => h⟩, ⟨rfl, ⟨_, rfl⟩, by decide, by decide, fun _ _ h => h⟩, ⟨rfl, ⟨_, rfl⟩, by decide, by decide, fun _ _ h => h⟩, rfl, rfl, ⟨rfl, ⟨_, rfl⟩, by decide, by decide, fun _ _ h => h⟩, ⟨rfl, ⟨_, rfl⟩, by decide, by decide, fun _ _ h => h⟩, ⟨rfl, ⟨_, rfl⟩, by decide, by decide, fun _ _ h => h⟩, rfl, rfl, trivial⟩
  · refine ⟨?_, ?_, ?_, ?_, ?_, ?_, ?_, ?_, ?_, ?_, ?_, ?_, ?_, ?_, ?_, ?_, ?_, ?_, ?_, ?_, ?_, ?_, ?_, ?_, ?_, ?_, ?_, ?_, ?_, ?_, ?_, ?_, ?_, ?_, ?_, ?_, ?_, ?_, ?_, ?_, ?_, ?_, ?_, ?_, ?_, ?_, ?_, ?_, ?_, ?_, ?_, ?_, ?_, ?_, ?_, ?_, ?_, ?_, ?_, trivial⟩
    · intro _ a' w' hb' hs hd hn Kc hK
      have f2 : a'.tmps[2]?.getD undef = .pointer (some ⟨BA, 0, none⟩) := (hs 2 (by decide)).trans rfl
      clear hs hd hn
      rw [if_neg (by decide), if_neg (by decide)] at hK
      obtain ⟨lA, a0, a1, a2, a3, a4, a5, a6, a7, a8, a9, a10, a11, a12⟩ := mu_cells (gA.below hb')
      obtain ⟨lB, b0, b1, b2, b3, b4, b5, b6, b7, b8, b9, b10, b11, b12⟩ := mu_cells (gB.below hb')
      obtain ⟨lH, x0, x1, x2⟩ := late18_three (gH.below hb')
      obtain ⟨lG, g0, g1, g2⟩ := late18_three (gG.below hb')
      obtain ⟨lM, m0, m1, m2, m3, m4, m5, m6, m7⟩ := mk_cells (gM.below hb')
      unfold Oper.wp
      go_simp
      try go_bits
      exact hK _ _ (Below.refl _ _) (by first | rfl | (show Value.int _ _ = Value.int _ _; go_num; done) | (simp [valOf, *]; done) | (simp [valOf]; omega))
    · intro _ a' w' hb' hs hd hn Kc hK
      have f28 : a'.tmps[28]?.getD undef = .agg #[.slice (some ⟨BV, 0, none⟩) 1 1, .int .i64 3, .int .i64 0, .int .i64 0, .int .i64 0, .int .i64 0, .int .i64 0, .int .i64 1, .int .i64 5, .int .i64 0, .int .i64 0, .int .i64 0, .int .i64 0] := hd 0 28 (by first | rfl | decide | simp [Region.binds]) rfl (by decide) (by decide) rfl
      clear hs hd hn
      rw [if_neg (by decide), if_neg (by decide)] at hK
      obtain ⟨lA, a0, a1, a2, a3, a4, a5, a6, a7, a8, a9, a10, a11, a12⟩ := mu_cells (gA.below hb')
      obtain ⟨lB, b0, b1, b2, b3, b4, b5, b6, b7, b8, b9, b10, b11, b12⟩ := mu_cells (gB.below hb')
      obtain ⟨lH, x0, x1, x2⟩ := late18_three (gH.below hb')
      obtain ⟨lG, g0, g1, g2⟩ := late18_three (gG.below hb')
      obtain ⟨lM, m0, m1, m2, m3, m4, m5, m6, m7⟩ := mk_cells (gM.below hb')
      unfold Oper.wp
      go_simp
      refine Calls.mono sregs18 ?_
      rintro e w'' ⟨v, rfl, hA, hb2⟩
      exact hK _ _ hb2 hA
    · intro _ a' w' hb' hs hd hn Kc hK
      clear hs hd hn
      rw [if_neg (by decide), if_neg (by decide)] at hK
      obtain ⟨lA, a0, a1, a2, a3, a4, a5, a6, a7, a8, a9, a10, a11, a12⟩ := mu_cells (gA.below hb')
      obtain ⟨lB, b0, b1, b2, b3, b4, b5, b6, b7, b8, b9, b10, b11, b12⟩ := mu_cells (gB.below hb')
      obtain ⟨lH, x0, x1, x2⟩ := late18_three (gH.below hb')
      obtain ⟨lG, g0, g1, g2⟩ := late18_three (gG.below hb')
      obtain ⟨lM, m0, m1, m2, m3, m4, m5, m6, m7⟩ := mk_cells (gM.below hb')
      unfold Oper.wp
      go_simp
      try go_bits
      exact hK _ _ (Below.refl _ _) (by first | rfl | (show Value.int _ _ = Value.int _ _; go_num; done) | (simp [valOf, *]; done) | (simp [valOf]; omega))
    · intro _ a' w' hb' hs hd hn Kc hK
      have f30 : a'.tmps[30]?.getD undef = .agg #[.int .i64 1, .int .i64 5] := hd 2 30 (by first | rfl | decide | simp [Region.binds]) rfl (by decide) (by decide) rfl
      clear hs hd hn
      rw [if_neg (by decide), if_neg (by decide)] at hK
      obtain ⟨lA, a0, a1, a2, a3, a4, a5, a6, a7, a8, a9, a10, a11, a12⟩ := mu_cells (gA.below hb')
      obtain ⟨lB, b0, b1, b2, b3, b4, b5, b6, b7, b8, b9, b10, b11, b12⟩ := mu_cells (gB.below hb')
      obtain ⟨lH, x0, x1, x2⟩ := late18_three (gH.below hb')
      obtain ⟨lG, g0, g1, g2⟩ := late18_three (gG.below hb')
      obtain ⟨lM, m0, m1, m2, m3, m4, m5, m6, m7⟩ := mk_cells (gM.below hb')
      unfold Oper.wp
      go_simp
      exact hK _ _ ((Below.refl _ _).alloc (Nat.le_refl _) _) ⟨_, _, rfl, va_new (L := [⟨1, 5⟩]) rfl rfl (by decide) wf15⟩
    · intro _ a' w' hb' hs hd hn Kc hK
      have f29 : (VlN 1 [⟨1, 5⟩]) (a'.tmps[29]?.getD undef) w' := hd 1 29 (by first | rfl | decide | simp [Region.binds]) rfl (by decide) (by decide) rfl
      have f31 : (VlN 1 [⟨1, 5⟩]) (a'.tmps[31]?.getD undef) w' := hd 3 31 (by first | rfl | decide | simp [Region.binds]) rfl (by decide) (by decide) rfl
      clear hs hd hn
      rw [if_neg (by decide), if_neg (by decide)] at hK
      obtain ⟨lA, a0, a1, a2, a3, a4, a5, a6, a7, a8, a9, a10, a11, a12⟩ := mu_cells (gA.below hb')
      obtain ⟨lB, b0, b1, b2, b3, b4, b5, b6, b7, b8, b9, b10, b11, b12⟩ := mu_cells (gB.below hb')
      obtain ⟨lH, x0, x1, x2⟩ := late18_three (gH.below hb')
      obtain ⟨lG, g0, g1, g2⟩ := late18_three (gG.below hb')
      obtain ⟨lM, m0, m1, m2, m3, m4, m5, m6, m7⟩ := mk_cells (gM.below hb')
      obtain ⟨p8, c8, f8, h8⟩ := f29
      obtain ⟨p9, c9, f9, h9⟩ := f31
      unfold Oper.wp
      go_simp
      refine Calls.mono (rvsame18 h8 h9) ?_
      rintro e w'' ⟨rfl, hb2⟩
      exact hK _ _ hb2 rfl
    · intro _ a' w' hb' hs hd hn Kc hK
      have f32 : a'.tmps[32]?.getD undef = .bool true := hd 4 32 (by first | rfl | decide | simp [Region.binds]) rfl (by decide) (by decide) rfl
      clear hs hd hn
      rw [if_neg (by decide), if_neg (by decide)] at hK
      obtain ⟨lA, a0, a1, a2, a3, a4, a5, a6, a7, a8, a9, a10, a11, a12⟩ := mu_cells (gA.below hb')
      obtain ⟨lB, b0, b1, b2, b3, b4, b5, b6, b7, b8, b9, b10, b11, b12⟩ := mu_cells (gB.below hb')
      obtain ⟨lH, x0, x1, x2⟩ := late18_three (gH.below hb')
      obtain ⟨lG, g0, g1, g2⟩ := late18_three (gG.below hb')
      obtain ⟨lM, m0, m1, m2, m3, m4, m5, m6, m7⟩ := mk_cells (gM.below hb')
      unfold Oper.wp
      go_simp
      try go_bits
      exact hK _ _ (Below.refl _ _) (by first | rfl | (show Value.int _ _ = Value.int _ _; go_num; done) | (simp [valOf, *]; done) | (simp [valOf]; omega))
    · intro _ a' w' hb' hs hd hn Kc hK
      have f2 : a'.tmps[2]?.getD undef = .pointer (some ⟨BA, 0, none⟩) := (hs 2 (by decide)).trans rfl
      clear hs hd hn
      rw [if_neg (by decide), if_neg (by decide)] at hK
      obtain ⟨lA, a0, a1, a2, a3, a4, a5, a6, a7, a8, a9, a10, a11, a12⟩ := mu_cells (gA.below hb')
      obtain ⟨lB, b0, b1, b2, b3, b4, b5, b6, b7, b8, b9, b10, b11, b12⟩ := mu_cells (gB.below hb')
      obtain ⟨lH, x0, x1, x2⟩ := late18_three (gH.below hb')
      obtain ⟨lG, g0, g1, g2⟩ := late18_three (gG.below hb')
      obtain ⟨lM, m0, m1, m2, m3, m4, m5, m6, m7⟩ := mk_cells (gM.below hb')
      unfold Oper.wp
      go_simp
      try go_bits
      exact hK _ _ (Below.refl _ _) (by first | rfl | (show Value.int _ _ = Value.int _ _; go_num; done) | (simp [valOf, *]; done) | (simp [valOf]; omega))
    · intro _ a' w' hb' hs hd hn Kc hK
      have f3 : a'.tmps[3]?.getD undef = .pointer (some ⟨BB, 0, none⟩) := (hs 3 (by decide)).trans rfl
      clear hs hd hn
      rw [if_neg (by decide), if_neg (by decide)] at hK
      obtain ⟨lA, a0, a1, a2, a3, a4, a5, a6, a7, a8, a9, a10, a11, a12⟩ := mu_cells (gA.below hb')
      obtain ⟨lB, b0, b1, b2, b3, b4, b5, b6, b7, b8, b9, b10, b11, b12⟩ := mu_cells (gB.below hb')
      obtain ⟨lH, x0, x1, x2⟩ := late18_three (gH.below hb')
      obtain ⟨lG, g0, g1, g2⟩ := late18_three (gG.below hb')
      obtain ⟨lM, m0, m1, m2, m3, m4, m5, m6, m7⟩ := mk_cells (gM.below hb')
      unfold Oper.wp
      go_simp
      try go_bits
      exact hK _ _ (Below.refl _ _) (by first | rfl | (show Value.int _ _ = Value.int _ _; go_num; done) | (simp [valOf, *]; done) | (simp [valOf]; omega))
    · intro _ a' w' hb' hs hd hn Kc hK
      have f34 : a'.tmps[34]?.getD undef = .agg #[.slice (some ⟨BV, 0, none⟩) 1 1, .int .i64 3, .int .i64 0, .int .i64 0, .int .i64 0, .int .i64 0, .int .i64 0, .int .i64 1, .int .i64 5, .int .i64 0, .int .i64 0, .int .i64 0, .int .i64 0] := hd 6 34 (by first | rfl | decide | simp [Region.binds]) rfl (by decide) (by decide) rfl
      have f35 : a'.tmps[35]?.getD undef = .agg #[.slice none 0 0, .int .i64 4, .int .i64 0, .int .i64 0, .int .i64 0, .int .i64 0, .int .i64 4, .int .i64 1, .int .i64 6, .int .i64 0, .int .i64 0, .int .i64 0, .int .i64 0] := hd 7 35 (by first | rfl | decide | simp [Region.binds]) rfl (by decide) (by decide) rfl
      clear hs hd hn
      rw [if_neg (by decide), if_neg (by decide)] at hK
      obtain ⟨lA, a0, a1, a2, a3, a4, a5, a6, a7, a8, a9, a10, a11, a12⟩ := mu_cells (gA.below hb')
      obtain ⟨lB, b0, b1, b2, b3, b4, b5, b6, b7, b8, b9, b10, b11, b12⟩ := mu_cells (gB.below hb')
      obtain ⟨lH, x0, x1, x2⟩ := late18_three (gH.below hb')
      obtain ⟨lG, g0, g1, g2⟩ := late18_three (gG.below hb')
      obtain ⟨lM, m0, m1, m2, m3, m4, m5, m6, m7⟩ := mk_cells (gM.below hb')
      unfold Oper.wp
      go_simp
      exact hK _ _ ((Below.refl _ _).alloc (Nat.le_refl _) _) ⟨_, rfl, rat18 rfl (hvC.below hb') rfl⟩
    · intro _ a' w' hb' hs hd hn Kc hK
      have f36 : (RatV z18) (a'.tmps[36]?.getD undef) w' := hd 8 36 (by first | rfl | decide | simp [Region.binds]) rfl (by decide) (by decide) rfl
      clear hs hd hn
      rw [if_neg (by decide), if_neg (by decide)] at hK
      obtain ⟨lA, a0, a1, a2, a3, a4, a5, a6, a7, a8, a9, a10, a11, a12⟩ := mu_cells (gA.below hb')
      obtain ⟨lB, b0, b1, b2, b3, b4, b5, b6, b7, b8, b9, b10, b11, b12⟩ := mu_cells (gB.below hb')
      obtain ⟨lH, x0, x1, x2⟩ := late18_three (gH.below hb')
      obtain ⟨lG, g0, g1, g2⟩ := late18_three (gG.below hb')
      obtain ⟨lM, m0, m1, m2, m3, m4, m5, m6, m7⟩ := mk_cells (gM.below hb')
      obtain ⟨p8, f8, hz8⟩ := f36
      unfold Oper.wp
      go_simp
      refine Calls.mono (sheld18 hz8) ?_
      rintro e w'' ⟨v, rfl, hA, hb2⟩
      exact hK _ _ hb2 hA
    · intro _ a' w' hb' hs hd hn Kc hK
      have f4 : a'.tmps[4]?.getD undef = .slice (some ⟨BF, 0, none⟩) 4 4 := (hs 4 (by decide)).trans rfl
      clear hs hd hn
      rw [if_neg (by decide), if_neg (by decide)] at hK
      obtain ⟨lA, a0, a1, a2, a3, a4, a5, a6, a7, a8, a9, a10, a11, a12⟩ := mu_cells (gA.below hb')
      obtain ⟨lB, b0, b1, b2, b3, b4, b5, b6, b7, b8, b9, b10, b11, b12⟩ := mu_cells (gB.below hb')
      obtain ⟨lH, x0, x1, x2⟩ := late18_three (gH.below hb')
      obtain ⟨lG, g0, g1, g2⟩ := late18_three (gG.below hb')
      obtain ⟨lM, m0, m1, m2, m3, m4, m5, m6, m7⟩ := mk_cells (gM.below hb')
      unfold Oper.wp
      go_simp
      try go_bits
      exact hK _ _ (Below.refl _ _) (by first | rfl | (show Value.int _ _ = Value.int _ _; go_num; done) | (simp [valOf, *]; done) | (simp [valOf]; omega))
    · intro _ a' w' hb' hs hd hn Kc hK
      have f37 : (VlN 4 want18) (a'.tmps[37]?.getD undef) w' := hd 9 37 (by first | rfl | decide | simp [Region.binds]) rfl (by decide) (by decide) rfl
      have f38 : a'.tmps[38]?.getD undef = .slice (some ⟨BF, 0, none⟩) 4 4 := hd 10 38 (by first | rfl | decide | simp [Region.binds]) rfl (by decide) (by decide) rfl
      clear hs hd hn
      rw [if_neg (by decide), if_neg (by decide)] at hK
      obtain ⟨lA, a0, a1, a2, a3, a4, a5, a6, a7, a8, a9, a10, a11, a12⟩ := mu_cells (gA.below hb')
      obtain ⟨lB, b0, b1, b2, b3, b4, b5, b6, b7, b8, b9, b10, b11, b12⟩ := mu_cells (gB.below hb')
      obtain ⟨lH, x0, x1, x2⟩ := late18_three (gH.below hb')
      obtain ⟨lG, g0, g1, g2⟩ := late18_three (gG.below hb')
      obtain ⟨lM, m0, m1, m2, m3, m4, m5, m6, m7⟩ := mk_cells (gM.below hb')
      obtain ⟨p8, c8, f8, h8⟩ := f37
      have h9 := hvF.below hb'
      unfold Oper.wp
      go_simp
      refine Calls.mono (rvsame18 h8 h9) ?_
      rintro e w'' ⟨rfl, hb2⟩
      exact hK _ _ hb2 rfl
    · intro _ a' w' hb' hs hd hn Kc hK
      have f33 : a'.tmps[33]?.getD undef = .bool true := hd 5 33 (by first | rfl | decide | simp [Region.binds]) rfl (by decide) (by decide) rfl
      have f39 : a'.tmps[39]?.getD undef = .bool true := hd 11 39 (by first | rfl | decide | simp [Region.binds]) rfl (by decide) (by decide) rfl
      clear hs hd hn
      rw [if_neg (by decide), if_neg (by decide)] at hK
      obtain ⟨lA, a0, a1, a2, a3, a4, a5, a6, a7, a8, a9, a10, a11, a12⟩ := mu_cells (gA.below hb')
      obtain ⟨lB, b0, b1, b2, b3, b4, b5, b6, b7, b8, b9, b10, b11, b12⟩ := mu_cells (gB.below hb')
      obtain ⟨lH, x0, x1, x2⟩ := late18_three (gH.below hb')
      obtain ⟨lG, g0, g1, g2⟩ := late18_three (gG.below hb')
      obtain ⟨lM, m0, m1, m2, m3, m4, m5, m6, m7⟩ := mk_cells (gM.below hb')
      unfold Oper.wp
      go_simp
      try go_bits
      exact hK _ _ (Below.refl _ _) (by first | rfl | (show Value.int _ _ = Value.int _ _; go_num; done) | (simp [valOf, *]; done) | (simp [valOf]; omega))
    · intro _ a' w' hb' hs hd hn Kc hK
      have f40 : a'.tmps[40]?.getD undef = .bool true := hd 12 40 (by first | rfl | decide | simp [Region.binds]) rfl (by decide) (by decide) rfl
      clear hs hd hn
      rw [if_neg (by decide), if_neg (by decide)] at hK
      obtain ⟨lA, a0, a1, a2, a3, a4, a5, a6, a7, a8, a9, a10, a11, a12⟩ := mu_cells (gA.below hb')
      obtain ⟨lB, b0, b1, b2, b3, b4, b5, b6, b7, b8, b9, b10, b11, b12⟩ := mu_cells (gB.below hb')
      obtain ⟨lH, x0, x1, x2⟩ := late18_three (gH.below hb')
      obtain ⟨lG, g0, g1, g2⟩ := late18_three (gG.below hb')
      obtain ⟨lM, m0, m1, m2, m3, m4, m5, m6, m7⟩ := mk_cells (gM.below hb')
      unfold Oper.wp
      go_simp
      try go_bits
      exact hK _ _ (Below.refl _ _) (by first | rfl | (show Value.int _ _ = Value.int _ _; go_num; done) | (simp [valOf, *]; done) | (simp [valOf]; omega))
    · intro _ a' w' hb' hs hd hn Kc hK
      have f1 : a'.tmps[1]?.getD undef = .pointer (some ⟨BH, 0, none⟩) := (hs 1 (by decide)).trans rfl
      clear hs hd hn
      rw [if_neg (by decide), if_neg (by decide)] at hK
      obtain ⟨lA, a0, a1, a2, a3, a4, a5, a6, a7, a8, a9, a10, a11, a12⟩ := mu_cells (gA.below hb')
      obtain ⟨lB, b0, b1, b2, b3, b4, b5, b6, b7, b8, b9, b10, b11, b12⟩ := mu_cells (gB.below hb')
      obtain ⟨lH, x0, x1, x2⟩ := late18_three (gH.below hb')
      obtain ⟨lG, g0, g1, g2⟩ := late18_three (gG.below hb')
      obtain ⟨lM, m0, m1, m2, m3, m4, m5, m6, m7⟩ := mk_cells (gM.below hb')
      unfold Oper.wp
      go_simp
      try go_bits
      exact hK _ _ (Below.refl _ _) (by first | rfl | (show Value.int _ _ = Value.int _ _; go_num; done) | (simp [valOf, *]; done) | (simp [valOf]; omega))
    · intro _ a' w' hb' hs hd hn Kc hK
      have f2 : a'.tmps[2]?.getD undef = .pointer (some ⟨BA, 0, none⟩) := (hs 2 (by decide)).trans rfl
      clear hs hd hn
      rw [if_neg (by decide), if_neg (by decide)] at hK
      obtain ⟨lA, a0, a1, a2, a3, a4, a5, a6, a7, a8, a9, a10, a11, a12⟩ := mu_cells (gA.below hb')
      obtain ⟨lB, b0, b1, b2, b3, b4, b5, b6, b7, b8, b9, b10, b11, b12⟩ := mu_cells (gB.below hb')
      obtain ⟨lH, x0, x1, x2⟩ := late18_three (gH.below hb')
      obtain ⟨lG, g0, g1, g2⟩ := late18_three (gG.below hb')
      obtain ⟨lM, m0, m1, m2, m3, m4, m5, m6, m7⟩ := mk_cells (gM.below hb')
      unfold Oper.wp
      go_simp
      try go_bits
      exact hK _ _ (Below.refl _ _) (by first | rfl | (show Value.int _ _ = Value.int _ _; go_num; done) | (simp [valOf, *]; done) | (simp [valOf]; omega))
    · intro _ a' w' hb' hs hd hn Kc hK
      have f3 : a'.tmps[3]?.getD undef = .pointer (some ⟨BB, 0, none⟩) := (hs 3 (by decide)).trans rfl
      clear hs hd hn
      rw [if_neg (by decide), if_neg (by decide)] at hK
      obtain ⟨lA, a0, a1, a2, a3, a4, a5, a6, a7, a8, a9, a10, a11, a12⟩ := mu_cells (gA.below hb')
      obtain ⟨lB, b0, b1, b2, b3, b4, b5, b6, b7, b8, b9, b10, b11, b12⟩ := mu_cells (gB.below hb')
      obtain ⟨lH, x0, x1, x2⟩ := late18_three (gH.below hb')
      obtain ⟨lG, g0, g1, g2⟩ := late18_three (gG.below hb')
      obtain ⟨lM, m0, m1, m2, m3, m4, m5, m6, m7⟩ := mk_cells (gM.below hb')
      unfold Oper.wp
      go_simp
      try go_bits
      exact hK _ _ (Below.refl _ _) (by first | rfl | (show Value.int _ _ = Value.int _ _; go_num; done) | (simp [valOf, *]; done) | (simp [valOf]; omega))
    · intro _ a' w' hb' hs hd hn Kc hK
      have f43 : a'.tmps[43]?.getD undef = .agg #[.slice (some ⟨BV, 0, none⟩) 1 1, .int .i64 3, .int .i64 0, .int .i64 0, .int .i64 0, .int .i64 0, .int .i64 0, .int .i64 1, .int .i64 5, .int .i64 0, .int .i64 0, .int .i64 0, .int .i64 0] := hd 15 43 (by first | rfl | decide | simp [Region.binds]) rfl (by decide) (by decide) rfl
      have f44 : a'.tmps[44]?.getD undef = .agg #[.slice none 0 0, .int .i64 4, .int .i64 0, .int .i64 0, .int .i64 0, .int .i64 0, .int .i64 4, .int .i64 1, .int .i64 6, .int .i64 0, .int .i64 0, .int .i64 0, .int .i64 0] := hd 16 44 (by first | rfl | decide | simp [Region.binds]) rfl (by decide) (by decide) rfl
      clear hs hd hn
      rw [if_neg (by decide), if_neg (by decide)] at hK
      obtain ⟨lA, a0, a1, a2, a3, a4, a5, a6, a7, a8, a9, a10, a11, a12⟩ := mu_cells (gA.below hb')
      obtain ⟨lB, b0, b1, b2, b3, b4, b5, b6, b7, b8, b9, b10, b11, b12⟩ := mu_cells (gB.below hb')
      obtain ⟨lH, x0, x1, x2⟩ := late18_three (gH.below hb')
      obtain ⟨lG, g0, g1, g2⟩ := late18_three (gG.below hb')
      obtain ⟨lM, m0, m1, m2, m3, m4, m5, m6, m7⟩ := mk_cells (gM.below hb')
      unfold Oper.wp
      go_simp
      exact hK _ _ ((Below.refl _ _).alloc (Nat.le_refl _) _) ⟨_, rfl, rat18 rfl (hvC.below hb') rfl⟩
    · intro _ a' w' hb' hs hd hn Kc hK
      have f42 : a'.tmps[42]?.getD undef = .agg #[.slice p 32 c, .slice q 1 d, .bool false] := hd 14 42 (by first | rfl | decide | simp [Region.binds]) rfl (by decide) (by decide) rfl
      have f45 : (RatV z18) (a'.tmps[45]?.getD undef) w' := hd 17 45 (by first | rfl | decide | simp [Region.binds]) rfl (by decide) (by decide) rfl
      clear hs hd hn
      rw [if_neg (by decide), if_neg (by decide)] at hK
      obtain ⟨lA, a0, a1, a2, a3, a4, a5, a6, a7, a8, a9, a10, a11, a12⟩ := mu_cells (gA.below hb')
      obtain ⟨lB, b0, b1, b2, b3, b4, b5, b6, b7, b8, b9, b10, b11, b12⟩ := mu_cells (gB.below hb')
      obtain ⟨lH, x0, x1, x2⟩ := late18_three (gH.below hb')
      obtain ⟨lG, g0, g1, g2⟩ := late18_three (gG.below hb')
      obtain ⟨lM, m0, m1, m2, m3, m4, m5, m6, m7⟩ := mk_cells (gM.below hb')
      obtain ⟨p8, f8, hz8⟩ := f45
      unfold Oper.wp
      go_simp
      refine Calls.mono (spend18 (hS.below (hbZ.trans (hb'.mono hbZ.size))) (by rw [hHH]; exact hh.below hb') hz8) ?_
      rintro e w'' ⟨v, rfl, hA, hb2⟩
      exact hK _ _ hb2 hA
    · intro _ a' w' hb' hs hd hn Kc hK
      clear hs hd hn
      rw [if_neg (by decide), if_neg (by decide)] at hK
      obtain ⟨lA, a0, a1, a2, a3, a4, a5, a6, a7, a8, a9, a10, a11, a12⟩ := mu_cells (gA.below hb')
      obtain ⟨lB, b0, b1, b2, b3, b4, b5, b6, b7, b8, b9, b10, b11, b12⟩ := mu_cells (gB.below hb')
      obtain ⟨lH, x0, x1, x2⟩ := late18_three (gH.below hb')
      obtain ⟨lG, g0, g1, g2⟩ := late18_three (gG.below hb')
      obtain ⟨lM, m0, m1, m2, m3, m4, m5, m6, m7⟩ := mk_cells (gM.below hb')
      unfold Oper.wp
      go_simp
      try go_bits
      exact hK _ _ (Below.refl _ _) (by first | rfl | (show Value.int _ _ = Value.int _ _; go_num; done) | (simp [valOf, *]; done) | (simp [valOf]; omega))
    · intro _ a' w' hb' hs hd hn Kc hK
      have f47 : a'.tmps[47]?.getD undef = .agg #[.int .i64 0, .int .i64 0] := hd 19 47 (by first | rfl | decide | simp [Region.binds]) rfl (by decide) (by decide) rfl
      clear hs hd hn
      rw [if_neg (by decide), if_neg (by decide)] at hK
      obtain ⟨lA, a0, a1, a2, a3, a4, a5, a6, a7, a8, a9, a10, a11, a12⟩ := mu_cells (gA.below hb')
      obtain ⟨lB, b0, b1, b2, b3, b4, b5, b6, b7, b8, b9, b10, b11, b12⟩ := mu_cells (gB.below hb')
      obtain ⟨lH, x0, x1, x2⟩ := late18_three (gH.below hb')
      obtain ⟨lG, g0, g1, g2⟩ := late18_three (gG.below hb')
      obtain ⟨lM, m0, m1, m2, m3, m4, m5, m6, m7⟩ := mk_cells (gM.below hb')
      unfold Oper.wp
      go_simp
      exact hK _ _ ((Below.refl _ _).alloc (Nat.le_refl _) _) ⟨_, _, rfl, va_new (L := [⟨0, 0⟩]) rfl rfl (by decide) wf00⟩
    · intro _ a' w' hb' hs hd hn Kc hK
      have f46 : (VlN 1 [⟨0, 0⟩]) (a'.tmps[46]?.getD undef) w' := hd 18 46 (by first | rfl | decide | simp [Region.binds]) rfl (by decide) (by decide) rfl
      have f48 : (VlN 1 [⟨0, 0⟩]) (a'.tmps[48]?.getD undef) w' := hd 20 48 (by first | rfl | decide | simp [Region.binds]) rfl (by decide) (by decide) rfl
      clear hs hd hn
      rw [if_neg (by decide), if_neg (by decide)] at hK
      obtain ⟨lA, a0, a1, a2, a3, a4, a5, a6, a7, a8, a9, a10, a11, a12⟩ := mu_cells (gA.below hb')
      obtain ⟨lB, b0, b1, b2, b3, b4, b5, b6, b7, b8, b9, b10, b11, b12⟩ := mu_cells (gB.below hb')
      obtain ⟨lH, x0, x1, x2⟩ := late18_three (gH.below hb')
      obtain ⟨lG, g0, g1, g2⟩ := late18_three (gG.below hb')
      obtain ⟨lM, m0, m1, m2, m3, m4, m5, m6, m7⟩ := mk_cells (gM.below hb')
      obtain ⟨p8, c8, f8, h8⟩ := f46
      obtain ⟨p9, c9, f9, h9⟩ := f48
      unfold Oper.wp
      go_simp
      refine Calls.mono (rvsame18 h8 h9) ?_
      rintro e w'' ⟨rfl, hb2⟩
      exact hK _ _ hb2 rfl
    · intro _ a' w' hb' hs hd hn Kc hK
      have f41 : a'.tmps[41]?.getD undef = .bool true := hd 13 41 (by first | rfl | decide | simp [Region.binds]) rfl (by decide) (by decide) rfl
      have f49 : a'.tmps[49]?.getD undef = .bool true := hd 21 49 (by first | rfl | decide | simp [Region.binds]) rfl (by decide) (by decide) rfl
      clear hs hd hn
      rw [if_neg (by decide), if_neg (by decide)] at hK
      obtain ⟨lA, a0, a1, a2, a3, a4, a5, a6, a7, a8, a9, a10, a11, a12⟩ := mu_cells (gA.below hb')
      obtain ⟨lB, b0, b1, b2, b3, b4, b5, b6, b7, b8, b9, b10, b11, b12⟩ := mu_cells (gB.below hb')
      obtain ⟨lH, x0, x1, x2⟩ := late18_three (gH.below hb')
      obtain ⟨lG, g0, g1, g2⟩ := late18_three (gG.below hb')
      obtain ⟨lM, m0, m1, m2, m3, m4, m5, m6, m7⟩ := mk_cells (gM.below hb')
      unfold Oper.wp
      go_simp
      try go_bits
      exact hK _ _ (Below.refl _ _) (by first | rfl | (show Value.int _ _ = Value.int _ _; go_num; done) | (simp [valOf, *]; done) | (simp [valOf]; omega))
    · intro _ a' w' hb' hs hd hn Kc hK
      have f50 : a'.tmps[50]?.getD undef = .bool true := hd 22 50 (by first | rfl | decide | simp [Region.binds]) rfl (by decide) (by decide) rfl
      clear hs hd hn
      rw [if_neg (by decide), if_neg (by decide)] at hK
      obtain ⟨lA, a0, a1, a2, a3, a4, a5, a6, a7, a8, a9, a10, a11, a12⟩ := mu_cells (gA.below hb')
      obtain ⟨lB, b0, b1, b2, b3, b4, b5, b6, b7, b8, b9, b10, b11, b12⟩ := mu_cells (gB.below hb')
      obtain ⟨lH, x0, x1, x2⟩ := late18_three (gH.below hb')
      obtain ⟨lG, g0, g1, g2⟩ := late18_three (gG.below hb')
      obtain ⟨lM, m0, m1, m2, m3, m4, m5, m6, m7⟩ := mk_cells (gM.below hb')
      unfold Oper.wp
      go_simp
      try go_bits
      exact hK _ _ (Below.refl _ _) (by first | rfl | (show Value.int _ _ = Value.int _ _; go_num; done) | (simp [valOf, *]; done) | (simp [valOf]; omega))
    · intro _ a' w' hb' hs hd hn Kc hK
      have f5 : a'.tmps[5]?.getD undef = .pointer (some ⟨BG, 0, none⟩) := (hs 5 (by decide)).trans rfl
      clear hs hd hn
      rw [if_neg (by decide), if_neg (by decide)] at hK
      obtain ⟨lA, a0, a1, a2, a3, a4, a5, a6, a7, a8, a9, a10, a11, a12⟩ := mu_cells (gA.below hb')
      obtain ⟨lB, b0, b1, b2, b3, b4, b5, b6, b7, b8, b9, b10, b11, b12⟩ := mu_cells (gB.below hb')
      obtain ⟨lH, x0, x1, x2⟩ := late18_three (gH.below hb')
      obtain ⟨lG, g0, g1, g2⟩ := late18_three (gG.below hb')
      obtain ⟨lM, m0, m1, m2, m3, m4, m5, m6, m7⟩ := mk_cells (gM.below hb')
      unfold Oper.wp
      go_simp
      try go_bits
      exact hK _ _ (Below.refl _ _) (by first | rfl | (show Value.int _ _ = Value.int _ _; go_num; done) | (simp [valOf, *]; done) | (simp [valOf]; omega))
    · intro _ a' w' hb' hs hd hn Kc hK
      have f52 : a'.tmps[52]?.getD undef = .pointer (some ⟨BG, 2, none⟩) := hd 24 52 (by first | rfl | decide | simp [Region.binds]) rfl (by decide) (by decide) rfl
      clear hs hd hn
      rw [if_neg (by decide), if_neg (by decide)] at hK
      obtain ⟨lA, a0, a1, a2, a3, a4, a5, a6, a7, a8, a9, a10, a11, a12⟩ := mu_cells (gA.below hb')
      obtain ⟨lB, b0, b1, b2, b3, b4, b5, b6, b7, b8, b9, b10, b11, b12⟩ := mu_cells (gB.below hb')
      obtain ⟨lH, x0, x1, x2⟩ := late18_three (gH.below hb')
      obtain ⟨lG, g0, g1, g2⟩ := late18_three (gG.below hb')
      obtain ⟨lM, m0, m1, m2, m3, m4, m5, m6, m7⟩ := mk_cells (gM.below hb')
      unfold Oper.wp
      go_simp
      try go_bits
      exact hK _ _ (Below.refl _ _) (by first | rfl | (show Value.int _ _ = Value.int _ _; go_num; done) | (simp [valOf, *]; done) | (simp [valOf]; omega))
    · intro _ a' w' hb' hs hd hn Kc hK
      have f51 : a'.tmps[51]?.getD undef = .bool true := hd 23 51 (by first | rfl | decide | simp [Region.binds]) rfl (by decide) (by decide) rfl
      have f53 : a'.tmps[53]?.getD undef = .bool true := hd 25 53 (by first | rfl | decide | simp [Region.binds]) rfl (by decide) (by decide) rfl
      clear hs hd hn
      rw [if_neg (by decide), if_neg (by decide)] at hK
      obtain ⟨lA, a0, a1, a2, a3, a4, a5, a6, a7, a8, a9, a10, a11, a12⟩ := mu_cells (gA.below hb')
      obtain ⟨lB, b0, b1, b2, b3, b4, b5, b6, b7, b8, b9, b10, b11, b12⟩ := mu_cells (gB.below hb')
      obtain ⟨lH, x0, x1, x2⟩ := late18_three (gH.below hb')
      obtain ⟨lG, g0, g1, g2⟩ := late18_three (gG.below hb')
      obtain ⟨lM, m0, m1, m2, m3, m4, m5, m6, m7⟩ := mk_cells (gM.below hb')
      unfold Oper.wp
      go_simp
      try go_bits
      exact hK _ _ (Below.refl _ _) (by first | rfl | (show Value.int _ _ = Value.int _ _; go_num; done) | (simp [valOf, *]; done) | (simp [valOf]; omega))
    · intro _ a' w' hb' hs hd hn Kc hK
      have f54 : a'.tmps[54]?.getD undef = .bool true := hd 26 54 (by first | rfl | decide | simp [Region.binds]) rfl (by decide) (by decide) rfl
      clear hs hd hn
      rw [if_neg (by decide), if_neg (by decide)] at hK
      obtain ⟨lA, a0, a1, a2, a3, a4, a5, a6, a7, a8, a9, a10, a11, a12⟩ := mu_cells (gA.below hb')
      obtain ⟨lB, b0, b1, b2, b3, b4, b5, b6, b7, b8, b9, b10, b11, b12⟩ := mu_cells (gB.below hb')
      obtain ⟨lH, x0, x1, x2⟩ := late18_three (gH.below hb')
      obtain ⟨lG, g0, g1, g2⟩ := late18_three (gG.below hb')
      obtain ⟨lM, m0, m1, m2, m3, m4, m5, m6, m7⟩ := mk_cells (gM.below hb')
      unfold Oper.wp
      go_simp
      try go_bits
      exact hK _ _ (Below.refl _ _) (by first | rfl | (show Value.int _ _ = Value.int _ _; go_num; done) | (simp [valOf, *]; done) | (simp [valOf]; omega))
    · intro _ a' w' hb' hs hd hn Kc hK
      have f6 : a'.tmps[6]?.getD undef = .pointer (some ⟨BG + 1, 0, none⟩) := (hs 6 (by decide)).trans rfl
      clear hs hd hn
      rw [if_neg (by decide), if_neg (by decide)] at hK
      obtain ⟨lA, a0, a1, a2, a3, a4, a5, a6, a7, a8, a9, a10, a11, a12⟩ := mu_cells (gA.below hb')
      obtain ⟨lB, b0, b1, b2, b3, b4, b5, b6, b7, b8, b9, b10, b11, b12⟩ := mu_cells (gB.below hb')
      obtain ⟨lH, x0, x1, x2⟩ := late18_three (gH.below hb')
      obtain ⟨lG, g0, g1, g2⟩ := late18_three (gG.below hb')
      obtain ⟨lM, m0, m1, m2, m3, m4, m5, m6, m7⟩ := mk_cells (gM.below hb')
      unfold Oper.wp
      go_simp
      try go_bits
      exact hK _ _ (Below.refl _ _) (by first | rfl | (show Value.int _ _ = Value.int _ _; go_num; done) | (simp [valOf, *]; done) | (simp [valOf]; omega))
    · intro _ a' w' hb' hs hd hn Kc hK
      have f56 : a'.tmps[56]?.getD undef = .pointer (some ⟨BG + 1, 3, none⟩) := hd 28 56 (by first | rfl | decide | simp [Region.binds]) rfl (by decide) (by decide) rfl
      clear hs hd hn
      rw [if_neg (by decide), if_neg (by decide)] at hK
      obtain ⟨lA, a0, a1, a2, a3, a4, a5, a6, a7, a8, a9, a10, a11, a12⟩ := mu_cells (gA.below hb')
      obtain ⟨lB, b0, b1, b2, b3, b4, b5, b6, b7, b8, b9, b10, b11, b12⟩ := mu_cells (gB.below hb')
      obtain ⟨lH, x0, x1, x2⟩ := late18_three (gH.below hb')
      obtain ⟨lG, g0, g1, g2⟩ := late18_three (gG.below hb')
      obtain ⟨lM, m0, m1, m2, m3, m4, m5, m6, m7⟩ := mk_cells (gM.below hb')
      unfold Oper.wp
      go_simp
      try go_bits
      exact hK _ _ (Below.refl _ _) (by first | rfl | (show Value.int _ _ = Value.int _ _; go_num; done) | (simp [valOf, *]; done) | (simp [valOf]; omega))
    · intro _ a' w' hb' hs hd hn Kc hK
      have f4 : a'.tmps[4]?.getD undef = .slice (some ⟨BF, 0, none⟩) 4 4 := (hs 4 (by decide)).trans rfl
      clear hs hd hn
      rw [if_neg (by decide), if_neg (by decide)] at hK
      obtain ⟨lA, a0, a1, a2, a3, a4, a5, a6, a7, a8, a9, a10, a11, a12⟩ := mu_cells (gA.below hb')
      obtain ⟨lB, b0, b1, b2, b3, b4, b5, b6, b7, b8, b9, b10, b11, b12⟩ := mu_cells (gB.below hb')
      obtain ⟨lH, x0, x1, x2⟩ := late18_three (gH.below hb')
      obtain ⟨lG, g0, g1, g2⟩ := late18_three (gG.below hb')
      obtain ⟨lM, m0, m1, m2, m3, m4, m5, m6, m7⟩ := mk_cells (gM.below hb')
      unfold Oper.wp
      go_simp
      try go_bits
      exact hK _ _ (Below.refl _ _) (by first | rfl | (show Value.int _ _ = Value.int _ _; go_num; done) | (simp [valOf, *]; done) | (simp [valOf]; omega))
    · intro _ a' w' hb' hs hd hn Kc hK
      clear hs hd hn
      rw [if_neg (by decide), if_neg (by decide)] at hK
      obtain ⟨lA, a0, a1, a2, a3, a4, a5, a6, a7, a8, a9, a10, a11, a12⟩ := mu_cells (gA.below hb')
      obtain ⟨lB, b0, b1, b2, b3, b4, b5, b6, b7, b8, b9, b10, b11, b12⟩ := mu_cells (gB.below hb')
      obtain ⟨lH, x0, x1, x2⟩ := late18_three (gH.below hb')
      obtain ⟨lG, g0, g1, g2⟩ := late18_three (gG.below hb')
      obtain ⟨lM, m0, m1, m2, m3, m4, m5, m6, m7⟩ := mk_cells (gM.below hb')
      unfold Oper.wp
      go_simp
      try go_bits
      exact hK _ _ (Below.refl _ _) (by first | rfl | (show Value.int _ _ = Value.int _ _; go_num; done) | (simp [valOf, *]; done) | (simp [valOf]; omega))
    · intro _ a' w' hb' hs hd hn Kc hK
      have f59 : a'.tmps[59]?.getD undef = .agg #[.int .i64 0, .int .i64 0] := hd 31 59 (by first | rfl | decide | simp [Region.binds]) rfl (by decide) (by decide) rfl
      clear hs hd hn
      rw [if_neg (by decide), if_neg (by decide)] at hK
      obtain ⟨lA, a0, a1, a2, a3, a4, a5, a6, a7, a8, a9, a10, a11, a12⟩ := mu_cells (gA.below hb')
      obtain ⟨lB, b0, b1, b2, b3, b4, b5, b6, b7, b8, b9, b10, b11, b12⟩ := mu_cells (gB.below hb')
      obtain ⟨lH, x0, x1, x2⟩ := late18_three (gH.below hb')
      obtain ⟨lG, g0, g1, g2⟩ := late18_three (gG.below hb')
      obtain ⟨lM, m0, m1, m2, m3, m4, m5, m6, m7⟩ := mk_cells (gM.below hb')
      unfold Oper.wp
      go_simp
      exact hK _ _ ((Below.refl _ _).alloc (Nat.le_refl _) _) ⟨_, _, rfl, va_new (L := [⟨0, 0⟩]) rfl rfl (by decide) wf00⟩
    · intro _ a' w' hb' hs hd hn Kc hK
      have f58 : a'.tmps[58]?.getD undef = .slice (some ⟨BF, 0, none⟩) 4 4 := hd 30 58 (by first | rfl | decide | simp [Region.binds]) rfl (by decide) (by decide) rfl
      have f60 : (VlN 1 [⟨0, 0⟩]) (a'.tmps[60]?.getD undef) w' := hd 32 60 (by first | rfl | decide | simp [Region.binds]) rfl (by decide) (by decide) rfl
      clear hs hd hn
      rw [if_neg (by decide), if_neg (by decide)] at hK
      obtain ⟨lA, a0, a1, a2, a3, a4, a5, a6, a7, a8, a9, a10, a11, a12⟩ := mu_cells (gA.below hb')
      obtain ⟨lB, b0, b1, b2, b3, b4, b5, b6, b7, b8, b9, b10, b11, b12⟩ := mu_cells (gB.below hb')
      obtain ⟨lH, x0, x1, x2⟩ := late18_three (gH.below hb')
      obtain ⟨lG, g0, g1, g2⟩ := late18_three (gG.below hb')
      obtain ⟨lM, m0, m1, m2, m3, m4, m5, m6, m7⟩ := mk_cells (gM.below hb')
      obtain ⟨p9, c9, f9, h9⟩ := f60
      have h8 := hvF.below hb'
      exact append18 hq0 hq1 hq2 hq3 h8 h9 f58 f9 hK
    · intro _ a' w' hb' hs hd hn Kc hK
      have f57 : a'.tmps[57]?.getD undef = .slice pr 5 cr := hd 29 57 (by first | rfl | decide | simp [Region.binds]) rfl (by decide) (by decide) rfl
      have f61 : (VlN 5 (want18 ++ [⟨0, 0⟩])) (a'.tmps[61]?.getD undef) w' := hd 33 61 (by first | rfl | decide | simp [Region.binds]) rfl (by decide) (by decide) rfl
      clear hs hd hn
      rw [if_neg (by decide), if_neg (by decide)] at hK
      obtain ⟨lA, a0, a1, a2, a3, a4, a5, a6, a7, a8, a9, a10, a11, a12⟩ := mu_cells (gA.below hb')
      obtain ⟨lB, b0, b1, b2, b3, b4, b5, b6, b7, b8, b9, b10, b11, b12⟩ := mu_cells (gB.below hb')
      obtain ⟨lH, x0, x1, x2⟩ := late18_three (gH.below hb')
      obtain ⟨lG, g0, g1, g2⟩ := late18_three (gG.below hb')
      obtain ⟨lM, m0, m1, m2, m3, m4, m5, m6, m7⟩ := mk_cells (gM.below hb')
      obtain ⟨p9, c9, f9, h9⟩ := f61
      have h8 := hR.below hb'
      unfold Oper.wp
      go_simp
      refine Calls.mono (rvsame18 h8 h9) ?_
      rintro e w'' ⟨rfl, hb2⟩
      exact hK _ _ hb2 rfl
    · intro _ a' w' hb' hs hd hn Kc hK
      have f55 : a'.tmps[55]?.getD undef = .bool true := hd 27 55 (by first | rfl | decide | simp [Region.binds]) rfl (by decide) (by decide) rfl
      have f62 : a'.tmps[62]?.getD undef = .bool true := hd 34 62 (by first | rfl | decide | simp [Region.binds]) rfl (by decide) (by decide) rfl
      clear hs hd hn
      rw [if_neg (by decide), if_neg (by decide)] at hK
      obtain ⟨lA, a0, a1, a2, a3, a4, a5, a6, a7, a8, a9, a10, a11, a12⟩ := mu_cells (gA.below hb')
      obtain ⟨lB, b0, b1, b2, b3, b4, b5, b6, b7, b8, b9, b10, b11, b12⟩ := mu_cells (gB.below hb')
      obtain ⟨lH, x0, x1, x2⟩ := late18_three (gH.below hb')
      obtain ⟨lG, g0, g1, g2⟩ := late18_three (gG.below hb')
      obtain ⟨lM, m0, m1, m2, m3, m4, m5, m6, m7⟩ := mk_cells (gM.below hb')
      unfold Oper.wp
      go_simp
      try go_bits
      exact hK _ _ (Below.refl _ _) (by first | rfl | (show Value.int _ _ = Value.int _ _; go_num; done) | (simp [valOf, *]; done) | (simp [valOf]; omega))
    · intro _ a' w' hb' hs hd hn Kc hK
      have f63 : a'.tmps[63]?.getD undef = .bool true := hd 35 63 (by first | rfl | decide | simp [Region.binds]) rfl (by decide) (by decide) rfl
      clear hs hd hn
      rw [if_neg (by decide), if_neg (by decide)] at hK
      obtain ⟨lA, a0, a1, a2, a3, a4, a5, a6, a7, a8, a9, a10, a11, a12⟩ := mu_cells (gA.below hb')
      obtain ⟨lB, b0, b1, b2, b3, b4, b5, b6, b7, b8, b9, b10, b11, b12⟩ := mu_cells (gB.below hb')
      obtain ⟨lH, x0, x1, x2⟩ := late18_three (gH.below hb')
      obtain ⟨lG, g0, g1, g2⟩ := late18_three (gG.below hb')
      obtain ⟨lM, m0, m1, m2, m3, m4, m5, m6, m7⟩ := mk_cells (gM.below hb')
      unfold Oper.wp
      go_simp
      try go_bits
      exact hK _ _ (Below.refl _ _) (by first | rfl | (show Value.int _ _ = Value.int _ _; go_num; done) | (simp [valOf, *]; done) | (simp [valOf]; omega))
    · intro _ a' w' hb' hs hd hn Kc hK
      have f6 : a'.tmps[6]?.getD undef = .pointer (some ⟨BG + 1, 0, none⟩) := (hs 6 (by decide)).trans rfl
      clear hs hd hn
      rw [if_neg (by decide), if_neg (by decide)] at hK
      obtain ⟨lA, a0, a1, a2, a3, a4, a5, a6, a7, a8, a9, a10, a11, a12⟩ := mu_cells (gA.below hb')
      obtain ⟨lB, b0, b1, b2, b3, b4, b5, b6, b7, b8, b9, b10, b11, b12⟩ := mu_cells (gB.below hb')
      obtain ⟨lH, x0, x1, x2⟩ := late18_three (gH.below hb')
      obtain ⟨lG, g0, g1, g2⟩ := late18_three (gG.below hb')
      obtain ⟨lM, m0, m1, m2, m3, m4, m5, m6, m7⟩ := mk_cells (gM.below hb')
      unfold Oper.wp
      go_simp
      try go_bits
      exact hK _ _ (Below.refl _ _) (by first | rfl | (show Value.int _ _ = Value.int _ _; go_num; done) | (simp [valOf, *]; done) | (simp [valOf]; omega))
    · intro _ a' w' hb' hs hd hn Kc hK
      have f65 : a'.tmps[65]?.getD undef = .pointer (some ⟨BG + 1, 2, none⟩) := hd 37 65 (by first | rfl | decide | simp [Region.binds]) rfl (by decide) (by decide) rfl
      clear hs hd hn
      rw [if_neg (by decide), if_neg (by decide)] at hK
      obtain ⟨lA, a0, a1, a2, a3, a4, a5, a6, a7, a8, a9, a10, a11, a12⟩ := mu_cells (gA.below hb')
      obtain ⟨lB, b0, b1, b2, b3, b4, b5, b6, b7, b8, b9, b10, b11, b12⟩ := mu_cells (gB.below hb')
      obtain ⟨lH, x0, x1, x2⟩ := late18_three (gH.below hb')
      obtain ⟨lG, g0, g1, g2⟩ := late18_three (gG.below hb')
      obtain ⟨lM, m0, m1, m2, m3, m4, m5, m6, m7⟩ := mk_cells (gM.below hb')
      unfold Oper.wp
      go_simp
      try go_bits
      exact hK _ _ (Below.refl _ _) (by first | rfl | (show Value.int _ _ = Value.int _ _; go_num; done) | (simp [valOf, *]; done) | (simp [valOf]; omega))
    · intro _ a' w' hb' hs hd hn Kc hK
      have f66 : a'.tmps[66]?.getD undef = .slice pb 2 cb := hd 38 66 (by first | rfl | decide | simp [Region.binds]) rfl (by decide) (by decide) rfl
      clear hs hd hn
      rw [if_neg (by decide), if_neg (by decide)] at hK
      obtain ⟨lA, a0, a1, a2, a3, a4, a5, a6, a7, a8, a9, a10, a11, a12⟩ := mu_cells (gA.below hb')
      obtain ⟨lB, b0, b1, b2, b3, b4, b5, b6, b7, b8, b9, b10, b11, b12⟩ := mu_cells (gB.below hb')
      obtain ⟨lH, x0, x1, x2⟩ := late18_three (gH.below hb')
      obtain ⟨lG, g0, g1, g2⟩ := late18_three (gG.below hb')
      obtain ⟨lM, m0, m1, m2, m3, m4, m5, m6, m7⟩ := mk_cells (gM.below hb')
      unfold Oper.wp
      go_simp
      try go_bits
      exact hK _ _ (Below.refl _ _) (by first | rfl | (show Value.int _ _ = Value.int _ _; go_num; done) | (simp [valOf, *]; done) | (simp [valOf]; omega))
    · intro _ a' w' hb' hs hd hn Kc hK
      have f67 : a'.tmps[67]?.getD undef = .int .i64 2 := hd 39 67 (by first | rfl | decide | simp [Region.binds]) rfl (by decide) (by decide) rfl
      clear hs hd hn
      rw [if_neg (by decide), if_neg (by decide)] at hK
      obtain ⟨lA, a0, a1, a2, a3, a4, a5, a6, a7, a8, a9, a10, a11, a12⟩ := mu_cells (gA.below hb')
      obtain ⟨lB, b0, b1, b2, b3, b4, b5, b6, b7, b8, b9, b10, b11, b12⟩ := mu_cells (gB.below hb')
      obtain ⟨lH, x0, x1, x2⟩ := late18_three (gH.below hb')
      obtain ⟨lG, g0, g1, g2⟩ := late18_three (gG.below hb')
      obtain ⟨lM, m0, m1, m2, m3, m4, m5, m6, m7⟩ := mk_cells (gM.below hb')
      unfold Oper.wp
      go_simp
      try go_bits
      exact hK _ _ (Below.refl _ _) (by first | rfl | (show Value.int _ _ = Value.int _ _; go_num; done) | (simp [valOf, *]; done) | (simp [valOf]; omega))
    · intro _ a' w' hb' hs hd hn Kc hK
      have f64 : a'.tmps[64]?.getD undef = .bool true := hd 36 64 (by first | rfl | decide | simp [Region.binds]) rfl (by decide) (by decide) rfl
      have f68 : a'.tmps[68]?.getD undef = .bool true := hd 40 68 (by first | rfl | decide | simp [Region.binds]) rfl (by decide) (by decide) rfl
      clear hs hd hn
      rw [if_neg (by decide), if_neg (by decide)] at hK
      obtain ⟨lA, a0, a1, a2, a3, a4, a5, a6, a7, a8, a9, a10, a11, a12⟩ := mu_cells (gA.below hb')
      obtain ⟨lB, b0, b1, b2, b3, b4, b5, b6, b7, b8, b9, b10, b11, b12⟩ := mu_cells (gB.below hb')
      obtain ⟨lH, x0, x1, x2⟩ := late18_three (gH.below hb')
      obtain ⟨lG, g0, g1, g2⟩ := late18_three (gG.below hb')
      obtain ⟨lM, m0, m1, m2, m3, m4, m5, m6, m7⟩ := mk_cells (gM.below hb')
      unfold Oper.wp
      go_simp
      try go_bits
      exact hK _ _ (Below.refl _ _) (by first | rfl | (show Value.int _ _ = Value.int _ _; go_num; done) | (simp [valOf, *]; done) | (simp [valOf]; omega))
    · intro _ a' w' hb' hs hd hn Kc hK
      have f69 : a'.tmps[69]?.getD undef = .bool true := hd 41 69 (by first | rfl | decide | simp [Region.binds]) rfl (by decide) (by decide) rfl
      clear hs hd hn
      rw [if_neg (by decide), if_neg (by decide)] at hK
      obtain ⟨lA, a0, a1, a2, a3, a4, a5, a6, a7, a8, a9, a10, a11, a12⟩ := mu_cells (gA.below hb')
      obtain ⟨lB, b0, b1, b2, b3, b4, b5, b6, b7, b8, b9, b10, b11, b12⟩ := mu_cells (gB.below hb')
      obtain ⟨lH, x0, x1, x2⟩ := late18_three (gH.below hb')
      obtain ⟨lG, g0, g1, g2⟩ := late18_three (gG.below hb')
      obtain ⟨lM, m0, m1, m2, m3, m4, m5, m6, m7⟩ := mk_cells (gM.below hb')
      unfold Oper.wp
      go_simp
      try go_bits
      exact hK _ _ (Below.refl _ _) (by first | rfl | (show Value.int _ _ = Value.int _ _; go_num; done) | (simp [valOf, *]; done) | (simp [valOf]; omega))
    · intro _ a' w' hb' hs hd hn Kc hK
      have f6 : a'.tmps[6]?.getD undef = .pointer (some ⟨BG + 1, 0, none⟩) := (hs 6 (by decide)).trans rfl
      clear hs hd hn
      rw [if_neg (by decide), if_neg (by decide)] at hK
      obtain ⟨lA, a0, a1, a2, a3, a4, a5, a6, a7, a8, a9, a10, a11, a12⟩ := mu_cells (gA.below hb')
      obtain ⟨lB, b0, b1, b2, b3, b4, b5, b6, b7, b8, b9, b10, b11, b12⟩ := mu_cells (gB.below hb')
      obtain ⟨lH, x0, x1, x2⟩ := late18_three (gH.below hb')
      obtain ⟨lG, g0, g1, g2⟩ := late18_three (gG.below hb')
      obtain ⟨lM, m0, m1, m2, m3, m4, m5, m6, m7⟩ := mk_cells (gM.below hb')
      unfold Oper.wp
      go_simp
      try go_bits
      exact hK _ _ (Below.refl _ _) (by first | rfl | (show Value.int _ _ = Value.int _ _; go_num; done) | (simp [valOf, *]; done) | (simp [valOf]; omega))
    · intro _ a' w' hb' hs hd hn Kc hK
      have f71 : a'.tmps[71]?.getD undef = .pointer (some ⟨BG + 1, 0, none⟩) := hd 43 71 (by first | rfl | decide | simp [Region.binds]) rfl (by decide) (by decide) rfl
      clear hs hd hn
      rw [if_neg (by decide), if_neg (by decide)] at hK
      obtain ⟨lA, a0, a1, a2, a3, a4, a5, a6, a7, a8, a9, a10, a11, a12⟩ := mu_cells (gA.below hb')
      obtain ⟨lB, b0, b1, b2, b3, b4, b5, b6, b7, b8, b9, b10, b11, b12⟩ := mu_cells (gB.below hb')
      obtain ⟨lH, x0, x1, x2⟩ := late18_three (gH.below hb')
      obtain ⟨lG, g0, g1, g2⟩ := late18_three (gG.below hb')
      obtain ⟨lM, m0, m1, m2, m3, m4, m5, m6, m7⟩ := mk_cells (gM.below hb')
      unfold Oper.wp
      go_simp
      try go_bits
      exact hK _ _ (Below.refl _ _) (by first | rfl | (show Value.int _ _ = Value.int _ _; go_num; done) | (simp [valOf, *]; done) | (simp [valOf]; omega))
    · intro _ a' w' hb' hs hd hn Kc hK
      have f72 : a'.tmps[72]?.getD undef = .pointer (some ⟨BG + 1, 0, none⟩) := hd 44 72 (by first | rfl | decide | simp [Region.binds]) rfl (by decide) (by decide) rfl
      clear hs hd hn
      rw [if_neg (by decide), if_neg (by decide)] at hK
      obtain ⟨lA, a0, a1, a2, a3, a4, a5, a6, a7, a8, a9, a10, a11, a12⟩ := mu_cells (gA.below hb')
      obtain ⟨lB, b0, b1, b2, b3, b4, b5, b6, b7, b8, b9, b10, b11, b12⟩ := mu_cells (gB.below hb')
      obtain ⟨lH, x0, x1, x2⟩ := late18_three (gH.below hb')
      obtain ⟨lG, g0, g1, g2⟩ := late18_three (gG.below hb')
      obtain ⟨lM, m0, m1, m2, m3, m4, m5, m6, m7⟩ := mk_cells (gM.below hb')
      unfold Oper.wp
      go_simp
      try go_bits
      exact hK _ _ (Below.refl _ _) (by first | rfl | (show Value.int _ _ = Value.int _ _; go_num; done) | (simp [valOf, *]; done) | (simp [valOf]; omega))
    · intro _ a' w' hb' hs hd hn Kc hK
      have f73 : a'.tmps[73]?.getD undef = .int .i64 2 := hd 45 73 (by first | rfl | decide | simp [Region.binds]) rfl (by decide) (by decide) rfl
      clear hs hd hn
      rw [if_neg (by decide), if_neg (by decide)] at hK
      obtain ⟨lA, a0, a1, a2, a3, a4, a5, a6, a7, a8, a9, a10, a11, a12⟩ := mu_cells (gA.below hb')
      obtain ⟨lB, b0, b1, b2, b3, b4, b5, b6, b7, b8, b9, b10, b11, b12⟩ := mu_cells (gB.below hb')
      obtain ⟨lH, x0, x1, x2⟩ := late18_three (gH.below hb')
      obtain ⟨lG, g0, g1, g2⟩ := late18_three (gG.below hb')
      obtain ⟨lM, m0, m1, m2, m3, m4, m5, m6, m7⟩ := mk_cells (gM.below hb')
      unfold Oper.wp
      go_simp
      try go_bits
      exact hK _ _ (Below.refl _ _) (by first | rfl | (show Value.int _ _ = Value.int _ _; go_num; done) | (simp [valOf, *]; done) | (simp [valOf]; omega))
    · intro _ a' w' hb' hs hd hn Kc hK
      have f70 : a'.tmps[70]?.getD undef = .bool true := hd 42 70 (by first | rfl | decide | simp [Region.binds]) rfl (by decide) (by decide) rfl
      have f74 : a'.tmps[74]?.getD undef = .bool true := hd 46 74 (by first | rfl | decide | simp [Region.binds]) rfl (by decide) (by decide) rfl
      clear hs hd hn
      rw [if_neg (by decide), if_neg (by decide)] at hK
      obtain ⟨lA, a0, a1, a2, a3, a4, a5, a6, a7, a8, a9, a10, a11, a12⟩ := mu_cells (gA.below hb')
      obtain ⟨lB, b0, b1, b2, b3, b4, b5, b6, b7, b8, b9, b10, b11, b12⟩ := mu_cells (gB.below hb')
      obtain ⟨lH, x0, x1, x2⟩ := late18_three (gH.below hb')
      obtain ⟨lG, g0, g1, g2⟩ := late18_three (gG.below hb')
      obtain ⟨lM, m0, m1, m2, m3, m4, m5, m6, m7⟩ := mk_cells (gM.below hb')
      unfold Oper.wp
      go_simp
      try go_bits
      exact hK _ _ (Below.refl _ _) (by first | rfl | (show Value.int _ _ = Value.int _ _; go_num; done) | (simp [valOf, *]; done) | (simp [valOf]; omega))
    · intro _ a' w' hb' hs hd hn Kc hK
      have f75 : a'.tmps[75]?.getD undef = .bool true := hd 47 75 (by first | rfl | decide | simp [Region.binds]) rfl (by decide) (by decide) rfl
      clear hs hd hn
      rw [if_neg (by decide), if_neg (by decide)] at hK
      obtain ⟨lA, a0, a1, a2, a3, a4, a5, a6, a7, a8, a9, a10, a11, a12⟩ := mu_cells (gA.below hb')
      obtain ⟨lB, b0, b1, b2, b3, b4, b5, b6, b7, b8, b9, b10, b11, b12⟩ := mu_cells (gB.below hb')
      obtain ⟨lH, x0, x1, x2⟩ := late18_three (gH.below hb')
      obtain ⟨lG, g0, g1, g2⟩ := late18_three (gG.below hb')
      obtain ⟨lM, m0, m1, m2, m3, m4, m5, m6, m7⟩ := mk_cells (gM.below hb')
      unfold Oper.wp
      go_simp
      try go_bits
      exact hK _ _ (Below.refl _ _) (by first | rfl | (show Value.int _ _ = Value.int _ _; go_num; done) | (simp [valOf, *]; done) | (simp [valOf]; omega))
    · intro _ a' w' hb' hs hd hn Kc hK
      have f6 : a'.tmps[6]?.getD undef = .pointer (some ⟨BG + 1, 0, none⟩) := (hs 6 (by decide)).trans rfl
      clear hs hd hn
      rw [if_neg (by decide), if_neg (by decide)] at hK
      obtain ⟨lA, a0, a1, a2, a3, a4, a5, a6, a7, a8, a9, a10, a11, a12⟩ := mu_cells (gA.below hb')
      obtain ⟨lB, b0, b1, b2, b3, b4, b5, b6, b7, b8, b9, b10, b11, b12⟩ := mu_cells (gB.below hb')
      obtain ⟨lH, x0, x1, x2⟩ := late18_three (gH.below hb')
      obtain ⟨lG, g0, g1, g2⟩ := late18_three (gG.below hb')
      obtain ⟨lM, m0, m1, m2, m3, m4, m5, m6, m7⟩ := mk_cells (gM.below hb')
      unfold Oper.wp
      go_simp
      try go_bits
      exact hK _ _ (Below.refl _ _) (by first | rfl | (show Value.int _ _ = Value.int _ _; go_num; done) | (simp [valOf, *]; done) | (simp [valOf]; omega))
    · intro _ a' w' hb' hs hd hn Kc hK
      have f77 : a'.tmps[77]?.getD undef = .pointer (some ⟨BG + 1, 4, none⟩) := hd 49 77 (by first | rfl | decide | simp [Region.binds]) rfl (by decide) (by decide) rfl
      clear hs hd hn
      rw [if_neg (by decide), if_neg (by decide)] at hK
      obtain ⟨lA, a0, a1, a2, a3, a4, a5, a6, a7, a8, a9, a10, a11, a12⟩ := mu_cells (gA.below hb')
      obtain ⟨lB, b0, b1, b2, b3, b4, b5, b6, b7, b8, b9, b10, b11, b12⟩ := mu_cells (gB.below hb')
      obtain ⟨lH, x0, x1, x2⟩ := late18_three (gH.below hb')
      obtain ⟨lG, g0, g1, g2⟩ := late18_three (gG.below hb')
      obtain ⟨lM, m0, m1, m2, m3, m4, m5, m6, m7⟩ := mk_cells (gM.below hb')
      unfold Oper.wp
      go_simp
      try go_bits
      exact hK _ _ (Below.refl _ _) (by first | rfl | (show Value.int _ _ = Value.int _ _; go_num; done) | (simp [valOf, *]; done) | (simp [valOf]; omega))
    · intro _ a' w' hb' hs hd hn Kc hK
      have f78 : a'.tmps[78]?.getD undef = .int .i64 (-1) := hd 50 78 (by first | rfl | decide | simp [Region.binds]) rfl (by decide) (by decide) rfl
      clear hs hd hn
      rw [if_neg (by decide), if_neg (by decide)] at hK
      obtain ⟨lA, a0, a1, a2, a3, a4, a5, a6, a7, a8, a9, a10, a11, a12⟩ := mu_cells (gA.below hb')
      obtain ⟨lB, b0, b1, b2, b3, b4, b5, b6, b7, b8, b9, b10, b11, b12⟩ := mu_cells (gB.below hb')
      obtain ⟨lH, x0, x1, x2⟩ := late18_three (gH.below hb')
      obtain ⟨lG, g0, g1, g2⟩ := late18_three (gG.below hb')
      obtain ⟨lM, m0, m1, m2, m3, m4, m5, m6, m7⟩ := mk_cells (gM.below hb')
      unfold Oper.wp
      go_simp
      try go_bits
      exact hK _ _ (Below.refl _ _) (by first | rfl | (show Value.int _ _ = Value.int _ _; go_num; done) | (simp [valOf, *]; done) | (simp [valOf]; omega))
    · intro _ a' w' hb' hs hd hn Kc hK
      have f76 : a'.tmps[76]?.getD undef = .bool true := hd 48 76 (by first | rfl | decide | simp [Region.binds]) rfl (by decide) (by decide) rfl
      have f79 : a'.tmps[79]?.getD undef = .bool true := hd 51 79 (by first | rfl | decide | simp [Region.binds]) rfl (by decide) (by decide) rfl
      clear hs hd hn
      rw [if_neg (by decide), if_neg (by decide)] at hK
      obtain ⟨lA, a0, a1, a2, a3, a4, a5, a6, a7, a8, a9, a10, a11, a12⟩ := mu_cells (gA.below hb')
      obtain ⟨lB, b0, b1, b2, b3, b4, b5, b6, b7, b8, b9, b10, b11, b12⟩ := mu_cells (gB.below hb')
      obtain ⟨lH, x0, x1, x2⟩ := late18_three (gH.below hb')
      obtain ⟨lG, g0, g1, g2⟩ := late18_three (gG.below hb')
      obtain ⟨lM, m0, m1, m2, m3, m4, m5, m6, m7⟩ := mk_cells (gM.below hb')
      unfold Oper.wp
      go_simp
      try go_bits
      exact hK _ _ (Below.refl _ _) (by first | rfl | (show Value.int _ _ = Value.int _ _; go_num; done) | (simp [valOf, *]; done) | (simp [valOf]; omega))
    · intro _ a' w' hb' hs hd hn Kc hK
      have f80 : a'.tmps[80]?.getD undef = .bool true := hd 52 80 (by first | rfl | decide | simp [Region.binds]) rfl (by decide) (by decide) rfl
      clear hs hd hn
      rw [if_neg (by decide), if_neg (by decide)] at hK
      obtain ⟨lA, a0, a1, a2, a3, a4, a5, a6, a7, a8, a9, a10, a11, a12⟩ := mu_cells (gA.below hb')
      obtain ⟨lB, b0, b1, b2, b3, b4, b5, b6, b7, b8, b9, b10, b11, b12⟩ := mu_cells (gB.below hb')
      obtain ⟨lH, x0, x1, x2⟩ := late18_three (gH.below hb')
      obtain ⟨lG, g0, g1, g2⟩ := late18_three (gG.below hb')
      obtain ⟨lM, m0, m1, m2, m3, m4, m5, m6, m7⟩ := mk_cells (gM.below hb')
      unfold Oper.wp
      go_simp
      try go_bits
      exact hK _ _ (Below.refl _ _) (by first | rfl | (show Value.int _ _ = Value.int _ _; go_num; done) | (simp [valOf, *]; done) | (simp [valOf]; omega))
    · intro _ a' w' hb' hs hd hn Kc hK
      have f6 : a'.tmps[6]?.getD undef = .pointer (some ⟨BG + 1, 0, none⟩) := (hs 6 (by decide)).trans rfl
      clear hs hd hn
      rw [if_neg (by decide), if_neg (by decide)] at hK
      obtain ⟨lA, a0, a1, a2, a3, a4, a5, a6, a7, a8, a9, a10, a11, a12⟩ := mu_cells (gA.below hb')
      obtain ⟨lB, b0, b1, b2, b3, b4, b5, b6, b7, b8, b9, b10, b11, b12⟩ := mu_cells (gB.below hb')
      obtain ⟨lH, x0, x1, x2⟩ := late18_three (gH.below hb')
      obtain ⟨lG, g0, g1, g2⟩ := late18_three (gG.below hb')
      obtain ⟨lM, m0, m1, m2, m3, m4, m5, m6, m7⟩ := mk_cells (gM.below hb')
      unfold Oper.wp
      go_simp
      try go_bits
      exact hK _ _ (Below.refl _ _) (by first | rfl | (show Value.int _ _ = Value.int _ _; go_num; done) | (simp [valOf, *]; done) | (simp [valOf]; omega))
    · intro _ a' w' hb' hs hd hn Kc hK
      have f82 : a'.tmps[82]?.getD undef = .pointer (some ⟨BG + 1, 6, none⟩) := hd 54 82 (by first | rfl | decide | simp [Region.binds]) rfl (by decide) (by decide) rfl
      clear hs hd hn
      rw [if_neg (by decide), if_neg (by decide)] at hK
      obtain ⟨lA, a0, a1, a2, a3, a4, a5, a6, a7, a8, a9, a10, a11, a12⟩ := mu_cells (gA.below hb')
      obtain ⟨lB, b0, b1, b2, b3, b4, b5, b6, b7, b8, b9, b10, b11, b12⟩ := mu_cells (gB.below hb')
      obtain ⟨lH, x0, x1, x2⟩ := late18_three (gH.below hb')
      obtain ⟨lG, g0, g1, g2⟩ := late18_three (gG.below hb')
      obtain ⟨lM, m0, m1, m2, m3, m4, m5, m6, m7⟩ := mk_cells (gM.below hb')
      unfold Oper.wp
      go_simp
      try go_bits
      exact hK _ _ (Below.refl _ _) (by first | rfl | (show Value.int _ _ = Value.int _ _; go_num; done) | (simp [valOf, *]; done) | (simp [valOf]; omega))
    · intro _ a' w' hb' hs hd hn Kc hK
      have f83 : a'.tmps[83]?.getD undef = .int .i64 (-1) := hd 55 83 (by first | rfl | decide | simp [Region.binds]) rfl (by decide) (by decide) rfl
      clear hs hd hn
      rw [if_neg (by decide), if_neg (by decide)] at hK
      obtain ⟨lA, a0, a1, a2, a3, a4, a5, a6, a7, a8, a9, a10, a11, a12⟩ := mu_cells (gA.below hb')
      obtain ⟨lB, b0, b1, b2, b3, b4, b5, b6, b7, b8, b9, b10, b11, b12⟩ := mu_cells (gB.below hb')
      obtain ⟨lH, x0, x1, x2⟩ := late18_three (gH.below hb')
      obtain ⟨lG, g0, g1, g2⟩ := late18_three (gG.below hb')
      obtain ⟨lM, m0, m1, m2, m3, m4, m5, m6, m7⟩ := mk_cells (gM.below hb')
      unfold Oper.wp
      go_simp
      try go_bits
      exact hK _ _ (Below.refl _ _) (by first | rfl | (show Value.int _ _ = Value.int _ _; go_num; done) | (simp [valOf, *]; done) | (simp [valOf]; omega))
    · intro _ a' w' hb' hs hd hn Kc hK
      have f81 : a'.tmps[81]?.getD undef = .bool true := hd 53 81 (by first | rfl | decide | simp [Region.binds]) rfl (by decide) (by decide) rfl
      have f84 : a'.tmps[84]?.getD undef = .bool true := hd 56 84 (by first | rfl | decide | simp [Region.binds]) rfl (by decide) (by decide) rfl
      clear hs hd hn
      rw [if_neg (by decide), if_neg (by decide)] at hK
      obtain ⟨lA, a0, a1, a2, a3, a4, a5, a6, a7, a8, a9, a10, a11, a12⟩ := mu_cells (gA.below hb')
      obtain ⟨lB, b0, b1, b2, b3, b4, b5, b6, b7, b8, b9, b10, b11, b12⟩ := mu_cells (gB.below hb')
      obtain ⟨lH, x0, x1, x2⟩ := late18_three (gH.below hb')
      obtain ⟨lG, g0, g1, g2⟩ := late18_three (gG.below hb')
      obtain ⟨lM, m0, m1, m2, m3, m4, m5, m6, m7⟩ := mk_cells (gM.below hb')
      unfold Oper.wp
      go_simp
      try go_bits
      exact hK _ _ (Below.refl _ _) (by first | rfl | (show Value.int _ _ = Value.int _ _; go_num; done) | (simp [valOf, *]; done) | (simp [valOf]; omega))
    · intro _ a' w' hb' hs hd hn Kc hK
      have f85 : a'.tmps[85]?.getD undef = .bool true := hd 57 85 (by first | rfl | decide | simp [Region.binds]) rfl (by decide) (by decide) rfl
      clear hs hd hn
      rw [if_neg (by decide), if_neg (by decide)] at hK
      obtain ⟨lA, a0, a1, a2, a3, a4, a5, a6, a7, a8, a9, a10, a11, a12⟩ := mu_cells (gA.below hb')
      obtain ⟨lB, b0, b1, b2, b3, b4, b5, b6, b7, b8, b9, b10, b11, b12⟩ := mu_cells (gB.below hb')
      obtain ⟨lH, x0, x1, x2⟩ := late18_three (gH.below hb')
      obtain ⟨lG, g0, g1, g2⟩ := late18_three (gG.below hb')
      obtain ⟨lM, m0, m1, m2, m3, m4, m5, m6, m7⟩ := mk_cells (gM.below hb')
      unfold Oper.wp
      go_simp
      try go_bits
      exact hK _ _ (Below.refl _ _) (by first | rfl | (show Value.int _ _ = Value.int _ _; go_num; done) | (simp [valOf, *]; done) | (simp [valOf]; omega))
  intro Xf g w' hX hb hv
  have q0 : Xf 0 = .bool true := hv 58 0 rfl rfl (by decide) (by decide)
  clear hX hv
  simp only [List.map_cons, List.map_nil, q0, puts, Act.put, Nat.reduceAdd, List.setIfInBounds_toArray, List.set_cons_succ, List.set_cons_zero]
  go_wp2
  go_returns
  exact ⟨rfl, bjoin hb hbZ⟩
end Go.Proofs.YtmbgodncagjncaaDoor
