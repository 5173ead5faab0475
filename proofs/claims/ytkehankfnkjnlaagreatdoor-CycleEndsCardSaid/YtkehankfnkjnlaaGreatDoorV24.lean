import Derived.Maps.OwnSet
import Derived.Test.YtkehankfnkjnlaaGreatDoorV23
namespace Go.Proofs.YtkehankfnkjnlaaGreatDoor
set_option linter.unusedSimpArgs false
set_option linter.unusedVariables false
set_option maxHeartbeats 16000000
set_option maxRecDepth 20000
open Go.ChangeShapes Go.WideShapes Go.ChangeAt Go.RowKit Go.Joins Go.Maps
variable {h : Hp} {w w' W W' : World} {p q : Option Addr} {n g : Nat} {a : Int} {v : Value}
def fnElem (v : Value) : Option (DataW Unit × List MemPlace) :=
 match v with
 | .func (.func i) f c => if f.size = 0 ∧ c.size = 0 then some (.lit (.int .i64 i), []) else none
 | .nilFunc => some (.lit (.int .i64 (-1)), [])
 | _ => none
theorem zqd {i : Nat} {ps : List MemPlace} (h : fnElem v = some (.lit (.int .i64 i), ps)) : v = .func (.func i) #[] #[] := by
 unfold fnElem at h
 split at h
 ·rename_i f c
  split at h
  ·rename_i k hc
   obtain ⟨h1, h2⟩ := hc
   simp only [Option.some.injEq, Prod.mk.injEq, DataW.lit.injEq, Lit.int.injEq, true_and] at h
   obtain ⟨h3, -⟩ := h
   have h4 : k = i := Int.ofNat.inj h3
   subst h4
   rw [Array.size_eq_zero_iff.1 h1, Array.size_eq_zero_iff.1 h2]
  ·cases h
 ·simp only [Option.some.injEq, Prod.mk.injEq, DataW.lit.injEq, Lit.int.injEq, true_and] at h
  omega
 ·cases h
theorem zft : Keyed Tryz.prog 3 := int_keyed Tryz.underlying3
def nmF : Option Nat → Int
 | some i => (i : Int)
 | none => -1
def lkV : Option Nat → Value
 | some i => .func (.func i) #[] #[]
 | none => .nilFunc
theorem zxv {o : Option Nat} {ps : List MemPlace} (h : fnElem v = some (.lit (.int .i64 (nmF o)), ps)) : v = lkV o := by
 cases o with
 | some i => exact zqd h
 | none =>
  unfold fnElem at h
  split at h
  ·split at h
   ·simp only [nmF, Option.some.injEq, Prod.mk.injEq, DataW.lit.injEq, Lit.int.injEq, true_and] at h
    obtain ⟨h3, -⟩ := h
    rename_i k _ _ _
    exact absurd h3 (by show ¬ Int.ofNat k = -1; intro e; cases e)
   ·cases h
  ·rfl
  ·cases h
def FnAt (n : Nat) (w : World) (b : Nat) (f : Int → Option Nat) : Prop :=
 ∃ D : DataW Unit, w.ownsMap Tryz.prog 3 fnElem b n D ∧ (∀ x, Maps.has D (.int .i64 x) = (f x).isSome) ∧ ∀ x, D.atKey (.int .i64 x) (.lit (.int .i64 (-1))) = .lit (.int .i64 (nmF (f x)))
theorem FnAt.lt {b : Nat} {f : Int → Option Nat} (h : FnAt n w b f) : b < w.heap.size := by obtain ⟨D, h, -⟩ := h; exact h.lt
theorem FnAt.below {b : Nat} {f : Int → Option Nat} (h : FnAt n w b f) (hb : Below w.heap.size w w') : FnAt n w' b f := by
 have hlt := h.lt
 obtain ⟨D, ⟨es, clock, he, F, hs, hD⟩, r⟩ := h
 exact ⟨D, ⟨es, clock, (hb.block b hlt).trans he, F, hs, hD⟩, r⟩
theorem FnAt.made (w : World) : FnAt 0 (w.alloc (.map #[] 0)) w.heap.size fun _ => none :=
 ⟨.map [], World.ownsMap_made _ _ _ _, fun x => by simp [Maps.has], fun x => by simp [DataW.atKey, nmF]⟩
theorem zij {T e : TypeId} {ops : Array Oper} {rest : List Oper} {o : Oper} {a : Act} {Q : Exit → Act → World → Prop} (hT : Tryz.prog.underlying T = some (.map 3 e)) (hg : o.guard = none) (m x v : Operand) (hop : o.op = Op.insert T m x v) 
  {b : Nat} {f : Int → Option Nat} {k : Int} {i : Nat} (hs : FnAt n w b f) (hn : n < 1000) (hw : (Lit.int .i64 k).wf = true) (hm : a.eval m = .map (some b)) (hx : a.eval x = .int .i64 k) (hv : a.eval v = .func (.func i) #[] #[])
  (hK : ∀ w', FnAt (n + 1) w' b (fun y => if y = k then some i else f y) → w.grownBy w' (some b) → wpList Tryz.prog ops Q rest (a.put o.dst undef) w') : wpList Tryz.prog ops Q (o :: rest) a w := by
 obtain ⟨D, hown, hhas, hat⟩ := hs
 have hD := (hown.tidy zft).isMap
 have hkl : WideAt.IsKeyLit (.int .i64 k) := trivial
 refine wpList_plain hg fun K' hK' => ?_
 obtain ⟨w', hrun, r1, r2⟩ := hown.store zft hT (by simp only [maxLen]; omega) (keyOf_int_mk Tryz.underlying3 hw) (show fnElem (.func (.func i) #[] #[]) = some (.lit (.int .i64 (i : Nat)), []) from rfl)
 unfold Oper.wp
 simp [execOp, hop, hm, hx, hv, hrun, Result.andThen]
 refine hK' _ _ (hK w' ⟨_, r1, fun y => ?_, fun y => ?_⟩ r2.grown)
 ·by_cases e : y = k
  ·subst e; rw [Maps.has_put_same hD hkl]; simp
  ·rw [Maps.has_put_other (fun he => e (by injection he)), hhas y]; simp [e]
 ·dsimp only
  by_cases e : y = k
  ·subst e
   rw [if_pos rfl, Maps.atKey_put_same hD hkl]
   rfl
  ·rw [if_neg e, Maps.atKey_put_other (fun he => e (by injection he)), hat y]
theorem FnAt.ask {T e : TypeId} (hT : Tryz.prog.underlying T = some (.map 3 e)) (hz : (zeroValue e).run Tryz.prog w = .ok .nilFunc w) 
  {b : Nat} {f : Int → Option Nat} {k : Int} (hs : FnAt n w b f) (hw : (Lit.int .i64 k).wf = true) : (Instr.lookup T (.map (some b)) (.int .i64 k) true).run Tryz.prog w = .ok (.tuple #[lkV (f k), .bool (f k).isSome]) w := by
 obtain ⟨D, hown, hhas, hat⟩ := hs
 obtain ⟨v, ps, hrun, hv⟩ := hown.look_ok zft hT hz (show fnElem .nilFunc = some (.lit (.int .i64 (-1)), []) from rfl) (keyOf_int_mk Tryz.underlying3 hw)
 rw [hhas k] at hrun
 rw [hat k] at hv
 rw [zxv hv] at hrun
 exact hrun
theorem zcz {n a b : Int} {B : Bool} (h : decide (a ≤ n ∧ n ≤ b) = B) :
  Calls Tryz.prog 54 #[.int .i64 n, .int .i64 a, .int .i64 b] w fun e w' => e = .returned (.bool B) ∧ Below w.heap.size w w' := by
 subst h
 by_cases h1 : a ≤ n
 ·by_cases h2 : n ≤ b
  ·rw [decide_eq_true (⟨h1, h2⟩ : a ≤ n ∧ n ≤ b)]
   go_enter Tryz.func54, Tryz.ntmps54
   go_wp2
   go_returns
   exact ⟨rfl, zr⟩
  ·rw [decide_eq_false (fun h : a ≤ n ∧ n ≤ b => h2 h.2)]
   go_enter Tryz.func54, Tryz.ntmps54
   go_wp2
   go_returns
   exact ⟨rfl, zr⟩
 ·rw [decide_eq_false (fun h : a ≤ n ∧ n ≤ b => h1 h.1)]
  go_enter Tryz.func54, Tryz.ntmps54
  go_wp2
  go_returns
  exact ⟨rfl, zr⟩
theorem ziw (c0 c1 c2 c3 c4 : Int) (w : World) :
  Calls Tryz.prog 21 #[.agg #[.int .i64 c0, .int .i64 c1, .int .i64 c2, .int .i64 c3, .int .i64 c4]] w fun e w' => e = .returned (.bool (mayC c0 c1 c2 c3 c4)) ∧ Below w.heap.size w w' := by
 have hm : mayC c0 c1 c2 c3 c4 = (decide (1 ≤ c0 ∧ c0 ≤ 16) && (decide (1 ≤ c1 ∧ c1 ≤ 8) && (decide (1 ≤ c2 ∧ c2 ≤ 8) && (decide (0 ≤ c3 ∧ c3 ≤ 16) && decide (0 ≤ c4 ∧ c4 ≤ 8))))) := by
  simp only [mayC, Bool.decide_and, Bool.and_assoc]
 rw [hm]
 clear hm
 have hg : ∀ b : Bool, b = true ∨ b = false := fun b => by cases b <;> simp
 rcases hg (decide (1 ≤ c0 ∧ c0 ≤ 16)) with h0 | h0
 case inr =>
  rw [h0, Bool.false_and]
  go_enter Tryz.func21, Tryz.ntmps21
  go_wp2_with (first
  | (go_at_call 54; refine zm (zcz h0) ?_; rintro e w' ⟨rfl, hb⟩; obtain ⟨hc, hf, hb, hz⟩ := bstep hb (w := w) (by go_grown); try simp only [za, zb, zd] at hc hf hz)
  )
  go_returns
  exact ⟨rfl, by go_grown⟩
 rcases hg (decide (1 ≤ c1 ∧ c1 ≤ 8)) with h1 | h1
 case inr =>
  rw [h0, h1, Bool.false_and, Bool.true_and]
  go_enter Tryz.func21, Tryz.ntmps21
  go_wp2_with (first
  | (go_at_call 54; refine zm (zcz (by first | exact h0 | exact h1)) ?_; rintro e w' ⟨rfl, hb⟩; obtain ⟨hc, hf, hb, hz⟩ := bstep hb (w := w) (by go_grown); try simp only [za, zb, zd] at hc hf hz)
  )
  go_returns
  exact ⟨rfl, by go_grown⟩
 rcases hg (decide (1 ≤ c2 ∧ c2 ≤ 8)) with h2 | h2
 case inr =>
  rw [h0, h1, h2, Bool.false_and, Bool.true_and, Bool.true_and]
  go_enter Tryz.func21, Tryz.ntmps21
  go_wp2_with (first
  | (go_at_call 54; refine zm (zcz (by first | exact h0 | exact h1 | exact h2)) ?_; rintro e w' ⟨rfl, hb⟩; obtain ⟨hc, hf, hb, hz⟩ := bstep hb (w := w) (by go_grown); try simp only [za, zb, zd] at hc hf hz)
  )
  go_returns
  exact ⟨rfl, by go_grown⟩
 rcases hg (decide (0 ≤ c3 ∧ c3 ≤ 16)) with h3 | h3
 case inr =>
  rw [h0, h1, h2, h3, Bool.false_and, Bool.true_and, Bool.true_and, Bool.true_and]
  go_enter Tryz.func21, Tryz.ntmps21
  go_wp2_with (first
  | (go_at_call 54; refine zm (zcz (by first | exact h0 | exact h1 | exact h2 | exact h3)) ?_; rintro e w' ⟨rfl, hb⟩; obtain ⟨hc, hf, hb, hz⟩ := bstep hb (w := w) (by go_grown); try simp only [za, zb, zd] at hc hf hz)
  )
  go_returns
  exact ⟨rfl, by go_grown⟩
 have h4 : decide (0 ≤ c4 ∧ c4 ≤ 8) = decide (0 ≤ c4 ∧ c4 ≤ 8) := rfl
 rw [h0, h1, h2, h3, Bool.true_and, Bool.true_and, Bool.true_and, Bool.true_and]
 generalize hB : decide (0 ≤ c4 ∧ c4 ≤ 8) = B at *
 clear h4
 go_enter Tryz.func21, Tryz.ntmps21
 go_wp2_with (first
  | (go_at_call 54; refine zm (zcz (by first | exact h0 | exact h1 | exact h2 | exact h3 | exact hB)) ?_; rintro e w' ⟨rfl, hb⟩; obtain ⟨hc, hf, hb, hz⟩ := bstep hb (w := w) (by go_grown); try simp only [za, zb, zd] at hc hf hz)
 )
 go_returns
 exact ⟨rfl, by go_grown⟩
def Mu.cells9 (m : Mu) (p : Option Addr) (c : Nat) (a0 a1 a2 a3 : Int) : List Value := [.slice p m.n c, .int .i64 m.s, .int .i64 m.ok, .int .i64 m.oa, .int .i64 m.ob, .int .i64 m.oc, .int .i64 m.o, .int .i64 m.v.k, .int .i64 m.v.n, .int .i64 a0, .int .i64 a1, .int .i64 a2, .int .i64 a3]
theorem zgf (Z : Wd) (q : Wp) (w : World) (hm0 : RAt MuC 13 w q.m q.mc Z.n Z.z) (hn : Z.n ≤ 10) :
  Calls Tryz.prog 22 #[.agg (Z.cells q).toArray] w fun e w' => ∃ p' c', e = .returned (.slice p' Z.n c') ∧ w'.ownsRow w.heap.size 71 4 (.slice p' Z.n c') Z.n (vals .i64 (Z.n * 4) (caY Z.z)) ∧ Below w.heap.size w w' := by
 obtain ⟨i0, hi, hz0, hz1, hz2⟩ := info_parts zlc
 obtain ⟨w0, hw0⟩ : ∃ w0, w0 = w.alloc (.cells (Z.cells q).toArray 38) := ⟨_, rfl⟩
 have gW : TBox 38 w.heap.size (Z.cells q).toArray w0 := by rw [hw0]; exact TBox.new _ _ _
 have hst : Below w.heap.size w w0 := by rw [hw0]; exact zr.alloc (Nat.le_refl _) _
 have hm := hm0.below zat hst
 generalize hY : caY Z.z = Y
 have h4 : ∀ j, Y (j * 4) = (Z.z j).c0 ∧ Y (j * 4 + 1) = (Z.z j).c1 ∧ Y (j * 4 + 2) = (Z.z j).c2 ∧ Y (j * 4 + 3) = (Z.z j).c3 := fun j => by rw [← hY]; exact zs8 Z.z j
 have lW := gW.lt
 have g8 : ∀ wr, Below w0.heap.size w0 wr → w.heap.size < wr.heap.size ∧ wr.cell? ⟨w.heap.size, 8, none⟩ = some (.slice q.m Z.n q.mc) := fun wr hb => by
  have := gW.below hb
  exact ⟨this.lt, by rw [this.cell 8]; rfl⟩
 obtain ⟨-, a8⟩ := g8 w0 zr
 have hmk : ∃ cs : Array Value, (Instr.makeSlice 56 (.int .i64 0) (.int .i64 (Z.n : Int))).run Tryz.prog w0 = .ok (.slice (some ⟨w0.heap.size, 0, none⟩) 0 Z.n) (w0.alloc (.cells cs 71)) ∧ cs.size = Z.n * 4 := by
  have h := run_make (P := Tryz.prog) w0 56 71 i0 (.agg #[.int .i64 0, .int .i64 0, .int .i64 0, .int .i64 0]) Tryz.underlying56 hi hz0 .i64 .i64 0 Z.n (Int.le_refl _) (by omega) (by rw [hz2]; omega) (by omega)
  rw [hz1, Int.toNat_natCast] at h
  exact ⟨_, h, by rw [size_madeCells]⟩
 obtain ⟨cs, hmk, hcs⟩ := hmk
 go_enter Tryz.func22, Tryz.ntmps22
 go_upto_region 1 with fail
 rw [← hw0]
 clear hw0
 go_upto_region 2 with fail
 obtain ⟨w1, hw1⟩ : ∃ W, W = w0.alloc (.cells cs 71) := ⟨_, rfl⟩
 have hown1 : w1.ownsRow w.heap.size 71 4 (.slice (some ⟨w0.heap.size, 0, none⟩) 0 Z.n) 0 [] := by
  rw [hw1]
  exact World.ownsRow_made w0 _ Z.n hst.size (by simp only [maxLen]; omega) hcs
 have hb1 : Below w0.heap.size w0 w1 := by rw [hw1]; exact zr.alloc (Nat.le_refl _) _
 rw [← hw1]
 clear hw1 hmk hcs a8
 obtain ⟨l1, a8⟩ := g8 w1 hb1
 go_wp2
 go_loopg [3, 13] Z.n (fun g ov iv wr => ∃ j : Nat, j ≤ Z.n ∧ g = Z.n - j ∧ iv = .int .i64 j ∧ wr.ownsRow w.heap.size 71 4 ov j (vals .i64 (j * 4) Y) ∧ Below w.heap.size w wr)
 case atStart => exact ⟨0, by omega, by omega, rfl, hown1, bjoin hb1 hst⟩
 case round =>
  obtain ⟨j, jh, rfl, rfl, hown, hbw⟩ := hrel
  by_cases hj : j < Z.n
  ·obtain ⟨bb, off, L, hq, hlt, -, hc, ps, cs, rfl, -, -⟩ := (hm0.below zat hbw).row j hj
   have v0 := hc 0 _ rfl
   have v1 := hc 1 _ rfl
   have v2 := hc 2 _ rfl
   have v3 := hc 3 _ rfl
   have v4 := hc 4 _ rfl
   have v5 := hc 5 _ rfl
   have v6 := hc 6 _ rfl
   have v7 := hc 7 _ rfl
   have v8 := hc 8 _ rfl
   have v9 := hc 9 _ rfl
   have v10 := hc 10 _ rfl
   have v11 := hc 11 _ rfl
   have v12 := hc 12 _ rfl
   rw [Nat.add_zero] at v0
   clear hc
   have hq' : Hid (q.m = some ⟨bb, off, none⟩) := hq
   rw [hq]
   clear hq
   obtain ⟨y0, y1, y2, y3⟩ := h4 j
   rw [← y0] at v9
   rw [← y1] at v10
   rw [← y2] at v11
   rw [← y3] at v12
   clear y0 y1 y2 y3 h4 g8 gW hY
   have hlb := hbw.size
   go_upto_region 5 with fail
   obtain ⟨w5, hw5⟩ : ∃ W, W = wr.alloc (.cells ((Z.z j).cells9 ps cs (Y (j * 4)) (Y (j * 4 + 1)) (Y (j * 4 + 2)) (Y (j * 4 + 3))).toArray 73) := ⟨_, rfl⟩
   have gM : TBox 73 wr.heap.size ((Z.z j).cells9 ps cs (Y (j * 4)) (Y (j * 4 + 1)) (Y (j * 4 + 2)) (Y (j * 4 + 3))).toArray w5 := by rw [hw5]; exact TBox.new _ _ _
   have hb5 : Below wr.heap.size wr w5 := by rw [hw5]; exact zr.alloc (Nat.le_refl _) _
   have hown5 := zaa hown hb5
   have hbw5 := bjoin hb5 hbw
   have lM := gM.lt
   have x9 := gM.cell 9
   have x10 := gM.cell 10
   have x11 := gM.cell 11
   have x12 := gM.cell 12
   simp only [Mu.cells9, List.getElem?_toArray, List.getElem?_cons_zero, List.getElem?_cons_succ] at x9 x10 x11 x12
   simp only [Mu.cells9] at hw5
   rw [← hw5]
   clear hw5 v0 v1 v2 v3 v4 v5 v6 v7 v8 v9 v10 v11 v12 hlt hown hb5 gM
   have hlb := hbw5.size
   go_wp2_with (first
    | (at_builtin; refine wpList_append_own _ rfl (.tmp 17) (.tmp 20) 56 rfl w.heap.size 71 i0 (.agg #[.int .i64 0, .int .i64 0, .int .i64 0, .int .i64 0]) 4 32 Tryz.underlying56 hi hz0 hz1 hz2 rfl (by decide) _ _ _ rfl (hown5.alloc _) ⟨w5.heap.size, 0, none⟩ 1 1 [.int .i64 (Y (j * 4)), .int .i64 (Y (j * 4 + 1)), .int .i64 (Y (j * 4 + 2)), .int .i64 (Y (j * 4 + 3))] rfl rfl (zm0 _ _ _ _ _ _) (by simp [Value.oneCell']) (by simp only [maxLen]; omega) (by omega) (by simp; omega) ?_; intro ov9 w9 hown9 hgrow9 _)
   )
   rw [zkq] at hown9
   have hb9 : Below w.heap.size w w9 := (hbw5.alloc hbw5.size (.cells _ 71)).grown hgrow9 (by simp; omega) (fun k hk => (hown5.lt k hk).1)
   rw [← hq'.out]
   clear hq'
   go_roundg (Z.n - (j + 1))
   case measure => omega
   case rel => exact ⟨j + 1, by omega, rfl, by go_num, hown9, hb9⟩
  ·obtain rfl : Z.n = j := by omega
   obtain ⟨pn, cn, rfl, -⟩ := zaf hown
   go_wp2
   go_returns
   exact ⟨pn, cn, rfl, hown, hbw⟩
theorem zgk (Z : Wd) (q : Wp) (w : World) (hv : WdIn w Z q) (hn : Z.n ≤ 10) :
  Calls Tryz.prog 22 #[.agg (Z.cells q).toArray] w fun e w' => ∃ p' c', e = .returned (.slice p' Z.n c') ∧ Ints .i64 w' p' (Z.n * 4) (caY Z.z) ∧ Below w.heap.size w w' := by
 refine zm (zgf Z q w hv.muts hn) ?_
 rintro e w' ⟨p', c', rfl, hown, hb⟩
 exact ⟨p', c', rfl, (zfj hown (zxq hv)).1, hb⟩
def tuF : Int → Option Nat := fun y => if y = 2 then some 45 else if y = 1 then some 60 else if y = 0 then some 59 else none
def TuV (v : Value) (w : World) : Prop := ∃ b, v = .map (some b) ∧ FnAt 3 w b tuF
theorem TuV.below (h : TuV v w) (hb : Below w.heap.size w w') : TuV v w' := by
 obtain ⟨b, e, h⟩ := h
 exact ⟨b, e, h.below hb⟩
theorem zid (w : World) :
  Calls Tryz.prog 26 #[] w fun e w' => ∃ v, e = .returned v ∧ TuV v w' ∧ Below w.heap.size w w' := by
 go_enter Tryz.func26, Tryz.ntmps26
 have h0 := FnAt.made w
 have hmk := run_makeMap (P := Tryz.prog) 65 w
 have hb0 : Below w.heap.size w (w.alloc (.map #[] 0)) := zr.alloc (Nat.le_refl _) _
 go_wp2_with (first
  | (refine zij Tryz.underlying65 rfl _ _ _ rfl (by assumption) (by decide) rfl rfl rfl rfl ?_; intro w' hm hg; replace hb0 := hb0.grown hg hb0.size (fun k hk => by cases hk; exact Nat.le_refl _); replace h0 := hm; clear hm hg)
 )
 go_returns
 exact ⟨_, rfl, ⟨_, rfl, h0⟩, hb0⟩
end Go.Proofs.YtkehankfnkjnlaaGreatDoor
namespace Go.Proofs.YtkehankfnkjnlaaGreatDoor
set_option linter.unusedSimpArgs false
set_option linter.unusedVariables false
set_option maxHeartbeats 16000000
set_option maxRecDepth 20000
open Go.ChangeAt Go.ChangeShapes Go.Joins Go.RowKit Go.WideShapes
variable {h : Hp} {w w' W W' : World} {p q : Option Addr} {n g : Nat} {a : Int} {v : Value}
def waitsB (o : Oper) (i : Nat) : Bool := o.after.any fun e => Region.binds .any e && e.on == i
structure SoftInvI (ops : Array Oper) (fin : Nat → Bool) (a : Act) (ds : List Nat) (Φ : Nat → Value → World → Prop) (I : World → Prop) (n : Nat) (b : Array Bool) (a' : Act) (w' : World) : Prop where
 grown : I w'
 defers : a'.defers = a.defers
 size : a'.tmps.size = a.tmps.size
 same : ∀ t, t ∉ ds → a'.tmps[t]? = a.tmps[t]?
 facts : ∀ i d, i < n → ds[i]? = some d → b.getD i true = true → (fin i = true ∨ ∃ k o, k < n ∧ ops[k]? = some o ∧ b.getD k true = false ∧ waitsB o i = true) → Φ i (a'.tmps.getD d undef) w'
section
variable {P : Program} {l : List Oper} {Q : Exit → Act → World → Prop} {a : Act} {ds : List Nat} {Φ : Nat → Value → World → Prop} {W : World} {I : World → Prop} {n : Nat} {S : Nat → World → World → Prop} {fin : Nat → Bool}
theorem zsi (hs : Region.sinkB .any l.toArray n = true) (hc : Region.chainB .any l.toArray n = true) (hn : n < l.toArray.size) (hD : depsB l.toArray n = true) (hq : Region.seqB .any l.toArray (l.toArray.size - n) n (List.replicate n true ++ List.replicate (l.toArray.size - n) false).toArray = true) 
  (hds : ds.length = n) (hdst : ∀ i o d, i < n → l.toArray[i]? = some o → ds[i]? = some d → o.dst = some d) (hnd : ds.Nodup) (hsz : ∀ d ∈ ds, d < a.tmps.size)
  (hS : ∀ i w w', I w → S i w w' → I w') (hper : ∀ i j v w w', i < n → j < n → ¬ j = i → (∀ o, l.toArray[j]? = some o → waitsB o i = false) → (fin j = true ∨ ∃ k o, ¬ k = i ∧ k < n ∧ l.toArray[k]? = some o ∧ waitsB o j = true ∧ ∀ oi, l.toArray[i]? = some oi → waitsB oi k = false) → Φ j v w → S i w w' → Φ j v w')
  (hstep : ∀ i o, i < n → l.toArray[i]? = some o → ∀ (a' : Act) (w' : World), I w' → (∀ t, t ∉ ds → a'.tmps.getD t undef = a.tmps.getD t undef) →
   (∀ j d, j < n → ds[j]? = some d → (o.after.any fun e => Region.binds .any e && e.on == j) = true → Φ j (a'.tmps.getD d undef) w') →
   ∀ K : Act → World → Prop, (∀ v w'', S i w' w'' → Φ i v w'' → K (a'.put o.dst v) w'') → o.wp P a' w' K Q)
  (htail : ∀ a' w', I w' → a'.defers = a.defers → a'.tmps.size = a.tmps.size → (∀ t, t ∉ ds → a'.tmps[t]? = a.tmps[t]?) → (∀ i d, i < n → ds[i]? = some d → fin i = true → Φ i (a'.tmps.getD d undef) w') → wpList P l.toArray Q (l.drop n) a' w') :
  ∀ (f : Nat) (b : Array Bool) (a' : Act) (w' : World), HeadInv .any l.toArray n b → SoftInvI l.toArray fin a ds Φ I n b a' w' → unl b n = f → wpAny P .any l.toArray Q (f + (l.toArray.size - n)) b a' w' := by
 intro f
 induction f with
 | zero =>
  intro b a' w' inv si hu
  have hall := zc8 hu
  rw [Nat.zero_add]
  have hb : b = (List.replicate n true ++ List.replicate (l.toArray.size - n) false).toArray := by
   have hsz' := inv.size
   apply Array.ext
   ·simp [hsz']; simp at hn; omega
   ·intro i h1 h2
    by_cases h : i < n
    ·have := hall i h
     simp [h1] at this
     rw [this]
     simp [List.getElem_append, h]
    ·have := inv.tail i (by omega) (by omega)
     simp [h1] at this
     rw [this]
     simp [List.getElem_append, h]
  have := wpAny_of_seq (P := P) (md := .any) (ops := l.toArray) (Q' := Q) (l.drop n) n b a' w' (fun j => by simp [List.getElem?_drop])
   (by rw [List.length_drop, show l.length - n = l.toArray.size - n by simp, hb]; exact hq)
   (htail a' w' si.grown si.defers si.size si.same fun i d hi hd hf => si.facts i d hi hd (hall i hi) (.inl hf))
  rwa [List.length_drop, show l.length - n = l.toArray.size - n by simp] at this
 | succ f ih =>
  intro b a' w' inv si hu
  obtain ⟨i0, h0, hb0, hmin⟩ := zeb (b := b) (k := n) (by omega)
  have hdep : ∀ i, i < n → ∃ o, l.toArray[i]? = some o ∧ o.guard = none ∧ ∀ e ∈ o.after, e.on < i := by
   intro i hi
   have h1 := List.all_eq_true.1 hD i (List.mem_range.2 hi)
   cases ho : l.toArray[i]? with
   | none => simp only [ho] at h1; cases h1
   | some o =>
    simp only [ho, Bool.and_eq_true, Option.isNone_iff_eq_none] at h1
    refine ⟨o, rfl, h1.1, fun e he => ?_⟩
    have := (Array.all_eq_true'.1 h1.2) e he
    simpa using this
  have hbsz : ∀ i, i < n → i < b.size := fun i hi => by rw [inv.size]; omega
  have hready : i0 ∈ Region.ready .any l.toArray b := by
   obtain ⟨o, ho, -, hd⟩ := hdep i0 h0
   refine mem_ready.2 ⟨hb0, o, ho, fun e he _ => ?_⟩
   have h2 := hd e he
   have h3 := hmin e.on h2
   have h4 := hbsz e.on (by omega)
   simp [h4] at h3 ⊢
   exact h3
  rw [show f + 1 + (l.toArray.size - n) = (f + (l.toArray.size - n)) + 1 by omega]
  refine ⟨fun h => (by rw [h] at hready; cases hready), fun i hi => ?_⟩
  have hin : i < n := by
   rcases Nat.lt_or_ge i n with h | h
   ·exact h
   ·exact absurd hi (tail_waits hs hc hn inv _ i0 rfl h0 hb0 i h)
  obtain ⟨hun, o, ho, hall⟩ := mem_ready.1 hi
  obtain ⟨o', ho', hgd, -⟩ := hdep i hin
  have : o' = o := Option.some.inj (ho'.symm.trans ho)
  subst this
  unfold wpOp
  simp only [ho]
  rw [if_pos (by simp [Region.wanted, hgd])]
  refine .inl (hstep i o' hin ho a' w' si.grown (fun t ht => ?_) (fun j d hj hd ha => ?_) _ fun v w'' hb hv => ?_)
  ·have := si.same t ht
   rw [Array.getD_eq_getD_getElem?, Array.getD_eq_getD_getElem?, this]
  ·refine si.facts j d hj hd ?_ (.inr ⟨i, o', hin, ho, hun, ha⟩)
   obtain ⟨e, he, h2⟩ := Array.any_eq_true'.1 ha
   simp only [Bool.and_eq_true, beq_iff_eq] at h2
   have h3 := hall e he h2.1
   rw [h2.2] at h3
   have h4 := hbsz j hj
   simp [h4] at h3 ⊢
   exact h3
  ·obtain ⟨d, hd⟩ : ∃ d, ds[i]? = some d := ⟨ds[i]'(by omega), List.getElem?_eq_getElem _⟩
   have hod := hdst i o' d hin ho hd
   have hdl : d < a.tmps.size := hsz d (List.mem_of_getElem? hd)
   refine ih _ _ _ (inv.set hi hin) ?_ (by have := zev hun hin; omega)
   rw [hod]
   refine ⟨hS i _ _ si.grown hb, si.defers, ?_, fun t ht => ?_, fun j d' hj hd' hbj hwt => ?_⟩
   ·show (a'.tmps.setIfInBounds d v).size = _
    rw [Array.size_setIfInBounds]; exact si.size
   ·show (a'.tmps.setIfInBounds d v)[t]? = _
    rw [Array.getElem?_setIfInBounds_ne (show d ≠ t from fun e => ht (e ▸ List.mem_of_getElem? hd))]
    exact si.same t ht
   ·show Φ j ((a'.tmps.setIfInBounds d v).getD d' undef) w''
    by_cases e : j = i
    ·subst e
     rw [hd] at hd'
     injection hd' with hd'
     subst hd'
     have hds' : d < a'.tmps.size := by rw [si.size]; exact hdl
     have : (a'.tmps.setIfInBounds d v).getD d undef = v := by simp [Array.getD_eq_getD_getElem?, hds']
     rw [this]; exact hv
    ·have hne : d ≠ d' := fun h => by
      subst h
      have hi' : i < ds.length := by omega
      have hj' : j < ds.length := by omega
      have e1 : ds[i] = ds[j] := by
       rw [List.getElem?_eq_getElem hi'] at hd
       rw [List.getElem?_eq_getElem hj'] at hd'
       injection hd with h1; injection hd' with h2
       rw [h1, h2]
      exact e ((List.getElem_inj hnd).1 e1).symm
     have : (a'.tmps.setIfInBounds d v).getD d' undef = a'.tmps.getD d' undef := by
      rw [Array.getD_eq_getD_getElem?, Array.getD_eq_getD_getElem?, Array.getElem?_setIfInBounds_ne hne]
     rw [this]
     rw [getD_set_ne true (fun h => e h.symm)] at hbj
     have hnd' : fin j = true ∨ ∃ k o, ¬ k = i ∧ k < n ∧ l.toArray[k]? = some o ∧ b.getD k true = false ∧ waitsB o j = true := by
      rcases hwt with h | ⟨k, o, hkn, h1, h2, h3⟩
      ·exact .inl h
      ·by_cases ek : k = i
       ·subst ek
        have : (b.setIfInBounds k true).getD k true = true := by simp [Array.getD_eq_getD_getElem?, Array.getElem?_setIfInBounds]; split <;> simp_all
        rw [this] at h2; cases h2
       ·rw [getD_set_ne true (fun h => ek h.symm)] at h2
        exact .inr ⟨k, o, ek, hkn, h1, h2, h3⟩
     have hnw : ∀ oj, l.toArray[j]? = some oj → waitsB oj i = false := fun oj hoj => by
      cases hw : waitsB oj i with
      | false => rfl
      | true =>
       obtain ⟨e', he', h2'⟩ := Array.any_eq_true'.1 hw
       simp only [Bool.and_eq_true, beq_iff_eq] at h2'
       have hjb : b.getD j false = true := by
        have h4 := hbsz j hj
        simp [h4] at hbj ⊢
        exact hbj
       have h3' := inv.closed j oj hoj hjb e' he' h2'.1
       rw [h2'.2] at h3'
       have h4 := hbsz i hin
       simp [h4] at hun h3'
       rw [hun] at h3'
       cases h3'
     exact hper i j _ _ _ hin hj e hnw (hnd'.imp id fun ⟨k, o, h1, hkn, h2, h3, h4⟩ => ⟨k, o, h1, hkn, h2, h4, fun oi hoi => by
      have : oi = o' := Option.some.inj (hoi.symm.trans ho)
      subst this
      cases hw : waitsB oi k with
      | false => rfl
      | true =>
       obtain ⟨e', he', h2'⟩ := Array.any_eq_true'.1 hw
       simp only [Bool.and_eq_true, beq_iff_eq] at h2'
       have h3' := hall e' he' h2'.1
       rw [h2'.2] at h3'
       have h4' := hbsz k hkn
       simp [h4'] at h3 h3'
       rw [h3] at h3'
       cases h3'⟩) (si.facts j d' hj hd' hbj (hnd'.imp id fun ⟨k, o, h1, hkn, h2, h3, h4⟩ => ⟨k, o, hkn, h2, h3, h4⟩)) hb
theorem zg5 {id : Nat} (n : Nat) (ds : List Nat) (Φ : Nat → Value → World → Prop) (hI0 : I { W with drawn := W.drawn + 1 }) (hm : P.follows .mixedOrders = true) (hs : Region.sinkB .any l.toArray n = true) (hc : Region.chainB .any l.toArray n = true) (hn : n < l.toArray.size) (hD : depsB l.toArray n = true) (hq : Region.seqB .any l.toArray (l.toArray.size - n) n (List.replicate n true ++ List.replicate (l.toArray.size - n) false).toArray = true) 
  (hds : ds.length = n) (hdst : (l.take n).map (·.dst) = ds.map some) (hnd : ds.Nodup) (hsz : ∀ d ∈ ds, d < a.tmps.size)
  (hS : ∀ i w w', I w → S i w w' → I w') (hper : ∀ i j v w w', i < n → j < n → ¬ j = i → (∀ o, l.toArray[j]? = some o → waitsB o i = false) → (fin j = true ∨ ∃ k o, ¬ k = i ∧ k < n ∧ l.toArray[k]? = some o ∧ waitsB o j = true ∧ ∀ oi, l.toArray[i]? = some oi → waitsB oi k = false) → Φ j v w → S i w w' → Φ j v w')
  (hstep : ∀ i o, i < n → l.toArray[i]? = some o → ∀ (a' : Act) (w' : World), I w' → (∀ t, t ∉ ds → a'.tmps.getD t undef = a.tmps.getD t undef) →
   (∀ j d, j < n → ds[j]? = some d → (o.after.any fun e => Region.binds .any e && e.on == j) = true → Φ j (a'.tmps.getD d undef) w') →
   ∀ K : Act → World → Prop, (∀ v w'', S i w' w'' → Φ i v w'' → K (a'.put o.dst v) w'') → o.wp P a' w' K Q)
  (htail : ∀ a' w', I w' → a'.defers = a.defers → a'.tmps.size = a.tmps.size → (∀ t, t ∉ ds → a'.tmps[t]? = a.tmps[t]?) → (∀ i d, i < n → ds[i]? = some d → fin i = true → Φ i (a'.tmps.getD d undef) w') → wpList P l.toArray Q (l.drop n) a' w') :
  (Code.region id l.toArray true).wp P Q a W := by
 refine wp_region_any hm ?_
 have hdst' : ∀ i o d, i < n → l.toArray[i]? = some o → ds[i]? = some d → o.dst = some d := by
  intro i o d hi ho hd
  have h1 : ((l.take n).map (·.dst))[i]? = some o.dst := by
   have : l[i]? = some o := by simpa using ho
   simp [List.getElem?_take, hi, this]
  rw [hdst, List.getElem?_map, hd] at h1
  simpa using h1.symm
 have inv0 : HeadInv .any l.toArray n (Array.replicate l.toArray.size false) :=
  ⟨by simp, fun j x _ hl => (by rw [getD_replicate_false] at hl; cases hl), fun t _ ht => getD_in (by simpa using ht) (getD_replicate_false _ _)⟩
 have H := zsi (P := P) (Q := Q) (a := a) (I := I) (Φ := Φ) (S := S) hs hc hn hD hq hds hdst' hnd hsz hS hper hstep htail n (Array.replicate l.toArray.size false) a { W with drawn := W.drawn + 1 } inv0
  ⟨hI0, rfl, rfl, fun _ _ => rfl, fun i d hi _ h _ => by
   rw [getD_in (by simp; simp at hn; omega) (getD_replicate_false _ _)] at h
   cases h⟩ (zc1 _ (by omega))
 rw [show n + (l.toArray.size - n) = l.toArray.size by omega] at H
 exact H
end
def wB (ops : Array Oper) (i k : Nat) : Bool := match ops[i]? with | some o => waitsB o k | none => false
def ndOK (ops : Array Oper) (fin : List Nat) (nd : List (List Nat)) (n : Nat) : Bool :=
 (List.range n).all fun j => (List.range n).all fun i => i == j || (nd.getD i []).contains j || wB ops j i || (!fin.contains j && (List.range n).all fun k => k == i || !wB ops k j || wB ops i k)
theorem wB_of {ops : Array Oper} {i k : Nat} {o : Oper} (h : ops[i]? = some o) : wB ops i k = waitsB o k := by unfold wB; rw [h]
theorem znr {ops : Array Oper} {i k : Nat} (h : ∀ o, ops[i]? = some o → waitsB o k = false) : wB ops i k = false := by
 cases ho : ops[i]? with
 | none => unfold wB; rw [ho]
 | some o => rw [wB_of ho]; exact h o ho
theorem nd_of {ops : Array Oper} {fin : List Nat} {nd : List (List Nat)} (h : ndOK ops fin nd n = true) {i j : Nat} (hi : i < n) (hj : j < n) (hne : ¬ j = i) (hnw : ∀ o, ops[j]? = some o → waitsB o i = false) (hw : fin.contains j = true ∨ ∃ k o, ¬ k = i ∧ k < n ∧ ops[k]? = some o ∧ waitsB o j = true ∧ ∀ oi, ops[i]? = some oi → waitsB oi k = false) : (nd.getD i []).contains j = true := by
 have h1 := List.all_eq_true.1 (List.all_eq_true.1 h j (List.mem_range.2 hj)) i (List.mem_range.2 hi)
 simp only [Bool.or_eq_true, beq_iff_eq, Bool.and_eq_true, Bool.not_eq_true'] at h1
 rcases h1 with ((h1 | h1) | h1) | ⟨h1, h2⟩
 ·exact absurd h1.symm hne
 ·exact h1
 ·rw [znr hnw] at h1; cases h1
 ·rcases hw with hw | ⟨k, o, hk, hkn, ho, hw, hik⟩
  ·rw [h1] at hw; cases hw
  ·have h3 := List.all_eq_true.1 h2 k (List.mem_range.2 hkn)
   simp only [Bool.or_eq_true, beq_iff_eq, Bool.not_eq_true'] at h3
   rcases h3 with (h3 | h3) | h3
   ·exact absurd h3 hk
   ·rw [wB_of ho, hw] at h3; cases h3
   ·rw [znr hik] at h3; cases h3
def KeepI (I : World → Prop) (pv : List (Value → World → Prop)) (nd : List (List Nat)) (i : Nat) (w w' : World) : Prop := (I w → I w') ∧ ∀ j v, (nd.getD i []).contains j = true → pv.getD j (fun _ _ => True) v w → pv.getD j (fun _ _ => True) v w'
theorem zaj (I : World → Prop) (pv : List (Value → World → Prop)) (nd : List (List Nat)) (i : Nat) (w : World) : KeepI I pv nd i w w := ⟨fun h => h, fun _ _ _ h => h⟩
theorem zey {I : World → Prop} {pv : List (Value → World → Prop)} {nd : List (List Nat)} (hI : ∀ w w', I w → Below w.heap.size w w' → I w') (hPB : allP (fun p => ∀ v w w', p v w → Below w.heap.size w w' → p v w') pv) (hb : Below w.heap.size w w') (i : Nat) : KeepI I pv nd i w w' :=
 ⟨fun h => hI w w' h hb, fun j v _ hv => zb9 (C := fun p => ∀ v w w', p v w → Below w.heap.size w w' → p v w') (fun _ _ _ _ _ => trivial) pv j hPB v w w' hv hb⟩
def maskL (l : List Nat) : Nat → List (Value → World → Prop) → List (Value → World → Prop)
 | _, [] => []
 | k, p :: ps => (if l.contains k = true then p else fun _ _ => True) :: maskL l (k + 1) ps
theorem zns {l : List Nat} {j : Nat} (h : l.contains j = true) : ∀ (pv : List (Value → World → Prop)) (k i : Nat), k + i = j → (maskL l k pv).getD i (fun _ _ => True) = pv.getD i fun _ _ => True
 | [], _, _, _ => rfl
 | p :: ps, k, 0, e => by
  have : k = j := by omega
  subst this
  show (if l.contains k = true then p else fun _ _ => True) = p
  rw [if_pos h]
 | p :: ps, k, i + 1, e => by
  have := zns h ps (k + 1) i (by omega)
  simpa [maskL] using this
theorem zvi {I : World → Prop} {pv : List (Value → World → Prop)} {nd : List (List Nat)} (i : Nat) (h1 : I w → I w') (h2 : allP (fun p => ∀ v, p v w → p v w') (maskL (nd.getD i []) 0 pv)) : KeepI I pv nd i w w' :=
 ⟨h1, fun j v hj hv => by
  have := zb9 (C := fun p => ∀ v, p v w → p v w') (fun _ _ => trivial) (maskL (nd.getD i []) 0 pv) j h2 v
  rw [zns hj pv 0 j (by omega)] at this
  exact this hv⟩
def headStep (P : Program) (Q : Exit → Act → World → Prop) (a : Act) (I : World → Prop) (ds : List Nat) (pv : List (Value → World → Prop)) (nd : List (List Nat)) (i : Nat) (o : Oper) : Prop :=
 ∀ (a' : Act) (w' : World), I w' → (∀ t, t ∉ ds → a'.tmps[t]?.getD undef = a.tmps[t]?.getD undef) →
  (∀ j d, (o.after.any fun e => Region.binds .any e && e.on == j) = true → ds[j]? = some d → pv.getD j (fun _ _ => True) (a'.tmps[d]?.getD undef) w') →
  ∀ K : Act → World → Prop, (∀ v w'', KeepI I pv nd i w' w'' → pv.getD i (fun _ _ => True) v w'' → K (a'.put o.dst v) w'') → o.wp P a' w' K Q
theorem zhc {P : Program} {l : List Oper} {Q : Exit → Act → World → Prop} {a : Act} {id : Nat} (n : Nat) (ds : List Nat) (pv : List (Value → World → Prop)) (fin : List Nat) (nd : List (List Nat)) (I : World → Prop) (hI0 : I { W with drawn := W.drawn + 1 }) (hm : P.follows .mixedOrders = true) (hs : Region.sinkB .any l.toArray n = true) (hc : Region.chainB .any l.toArray n = true) (hn : n < l.toArray.size) (hD : depsB l.toArray n = true) (hq : Region.seqB .any l.toArray (l.toArray.size - n) n (List.replicate n true ++ List.replicate (l.toArray.size - n) false).toArray = true) (hnd : ndOK l.toArray fin nd n = true) 
  (hds : ds.length = n) (hdst : (l.take n).map (·.dst) = ds.map some) (hdn : ds.Nodup) (hsz : ∀ d ∈ ds, d < a.tmps.size)
  (hstep : stepsF (headStep P Q a I ds pv nd) 0 (l.take n))
  (htail : ∀ (X : Nat → Value) (w' : World), I w' → (∀ i d, ds[i]? = some d → fin.contains i = true → pv.getD i (fun _ _ => True) (X d) w') → wpList P l.toArray Q (l.drop n) (puts ds (ds.map X) a) w') :
  (Code.region id l.toArray true).wp P Q a W := by
 refine zg5 (S := fun i w w' => KeepI I pv nd i w w') (fin := fun i => fin.contains i) n ds (fun i v w => pv.getD i (fun _ _ => True) v w) hI0 hm hs hc hn hD hq hds hdst hdn hsz (fun i w w' h s => s.1 h) (fun i j v w w' hi hj hne hnw hw h s => s.2 j v (nd_of hnd hi hj hne hnw hw) h) (fun i o hi ho a' w' hb hsame hdep K hK => ?_) (fun a' w' hb h1 h2 h3 h4 => ?_)
 ·have hot : (l.take n)[i]? = some o := by
   rw [List.getElem?_take, if_pos hi]
   simpa using ho
  have H := zc4 (l.take n) 0 i o hstep hot
  rw [Nat.zero_add] at H
  refine H a' w' hb (fun t ht => ?_) (fun j d ha hd => ?_) K fun v w'' hs hv => hK v w'' hs hv
  ·have := hsame t ht
   rwa [Array.getD_eq_getD_getElem?, Array.getD_eq_getD_getElem?] at this
  ·have hjn : j < n := by have := (List.getElem?_eq_some_iff.1 hd).1; omega
   have := hdep j d hjn hd ha
   rwa [Array.getD_eq_getD_getElem?] at this
 ·rw [zc9 ds a h1 h2 hsz h3]
  refine htail (fun d => a'.tmps.getD d undef) w' hb fun i d hd hf => h4 i d ?_ hd hf
  have := (List.getElem?_eq_some_iff.1 hd).1
  omega
end Go.Proofs.YtkehankfnkjnlaaGreatDoor
