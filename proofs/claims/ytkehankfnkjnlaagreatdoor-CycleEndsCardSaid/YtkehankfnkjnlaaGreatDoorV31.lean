import Derived.Test.YtkehankfnkjnlaaGreatDoorV28
import Derived.Test.YtkehankfnkjnlaaGreatDoorV30
import Derived.Lib.AppendZerosOnto
import Derived.Shelf.SlIterI.Nil
import Derived.Shelf.SortM.Plain
import Derived.Shelf.SortM.SortNone
namespace Go.Proofs.YtkehankfnkjnlaaGreatDoor
set_option linter.unusedSimpArgs false
set_option linter.unusedVariables false
set_option maxHeartbeats 16000000
set_option maxRecDepth 20000
open Go.ChangeAt Go.ChangeShapes Go.Joins Go.RowKit Go.WideShapes
variable {h : Hp} {w w' W W' : World} {p q : Option Addr} {n g : Nat} {a : Int} {v : Value}
structure CyS (N : Nat) (w : World) (Z : Wd) (q : Wp) (R : Array Value) (W : World) : Prop where
 x : TBox 38 w.heap.size (Z.cells q).toArray W
 r : TBox 38 (w.heap.size + 1) R W
 e : WdE N W Z q
 b : Below w.heap.size w W
section
variable {N : Nat} {w W W' : World} {Z Z' : Wd} {q q' : Wp} {R : Array Value}
theorem CyS.below (h : CyS N w Z q R W) (hb : Below W.heap.size W W') : CyS N w Z q R W' := ⟨h.x.below hb, h.r.below hb, h.e.below hb, bjoin hb h.b⟩
theorem CyS.puts (h : CyS N w Z q R W) (hN : N ≤ w.heap.size) (hE : WdE N W Z' q') (hF : formB Z'.h = true) (k : Nat) (vs : List Value) (he : setFrom (Z.cells q).toArray k vs = (Z'.cells q').toArray) : CyS N w Z' q' R (putsL w.heap.size k vs W) :=
 have hm := zad.1 hF
 ⟨by rw [← he]; exact h.x.putsL vs k, h.r.of_block (zah (by omega) vs k W), hE.aside h.x.varW hN (by omega) (by omega) (zay (T := fun k => k = w.heap.size) rfl vs k W), h.b.trans (zao (Nat.le_refl _) vs k W)⟩
theorem zhs (hE : WdE N W Z q) (hr : TBox 38 g R W) (hs : R.size = 21) (hp : PlainC R) (hg : N ≤ g) (hF : formB Z.h = true) {wz : World} (hst : StW g W wz) : WdE N wz Z q :=
 have hm := zad.1 hF
 hE.aside ⟨R, hs, hp, hr⟩ hg (by omega) (by omega) hst.aside
theorem CyS.fin (h : CyS N w Z q R W) (hN : N ≤ w.heap.size) (hF : formB Z.h = true) (hs : R.size = 21) (hp : PlainC R) {wz : World} (hst : StW (w.heap.size + 1) W wz) : WdE N wz Z q ∧ Below w.heap.size w wz :=
 ⟨zhs h.e h.r hs hp (by omega) hF hst, h.b.trans (hst.below _ (by omega))⟩
end
theorem zfr {N : Nat} {Z : Wd} {q : Wp} {R : Array Value} (hv : WdE N w Z q) (h : W = (w.alloc (.cells (Z.cells q).toArray 38)).alloc (.cells R 38)) : CyS N w Z q R W := by
 obtain ⟨gA, gR, hB⟩ := zbw h
 exact ⟨gA, gR, hv.below hB, hB⟩
theorem WdE.heaped {N : Nat} {Z : Wd} {q : Wp} (hv : WdE N W Z q) {p' : Option Addr} {c' : Nat} {q' : Option Addr} {d' : Nat} (hh : HpAt W p' c' q' d' h) : WdE N W { Z with h := h } { q with h := p', hc := c', s := q', sc := d' } :=
 ⟨hh, hv.muts, hv.me, hv.mark, hv.reps, hv.oe, hv.conf, hv.wm, hv.own⟩
theorem zre (hF : formB h = true) (hw : h.wf) (n : Nat) (y : Nat → Int) : formB (onH h n y) = true := by
 cases e : onP h with
 | none => rw [(zgp e _ _).1]; exact hF
 | some p => exact (ond hF hw _ _ e).form
def OnT (Z : Wd) (v : Value) (w : World) : Prop := ∃ p c q d x y b, v = .tuple #[.agg #[.slice p Z.h.n c, .slice q Z.h.m d, .bool Z.h.b], x, y, b] ∧ HpIn w p Z.h.n c q Z.h.m d Z.h.b (onH Z.h Z.n (caY Z.z))
theorem OnT.below {Z : Wd} (h : OnT Z v w) (hb : Below w.heap.size w w') : OnT Z v w' := by
 obtain ⟨p, c, q, d, x, y, b, e, h⟩ := h
 exact ⟨p, c, q, d, x, y, b, e, h.below hb⟩
def CaO (N : Nat) (Z : Wd) (v : Value) (w : World) : Prop := ∃ p c, v = .slice p Z.n c ∧ w.ownsRow N 71 4 (.slice p Z.n c) Z.n (vals .i64 (Z.n * 4) (caY Z.z)) ∧ ∀ i, i < Z.n * 4 → (Lit.int .i64 (caY Z.z i)).wf = true
theorem CaO.below {N : Nat} {Z : Wd} (h : CaO N Z v w) (hb : Below w.heap.size w w') : CaO N Z v w' := by
 obtain ⟨p, c, e, h, hw⟩ := h
 exact ⟨p, c, e, zaa h hb, hw⟩
theorem CaO.puts {N g : Nat} {Z : Wd} (h : CaO N Z v w) (hg : g < N) (k : Nat) (vs : List Value) : CaO N Z v (putsL g k vs w) := by
 obtain ⟨p, c, e, h, hw⟩ := h
 exact ⟨p, c, e, zaw h (zay (T := fun k => k = g) rfl vs k w) (fun j e => by omega), hw⟩
theorem OnT.puts {T m g : Nat} {Z : Wd} (h : OnT Z v w) (hv : VarT T m g w) (hn : 32 ≤ Z.h.n) (hm : 0 < Z.h.m) (k : Nat) (vs : List Value) : OnT Z v (putsL g k vs w) := by
 obtain ⟨p, c, q, d, x, y, b, e, h⟩ := h
 exact ⟨p, c, q, d, x, y, b, e, zan (hv.clear h hn hm) vs k h⟩
theorem HpV.puts5 {T j g n m : Nat} {b : Bool} {H : Hp} (h : HpV n m b H v w) (hv : VarT T j g w) (hn : 32 ≤ n) (hm : 0 < m) (k : Nat) (vs : List Value) : HpV n m b H v (putsL g k vs w) := by
 obtain ⟨p, c, q, d, e, h⟩ := h
 exact ⟨p, c, q, d, e, zan (hv.clear h hn hm) vs k h⟩
def CyV (N : Nat) (w : World) (Z : Wd) (R : Array Value) (_ : Value) (W : World) : Prop := ∃ q, CyS N w Z q R W
theorem CyV.below {N : Nat} {Z : Wd} {R : Array Value} (h : CyV N w Z R v W) (hb : Below W.heap.size W W') : CyV N w Z R v W' := by
 obtain ⟨q, h⟩ := h
 exact ⟨q, h.below hb⟩
def AnyV (_ : Value) (_ : World) : Prop := True
theorem AnyV.below (_ : AnyV v w) (_ : Below w.heap.size w w') : AnyV v w' := trivial
def swM (W : Wd) : Wd × Int := if drH (onH W.h W.n (caY W.z)) = 0 then ({ W with h := onH W.h W.n (caY W.z), ph := 0 }, 5) else ({ W with h := onH W.h W.n (caY W.z) }, 1)
theorem zeo (N : Nat) (Z : Wd) (q : Wp) (w : World) (hN : N ≤ w.heap.size) (hS : Sz w) (hv : WdE N w Z q) (hF : formB Z.h = true) (hn : Z.n ≤ 10) :
  Calls Tryz.prog 45 #[.agg (Z.cells q).toArray] w fun e w' => ∃ q', e = .returned (.tuple #[.agg ((swM Z).1.cells q').toArray, .int .i64 (swM Z).2]) ∧ WdE N w' (swM Z).1 q' ∧ Below w.heap.size w w' := by
 obtain ⟨SW, hSW⟩ : ∃ x, x = swM Z := ⟨_, rfl⟩
 rw [← hSW]
 obtain ⟨R0, hR0⟩ : ∃ R : Array Value, R = #[.int .i64 0, .int .i64 0, .int .i64 0, .int .i64 0, .int .i64 0, .slice none 0 0, .slice none 0 0, .bool false, .slice none 0 0, .int .i64 0, .slice none 0 0, .slice none 0 0, .slice none 0 0, .int .i64 0, .int .i64 0, .int .i64 0, .bool false, .int .i64 0, .bool false, .int .i64 0, .slice none 0 0] := ⟨_, rfl⟩
 have hRs : R0.size = 21 := by rw [hR0]; rfl
 have hRp : PlainC R0 := by rw [hR0]; exact zbh zeW zeP
 obtain ⟨wB, hw2⟩ : ∃ W, W = (w.alloc (.cells (Z.cells q).toArray 38)).alloc (.cells R0 38) := ⟨_, rfl⟩
 have hC := zfr hv hw2
 have hFo := zre hF hv.heap.wf Z.n (caY Z.z)
 go_enter Tryz.func45, Tryz.ntmps45
 go_upto_region 1 with fail
 rw [← hR0, ← hw2]
 clear hw2 hR0
 have hCr : ∀ W, Below wB.heap.size wB W → Calls Tryz.prog 22 #[.agg (Z.cells q).toArray] W fun e w' => ∃ x, e = .returned x ∧ CaO wB.heap.size Z x w' ∧ Below W.heap.size W w' := fun W hW => by
  refine zm (zgf Z q W (hC.below hW).e.in.muts hn) ?_
  rintro e w' ⟨p', c', rfl, hin, hb⟩
  exact ⟨_, rfl, ⟨p', c', rfl, zag hin hW.size, zxq hv.in⟩, hb⟩
 have hOn : ∀ W x, Below wB.heap.size wB W → CaO wB.heap.size Z x W → Calls Tryz.prog 78 #[.agg #[.slice q.h Z.h.n q.hc, .slice q.s Z.h.m q.sc, .bool Z.h.b], x] W fun e w' => ∃ v, e = .returned v ∧ OnT Z v w' ∧ Below W.heap.size W w' := fun W x hW hx => by
  obtain ⟨pc, cc, rfl, hin, hwf⟩ := hx
  refine zm (zv7 q.h q.hc q.s q.sc Z.h pc Z.n cc (caY Z.z) W ((hS.below hC.b).below hW) (hC.below hW).e.heap hF (zfj hin hwf).1 (by omega)) ?_
  rintro e w' ⟨p', c', q', d', rfl, hh, -, hb⟩
  exact ⟨_, rfl, ⟨p', c', q', d', _, _, _, rfl, hh⟩, hb⟩
 have hgN : w.heap.size < wB.heap.size := hC.x.lt
 obtain ⟨hn32, hm1⟩ : 32 ≤ Z.h.n ∧ 0 < Z.h.m := by have := zad.1 hF; omega
 refine zp8 (w.heap.size) 11 [0, 1, 2, 3, 4, 5, 6, 10] [1, 4, 3, 4, 5, 6, 11, 0, 0, 0, 11, 0] [some 5, some 6, some 7, some 8, some 9, some 4, some 10, some 11, some 12, some 13, some 14, none] [5, 6, 7, 8, 9, 4, 10, 11, 12, 13, 14] ([(fun v _ => v = .pointer (some ⟨w.heap.size, 5, none⟩)), (fun v _ => v = .agg #[.slice q.h Z.h.n q.hc, .slice q.s Z.h.m q.sc, .bool Z.h.b]), (fun v _ => v = .agg (Z.cells q).toArray), ((CaO wB.heap.size Z)), ((OnT Z)), ((OnT Z)), ((HpV Z.h.n Z.h.m Z.h.b (onH Z.h Z.n (caY Z.z)))), ((AnyV)), ((AnyV)), ((AnyV)), (fun v _ => v = .pointer (some ⟨w.heap.size, 5, none⟩)), ((CyV N w { Z with h := onH Z.h Z.n (caY Z.z) } R0))] : List (Value → World → Prop)) 15 (by kernel_rfl) (by kernel_rfl) rfl rfl (by decide) (by decide) (by simp) (by kernel_rfl) (by decide) ⟨fun _ _ _ h _ => h, fun _ _ _ h _ => h, fun _ _ _ h _ => h, fun _ _ _ h hb => h.below hb, fun _ _ _ h hb => h.below hb, fun _ _ _ h hb => h.below hb, fun _ _ _ h hb => h.below hb, fun _ _ _ h hb => h.below hb, fun _ _ _ h hb => h.below hb, fun _ _ _ h hb => h.below hb, fun _ _ _ h _ => h, fun _ _ _ h hb => h.below hb, trivial⟩ ?_ ?_
 ·refine ⟨?_, ?_, ?_, ?_, ?_, ?_, ?_, ?_, ?_, ?_, ?_, ?_, trivial⟩
  ·unfold swapStep
   rw [if_neg (by decide), if_pos (by decide)]
   intro a' w' hb' hs hd Kc hK
   have f1 : a'.tmps[1]?.getD undef = .pointer (some ⟨w.heap.size, 0, none⟩) := (hs 1 (by decide)).trans rfl
   clear hs hd
   unfold Oper.wp
   go_simp
   exact hK _ _ zr rfl
  ·unfold swapStep
   rw [if_neg (by decide), if_pos (by decide)]
   intro a' w' hb' hs hd Kc hK
   have f5 : a'.tmps[5]?.getD undef = .pointer (some ⟨w.heap.size, 5, none⟩) := hd 0 5 zt rfl
   clear hs hd
   have hG := (hC.below hb').x
   obtain ⟨l0, -, ⟨a5, a6, a7, a8⟩, -⟩ := zac hG
   unfold Oper.wp
   go_simp
   exact hK _ _ zr rfl
  ·unfold swapStep
   rw [if_neg (by decide), if_pos (by decide)]
   intro a' w' hb' hs hd Kc hK
   have f1 : a'.tmps[1]?.getD undef = .pointer (some ⟨w.heap.size, 0, none⟩) := (hs 1 (by decide)).trans rfl
   clear hs hd
   have hG := (hC.below hb').x
   obtain ⟨l0, -, ⟨a5, a6, a7, a8⟩, -⟩ := zac hG
   have hG := (hC.below hb').x
   refine wp_load_mid 38 (.tmp 1) rfl w.heap.size 0 (by simp [Act.eval, f1]) (Z.cells q) _ hG.range Tryz.underlying38 rfl zfu ?_
   exact hK _ _ zr rfl
  ·unfold swapStep
   rw [if_neg (by decide), if_pos (by decide)]
   intro a' w' hb' hs hd Kc hK
   have f7 : a'.tmps[7]?.getD undef = .agg (Z.cells q).toArray := hd 2 7 zt rfl
   clear hs hd
   have hG := (hC.below hb').x
   obtain ⟨l0, -, ⟨a5, a6, a7, a8⟩, -⟩ := zac hG
   unfold Oper.wp
   go_simp
   refine zm (hCr _ hb') ?_
   rintro e w'' ⟨v9, rfl, hA, hb2⟩
   exact hK _ _ hb2 hA
  ·unfold swapStep
   rw [if_neg (by decide), if_pos (by decide)]
   intro a' w' hb' hs hd Kc hK
   have f6 : a'.tmps[6]?.getD undef = .agg #[.slice q.h Z.h.n q.hc, .slice q.s Z.h.m q.sc, .bool Z.h.b] := hd 1 6 zt rfl
   have f8 : (CaO wB.heap.size Z) (a'.tmps[8]?.getD undef) w' := hd 3 8 zt rfl
   clear hs hd
   have hG := (hC.below hb').x
   obtain ⟨l0, -, ⟨a5, a6, a7, a8⟩, -⟩ := zac hG
   unfold Oper.wp
   go_simp
   refine zm (hOn _ _ hb' f8) ?_
   rintro e w'' ⟨v9, rfl, hA, hb2⟩
   exact hK _ _ hb2 hA
  ·unfold swapStep
   rw [if_neg (by decide), if_pos (by decide)]
   intro a' w' hb' hs hd Kc hK
   have f9 : (OnT Z) (a'.tmps[9]?.getD undef) w' := hd 4 9 zt rfl
   clear hs hd
   unfold Oper.wp
   go_simp
   exact hK _ _ zr f9
  ·unfold swapStep
   rw [if_neg (by decide), if_pos (by decide)]
   intro a' w' hb' hs hd Kc hK
   have f4 : (OnT Z) (a'.tmps[4]?.getD undef) w' := hd 5 4 zt rfl
   clear hs hd
   have hG := (hC.below hb').x
   obtain ⟨l0, -, ⟨a5, a6, a7, a8⟩, -⟩ := zac hG
   obtain ⟨p9, c9, q9, d9, x9, y9, b9, f40, hA⟩ := f4
   unfold Oper.wp
   go_simp
   exact hK _ _ zr ⟨p9, c9, q9, d9, rfl, hA⟩
  ·unfold swapStep
   rw [if_neg (by decide), if_neg (by decide)]
   intro a' w' hs hd Kc hK
   have f4 : (OnT Z) (a'.tmps[4]?.getD undef) w' := hd 5 4 zt rfl
   clear hs hd
   obtain ⟨p9, c9, q9, d9, x9, y9, b9, f40, hA⟩ := f4
   unfold Oper.wp
   go_simp
   exact hK _ trivial
  ·unfold swapStep
   rw [if_neg (by decide), if_neg (by decide)]
   intro a' w' hs hd Kc hK
   have f4 : (OnT Z) (a'.tmps[4]?.getD undef) w' := hd 5 4 zt rfl
   clear hs hd
   obtain ⟨p9, c9, q9, d9, x9, y9, b9, f40, hA⟩ := f4
   unfold Oper.wp
   go_simp
   exact hK _ trivial
  ·unfold swapStep
   rw [if_neg (by decide), if_neg (by decide)]
   intro a' w' hs hd Kc hK
   have f4 : (OnT Z) (a'.tmps[4]?.getD undef) w' := hd 5 4 zt rfl
   clear hs hd
   obtain ⟨p9, c9, q9, d9, x9, y9, b9, f40, hA⟩ := f4
   unfold Oper.wp
   go_simp
   exact hK _ trivial
  ·unfold swapStep
   rw [if_neg (by decide), if_pos (by decide)]
   intro a' w' hb' hs hd Kc hK
   have f1 : a'.tmps[1]?.getD undef = .pointer (some ⟨w.heap.size, 0, none⟩) := (hs 1 (by decide)).trans rfl
   clear hs hd
   unfold Oper.wp
   go_simp
   exact hK _ _ zr rfl
  ·unfold swapStep
   rw [if_pos (by decide)]
   intro a' w' hb' hs hd Kc hK
   have f14 : a'.tmps[14]?.getD undef = .pointer (some ⟨w.heap.size, 5, none⟩) := hd 10 14 zt rfl
   have f10 : (HpV Z.h.n Z.h.m Z.h.b (onH Z.h Z.n (caY Z.z))) (a'.tmps[10]?.getD undef) w' := hd 6 10 zt rfl
   clear hs hd
   have hG := (hC.below hb').x
   obtain ⟨l0, -, ⟨a5, a6, a7, a8⟩, -⟩ := zac hG
   obtain ⟨p9, c9, q9, d9, f40, hA⟩ := f10
   have hC9 := hC.below hb'
   obtain ⟨l0, -, ⟨a5, a6, a7, a8⟩, -⟩ := zac hC9.x
   have j5 := hC9.x.frozen 5
   have j6 := hC9.x.frozen 6
   have j7 := hC9.x.frozen 7
   unfold Oper.wp
   go_simp
   have full : CyV N w { Z with h := onH Z.h Z.n (caY Z.z) } R0 undef (putsL w.heap.size 5 [.slice p9 Z.h.n c9, .slice q9 Z.h.m d9, .bool Z.h.b] w') := ⟨_, hC9.puts hN (hC9.e.heaped hA.at') hFo 5 _ (by unfold Wd.cells; dsimp only; rw [← hA.n_eq, ← hA.m_eq, ← hA.b_eq]; rfl)⟩
   exact hK (.tuple #[]) _ (zay (T := fun k => k = w.heap.size) rfl [.slice p9 Z.h.n c9, .slice q9 Z.h.m d9, .bool Z.h.b] 5 w') ⟨fun _ h => h, fun _ h => h, fun _ h => h, fun _ h => h.puts hgN 5 [.slice p9 Z.h.n c9, .slice q9 Z.h.m d9, .bool Z.h.b], fun _ h => h.puts hC9.x.varW hn32 hm1 5 [.slice p9 Z.h.n c9, .slice q9 Z.h.m d9, .bool Z.h.b], fun _ h => h.puts hC9.x.varW hn32 hm1 5 [.slice p9 Z.h.n c9, .slice q9 Z.h.m d9, .bool Z.h.b], fun _ h => h.puts5 hC9.x.varW hn32 hm1 5 [.slice p9 Z.h.n c9, .slice q9 Z.h.m d9, .bool Z.h.b], fun _ h => h, fun _ h => h, fun _ h => h, fun _ h => h, fun _ _ => full, trivial⟩ full
 intro Xf w' hA0 hv hn
 have o11 : (CyV N w { Z with h := onH Z.h Z.n (caY Z.z) } R0) undef w' := hn 11 rfl
 clear hv hn
 simp only [List.map_cons, List.map_nil, puts, Act.put, Nat.reduceAdd, List.setIfInBounds_toArray, List.set_cons_succ, List.set_cons_zero]
 obtain ⟨q1, hD⟩ := o11
 clear hCr hOn hC hA0
 obtain ⟨Z1, hZ1⟩ : ∃ Y, Y = ({ Z with h := onH Z.h Z.n (caY Z.z) } : Wd) := ⟨_, rfl⟩
 rw [← hZ1] at hD
 have hF1 : formB Z1.h = true := by rw [hZ1]; exact hFo
 have hdr : drH (onH Z.h Z.n (caY Z.z)) = drH Z1.h := by rw [hZ1]
 have hDr := fun W (hW : Below w'.heap.size w' W) => zpc q1.h q1.hc q1.s q1.sc Z1.h W ((hD.below hW).e.heap) ((zad.1 hF1).2.1)
 obtain ⟨a5, a6, a7, -⟩ := (zac hD.x).2.2.1
 have lx := hD.x.lt
 by_cases hz : drH Z1.h = 0
 ·have hz' : ¬ ((drH Z1.h : Nat) : Int) > 0 := by omega
  have hR : Hid (SW = ({ Z1 with ph := 0 }, 5)) := by show SW = _; rw [hSW]; unfold swM; rw [hdr, if_pos hz, hZ1]
  clear hSW hz hdr hZ1
  go_upto_region 4 with (first
  | (go_at_call 79; refine zm (hDr _ (by go_grown)) ?_; rintro e w3 ⟨rfl, hb3⟩)
  )
  have hD3 := hD.below hb3
  clear hDr hb3 a5 a6 a7 lx hD
  have lx := hD3.x.lt
  have j17 := hD3.x.frozen 17
  have a17 := hD3.x.cell 17
  simp only [List.getElem?_toArray, List.getElem?_cons_zero, List.getElem?_cons_succ] at a17
  obtain ⟨Z2, hZ2⟩ : ∃ Y, Y = ({ Z1 with ph := 0 } : Wd) := ⟨_, rfl⟩
  have hE2 : WdE N w3 Z2 q1 := by rw [hZ2]; exact ⟨hD3.e.heap, hD3.e.muts, hD3.e.me, hD3.e.mark, hD3.e.reps, hD3.e.oe, hD3.e.conf, hD3.e.wm, ⟨(show In64 0 from ⟨by decide, by decide⟩), hD3.e.own.2⟩⟩
  have hF2 : formB Z2.h = true := by rw [hZ2]; exact hF1
  have hD4 := hD3.puts hN hE2 hF2 17 [.int .i64 0] (by rw [hZ2]; rfl)
  simp only [putsL] at hD4
  rw [← hZ2] at hR
  clear hZ2 hE2
  go_upto_region 5 with fail
  clear a17 j17 lx
  generalize w3.setCell ⟨w.heap.size, 17, none⟩ (.int .i64 0) = w4 at *
  refine wp_region_lit ?_
  refine ld_w hD4.x rfl ?_
  refine st_w hD4.r hRs rfl rfl fun wz gZ hst => ?_
  obtain ⟨hEz, hbz⟩ := hD4.fin hN hF2 hRs hRp hst
  go_wp2
  refine bodyPost_ret (zdr rfl rfl gZ) rfl ?_
  exact ⟨q1, by rw [hR.out]; rfl, by rw [hR.out]; exact hEz, hbz⟩
 ·have hz' : ((drH Z1.h : Nat) : Int) > 0 := by omega
  have hR : Hid (SW = (Z1, 1)) := by show SW = _; rw [hSW]; unfold swM; rw [hdr, if_neg hz, hZ1]
  clear hSW hz hdr hZ1
  go_upto_region 3 with (first
  | (go_at_call 79; refine zm (hDr _ (by go_grown)) ?_; rintro e w3 ⟨rfl, hb3⟩)
  )
  have hD3 := hD.below hb3
  clear hDr hb3 a5 a6 a7 lx hD
  refine wp_region_lit ?_
  refine ld_w hD3.x rfl ?_
  refine st_w hD3.r hRs rfl rfl fun wz gZ hst => ?_
  obtain ⟨hEz, hbz⟩ := hD3.fin hN hF1 hRs hRp hst
  go_wp2
  refine bodyPost_ret (zdr rfl rfl gZ) rfl ?_
  exact ⟨q1, by rw [hR.out]; rfl, by rw [hR.out]; exact hEz, hbz⟩
theorem su_sw {Z : Wd} (h : Z.ph = 2) : suM Z = swM Z := by unfold suM swM; rw [if_pos h]
theorem zna {Z : Wd} (hF : formB Z.h = true) (hw : Z.h.wf) : formB (swM Z).1.h = true := by
 have := zre hF hw Z.n (caY Z.z)
 unfold swM
 split <;> exact this
def BdW (Z : Wd) : Prop := Z.nr ≤ 1000000 ∧ Z.m.nr ≤ 1000
theorem ze9 {Z : Wd} (hF : FormW Z) : Z.n ≤ 8 ∧ ∀ i, i < Z.n → (Z.z i).n ≤ 8 := by
 have h1 := zgo.1 hF.may
 have h2 := hF.hn
 refine ⟨by omega, fun i hi => ?_⟩
 have := hF.st i hi
 omega
theorem zmq (N : Nat) (Z : Wd) (q : Wp) (w : World) (hN : N ≤ w.heap.size) (hS : Sz w) (hv : WdE N w Z q) (hF : FormW Z) (hB : BdW Z) :
  Calls Tryz.prog 16 #[.agg (Z.cells q).toArray] w fun e w' => ∃ q', e = .returned (.tuple #[.agg ((suM Z).1.cells q').toArray, .int .i64 (suM Z).2]) ∧ WdE N w' (suM Z).1 q' ∧ Below w.heap.size w w' := by
 have hn := (ze9 hF).1
 replace hF := hF.hF
 obtain ⟨SW, hSW⟩ : ∃ x, x = suM Z := ⟨_, rfl⟩
 rw [← hSW]
 obtain ⟨R0, hR0⟩ : ∃ R : Array Value, R = #[.int .i64 0, .int .i64 0, .int .i64 0, .int .i64 0, .int .i64 0, .slice none 0 0, .slice none 0 0, .bool false, .slice none 0 0, .int .i64 0, .slice none 0 0, .slice none 0 0, .slice none 0 0, .int .i64 0, .int .i64 0, .int .i64 0, .bool false, .int .i64 0, .bool false, .int .i64 0, .slice none 0 0] := ⟨_, rfl⟩
 have hRs : R0.size = 21 := by rw [hR0]; rfl
 have hRp : PlainC R0 := by rw [hR0]; exact zbh zeW zeP
 obtain ⟨wB, hwB⟩ : ∃ W, W = (w.alloc (.cells (Z.cells q).toArray 38)).alloc (.cells R0 38) := ⟨_, rfl⟩
 have hC := zfr hv hwB
 have lx := hC.x.lt
 have a17 := hC.x.cell 17
 simp only [List.getElem?_toArray, List.getElem?_cons_zero, List.getElem?_cons_succ] at a17
 by_cases hp : Z.ph = 2
 ·have hR : Hid (SW = swM Z) := by show SW = _; rw [hSW, su_sw hp]
  have hFs := zna hF hv.heap.wf
  have hSP := zeo N Z q wB (Nat.le_trans hN hC.b.size) (hS.below hC.b) hC.e hF (by omega)
  clear hSW
  rw [hp] at a17
  generalize swM Z = S at *
  go_enter Tryz.func16, Tryz.ntmps16
  go_upto_region 1 with fail
  rw [← hR0, ← hwB]
  clear hwB hR0
  go_upto_region 3 with fail
  refine wp_region_lit ?_
  refine ld_w hC.x rfl ?_
  go_wp2_with (first
  | (go_at_call 45; refine zm hSP ?_; rintro e w4 ⟨q4, rfl, hE4, hb4⟩)
  | (with_reducible refine st_w (hC.r.below hb4) hRs (v := S.1) (q := q4) (by with_unfolding_all rfl) (by with_unfolding_all rfl) ?_; intro wz gZ hst)
  )
  refine bodyPost_ret (zdr rfl rfl gZ) rfl ?_
  exact ⟨q4, by rw [hR.out]; rfl, by rw [hR.out]; exact zhs hE4 (hC.r.below hb4) hRs hRp (by omega) hFs hst, (bjoin hb4 hC.b).trans (hst.below _ (by omega))⟩
 ·have hR : Hid (SW = (Z, 0)) := by show SW = _; rw [hSW]; unfold suM; rw [if_neg hp]
  clear hSW
  go_enter Tryz.func16, Tryz.ntmps16
  go_upto_region 1 with fail
  rw [← hR0, ← hwB]
  clear hwB hR0
  have hp' : (Z.ph != 2) = true := by simpa using hp
  go_upto_region 2 with fail
  refine wp_region_lit ?_
  refine ld_w hC.x rfl ?_
  refine st_w hC.r hRs rfl rfl fun wz gZ hst => ?_
  obtain ⟨hEz, hbz⟩ := hC.fin hN hF hRs hRp hst
  go_wp2
  refine bodyPost_ret (zdr rfl rfl gZ) rfl ?_
  exact ⟨q, by rw [hR.out]; rfl, by rw [hR.out]; exact hEz, hbz⟩
theorem zr5 (n : Nat) (w : World) (h1 : n ≤ 1000001) :
  Calls Tryz.prog 158 #[.slice none 0 0, .int .i64 n] w fun e w' => ∃ p' c', e = .returned (.slice p' 0 c') ∧ w'.ownsRow w.heap.size 70 2 (.slice p' 0 c') 0 [] ∧ Below w.heap.size w w' := by
 by_cases h0 : n = 0
 ·subst h0
  go_enter Tryz.func158, Tryz.ntmps158
  go_wp2
  go_returns
  exact ⟨none, 0, rfl, World.ownsRow_nil _ _ _ _, zr⟩
 replace h0 : 1 ≤ n := by omega
 obtain ⟨i0, hi, hz0, hz1, hz2⟩ := info_parts zd5
 have hrz : ∀ ty, (Builtin.append_ #[33, 3] ty #[.slice none 0 0, .int .i64 n]).run Tryz.prog w = _ := fun ty =>
  Lib.run_append_nil_zeros w 33 3 ty 70 i0 (.agg #[.int .i64 0, .int .i64 0]) .i64 .i64 Tryz.underlying33 Tryz.underlying3 hi hz0 n h0 (by rw [hz1]; decide) (by omega) (by rw [hz2]; omega)
 have hG := grownCap_ge w n 0 70
 have hG2 := grownCap_le_maxLen w n 0 70 (by unfold maxLen; omega)
 generalize grownCap w n 0 70 = G at *
 obtain ⟨w2, hw2⟩ : ∃ w2, w2 = w.drew.alloc (.cells (Builtin.zeroCells (Value.agg #[.int .i64 0, .int .i64 0]).cells n ++ Builtin.zeroCells (Value.agg #[.int .i64 0, .int .i64 0]).cells (G - n)) 70) := ⟨_, rfl⟩
 have hsz : (Builtin.zeroCells (Value.agg #[.int .i64 0, .int .i64 0]).cells n ++ Builtin.zeroCells (Value.agg #[.int .i64 0, .int .i64 0]).cells (G - n)).size = G * 2 := by
  simp only [Array.size_append, Go.size_zeroCells]; show n * 2 + (G - n) * 2 = G * 2; omega
 have hown : w2.ownsRow w.heap.size 70 2 (.slice (some ⟨w.heap.size, 0, none⟩) 0 G) 0 [] := by
  rw [hw2]
  exact World.ownsRow_made w.drew _ G (Nat.le_refl _) hG2 hsz
 have hb : Below w.heap.size w w2 := by rw [hw2]; exact (show Below w.heap.size w w.drew from ⟨rfl, rfl, rfl, Nat.le_refl _, fun _ _ => rfl⟩).alloc (Nat.le_refl _) _
 rw [← hw2] at hrz
 simp only [maxLen] at hG2
 clear hw2 hsz
 go_enter Tryz.func158, Tryz.ntmps158
 go_wp2_with (at_builtin; refine Lib.wpList_append_run _ rfl _ _ _ _ rfl _ _ rfl rfl _ _ (hrz _) ?_)
 go_returns
 exact ⟨_, _, rfl, hown, hb⟩
theorem zl2 (b : Nat) (p q : Option Addr) (n c m d : Nat) (z y : Nat → Vl) (w : World) (hlt : b < w.heap.size) (g0 : w.cell? ⟨b, 0, none⟩ = some (.slice p n c)) (g1 : w.cell? ⟨b, 1, none⟩ = some (.slice q m d)) 
  (hZ : VAt w p c n z) (hY : VAt w q d m y) (h1 : n + m ≤ 1000001) :
  Calls Tryz.prog 127 #[.slice (some ⟨b, 0, none⟩) 2 2] w fun e w' => ∃ p' c', e = .returned (.slice p' (n + m : Nat) c') ∧ w'.ownsRow w.heap.size 70 2 (.slice p' (n + m) c') (n + m) (vlVals n z ++ vlVals m y) ∧ Below w.heap.size w w' := by
 obtain ⟨i0, hi, hz0, hz1, hz2⟩ := info_parts zd5
 have hn := hZ.nle
 have hm := hY.nle
 obtain ⟨hc1, hc2⟩ := hZ.ncap
 obtain ⟨hd1, hd2⟩ := hY.ncap
 simp only [maxLen] at hn hm hc2 hd2
 go_enter Tryz.func127, Tryz.ntmps127
 go_wp2
 go_loopg [3, 11] 2 (fun g sv iv wr => (g = 2 ∧ iv = .int .i64 0 ∧ sv = .int .i64 0 ∨ g = 1 ∧ iv = .int .i64 1 ∧ sv = .int .i64 n ∨ g = 0 ∧ iv = .int .i64 2 ∧ sv = .int .i64 ((n : Int) + m)) ∧ Below w.heap.size w wr)
 case atStart => exact ⟨.inl ⟨rfl, rfl, rfl⟩, zr⟩
 case round =>
  obtain ⟨hcase, hbw⟩ := hrel
  have e0 := zcl hbw hlt g0
  have e1 := zcl hbw hlt g1
  rcases hcase with ⟨rfl, rfl, rfl⟩ | ⟨rfl, rfl, rfl⟩ | ⟨rfl, rfl, rfl⟩
  ·go_wp2
   go_roundg 1
   case measure => omega
   case rel => exact ⟨.inr (.inl ⟨rfl, rfl, rfl⟩), hbw⟩
  ·have hnn : ¬ (n : Int) + m < 0 := by omega
   go_wp2
   go_roundg 0
   case measure => omega
   case rel => exact ⟨.inr (.inr ⟨rfl, rfl, rfl⟩), hbw⟩
  ·have hG := zr5 (n + m) wr (by omega)
   rw [Int.natCast_add] at hG
   go_upto_region 10 with (first
  | (go_at_call 158; refine zm (hG) ?_; rintro e w' ⟨p9, c9, rfl, ho9, hb⟩; obtain ⟨hc, hf, hb, hz⟩ := bstep hb (w := wr) (by go_grown); try simp only [za, zb, zd] at hc hf hz)
   )
   have hsz := hbw.size
   have hbx : Below w.heap.size w w' := hbw.trans (hb.mono hsz)
   have hox := zag ho9 hsz
   clear hb hc hf hbw ho9 e0 e1 hG
   generalize w' = w9 at *
   go_wp2
   go_loopg [6, 27] 2 (fun g ov iv wr => (g = 2 ∧ iv = .int .i64 0 ∧ wr.ownsRow w.heap.size 70 2 ov 0 [] ∨ g = 1 ∧ iv = .int .i64 1 ∧ wr.ownsRow w.heap.size 70 2 ov n (vlVals n z) ∨ g = 0 ∧ iv = .int .i64 2 ∧ wr.ownsRow w.heap.size 70 2 ov (n + m) (vlVals n z ++ vlVals m y)) ∧ Below w.heap.size w wr)
   case atStart => exact ⟨.inl ⟨rfl, rfl, hox⟩, hbx⟩
   case round =>
    obtain ⟨hcase, hbw⟩ := hrel
    have hsz := hbw.size
    have e0 := zcl hbw hlt g0
    have e1 := zcl hbw hlt g1
    rcases hcase with ⟨rfl, rfl, ho⟩ | ⟨rfl, rfl, ho⟩ | ⟨rfl, rfl, ho⟩
    ·go_wp2_with (first
      | (at_builtin; refine zai rfl (.tmp 31) (.tmp 32) 33 rfl w.heap.size 70 i0 (.agg #[.int .i64 0, .int .i64 0]) 2 16 Tryz.underlying33 hi hz0 hz1 hz2 rfl (by decide) _ _ _ rfl ho p n c (vlVals n z) rfl (za8 _ _) ((hZ.below hbw).row.cells) (zcd _ _) hZ.pnil (by simp only [maxLen]; omega) (by omega) hsz ?_; intro ov w1 ho1 hgrow)
     )
     have hb1 := hbw.grown hgrow hsz (fun k hk => (ho.lt k hk).1)
     rw [List.nil_append, Nat.zero_add] at ho1
     go_roundg 1
     case measure => omega
     case rel => exact ⟨.inr (.inl ⟨rfl, rfl, ho1⟩), hb1⟩
    ·go_wp2_with (first
      | (at_builtin; refine zai rfl (.tmp 31) (.tmp 32) 33 rfl w.heap.size 70 i0 (.agg #[.int .i64 0, .int .i64 0]) 2 16 Tryz.underlying33 hi hz0 hz1 hz2 rfl (by decide) _ _ _ rfl ho q m d (vlVals m y) rfl (za8 _ _) ((hY.below hbw).row.cells) (zcd _ _) hY.pnil (by simp only [maxLen]; omega) (by omega) hsz ?_; intro ov w1 ho1 hgrow)
     )
     have hb1 := hbw.grown hgrow hsz (fun k hk => (ho.lt k hk).1)
     go_roundg 0
     case measure => omega
     case rel => exact ⟨.inr (.inr ⟨rfl, rfl, ho1⟩), hb1⟩
    ·obtain ⟨pp, cc, ff, -⟩ := zaf ho
     rw [ff] at ho ⊢
     clear ff
     go_wp2
     go_returns
     exact ⟨pp, cc, rfl, ho, hbw⟩
def vaE (k : Int) : Int := if k = 2 then 0 else if k = 0 then 2 else 7
def vaX (k x : Int) : Int := if k = 2 then x else 0
theorem zkx (k x : Int) (w : World) :
  Calls Tryz.prog 104 #[.agg #[.int .i64 k, .int .i64 x]] w fun e w' => e = .returned (.tuple #[.int .i64 (vaX k x), .int .i64 (vaE k)]) ∧ Below w.heap.size w w' := by
 by_cases k2 : k = 2
 ·subst k2
  go_enter Tryz.func104, Tryz.ntmps104
  go_wp2
  go_returns
  exact ⟨rfl, by go_grown⟩
 ·have eX : vaX k x = 0 := by unfold vaX; rw [if_neg k2]
  rw [eX]
  by_cases k0 : k = 0
  ·subst k0
   go_enter Tryz.func104, Tryz.ntmps104
   go_wp2
   go_returns
   exact ⟨rfl, by go_grown⟩
  ·have eE : vaE k = 7 := by unfold vaE; rw [if_neg k2, if_neg k0]
   rw [eE]
   clear eX eE
   go_enter Tryz.func104, Tryz.ntmps104
   go_wp2
   go_returns
   exact ⟨rfl, by go_grown⟩
theorem zrf (p : Option Addr) (n c : Nat) (z : Nat → Vl) (w : World) (hZ : VAt w p c n z) (hn : n ≤ 1000000) :
  Calls Tryz.prog 69 #[.slice p n c] w fun e w' => ∃ p' c', e = .returned (.slice p' (vrL z n).length c') ∧ w'.ownsRow w.heap.size 3 1 (.slice p' (vrL z n).length c') (vrL z n).length ((vrL z n).map (Value.int .i64)) ∧ Below w.heap.size w w' := by
 obtain ⟨i0, hi, hz0, hz1, hz2⟩ := info_parts zg4
 have hrow := hZ.row
 go_enter Tryz.func69, Tryz.ntmps69
 go_wp2
 go_loopg [3, 10] n (fun g ov iv wr => ∃ j : Nat, j ≤ n ∧ g = n - j ∧ iv = .int .i64 j ∧ wr.ownsRow w.heap.size 3 1 ov (vrL z j).length ((vrL z j).map (Value.int .i64)) ∧ Below w.heap.size w wr)
 case atStart => exact ⟨0, by omega, by omega, rfl, World.ownsRow_nil _ _ _ _, zr⟩
 case round =>
  obtain ⟨j, jh, rfl, rfl, hown, hbw⟩ := hrel
  have hsz : w.heap.size ≤ wr.heap.size := hbw.size
  by_cases hj : j < n
  ·obtain ⟨⟨b, off, rfl, hlt, v0, v1⟩, -⟩ := (hrow.below hbw) j hj
   have hql := zmk z j
   by_cases hk : (z j).k = 2
   ·have hL : vrL z (j + 1) = vrL z j ++ [(z j).n] := by show (if (z j).k = 2 then _ else _) = _; rw [if_pos hk]
    rw [hk] at v0
    generalize hE : vrL z (j + 1) = L2 at *
    generalize vrL z j = L at *
    generalize (z j).n = x at *
    clear hk
    have hA := zkx 2 x (wr.alloc (.cells #[.int .i64 2, .int .i64 x] 70))
    rw [show vaX 2 x = x from rfl, show vaE 2 = 0 from rfl] at hA
    go_upto_region 7 with (first
  | (go_at_call 104; refine zm (hA) ?_; rintro e w' ⟨rfl, hb⟩; obtain ⟨hc, hf, hb, hz⟩ := bstep hb (w := wr) (by go_grown); try simp only [za, zb, zd] at hc hf hz)
    )
    have hb5 := hb
    have hbv := hbw.trans (hb5.mono hsz)
    have hown5 := zaa hown hb5
    have hsz5 := hbv.size
    clear hb hc hf hA hb5 hown
    generalize w' = w5 at *
    go_wp2_with (first
     | (at_builtin; refine wpList_append_own _ rfl (.tmp 21) (.tmp 23) 29 rfl w.heap.size 3 i0 (.int .i64 0) 1 8 Tryz.underlying29 hi hz0 hz1 hz2 rfl (by decide) _ _ _ rfl (hown5.alloc _) ⟨w5.heap.size, 0, none⟩ 1 1 [.int .i64 x] rfl rfl (zil _ _ _) (by simp [Value.oneCell']) (by simp only [maxLen]; omega) (by omega) (by simp; omega) ?_; intro ov w1 hown' hgrow _)
    )
    have hown2 : w1.ownsRow w.heap.size 3 1 ov (L ++ [x]).length ((L ++ [x]).map (Value.int .i64)) := by simpa using hown'
    have hb2 := (hbv.alloc hsz5 (.cells #[.int .i64 x] 3)).grown hgrow (by simp; omega) (fun k hk => (hown5.lt k hk).1)
    rw [← hL] at hown2
    go_roundg (n - (j + 1))
    case measure => omega
    case rel => exact ⟨j + 1, by omega, rfl, by go_num, by rw [hE]; assumption, hb2⟩
   ·have hL : vrL z (j + 1) = vrL z j := by show (if (z j).k = 2 then _ else _) = _; rw [if_neg hk]
    have hk2 : (vaE (z j).k == 0) = false := by
     unfold vaE
     rw [if_neg hk]
     split <;> rfl
    rw [← hL] at hown
    generalize hE : vrL z (j + 1) = L at *
    generalize (z j).k = kk at *
    generalize (z j).n = x at *
    have hA := zkx kk x (wr.alloc (.cells #[.int .i64 kk, .int .i64 x] 70))
    clear hk
    generalize vaE kk = ee at *
    generalize vaX kk x = xx at *
    go_wp2_with (first
  | (go_at_call 104; refine zm (hA) ?_; rintro e w' ⟨rfl, hb⟩; obtain ⟨hc, hf, hb, hz⟩ := bstep hb (w := wr) (by go_grown); try simp only [za, zb, zd] at hc hf hz)
    )
    have hb5 := hb
    have hbv := hbw.trans (hb5.mono hsz)
    have hown5 := zaa hown hb5
    go_roundg (n - (j + 1))
    case measure => omega
    case rel => exact ⟨j + 1, by omega, rfl, by go_num, by rw [hE]; assumption, hbv⟩
  ·obtain rfl : j = n := by omega
   obtain ⟨pp, cc, ff, -⟩ := zaf hown
   rw [ff] at hown ⊢
   have hI := hown
   clear hown ff
   go_wp2
   go_returns
   exact ⟨pp, cc, rfl, hI, hbw⟩
end Go.Proofs.YtkehankfnkjnlaaGreatDoor
namespace Go.Proofs.YtkehankfnkjnlaaGreatDoor
set_option linter.unusedSimpArgs false
set_option linter.unusedVariables false
set_option maxHeartbeats 16000000
set_option maxRecDepth 20000
open Go.ChangeShapes Go.WideShapes Go.ChangeAt Go.RowKit Go.Joins Go.Maps Go.Sort Go.Shelf
variable {h : Hp} {w w' W W' : World} {p q : Option Addr} {n g : Nat} {a : Int} {v : Value}
theorem zd9 : Keyed Tryz.prog 3 := int_keyed Tryz.underlying3
theorem zow (w : World) : (zeroValue 4).run Tryz.prog w = .ok (.bool false) w := by kernel_rfl
def SetAt (w : World) (b : Nat) (K : List Int) : Prop :=
 ∃ D : DataW Unit, w.ownsMap Tryz.prog 3 (plainElem Tryz.prog 4) b K.length D ∧ K.Nodup ∧ (∀ x, Maps.has D (.int .i64 x) = decide (x ∈ K)) ∧ (∀ x, D.atKey (.int .i64 x) (.lit (.bool false)) = .lit (.bool (decide (x ∈ K))))
theorem SetAt.made (w : World) : SetAt (w.alloc (.map #[] 0)) w.heap.size [] :=
 ⟨.map [], World.ownsMap_made _ _ _ _, List.nodup_nil, fun x => by simp [Maps.has], fun x => by simp [DataW.atKey]⟩
theorem SetAt.lt {b : Nat} {K : List Int} (h : SetAt w b K) : b < w.heap.size := by obtain ⟨D, h, -⟩ := h; exact h.lt
theorem SetAt.kept {b : Nat} {K : List Int} {row : Option Nat} (h : SetAt w b K) (hg : w.grownBy w' row) (hne : some b ≠ row) : SetAt w' b K := by
 obtain ⟨D, h, r⟩ := h
 exact ⟨D, h.kept hg hne, r⟩
theorem SetAt.below {b : Nat} {K : List Int} (h : SetAt w b K) (hb : Below w.heap.size w w') : SetAt w' b K := by
 have hlt := h.lt
 obtain ⟨D, ⟨es, clock, he, F, hs, hD⟩, r⟩ := h
 exact ⟨D, ⟨es, clock, (hb.block b hlt).trans he, F, hs, hD⟩, r⟩
theorem zv3 {P : Program} {t : TypeId} (he : P.underlying t = some .bool) {x : Bool} {ps : List MemPlace} (h : plainElem (H := Unit) P t v = some (.lit (.bool x), ps)) : v = .bool x := by
 unfold plainElem at h
 rw [he] at h
 cases v <;> simp at h
 rw [h.1]
theorem zbs {ops : Array Oper} {rest : List Oper} {o : Oper} {a : Act} {Q : Exit → Act → World → Prop} (hg : o.guard = none) (m x : Operand) (hop : o.op = Op.lookup 102 m x false) 
  {b : Nat} {K : List Int} {k : Int} (hs : SetAt w b K) (hw : (Lit.int .i64 k).wf = true) {B : Bool} (hB : decide (k ∈ K) = B) (hm : a.eval m = .map (some b)) (hx : a.eval x = .int .i64 k)
  (hK : wpList Tryz.prog ops Q rest (a.put o.dst (.bool B)) w) : wpList Tryz.prog ops Q (o :: rest) a w := by
 obtain ⟨D, hown, -, -, hat⟩ := hs
 refine wpList_plain hg fun K' hK' => ?_
 obtain ⟨v, ps, hrun, hv⟩ := hown.lookup zd9 (t := 102) Tryz.underlying102 (zow w) (plainElem_bool Tryz.underlying4 false) (keyOf_int_mk Tryz.underlying3 hw)
 rw [hat k, hB] at hv
 obtain rfl := zv3 Tryz.underlying4 hv
 unfold Oper.wp
 simp [execOp, hop, hm, hx, hrun, Result.andThen]
 exact hK' _ _ hK
theorem zeh {ops : Array Oper} {rest : List Oper} {o : Oper} {a : Act} {Q : Exit → Act → World → Prop} (hg : o.guard = none) (m x v : Operand) (hop : o.op = Op.mapUpdate 102 m x v) 
  {b : Nat} {K : List Int} {k : Int} (hs : SetAt w b K) (hw : (Lit.int .i64 k).wf = true) (hnew : k ∉ K) (hn : K.length < maxLen) (hm : a.eval m = .map (some b)) (hx : a.eval x = .int .i64 k) (hv : a.eval v = .bool true)
  (hK : ∀ w', SetAt w' b (k :: K) → w.grownBy w' (some b) → wpList Tryz.prog ops Q rest (a.put o.dst undef) w') : wpList Tryz.prog ops Q (o :: rest) a w := by
 obtain ⟨D, hown, hnd, hhas, hat⟩ := hs
 have hD := (hown.tidy zd9).isMap
 have hkl : WideAt.IsKeyLit (.int .i64 k) := trivial
 refine wpList_mapUpdate_own w hg m x v 102 hop 3 4 zd9 Tryz.underlying102 _ b K.length D hm hown hn _ _ (.int .i64 k) hx hv (keyOf_int_mk Tryz.underlying3 hw) _ [] (plainElem_bool Tryz.underlying4 true) ?_
 intro w' h1 h2
 refine hK w' ⟨_, h1, List.nodup_cons.2 ⟨hnew, hnd⟩, fun y => ?_, fun y => ?_⟩ h2
 ·by_cases e : y = k
  ·subst e; rw [Maps.has_put_same hD hkl]; simp
  ·rw [Maps.has_put_other (fun he => e (by injection he)), hhas y]; simp [e]
 ·by_cases e : y = k
  ·subst e; rw [Maps.atKey_put_same hD hkl]; simp
  ·rw [Maps.atKey_put_other (fun he => e (by injection he)), hat y]; simp [e]
theorem zu6 {b : Nat} {K : List Int} {D : DataW Unit} (hown : w.ownsMap Tryz.prog 3 (plainElem Tryz.prog 4) b K.length D) (hnd : K.Nodup) (hhas : ∀ x, Maps.has D (.int .i64 x) = decide (x ∈ K)) : K.Perm (intKeys D) := by
 obtain ⟨es, hD, hpw, _⟩ := hown.entries zd9
 obtain ⟨es', hD', hko⟩ := hown.keysOf
 obtain rfl : es = es' := by rw [hD] at hD'; simpa using hD'
 subst hD
 exact perm_intKeys hpw (fun p hp => by obtain ⟨v, hv⟩ := hko p hp; obtain ⟨x, _, hx, _⟩ := Maps.keyOf_i64 Tryz.underlying3 hv; exact ⟨x, hx⟩) hnd (fun x => by rw [hhas x]; simp)
def zkz : Go.Shelf.Ren := ⟨fun | 7 => 73 | 10 => 108 | n => n, fun | 23 => 102 | 26 => 3 | 3 => 4 | 28 => 106 | 0 => 0 | 27 => 105 | 33 => 137 | 4 => 4 | n => n, fun | n => n⟩
theorem keysA : Go.Proofs.SlLaysZI.n7 Tryz.prog zkz := {
 mixed := by kernel_rfl,
 f7 := ⟨Tryz.f73.name, by decide, Tryz.func73.trans (congrArg some (by kernel_rfl))⟩,
 f10 := ⟨Tryz.f108.name, by decide, Tryz.func108.trans (congrArg some (by kernel_rfl))⟩,
 t0 := Tryz.underlying0,
 a0 := Tryz.isAgg0,
 z0 := Tryz.sizeOf0,
 v0 := Tryz.zeroValue0,
 t4 := Tryz.underlying4,
 a4 := Tryz.isAgg4,
 z4 := Tryz.sizeOf4,
 v4 := Tryz.zeroValue4,
 t23 := Tryz.underlying102,
 a23 := Tryz.isAgg102,
 z23 := Tryz.sizeOf102,
 v23 := Tryz.zeroValue102,
 t26 := Tryz.underlying3,
 a26 := Tryz.isAgg3,
 z26 := Tryz.sizeOf3,
 v26 := Tryz.zeroValue3,
 t27 := Tryz.underlying105,
 a27 := Tryz.isAgg105,
 z27 := Tryz.sizeOf105,
 v27 := Tryz.zeroValue105,
 t28 := Tryz.underlying106,
 a28 := Tryz.isAgg106,
 z28 := Tryz.sizeOf106,
 v28 := Tryz.zeroValue106,
 t33 := Tryz.underlying137,
 a33 := Tryz.isAgg137,
 z33 := Tryz.sizeOf137,
 v33 := Tryz.zeroValue137 }
def zhk : Go.Shelf.Ren := ⟨fun | 6 => 72 | 8 => 106 | 9 => 107 | 11 => 144 | 13 => 146 | 12 => 145 | 23 => 180 | 24 => 181 | 14 => 171 | 15 => 172 | 16 => 173 | 17 => 174 | 18 => 175 | 19 => 176 | 20 => 177 | 21 => 178 | 22 => 179 | 25 => 196 | 26 => 197 | 27 => 198 | 28 => 199 | 29 => 200 | 30 => 201 | 31 => 205 | n => n, fun | 26 => 3 | 28 => 106 | 24 => 29 | 0 => 0 | 3 => 3 | 37 => 174 | 48 => 49 | 50 => 97 | 4 => 4 | 40 => 200 | 39 => 199 | 45 => 148 | 5 => 5 | 9 => 9 | 51 => 220 | 55 => 224 | 57 => 229 | 58 => 230 | 33 => 137 | n => n, fun | n => n⟩
theorem sortedA : Go.Proofs.SlLaysZI.n6 Tryz.prog zhk := {
 mixed := by kernel_rfl,
 f6 := ⟨Tryz.f72.name, by decide, Tryz.func72.trans (congrArg some (by kernel_rfl))⟩,
 f8 := ⟨Tryz.f106.name, by decide, Tryz.func106.trans (congrArg some (by kernel_rfl))⟩,
 f11 := ⟨Tryz.f144.name, by decide, Tryz.func144.trans (congrArg some (by kernel_rfl))⟩,
 t0 := Tryz.underlying0,
 a0 := Tryz.isAgg0,
 z0 := Tryz.sizeOf0,
 v0 := Tryz.zeroValue0,
 t24 := Tryz.underlying29,
 a24 := Tryz.isAgg29,
 z24 := Tryz.sizeOf29,
 v24 := Tryz.zeroValue29,
 t26 := Tryz.underlying3,
 a26 := Tryz.isAgg3,
 z26 := Tryz.sizeOf3,
 v26 := Tryz.zeroValue3,
 t28 := Tryz.underlying106,
 a28 := Tryz.isAgg106,
 z28 := Tryz.sizeOf106,
 v28 := Tryz.zeroValue106,
 i26 := by kernel_rfl }
def zqr : Go.Shelf.Ren := ⟨fun | 5 => 107 | 8 => 146 | 7 => 145 | 19 => 180 | 20 => 181 | 10 => 171 | 11 => 172 | 12 => 173 | 13 => 174 | 14 => 175 | 15 => 176 | 16 => 177 | 17 => 178 | 18 => 179 | 30 => 196 | 31 => 197 | 32 => 198 | 33 => 199 | 34 => 200 | 35 => 201 | 40 => 205 | n => n, fun | 23 => 29 | 25 => 3 | 3 => 3 | 32 => 174 | 22 => 29 | 0 => 0 | 44 => 49 | 46 => 97 | 4 => 4 | 36 => 200 | 35 => 199 | 41 => 148 | 5 => 5 | 9 => 9 | 53 => 220 | 57 => 224 | 63 => 229 | 64 => 230 | n => n, fun | n => n⟩
theorem sortA : Go.Proofs.SlLaysM.n5 Tryz.prog zqr := {
 mixed := by kernel_rfl,
 f5 := ⟨Tryz.f107.name, by decide, Tryz.func107.trans (congrArg some (by kernel_rfl))⟩,
 f7 := ⟨Tryz.f145.name, by decide, Tryz.func145.trans (congrArg some (by kernel_rfl))⟩,
 f8 := Tryz.func146.trans (congrArg some (by kernel_rfl)),
 f10 := ⟨Tryz.f171.name, by decide, Tryz.func171.trans (congrArg some (by kernel_rfl))⟩,
 f11 := ⟨Tryz.f172.name, by decide, Tryz.func172.trans (congrArg some (by kernel_rfl))⟩,
 f12 := ⟨Tryz.f173.name, by decide, Tryz.func173.trans (congrArg some (by kernel_rfl))⟩,
 f13 := ⟨Tryz.f174.name, by decide, Tryz.func174.trans (congrArg some (by kernel_rfl))⟩,
 f14 := ⟨Tryz.f175.name, by decide, Tryz.func175.trans (congrArg some (by kernel_rfl))⟩,
 f15 := ⟨Tryz.f176.name, by decide, Tryz.func176.trans (congrArg some (by kernel_rfl))⟩,
 f16 := ⟨Tryz.f177.name, by decide, Tryz.func177.trans (congrArg some (by kernel_rfl))⟩,
 f17 := ⟨Tryz.f178.name, by decide, Tryz.func178.trans (congrArg some (by kernel_rfl))⟩,
 f18 := ⟨Tryz.f179.name, by decide, Tryz.func179.trans (congrArg some (by kernel_rfl))⟩,
 f19 := Tryz.func180.trans (congrArg some (by kernel_rfl)),
 f20 := Tryz.func181.trans (congrArg some (by kernel_rfl)),
 f30 := ⟨Tryz.f196.name, by decide, Tryz.func196.trans (congrArg some (by kernel_rfl))⟩,
 f31 := Tryz.func197.trans (congrArg some (by kernel_rfl)),
 f32 := Tryz.func198.trans (congrArg some (by kernel_rfl)),
 f33 := ⟨Tryz.f199.name, by decide, Tryz.func199.trans (congrArg some (by kernel_rfl))⟩,
 f34 := ⟨Tryz.f200.name, by decide, Tryz.func200.trans (congrArg some (by kernel_rfl))⟩,
 f35 := ⟨Tryz.f201.name, by decide, Tryz.func201.trans (congrArg some (by kernel_rfl))⟩,
 f40 := ⟨Tryz.f205.name, by decide, Tryz.func205.trans (congrArg some (by kernel_rfl))⟩,
 t0 := Tryz.underlying0,
 a0 := Tryz.isAgg0,
 z0 := Tryz.sizeOf0,
 v0 := Tryz.zeroValue0,
 t3 := Tryz.underlying3,
 a3 := Tryz.isAgg3,
 z3 := Tryz.sizeOf3,
 v3 := Tryz.zeroValue3,
 t4 := Tryz.underlying4,
 a4 := Tryz.isAgg4,
 z4 := Tryz.sizeOf4,
 v4 := Tryz.zeroValue4,
 t5 := Tryz.underlying5,
 a5 := Tryz.isAgg5,
 z5 := Tryz.sizeOf5,
 v5 := Tryz.zeroValue5,
 t9 := Tryz.underlying9,
 a9 := Tryz.isAgg9,
 z9 := Tryz.sizeOf9,
 v9 := Tryz.zeroValue9,
 t22 := Tryz.underlying29,
 a22 := Tryz.isAgg29,
 z22 := Tryz.sizeOf29,
 v22 := Tryz.zeroValue29,
 t23 := Tryz.underlying29,
 a23 := Tryz.isAgg29,
 z23 := Tryz.sizeOf29,
 v23 := Tryz.zeroValue29,
 t25 := Tryz.underlying3,
 a25 := Tryz.isAgg3,
 z25 := Tryz.sizeOf3,
 v25 := Tryz.zeroValue3,
 t32 := Tryz.underlying174,
 a32 := Tryz.isAgg174,
 z32 := Tryz.sizeOf174,
 v32 := Tryz.zeroValue174,
 t35 := Tryz.underlying199,
 a35 := Tryz.isAgg199,
 z35 := Tryz.sizeOf199,
 v35 := Tryz.zeroValue199,
 t36 := Tryz.underlying200,
 a36 := Tryz.isAgg200,
 z36 := Tryz.sizeOf200,
 v36 := Tryz.zeroValue200,
 t41 := Tryz.underlying148,
 a41 := Tryz.isAgg148,
 z41 := Tryz.sizeOf148,
 v41 := Tryz.zeroValue148,
 t44 := Tryz.underlying49,
 a44 := Tryz.isAgg49,
 z44 := Tryz.sizeOf49,
 v44 := Tryz.zeroValue49,
 t46 := Tryz.underlying97,
 a46 := Tryz.isAgg97,
 z46 := Tryz.sizeOf97,
 v46 := Tryz.zeroValue97,
 t53 := Tryz.underlying220,
 a53 := Tryz.isAgg220,
 z53 := Tryz.sizeOf220,
 v53 := Tryz.zeroValue220,
 t57 := Tryz.underlying224,
 a57 := Tryz.isAgg224,
 z57 := Tryz.sizeOf224,
 v57 := Tryz.zeroValue224,
 t63 := Tryz.underlying229,
 a63 := Tryz.isAgg229,
 z63 := Tryz.sizeOf229,
 v63 := Tryz.zeroValue229,
 t64 := Tryz.underlying230,
 a64 := Tryz.isAgg230,
 z64 := Tryz.sizeOf230,
 v64 := Tryz.zeroValue230 }
theorem sortsA (m : Nat) : AnyZI.SortsIn Tryz.prog zhk Fence.wide m :=
 ⟨fun blk off cap ss W hH hblk hsz => callsIn_wide.2 (AnyM.slices_Sort_int sortA blk off cap ss W hH hblk hsz),
  fun p cap W => callsIn_wide.2 (AnyM.slices_Sort_int_none sortA p cap W)⟩
theorem zvy (b : Nat) (w : World) : Calls Tryz.prog 73 #[.map (some b)] w fun e w' => e = .returned (.func (.func 108) #[] #[.pointer (some ⟨w.heap.size, 0, none⟩)]) ∧ w' = w.alloc (.cells #[.map (some b)] 102) :=
 callsIn_wide.1 (AnyZI.keys_in keysA Fence.wide 5 trivial rfl (some b) w)
theorem zpl {b B : Nat} {K : List Int} (hs : SetAt w b K) (hc : w.cell? ⟨B, 0, none⟩ = some (.map (some b))) (hB : B < w.heap.size) (hk : K.length ≤ 1000000) :
  Calls Tryz.prog 72 #[.func (.func 108) #[] #[.pointer (some ⟨B, 0, none⟩)]] w fun e w' => ∃ (v : Value) (ss : List Int), e = .returned v ∧ ss.Perm K ∧ ss.Pairwise (· < ·) ∧ w'.ownsRow w.heap.size 3 1 v ss.length (ss.map (Value.int .i64)) ∧ Below w.heap.size w w' := by
 obtain ⟨D, hown, hnd, hhas, -⟩ := hs
 have hp := zu6 hown hnd hhas
 have hsz := hown.size_le
 have hseq : SeqGives Fence.wide 2 Tryz.prog 108 #[.pointer (some ⟨B, 0, none⟩)] encZ (fun ss => ss.Perm (intKeys D)) (Maps.size D) w :=
  AnyZI.keys_gives (ρ := zkz) { keysA with } Fence.wide _ trivial rfl (by omega) B b _ D w hB hc hown
 have cS := AnyZI.sorted_in sortedA Fence.wide 5 trivial trivial trivial trivial rfl (by omega) (sortsA _) (enters_of Tryz.func107 (by kernel_rfl) rfl) 108 #[.pointer (some ⟨B, 0, none⟩)] trivial (enters_of Tryz.func108 (by kernel_rfl) rfl) _ _ (by simp only [maxLen]; omega) (by omega) _ hseq
 refine zm (callsIn_wide.1 cS) ?_
 rintro e w' ⟨v, ss, rfl, hS, hrow, -, hb⟩
 have hpm : (ss.mergeSort (fun x y => decide (x ≤ y))).Perm K := (List.mergeSort_perm _ _).trans (hS.trans hp.symm)
 have hle : (ss.mergeSort (fun x y => decide (x ≤ y))).length = ss.length := (List.mergeSort_perm ss _).length_eq
 have hsort := List.pairwise_mergeSort (le := leI) (fun a b c h1 h2 => by simp only [leI, decide_eq_true_eq] at *; omega) (fun a b => by simp only [leI, Bool.or_eq_true, decide_eq_true_eq]; omega) ss
 have hnd' : (ss.mergeSort leI).Nodup := (hpm.nodup_iff).2 hnd
 refine ⟨v, ss.mergeSort leI, rfl, hpm, ?_, by rw [hle]; exact hrow, hb⟩
 exact (hsort.and hnd').imp fun ⟨h1, h2⟩ => by simp only [leI, decide_eq_true_eq] at h1; omega
end Go.Proofs.YtkehankfnkjnlaaGreatDoor
