import Derived.Test.YtkehankfnkjnlaaGreatDoorV08
import Derived.Test.YtkehankfnkjnlaaGreatDoorV09
import Derived.Shelf.Abstract
namespace Go.Proofs.YtkehankfnkjnlaaGreatDoor
set_option linter.unusedSimpArgs false
set_option linter.unusedVariables false
set_option maxHeartbeats 16000000
set_option maxRecDepth 20000
open Go.ChangeAt Go.ChangeShapes Go.Joins Go.RowKit Go.WideShapes
variable {h : Hp} {w w' W W' : World} {p q : Option Addr} {n g : Nat} {a : Int} {v : Value}
theorem zqj (p : Option Addr) (c : Nat) (q : Option Addr) (d : Nat) (h : Hp) (w : World) (hS : Sz w) (hh : HpAt w p c q d h) :
  Calls Tryz.prog 88 #[.agg #[.slice p h.n c, .slice q h.m d, .bool h.b]] w fun e w' => e = .returned (.bool (formB h)) ∧ Below w.heap.size w w' := by
 have hn := hh.nle
 have hmm := hh.mle
 simp only [maxLen] at hn hmm
 have eF := @zad h
 by_cases hs : 1 ≤ h.m ∧ h.m ≤ 16 ∧ h.n = 32 * h.m
 ·obtain ⟨s0, s1, hl⟩ := hs
  have d0 : decide ((h.m : Int) < 1) = false := by simp; omega
  have d1 : decide (16 < (h.m : Int)) = false := by simp; omega
  have d2 : ((h.n : Int) != (h.m : Int) * 32) = false := by simp; omega
  have hE : Hid (formB h = true ↔ 1 ≤ h.m ∧ h.m ≤ 16 ∧ h.n = 32 * h.m ∧ ∀ i, i < h.m → (h.s i).right = true) := eF
  have hH : Hid (h.n = 32 * h.m) := hl
  clear hl eF
  go_enter Tryz.func88, Tryz.ntmps88
  go_upto_region 1 with fail
  obtain ⟨w0, hw0⟩ : ∃ w0, w0 = w.alloc (.cells #[.slice p h.n c, .slice q h.m d, .bool h.b] 27) := ⟨_, rfl⟩
  have hbx : Box3 w.heap.size (.slice p h.n c) (.slice q h.m d) (.bool h.b) w0 := by rw [hw0]; exact Box3.new _ _ _ _ _
  have hbA : Below w.heap.size w w0 := by rw [hw0]; go_grown
  have hsp := hh.spans.below hbA
  replace hS := hS.below hbA
  rw [← hw0]
  clear hw0 hh
  obtain ⟨hl, k0, k1, k2, -, -, -⟩ := hbx
  go_wp2
  go_loopg [26] h.m (fun g iv wr => ∃ i : Int, 0 ≤ i ∧ i ≤ h.m ∧ g = (h.m - i).toNat ∧ iv = .int .i64 i ∧ (∀ j : Nat, (j : Int) < i → (h.s j).right = true) ∧ Below w0.heap.size w0 wr)
  case atStart => exact ⟨0, by omega, by omega, by omega, rfl, fun j hj => by omega, zr⟩
  case round =>
   obtain ⟨i, il, ih, rfl, rfl, hall, hbw⟩ := hrel
   obtain ⟨hc, hf, hb, hz⟩ := bstep hbw (w := w0) zr
   by_cases hi : i < h.m
   ·obtain ⟨⟨b, off, rfl, hlt, s0, s1, s2⟩, hw⟩ := (hsp.below hbw) i.toNat (by omega)
    have hm : Mask (h.s i.toNat).fr := hw.2.2
    cases hr : rightB (h.s i.toNat).st (h.s i.toNat).cl (h.s i.toNat).fr with
    | true =>
     go_wp2_with (first
  | (go_at_call 121; refine zm (zh5 _ _ _ _ hm (hS.below (by go_grown))) ?_; rintro e w' ⟨rfl, hb⟩; obtain ⟨hc, hf, hb, hz⟩ := bstep hb (w := w0) (by go_grown); try simp only [za, zb, zd] at hc hf hz)
     )
     go_roundg ((h.m : Int) - (i + 1)).toNat
     case measure => omega
     case rel => exact ⟨i + 1, by omega, by omega, rfl, rfl, fun j hj => by
      by_cases e : (j : Int) = i
      ·rw [show j = i.toNat by omega]; exact hr
      ·exact hall j (by omega), hb⟩
    | false =>
     have e : formB h = false := by
      cases e : formB h with
      | false => rfl
      | true => have := (hE.out.1 e).2.2.2 i.toNat (by omega); unfold Sp.right at this; rw [hr] at this; cases this
     go_wp2_with (first
  | (go_at_call 121; refine zm (zh5 _ _ _ _ hm (hS.below (by go_grown))) ?_; rintro e w' ⟨rfl, hb⟩; obtain ⟨hc, hf, hb, hz⟩ := bstep hb (w := w0) (by go_grown); try simp only [za, zb, zd] at hc hf hz)
     )
     go_returns
     exact ⟨zab (by simp [e]), bjoin hb hbA⟩
   ·have e : formB h = true := hE.out.2 ⟨by omega, by omega, hH.out, fun j hj => hall j (by omega)⟩
    go_wp2
    go_returns
    exact ⟨zab (by simp [e]), bjoin hb hbA⟩
 ·have e : formB h = false := by
   cases e : formB h with
   | false => rfl
   | true => have := eF.1 e; exact absurd ⟨this.1, this.2.1, this.2.2.1⟩ hs
  rw [e]
  clear e eF
  by_cases h1 : 1 ≤ h.m ∧ h.m ≤ 16
  ·have d2 : ((h.n : Int) != (h.m : Int) * 32) = true := by simp; omega
   obtain ⟨s0, s1⟩ := h1
   have d0 : decide ((h.m : Int) < 1) = false := by simp; omega
   have d1 : decide (16 < (h.m : Int)) = false := by simp; omega
   go_enter Tryz.func88, Tryz.ntmps88
   go_wp2
   go_returns
   exact ⟨rfl, by go_grown⟩
  ·go_enter Tryz.func88, Tryz.ntmps88
   go_wp2
   all_goals
    first
    | omega
    | (go_returns
       exact ⟨rfl, by go_grown⟩)
theorem zoi {s : Sp} (hr : s.right = true) (hw : s.wf) : 0 ≤ usedN s.st s.cl s.fr ∧ usedN s.st s.cl s.fr ≤ 16 := by
 unfold usedN
 split
 ·rename_i hu
  rcases zaz.1 hr with ⟨h0, -⟩ | ⟨-, c0, c1, hs⟩
  ·rw [h0] at hu; cases hu
  ·obtain ⟨a, b⟩ := zjb hw.2.2 hs
   have := zbc s.cl
   omega
 ·simp
theorem zte (p : Option Addr) (c : Nat) (q : Option Addr) (d : Nat) (h : Hp) (w : World) (hS : Sz w) (hh : HpAt w p c q d h) (hF : formB h = true) :
  Calls Tryz.prog 39 #[.agg #[.slice p h.n c, .slice q h.m d, .bool h.b]] w fun e w' => e = .returned (.int .i64 (usH h)) ∧ Below w.heap.size w w' := by
 have hm16 := (zad.1 hF).2.1
 have hwf := hh.wf
 have hF' : Hid (formB h = true) := hF
 clear hF
 go_enter Tryz.func39, Tryz.ntmps39
 go_upto_region 1 with fail
 obtain ⟨w0, hw0⟩ : ∃ w0, w0 = w.alloc (.cells #[.slice p h.n c, .slice q h.m d, .bool h.b] 27) := ⟨_, rfl⟩
 have hbx : Box3 w.heap.size (.slice p h.n c) (.slice q h.m d) (.bool h.b) w0 := by rw [hw0]; exact Box3.new _ _ _ _ _
 have hbA : Below w.heap.size w w0 := by rw [hw0]; go_grown
 have hsp := hh.spans.below hbA
 replace hS := hS.below hbA
 rw [← hw0]
 clear hw0 hh
 obtain ⟨hl, k0, k1, k2, -, -, -⟩ := hbx
 go_wp2
 go_loopg [3, 9] h.m (fun g nv iv wr => ∃ i : Int, 0 ≤ i ∧ i ≤ h.m ∧ g = (h.m - i).toNat ∧ nv = .int .i64 (usI h.s i) ∧ iv = .int .i64 i ∧ Below w0.heap.size w0 wr)
 case atStart => exact ⟨0, by omega, by omega, by omega, rfl, rfl, zr⟩
 case round =>
  obtain ⟨i, il, ih, rfl, rfl, rfl, hbw⟩ := hrel
  have hSr := hS.below hbw
  obtain ⟨hc, hf, hb, hz⟩ := bstep hbw (w := w0) zr
  by_cases hi : i < h.m
  ·obtain ⟨⟨b, off, rfl, hlt, s0, s1, s2⟩, hw⟩ := (hsp.below hbw) i.toNat (by omega)
   have hm : Mask (h.s i.toNat).fr := hw.2.2
   have hbd : 0 ≤ usI h.s i ∧ usI h.s i ≤ 32 * i := by
    have := zfb (s := h.s) (k := i.toNat) fun j hj => ⟨(zad.1 hF'.out).2.2.2 j (by omega), hwf.2 j (by omega)⟩
    unfold usI; omega
   have hnx : usI h.s (i + 1) = usI h.s i + usS (h.s i.toNat) := zn7 h.s il
   have hrr : (h.s i.toNat).right = true := (zad.1 hF'.out).2.2.2 i.toNat (by omega)
   have hus := zgw hrr hw
   have hok := zf5 hrr
   have hus' : usedN (h.s i.toNat).st (h.s i.toNat).cl (h.s i.toNat).fr * szW (h.s i.toNat).cl = usS (h.s i.toNat) := rfl
   have hun := zoi hrr hw
   obtain ⟨n0, n1⟩ := hbd
   obtain ⟨n2, n3⟩ := hus
   clear hrr
   generalize usS (h.s i.toNat) = U at *
   generalize h.s i.toNat = S at *
   obtain ⟨st, cl, fr⟩ := S
   simp only [] at *
   obtain ⟨n4, n5⟩ := hun
   have hcz := zjg cl
   obtain ⟨n6, n7⟩ := hcz
   go_upto_region 5 with fail
   obtain ⟨w1, hw1⟩ : ∃ w1, w1 = wr.alloc (.cells #[.int .i64 st, .int .i64 cl, .int .u32 fr] 51) := ⟨_, rfl⟩
   have hX : Box3 wr.heap.size (.int .i64 st) (.int .i64 cl) (.int .u32 fr) w1 := by rw [hw1]; exact Box3.new wr _ _ _ _
   have hst : Below wr.heap.size wr w1 := by rw [hw1]; exact zr.alloc (Nat.le_refl _) _
   have hS1 := hSr.below hst
   rw [← hw1]
   clear hw1 s0 s1 s2 hlt hc hf hz k0 k1 k2
   obtain ⟨lX, x0, x1, x2, -, -, -⟩ := hX
   have hb1 := bjoin hst hbw
   refine zap (by kernel_rfl) (by kernel_rfl) fun hpc => ?_
   repeat (first | go_big_quiet_step ((first | (go_at_call 64; exact zak (zjz _ _ _ _ hok hm (hS1.below (za1 _ _)))) | (go_at_call 65; exact zak (zbi _ _ (hS1.below (za1 _ _)))))) | quiet_step ((first | (go_at_call 64; exact zak (zjz _ _ _ _ hok hm (hS1.below (za1 _ _)))) | (go_at_call 65; exact zak (zbi _ _ (hS1.below (za1 _ _)))))))
   refine wpQuiet_nil ?_
   intro w' hbq
   clear hpc
   obtain ⟨hc, hf, hb, hz⟩ := bstep hbq (w := w1) (by go_grown)
   try simp only [za, zb, zd] at hc hf hz
   go_wp2
   go_roundg ((h.m : Int) - (i + 1)).toNat
   case measure => omega
   case rel => exact ⟨i + 1, by omega, by omega, rfl, by simp [hnx, hus'], rfl, bjoin hb hb1⟩
  ·obtain rfl : i = h.m := by omega
   go_wp2
   go_returns
   exact ⟨rfl, bjoin hb hbA⟩
theorem zlm (p : Option Addr) (c : Nat) (q : Option Addr) (d : Nat) (h : Hp) (a : Int) (w : World) (hS : Sz w) (hh : HpAt w p c q d h) (hF : formB h = true) :
  Calls Tryz.prog 101 #[.agg #[.slice p h.n c, .slice q h.m d, .bool h.b], .int .i64 a] w fun e w' => e = .returned (.tuple #[.int .i64 (fiP h a), .int .i64 (fiI h a), .bool (fiB h a)]) ∧ Below w.heap.size w w' := by
 have hm16 := (zad.1 hF).2.1
 by_cases hr : 0 ≤ a ∧ a < 32 * h.m
 ·obtain ⟨a0, a1⟩ := hr
  have eB : fiB h a = (!((spH h (a / 32)).st == 0) && plB (spH h (a / 32)).cl a) := by unfold fiB; rw [zjn a0 (by omega), Bool.true_and]
  have eP : fiB h a = true → fiP h a = a / 32 := fun e => by unfold fiP; rw [if_pos e]
  have eI : fiB h a = true → fiI h a = plI (spH h (a / 32)).cl a := fun e => by unfold fiI; rw [if_pos e]
  have eN := zxt (h := h) (a := a)
  have hp0 : 0 ≤ a / 32 := by omega
  have hp1 : a / 32 < h.m := by omega
  rw [show spH h (a / 32) = h.s (a / 32).toNat from rfl] at *
  obtain ⟨⟨b, off, rfl, hlt, s0, s1, s2⟩, hw⟩ := hh.spans (a / 32).toNat (by omega)
  generalize h.s (a / 32).toNat = S at *
  obtain ⟨st, cl, fr⟩ := S
  simp only [] at *
  clear hF hh hw
  by_cases hst : st = 0
  ·have d0 : (st == 0) = true := by simp [hst]
   rw [d0] at eB
   obtain ⟨e1, e2, e3⟩ := eN (by simp [eB])
   rw [e1, e2, e3]
   clear eB eP eI eN e1 e2 e3 hst
   go_enter Tryz.func101, Tryz.ntmps101
   go_wp2
   go_returns
   exact ⟨rfl, by go_grown⟩
  ·have d0 : (st == 0) = false := by simp [hst]
   rw [d0] at eB
   simp only [Bool.not_false, Bool.true_and] at eB
   have eP' : fiP h a = plP cl a := by unfold fiP plP; rw [eB]
   have eI' : fiI h a = plI cl a := by
    cases e : plB cl a with
    | true => exact eI (by rw [eB, e])
    | false => rw [(eN (by simp [eB, e])).2.2]; exact (pl_no (by simp [e])).2.2.symm
   rw [eB, eP', eI']
   clear eB eP eI eN eP' eI' hst
   go_enter Tryz.func101, Tryz.ntmps101
   go_wp2_with (first
  | (go_at_call 140; refine zm (zot _ _ _ (hS.below (by go_grown))) ?_; rintro e w' ⟨rfl, hb⟩; obtain ⟨hc, hf, hb, hz⟩ := bstep hb (w := w) (by go_grown); try simp only [za, zb, zd] at hc hf hz)
   )
   go_returns
   exact ⟨rfl, by go_grown⟩
 ·have e : fiB h a = false := by unfold fiB; rw [zgg (by omega)]; rfl
  obtain ⟨e1, e2, e3⟩ := zxt (h := h) (a := a) (by simp [e])
  rw [e1, e2, e3]
  clear e e1 e2 e3 hF
  by_cases ha : 0 ≤ a
  ·go_enter Tryz.func101, Tryz.ntmps101
   go_wp2
   go_returns
   exact ⟨rfl, by go_grown⟩
  ·go_enter Tryz.func101, Tryz.ntmps101
   go_wp2
   go_returns
   exact ⟨rfl, by go_grown⟩
structure Changed (w : World) (h : Hp) (g : Int) (x : Sp) (ok : Bool) (T : Nat → Prop) (R : World → World → Prop) (p : Option Addr) (c : Nat) (q : Option Addr) (d : Nat) (p' : Option Addr) (c' : Nat) (q' : Option Addr) (d' : Nat) (w' : World) : Prop where
 new : ok = true → HpOwn w' w.heap.size p' c' q' d' (withS h g x)
 old : ok = false → p' = p ∧ c' = c ∧ q' = q ∧ d' = d
 way : ∃ W1 W2, Below w.heap.size w W1 ∧ Aside T W1 W2 ∧ R W1 W2 ∧ Below w.heap.size W2 w'
theorem zkl {c : Nat} {d : Nat} {k : FuncId} {caps : Array Value} (hk : ∀ args w, (callFunc k args).run Tryz.prog w = .ok (.enter k args) w) 
  {g : Int} {x : Sp} {ok : Bool} {T : Nat → Prop} {R : World → World → Prop} (hh : HpAt w p c q d h) (hF : formB h = true) (hx : ok = true → x.wf) (hT : ∀ t, T t → t < w.heap.size ∧ Clear t p q) (g0 : 0 ≤ g) (g1 : g < h.m)
  (hcl : ∀ W1, Below w.heap.size w W1 → Calls Tryz.prog k (#[.agg #[.int .i64 (spH h g).st, .int .i64 (spH h g).cl, .int .u32 (spH h g).fr]] ++ caps) W1 fun e W2 => e = .returned (.tuple #[.agg #[.int .i64 x.st, .int .i64 x.cl, .int .u32 x.fr], .bool ok]) ∧ Aside T W1 W2 ∧ R W1 W2) :
  Calls Tryz.prog 151 #[.agg #[.slice p h.n c, .slice q h.m d, .bool h.b], .int .i64 g, .func (.func k) #[] caps] w fun e w' => ∃ p' c' q' d', e = .returned (.tuple #[.agg #[.slice p' h.n c', .slice q' h.m d', .bool h.b], .bool ok]) ∧ Changed w h g x ok T R p c q d p' c' q' d' w' := by
 have hm16 := (zad.1 hF).2.1
 obtain ⟨w0, hw0, hB0, hR, hst⟩ := boxed2 (w := w) (v0 := .slice p h.n c) (v1 := .slice q h.m d) (v2 := .bool h.b) (u0 := .slice none 0 0) (u1 := .slice none 0 0) (u2 := .bool false) (t := 27)
 have hat := hh.below hst
 have gB0 := hB0
 have gR := hR
 obtain ⟨l0, x0, x1, x2, -, -, -⟩ := hB0
 obtain ⟨l1, y0, y1, y2, f0, f1, f2⟩ := hR
 have cC := hcl w0 hst
 rw [show spH h g = h.s g.toNat from rfl] at cC
 obtain ⟨⟨b, off, eq, hlt, s0, s1, s2⟩, -⟩ := hat.spans g.toNat (by omega)
 generalize h.s g.toNat = S at *
 obtain ⟨st, cl, fr⟩ := S
 simp only [] at *
 have hF' : Hid (formB h = true) := hF
 have eq' : Hid (q = some ⟨b, off, none⟩) := eq
 clear hcl hF
 subst eq
 go_enter Tryz.func151, Tryz.ntmps151
 go_upto_region 1 with fail
 rw [← hw0]
 clear hw0
 go_upto_region 4 with (first
  | (go_at_fn k; refine zm cC ?_; rintro e W2 ⟨rfl, hA, hRR⟩)
 )
 have hTb : ∀ i, w.heap.size ≤ i → ¬ T i := fun i hi t => by have := (hT i t).1; omega
 obtain ⟨w5, hw5⟩ : ∃ w5, w5 = W2.alloc (.cells #[.int .i64 x.st, .int .i64 x.cl, .int .u32 x.fr] 51) := ⟨_, rfl⟩
 have hB5 : Below W2.heap.size W2 w5 := by rw [hw5]; exact zr.alloc (Nat.le_refl _) _
 have gS : SpBox W2.heap.size x.st x.cl x.fr w5 := by rw [hw5]; exact SpBox.new _ _ _ _ _
 replace gB0 := (gB0.aside hA (hTb _ (Nat.le_refl _))).below hB5
 replace gR := (gR.aside hA (hTb _ (Nat.le_succ _))).below hB5
 have hat5 := (hat.aside hA fun t ht => (hT t ht).2).below hB5
 have hsz : w.heap.size + 2 ≤ W2.heap.size := by have := hA.size; omega
 have hl5 := hB5.size
 rw [← hw5]
 clear hw5 x0 x1 x2 y0 y1 y2 f0 f1 f2 s0 s1 s2 hlt l0 l1 cC eq' hat hh
 cases ok with
 | false =>
  obtain ⟨l0, x0, x1, x2, -, -, -⟩ := gB0
  obtain ⟨l1, y0, y1, y2, f0, f1, f2⟩ := gR
  have hbW : Below w.heap.size W2 w5 := hB5.mono (by omega)
  go_wp2
  refine bodyPost_ret (by simp [results, Tryz.results151, go_sem, *]; try rfl) rfl ?_
  exact ⟨p, c, _, d, rfl, fun e => (by cases e), fun _ => ⟨rfl, rfl, rfl, rfl⟩, w0, W2, hst, hA, hRR, ((hbW.setCell (Nat.le_succ _) _).setCell (Nat.le_succ _) _).setCell (Nat.le_succ _) _⟩
 | true =>
  have g0' := gB0
  obtain ⟨l0, x0, x1, x2, -, -, -⟩ := g0'
  go_upto_region 6 with fail
  refine ze6 (s := 34) (h' := 3) (d' := 10) (pos := "heap.go:125") (by kernel_rfl) (by decide) (by decide) (by decide) (by simp) hF'.out hat5 gB0 rfl ?_
  intro y0 y1 y2 y3 y4 y5 y6 y7 y8 B7 p' c' q' d' w4 hown g7 hl7 n1 n2 hb4
  simp only [puts, Act.put]
  obtain ⟨gs, rfl, hgs, hgs'⟩ := hown.span (by omega)
  have m2 : ¬ B7 = gs := fun e => n2 (by rw [e]; rfl)
  have hst4 := hown.storeS (i := g) (x := x) g0 g1 (hx rfl)
  replace gS := gS.below (hb4.mono (by have := gS.1; omega))
  have hS1 := gS
  have hG := g7
  replace gR := gR.below hb4
  obtain ⟨lS, s0, s1, s2, -, -, -⟩ := hS1
  obtain ⟨lG, z0, z1, z2, -, -, -⟩ := hG
  obtain ⟨⟨t0, t1, t2⟩, tf, ho⟩ := hst4
  have t3 := tf (g.toNat * 3)
  have t4 := tf (g.toNat * 3 + 1)
  have t5 := tf (g.toNat * 3 + 2)
  clear tf l0 x0 x1 x2 hat5 gB0
  go_upto_region 8 with fail
  obtain ⟨w8, hw8⟩ : ∃ w8, w8 = ((w4.setCell ⟨gs, g.toNat * 3, none⟩ (.int .i64 x.st)).setCell ⟨gs, g.toNat * 3 + 1, none⟩ (.int .i64 x.cl)).setCell ⟨gs, g.toNat * 3 + 2, none⟩ (.int .u32 x.fr) := ⟨_, rfl⟩
  replace g7 : Box3 B7 (.slice p' h.n c') (.slice (some ⟨gs, 0, none⟩) h.m d') (.bool h.b) w8 := by rw [hw8]; exact ((g7.other (fun e => m2 e.symm) _ _).other (fun e => m2 e.symm) _ _).other (fun e => m2 e.symm) _ _
  replace gR : Box3 (w.heap.size + 1) (.slice none 0 0) (.slice none 0 0) (.bool false) w8 := by rw [hw8]; exact ((gR.other (by omega) _ _).other (by omega) _ _).other (by omega) _ _
  have hb8 : Below w5.heap.size w5 w8 := by rw [hw8]; exact ((hb4.setCell (by show w5.heap.size ≤ gs; omega) _).setCell (by show w5.heap.size ≤ gs; omega) _).setCell (by show w5.heap.size ≤ gs; omega) _
  rw [← hw8] at ho ⊢
  clear hw8 s0 s1 s2 lS gS z0 z1 z2 lG t0 t1 t2 t3 t4 t5 hb4 hown
  obtain ⟨lG, z0, z1, z2, -, -, -⟩ := g7
  obtain ⟨lR, v0, v1, v2, f0, f1, f2⟩ := gR
  go_wp2
  refine bodyPost_ret (by simp [results, Tryz.results151, go_sem, *]; try rfl) rfl ?_
  have hz := (((ho.under (g := w.heap.size + 1) (by omega) 0 (.slice p' h.n c')).under (g := w.heap.size + 1) (by omega) 1 (.slice (some ⟨gs, 0, none⟩) h.m d')).under (g := w.heap.size + 1) (by omega) 2 (.bool h.b)).lower (show w.heap.size ≤ w5.heap.size by omega)
  have hb5 : Below w.heap.size W2 w8 := (hB5.mono (show w.heap.size ≤ W2.heap.size by omega)).trans (hb8.mono (show w.heap.size ≤ w5.heap.size by have := hB5.size; omega))
  exact ⟨p', c', _, d', rfl, fun _ => hz, fun e => (by cases e), w0, W2, hst, hA, hRR, ((hb5.setCell (Nat.le_succ _) _).setCell (Nat.le_succ _) _).setCell (Nat.le_succ _) _⟩
theorem zqe {c : Nat} {d : Nat} {g : Int} (hh : HpAt w p c q d h) (hm16 : h.m ≤ 16) (hg : ¬ (0 ≤ g ∧ g < h.m)) :
  Calls Tryz.prog 151 #[.agg #[.slice p h.n c, .slice q h.m d, .bool h.b], .int .i64 g, v] w fun e w' => e = .returned (.tuple #[.agg #[.slice p h.n c, .slice q h.m d, .bool h.b], .bool false]) ∧ Below w.heap.size w w' := by
 by_cases hg0 : 0 ≤ g
 ·have hg1 : (h.m : Int) ≤ g := by omega
  clear hg
  go_enter Tryz.func151, Tryz.ntmps151
  go_wp2
  refine bodyPost_ret (by simp [results, Tryz.results151, go_sem, *]; try rfl) rfl ?_
  exact ⟨rfl, by go_grown⟩
 ·have hg1 : g < 0 := by omega
  clear hg
  go_enter Tryz.func151, Tryz.ntmps151
  go_wp2
  refine bodyPost_ret (by simp [results, Tryz.results151, go_sem, *]; try rfl) rfl ?_
  exact ⟨rfl, by go_grown⟩
theorem zpe (st cl fr : Int) (w : World) (hk : OkS st) (hS : Sz w) :
  Calls Tryz.prog 152 #[.agg #[.int .i64 st, .int .i64 cl, .int .u32 fr]] w fun e w' =>
   e = .returned (.tuple #[.agg #[.int .i64 0, .int .i64 0, .int .u32 0], .bool (emptyB st cl fr)]) ∧ Below w.heap.size w w' := by
 go_enter Tryz.func152, Tryz.ntmps152
 go_wp2_with (first
  | (go_at_call 112; refine zm (zhy _ _ _ _ hk (hS.below (by go_grown))) ?_; rintro e w' ⟨rfl, hb⟩; (first | replace hS := hS.below hb | replace hS := (hS.below (by go_grown)).below hb | skip); obtain ⟨hc, hf, hb, hz⟩ := bstep hb (w := w) (by go_grown); try simp only [za, zb, zd] at hc hf hz)
 )
 refine bodyPost_ret (by simp [results, Tryz.results152, go_sem, *]; try rfl) rfl ?_
 exact ⟨rfl, by go_grown⟩
theorem zi9 : ∀ args w, (callFunc 152 args).run Tryz.prog w = .ok (.enter 152 args) w := enters_of Tryz.func152 (by kernel_rfl) rfl
theorem zxb : (⟨0, 0, 0⟩ : Sp).wf := ⟨⟨by show (-9223372036854775808 : Int) ≤ 0; decide, by show (0 : Int) ≤ 9223372036854775807; decide⟩, ⟨by show (-9223372036854775808 : Int) ≤ 0; decide, by show (0 : Int) ≤ 9223372036854775807; decide⟩, ⟨by show (0 : Int) ≤ 0; decide, by show (0 : Int) < 4294967296; decide⟩⟩
theorem zf8 {st cl fr : Int} (hr : rightB st cl fr = true) (hm : Mask fr) : emptyB st cl fr = (!(st == 0) && countW fr == blW cl) := by
 unfold emptyB
 rcases zaz.1 hr with ⟨h0, -⟩ | ⟨h0, c0, c1, hs⟩
 ·have : useB st = false := by rw [h0]; rfl
  rw [this, h0]; rfl
 ·rw [(zg2 st).2 h0, show (st == 0) = false by simp; omega]
  simp only [Bool.true_and, Bool.not_false]
  rw [Bool.eq_iff_iff, beq_iff_eq, beq_iff_eq]
  exact (zmd hm hs).symm
theorem zox (p : Option Addr) (c : Nat) (q : Option Addr) (d : Nat) (h : Hp) (g : Int) (w : World) (hS : Sz w) (hh : HpAt w p c q d h) (hF : formB h = true) :
  Calls Tryz.prog 114 #[.agg #[.slice p h.n c, .slice q h.m d, .bool h.b], .int .i64 g] w fun e w' => ∃ p' c' q' d', e = .returned (.tuple #[.agg #[.slice p' h.n c', .slice q' h.m d', .bool h.b], .bool (loB h g)]) ∧
   HpAt w' p' c' q' d' (loH h g) ∧ Src w.heap.size (loB h g) h.n h.m p c q d p' c' q' d' ∧ Below w.heap.size w w' := by
 obtain ⟨w0, hw0, a0, a2, hst⟩ := boxed2 (w := w) (v0 := .slice p h.n c) (v1 := .slice q h.m d) (v2 := .bool h.b) (u0 := .slice none 0 0) (u1 := .slice none 0 0) (u2 := .bool false) (t := 27)
 have hat := hh.below hst
 have hS0 := hS.below hst
 have hF' : Hid (formB h = true) := hF
 by_cases hg : 0 ≤ g ∧ g < h.m
 ·obtain ⟨p0, p1⟩ := hg
  have eO : loB h g = emptyB (spH h g).st (spH h g).cl (spH h g).fr := by
   rw [zf8 (zcx hF p0 p1) (zdn hh.wf p0 p1)]
   unfold loB; rw [zjn p0 p1, Bool.true_and]
  have hC := zkl (k := 152) (caps := #[]) (x := ⟨0, 0, 0⟩) (ok := emptyB (spH h g).st (spH h g).cl (spH h g).fr) (T := fun _ => False) (R := fun _ _ => True) zi9 hat hF
   (fun _ => zxb) (fun t ht => ht.elim) p0 p1
   (fun W1 hb1 => Calls.mono (zpe (spH h g).st (spH h g).cl (spH h g).fr W1 (zf5 (zcx hF p0 p1)) (hS0.below hb1)) fun e W2 ⟨e1, e2⟩ => ⟨e1, Aside.of e2, trivial⟩)
  rw [← eO] at hC
  obtain ⟨l0, x0, x1, x2, -, -, -⟩ := a0
  obtain ⟨l2, y0, y1, y2, f0, f1, f2⟩ := a2
  have hOX : loB h g = true → loH h g = withS h g ⟨0, 0, 0⟩ := fun e => by unfold loH; rw [if_pos e]
  have hON : loB h g = false → loH h g = h := fun e => by unfold loH; rw [if_neg (by simp [e])]
  generalize loB h g = ok at *
  clear eO hF p0 p1
  go_enter Tryz.func114, Tryz.ntmps114
  go_upto_region 1 with fail
  rw [← hw0]
  clear hw0
  go_wp2_with (first
   | (go_at_call 151; refine zm hC ?_; rintro e w' ⟨p', c', q', d', rfl, hnew, hold, W1, W2, hb1, hA, -, hb2⟩; have hb := (hb1.trans (hA.pure.mono hb1.size)).trans hb2; obtain ⟨hc, hf, hb, hz⟩ := bstep hb (w := w0) (by go_grown))
  )
  refine bodyPost_ret (by simp [results, Tryz.results114, go_sem, *]; try rfl) rfl ?_
  cases ok with
  | true =>
   have ho := hnew rfl
   rw [hOX rfl]
   have hz := (((ho.under (g := w.heap.size + 1) (by omega) 0 (.slice p' h.n c')).under (g := w.heap.size + 1) (by omega) 1 (.slice q' h.m d')).under (g := w.heap.size + 1) (by omega) 2 (.bool h.b)).lower (show w.heap.size ≤ w0.heap.size by omega)
   exact ⟨p', c', q', d', rfl, hz.at, ⟨fun _ => ⟨hz.newW, hz.newS⟩, fun h => (by cases h)⟩, (((bjoin hb hst).setCell (by show w.heap.size ≤ w.heap.size + 1; omega) _).setCell (by show w.heap.size ≤ w.heap.size + 1; omega) _).setCell (by show w.heap.size ≤ w.heap.size + 1; omega) _⟩
  | false =>
   obtain ⟨rfl, rfl, rfl, rfl⟩ := hold rfl
   rw [hON rfl]
   have hbb := (((bjoin hb hst).setCell (p := ⟨w.heap.size + 1, 0, none⟩) (by show w.heap.size ≤ w.heap.size + 1; omega) (.slice p' h.n c')).setCell (p := ⟨w.heap.size + 1, 1, none⟩) (by show w.heap.size ≤ w.heap.size + 1; omega) (.slice q' h.m d')).setCell (p := ⟨w.heap.size + 1, 2, none⟩) (by show w.heap.size ≤ w.heap.size + 1; omega) (.bool h.b)
   exact ⟨p', c', q', d', rfl, hh.below hbb, ⟨fun h => (by cases h), fun _ => ⟨rfl, rfl, rfl, rfl⟩⟩, hbb⟩
 ·have eO : loB h g = false := by unfold loB; rw [zgg hg]; rfl
  have hON : loH h g = h := by unfold loH; rw [if_neg (by simp [eO])]
  rw [hON, eO]
  have hC := zqe (v := .func (.func 152) #[] #[]) hat (zad.1 hF).2.1 hg
  obtain ⟨l0, x0, x1, x2, -, -, -⟩ := a0
  obtain ⟨l2, y0, y1, y2, f0, f1, f2⟩ := a2
  clear eO hON hF
  go_enter Tryz.func114, Tryz.ntmps114
  go_upto_region 1 with fail
  rw [← hw0]
  clear hw0
  go_wp2_with (first
   | (go_at_call 151; refine zm hC ?_; rintro e w' ⟨rfl, hb⟩; obtain ⟨hc, hf, hb, hz⟩ := bstep hb (w := w0) (by go_grown))
  )
  refine bodyPost_ret (by simp [results, Tryz.results114, go_sem, *]; try rfl) rfl ?_
  have hbb := (((bjoin hb hst).setCell (p := ⟨w.heap.size + 1, 0, none⟩) (by show w.heap.size ≤ w.heap.size + 1; omega) (.slice p h.n c)).setCell (p := ⟨w.heap.size + 1, 1, none⟩) (by show w.heap.size ≤ w.heap.size + 1; omega) (.slice q h.m d)).setCell (p := ⟨w.heap.size + 1, 2, none⟩) (by show w.heap.size ≤ w.heap.size + 1; omega) (.bool h.b)
  exact ⟨p, c, q, d, rfl, hh.below hbb, ⟨fun h => (by cases h), fun _ => ⟨rfl, rfl, rfl, rfl⟩⟩, hbb⟩
theorem HpOwn.cap {base : Nat} {c : Nat} {d : Nat} (o : HpOwn W base p c q d h) (h0 : 0 < h.n) : h.n ≤ c ∧ c ≤ maxLen := by
 rcases o.words.2 with ⟨-, h1⟩ | ⟨g, cap', cur, hv, -, -, h1, h2, -⟩
 ·omega
 ·injection hv with _ _ e; subst e; exact ⟨h1, h2⟩
theorem zq1 (gw c : Nat) (q : Option Addr) (d : Nat) (h : Hp) (P A : Int) (w : World) (hS : Sz w) (hh : HpAt w (some ⟨gw, 0, none⟩) c q d h) (hc : h.n ≤ c) (hm16 : h.m ≤ 16) (p0 : 0 ≤ P) (p1 : P < h.m) (z2 : 0 < szW (spH h P).cl) (a0 : 0 ≤ A) (a1 : A + szW (spH h P).cl ≤ h.n) :
  Calls Tryz.prog 184 #[.agg #[.slice (some ⟨gw, 0, none⟩) h.n c, .slice q h.m d, .bool h.b], .int .i64 P, .int .i64 A] w fun e w' => e = .returned (.slice (some ⟨gw, A.toNat, none⟩) (szW (spH h P).cl).toNat (c - A.toNat)) ∧ Below w.heap.size w w' := by
 have hn := hh.nle
 simp only [maxLen] at hn
 rw [show spH h P = h.s P.toNat from rfl] at *
 obtain ⟨w0, hw0⟩ : ∃ w0, w0 = w.alloc (.cells #[.slice (some ⟨gw, 0, none⟩) h.n c, .slice q h.m d, .bool h.b] 27) := ⟨_, rfl⟩
 have hbx : Box3 w.heap.size (.slice (some ⟨gw, 0, none⟩) h.n c) (.slice q h.m d) (.bool h.b) w0 := by rw [hw0]; exact Box3.new _ _ _ _ _
 have hbA : Below w.heap.size w w0 := by rw [hw0]; go_grown
 have hsp := hh.spans.below hbA
 replace hS := hS.below hbA
 obtain ⟨⟨b, off, rfl, hlt, s0, s1, s2⟩, hw⟩ := hsp P.toNat (by omega)
 generalize h.s P.toNat = S at *
 obtain ⟨st, cl, fr⟩ := S
 simp only [] at *
 obtain ⟨z0, z1⟩ := zjg cl
 have hbr : A + szW cl ≤ c := by omega
 have hne : ¬ c = A.toNat := by omega
 clear hh hw
 obtain ⟨hl, k0, k1, k2, -, -, -⟩ := hbx
 go_enter Tryz.func184, Tryz.ntmps184
 go_upto_region 1 with fail
 rw [← hw0]
 clear hw0
 refine zap (by kernel_rfl) (by kernel_rfl) fun hpc => ?_
 repeat (first | go_big_quiet_step ((first | (go_at_call 65; exact zak (zbi _ _ (hS.below (za1 _ _)))))) | quiet_step ((first | (go_at_call 65; exact zak (zbi _ _ (hS.below (za1 _ _)))))))
 refine wpQuiet_nil ?_
 intro w' hbq
 clear hpc
 obtain ⟨hc, hf, hb, hz⟩ := bstep hbq (w := w0) (by go_grown)
 try simp only [za, zb, zd] at hc hf hz
 go_wp2
 go_returns
 have hl : (A + szW cl).toNat - A.toNat = (szW cl).toNat := by omega
 exact ⟨by rw [← hl]; rfl, bjoin hb hbA⟩
theorem zjv {gw c : Nat} {d : Nat} {x : Sp} {P A : Int} (hS : Sz w) (hh : HpAt w (some ⟨gw, 0, none⟩) c q d (withS h P x)) (hc : h.n ≤ c) (hm16 : h.m ≤ 16) (p0 : 0 ≤ P) (p1 : P < h.m) (z2 : 0 < szW x.cl) (a0 : 0 ≤ A) (a1 : A + szW x.cl ≤ h.n) :
  Calls Tryz.prog 184 #[.agg #[.slice (some ⟨gw, 0, none⟩) h.n c, .slice q h.m d, .bool h.b], .int .i64 P, .int .i64 A] w fun e w' => e = .returned (.slice (some ⟨gw, A.toNat, none⟩) (szW x.cl).toNat (c - A.toNat)) ∧ Below w.heap.size w w' := by
 have hb := zq1 gw c q d (withS h P x) P A w hS hh hc hm16 p0 p1
 rw [ze3 h _ p0] at hb
 exact hb z2 a0 a1
theorem zuq : ∀ w, (zeroValue 97).run Tryz.prog w = .ok (.int .u64 0) w := fun w => by
 simp [go_sem]
theorem zt6 (st cl fr i : Int) (b : Nat) (w : World) (hk : OkS st) (hm : Mask fr) (hS : Sz w) (hb : Box1 b (.int .i64 i) w) :
  Calls Tryz.prog 182 #[.agg #[.int .i64 st, .int .i64 cl, .int .u32 fr], .pointer (some ⟨b, 0, none⟩)] w fun e w' =>
   e = .returned (.tuple #[.agg #[.int .i64 st, .int .i64 cl, .int .u32 (giveF st cl fr i)], .bool (giveB st cl fr i)]) ∧ Below w.heap.size w w' := by
 obtain ⟨l, c0, -⟩ := hb
 go_enter Tryz.func182, Tryz.ntmps182
 go_wp2_with (first
  | (go_at_call 183; refine zm (zr6 _ _ _ _ _ hk hm (hS.below (by go_grown))) ?_; rintro e w' ⟨rfl, hb⟩; (first | replace hS := hS.below hb | replace hS := (hS.below (by go_grown)).below hb | skip); obtain ⟨hc, hf, hb, hz⟩ := bstep hb (w := w) (by go_grown); try simp only [za, zb, zd] at hc hf hz)
 )
 refine bodyPost_ret (by simp [results, Tryz.results182, go_sem, *]; try rfl) rfl ?_
 exact ⟨rfl, by go_grown⟩
theorem zln : ∀ args w, (callFunc 182 args).run Tryz.prog w = .ok (.enter 182 args) w := enters_of Tryz.func182 (by kernel_rfl) rfl
theorem Changed.plain {g : Int} {x : Sp} {ok : Bool} {R : World → World → Prop} {c : Nat} {d : Nat} {p' : Option Addr} {c' : Nat} {q' : Option Addr} {d' : Nat} (hc : Changed w h g x ok (fun _ => False) R p c q d p' c' q' d' w') : Below w.heap.size w w' := by
 obtain ⟨W1, W2, hb1, hA, -, hb2⟩ := hc.way
 exact (hb1.trans (hA.pure.mono hb1.size)).trans hb2
theorem zrm (p : Option Addr) (c : Nat) (q : Option Addr) (d : Nat) (h : Hp) (a : Int) (w : World) (hS : Sz w) (hh : HpAt w p c q d h) (hF : formB h = true) :
  Calls Tryz.prog 148 #[.agg #[.slice p h.n c, .slice q h.m d, .bool h.b], .int .i64 a] w fun e w' => ∃ p' c' q' d', e = .returned (.tuple #[.agg #[.slice p' h.n c', .slice q' h.m d', .bool h.b], .bool (frB h a)]) ∧
   HpAt w' p' c' q' d' (frH h a) ∧ Src w.heap.size (frB h a) h.n h.m p c q d p' c' q' d' ∧ (frB h a = true → HpOwn w' w.heap.size p' c' q' d' (frH h a)) ∧ Below w.heap.size w w' := by
 have hwf := hh.wf
 obtain ⟨w0, hw0, hB0, hR, hst⟩ := boxed2 (w := w) (v0 := .slice p h.n c) (v1 := .slice q h.m d) (v2 := .bool h.b) (u0 := .slice none 0 0) (u1 := .slice none 0 0) (u2 := .bool false) (t := 27)
 have hat := hh.below hst
 have hS0 := hS.below hst
 have hFi := zlm p c q d h a w0 hS0 hat hF
 have gB0 := hB0
 have gR := hR
 obtain ⟨l0, x0, x1, x2, -, -, -⟩ := hB0
 obtain ⟨l1, y0, y1, y2, f0, f1, f2⟩ := hR
 have hF' : Hid (formB h = true) := hF
 have hsz0 : w.heap.size + 2 ≤ w0.heap.size := l1
 cases hf : fiB h a with
 | false =>
  have efr : frB h a = false := by unfold frB; rw [hf]; rfl
  have eH : frH h a = h := by unfold frH; rw [if_neg (by simp [efr])]
  rw [eH, efr]
  rw [hf] at hFi
  clear eH efr hF
  go_enter Tryz.func148, Tryz.ntmps148
  go_upto_region 1 with fail
  rw [← hw0]
  clear hw0
  go_wp2_with (first
  | (go_at_call 101; refine zm (hFi) ?_; rintro e w' ⟨rfl, hb⟩; obtain ⟨hc, hf, hb, hz⟩ := bstep hb (w := w0) (by go_grown); try simp only [za, zb, zd] at hc hf hz)
  )
  refine bodyPost_ret (by simp [results, Tryz.results148, go_sem, *]; try rfl) rfl ?_
  exact ⟨p, c, q, d, rfl, hh.below (by go_grown; exact bjoin hb hst), ⟨fun h => (by cases h), fun _ => ⟨rfl, rfl, rfl, rfl⟩⟩, fun h => (by cases h), by go_grown; exact bjoin hb hst⟩
 | true =>
  obtain ⟨p0, p1, p2, hstt, -, i0, i1, -⟩ := zbd hF hf
  have eP : fiP h a = a / 32 := by unfold fiP; rw [if_pos hf]
  have eI : fiI h a = plI (spH h (a / 32)).cl a := by unfold fiI; rw [if_pos hf]
  obtain ⟨k0, -, -, k3, k4⟩ := zb4 hF hf
  have hmask := zdn hwf p0 p1
  have hspw := hwf.2 (a / 32).toNat (by omega)
  have hok := zf5 (zcx hF p0 p1)
  have eF : frB h a = giveB (spH h (a / 32)).st (spH h (a / 32)).cl (spH h (a / 32)).fr (plI (spH h (a / 32)).cl a) := by unfold frB; rw [hf]; rfl
  have eH : frB h a = true → frH h a = { withS h (a / 32) ⟨(spH h (a / 32)).st, (spH h (a / 32)).cl, withW (spH h (a / 32)).fr (plI (spH h (a / 32)).cl a)⟩ with z := zerZ h.z a (szW (spH h (a / 32)).cl) } := fun e => by unfold frH; rw [if_pos e]
  have eN : frB h a = false → frH h a = h := fun e => by unfold frH; rw [if_neg (by simp [e])]
  have hz1 : 0 < szW (spH h (a / 32)).cl := by
   have hb := zbc (spH h (a / 32)).cl
   rcases zaq (spH h (a / 32)).cl with ⟨-, e0, e1, -⟩ | ⟨-, e0, e1, -⟩ | ⟨-, e0, e1, -⟩ | ⟨-, e0, e1, -⟩ | ⟨-, e0, e1, -⟩ <;> omega
  rw [hf, eP, eI] at hFi
  clear eP eI
  generalize a / 32 = P at *
  generalize plI (spH h P).cl a = I at *
  have hCm : ∀ (w1 : World) (B7 : Nat), Below w0.heap.size w0 w1 → Box1 B7 (.int .i64 I) w1 → Calls Tryz.prog 151 #[.agg #[.slice p h.n c, .slice q h.m d, .bool h.b], .int .i64 P, .func (.func 182) #[] #[.pointer (some ⟨B7, 0, none⟩)]] w1 fun e w' =>
    ∃ p' c' q' d', e = .returned (.tuple #[.agg #[.slice p' h.n c', .slice q' h.m d', .bool h.b], .bool (giveB (spH h P).st (spH h P).cl (spH h P).fr I)]) ∧ Changed w1 h P ⟨(spH h P).st, (spH h P).cl, giveF (spH h P).st (spH h P).cl (spH h P).fr I⟩ (giveB (spH h P).st (spH h P).cl (spH h P).fr I) (fun _ => False) (fun _ _ => True) p c q d p' c' q' d' w' := fun w1 B7 hB1 gI =>
   zkl (k := 182) (caps := #[.pointer (some ⟨B7, 0, none⟩)]) (T := fun _ => False) (R := fun _ _ => True) zln (hat.below hB1) hF
    (fun e => ⟨hspw.1, hspw.2.1, by show Mask (giveF _ _ _ _); rw [zn1 e]; exact zfd hmask⟩) (fun t ht => ht.elim) p0 p1
    (fun W1 hb1 => Calls.mono (zt6 (spH h P).st (spH h P).cl (spH h P).fr I B7 W1 hok hmask ((hS0.below hB1).below hb1) (gI.below hb1)) fun e W2 ⟨e1, e2⟩ => ⟨e1, Aside.of e2, trivial⟩)
  cases hg : giveB (spH h P).st (spH h P).cl (spH h P).fr I with
  | false =>
   rw [hg] at eF hCm
   rw [eN eF, eF]
   clear eF eN eH hF
   go_enter Tryz.func148, Tryz.ntmps148
   go_upto_region 1 with fail
   rw [← hw0]
   clear hw0
   go_upto_region 4 with (first
  | (go_at_call 101; refine zm (hFi) ?_; rintro e w' ⟨rfl, hb⟩; obtain ⟨hc, hf, hb, hz⟩ := bstep hb (w := w0) (by go_grown); try simp only [za, zb, zd] at hc hf hz)
   )
   obtain ⟨w1, hw1⟩ : ∃ w1, w1 = w'.alloc (.cells #[.int .i64 I] 3) := ⟨_, rfl⟩
   have hB1 : Below w0.heap.size w0 w1 := by rw [hw1]; exact hb.alloc hb.size _
   have gI : Box1 w'.heap.size (.int .i64 I) w1 := by rw [hw1]; exact Box1.new _ _ _
   have hSl : w0.heap.size ≤ w'.heap.size := hb.size
   rw [← hw1]
   clear hw1 hb hc hf hz x0 x1 x2 y0 y1 y2 f0 f1 f2 l0 l1 hFi
   generalize w'.heap.size = B7 at *
   replace gB0 := gB0.below hB1
   replace gR := gR.below hB1
   have hS1 := hS0.below hB1
   have hC := hCm w1 B7 hB1 gI
   have hB1s := hB1.size
   clear hCm
   have g0 := gB0
   have g1 := gR
   obtain ⟨l0, x0, x1, x2, -, -, -⟩ := g0
   obtain ⟨l1, y0, y1, y2, f0, f1, f2⟩ := g1
   go_upto_region 5 with (first
    | (go_at_call 151; refine zm hC ?_; rintro e w' ⟨p', c', q', d', rfl, hch⟩; have hb := hch.plain; obtain ⟨hc, hf, hb, hz⟩ := bstep hb (w := w1) (by go_grown))
   )
   obtain ⟨rfl, rfl, rfl, rfl⟩ := hch.old rfl
   clear hC hch
   go_wp2
   refine bodyPost_ret (by simp [results, Tryz.results148, go_sem, *]; try rfl) rfl ?_
   have hbA := bjoin hb (bjoin hB1 hst)
   have hbb := (((hbA.alloc (Nat.le_trans hst.size (Nat.le_trans hB1s hz)) (.cells #[.slice p' h.n c', .slice q' h.m d', .bool h.b] 27)).setCell (p := ⟨w.heap.size + 1, 0, none⟩) (Nat.le_succ _) (.slice p' h.n c')).setCell (p := ⟨w.heap.size + 1, 1, none⟩) (Nat.le_succ _) (.slice q' h.m d')).setCell (p := ⟨w.heap.size + 1, 2, none⟩) (Nat.le_succ _) (.bool h.b)
   exact ⟨p', c', q', d', rfl, hh.below hbb, ⟨fun h => (by cases h), fun _ => ⟨rfl, rfl, rfl, rfl⟩⟩, fun h => (by cases h), hbb⟩
  | true =>
   have eG := zn1 hg
   rw [hg, eG] at hCm
   rw [hg] at eF
   rw [eH eF, eF]
   clear eF eN eH hF eG
   go_enter Tryz.func148, Tryz.ntmps148
   go_upto_region 1 with fail
   rw [← hw0]
   clear hw0
   go_upto_region 4 with (first
  | (go_at_call 101; refine zm (hFi) ?_; rintro e w' ⟨rfl, hb⟩; obtain ⟨hc, hf, hb, hz⟩ := bstep hb (w := w0) (by go_grown); try simp only [za, zb, zd] at hc hf hz)
   )
   obtain ⟨w1, hw1⟩ : ∃ w1, w1 = w'.alloc (.cells #[.int .i64 I] 3) := ⟨_, rfl⟩
   have hB1 : Below w0.heap.size w0 w1 := by rw [hw1]; exact hb.alloc hb.size _
   have gI : Box1 w'.heap.size (.int .i64 I) w1 := by rw [hw1]; exact Box1.new _ _ _
   have hSl : w0.heap.size ≤ w'.heap.size := hb.size
   rw [← hw1]
   clear hw1 hb hc hf hz x0 x1 x2 y0 y1 y2 f0 f1 f2 l0 l1 hFi
   generalize w'.heap.size = B7 at *
   replace gB0 := gB0.below hB1
   replace gR := gR.below hB1
   have hS1 := hS0.below hB1
   have hC := hCm w1 B7 hB1 gI
   have hB1s := hB1.size
   clear hCm
   have g0 := gB0
   have g1 := gR
   obtain ⟨l0, x0, x1, x2, -, -, -⟩ := g0
   obtain ⟨l1, y0, y1, y2, f0, f1, f2⟩ := g1
   go_upto_region 5 with (first
    | (go_at_call 151; refine zm hC ?_; rintro e w' ⟨p', c', q', d', rfl, hch⟩; have hb := hch.plain; obtain ⟨hc, hf, hb, hz⟩ := bstep hb (w := w1) (by go_grown))
   )
   have hown := hch.new rfl
   have hn0 : 0 < h.n := by omega
   have hm16 := (zad.1 hF'.out).2.1
   obtain ⟨gw, rfl, hgB, hgG⟩ := hown.word hn0
   have hcap := (hown.cap hn0).1
   obtain ⟨w5, hw5⟩ : ∃ w5, w5 = w'.alloc (.cells #[.slice (some ⟨gw, 0, none⟩) h.n c', .slice q' h.m d', .bool h.b] 27) := ⟨_, rfl⟩
   have hB5 : Below w1.heap.size w1 w5 := by rw [hw5]; exact hb.alloc hb.size _
   have hB6 : Below w'.heap.size w' w5 := by rw [hw5]; exact zr.alloc (Nat.le_refl _) _
   have gG : Box3 w'.heap.size (.slice (some ⟨gw, 0, none⟩) h.n c') (.slice q' h.m d') (.bool h.b) w5 := by rw [hw5]; exact Box3.new _ _ _ _ _
   replace hown := hown.below hB6
   replace gR := gR.below hB5
   have hS5 := hS1.below hB5
   have hbW : Below w.heap.size w w5 := bjoin hB5 (bjoin hB1 hst)
   rw [← hw5]
   clear hw5 hb hc hf x0 x1 x2 y0 y1 y2 f0 f1 f2 l0 l1 gB0 hB5 hB6 hch hC hat hh
   generalize w'.heap.size = B9 at *
   obtain ⟨l0, x0, x1, x2, -, -, -⟩ := id gG
   have hbk := zjv (h := h) (x := ⟨(spH h P).st, (spH h P).cl, withW (spH h P).fr I⟩) hS5 hown.at hcap hm16 p0 p1 hz1 k0 k3
   go_upto_region 8 with (first
  | (go_at_call 184; refine zm (hbk) ?_; rintro e w' ⟨rfl, hb⟩; obtain ⟨hc, hf, hb, hz⟩ := bstep hb (w := w5) (by go_grown); try simp only [za, zb, zd] at hc hf hz)
   )
   have hown' := hown.below hb
   obtain ⟨N, hN⟩ : ∃ N : Nat, (N : Int) = szW (spH h P).cl := ⟨(szW (spH h P).cl).toNat, by omega⟩
   have hcl := Lib.run_clear_slice (P := Tryz.prog) w' 24 97 0 (.int .u64 0) Tryz.underlying24 zuq rfl rfl gw a.toNat N (c' - a.toNat) (by omega)
    (fun j hj => by
     obtain ⟨⟨u, hu⟩, -⟩ := hown'.store (i := a + j) (v := 0) (by omega) (show a + (j : Int) < h.n by omega) (by decide)
     rw [show (a + (j : Int)).toNat = a.toNat + j by omega] at hu
     rw [hu]; rfl)
    (fun j _ => hown'.words.frozenAt _)
   have ho := hown'.clearN N (a := a) k0 (show a + (N : Int) ≤ h.n by omega)
   rw [hN] at ho
   rw [show (szW (spH h P).cl).toNat = N by omega, hcl]
   clear hcl
   obtain ⟨w8, hw8⟩ : ∃ w8, w8 = w'.setCells gw a.toNat (List.replicate N (.int .u64 0)) := ⟨_, rfl⟩
   rw [← hw8] at ho ⊢
   replace gG : Box3 B9 (.slice (some ⟨gw, 0, none⟩) h.n c') (.slice q' h.m d') (.bool h.b) w8 := by rw [hw8]; exact (gG.below hb).setCells (by omega) _ _ _
   replace gR : Box3 (w.heap.size + 1) (.slice none 0 0) (.slice none 0 0) (.bool false) w8 := by rw [hw8]; exact (gR.below hb).setCells (by omega) _ _ _
   have hb8 : Below w.heap.size w w8 := by rw [hw8]; exact zem (by omega) _ _ _ (bjoin hb hbW)
   clear hw8 hown hown' hb hc hf hz x0 x1 x2 l0 hbk
   obtain ⟨l0, x0, x1, x2, -, -, -⟩ := gG
   obtain ⟨l1, y0, y1, y2, f0, f1, f2⟩ := gR
   go_wp2
   refine bodyPost_ret (by simp [results, Tryz.results148, go_sem, *]; try rfl) rfl ?_
   have hz := (((ho.under (g := w.heap.size + 1) (by omega) 0 (.slice (some ⟨gw, 0, none⟩) h.n c')).under (g := w.heap.size + 1) (by omega) 1 (.slice q' h.m d')).under (g := w.heap.size + 1) (by omega) 2 (.bool h.b)).lower (show w.heap.size ≤ w1.heap.size by omega)
   exact ⟨_, c', q', d', rfl, hz.at, ⟨fun _ => ⟨hz.newW, hz.newS⟩, fun h => (by cases h)⟩, fun _ => hz, ((hb8.setCell (Nat.le_succ _) _).setCell (Nat.le_succ _) _).setCell (Nat.le_succ _) _⟩
section
variable {p : Option Addr} {n c : Nat} {q : Option Addr} {m d : Nat} {b : Bool} {h : Hp} {w : World}
end
end Go.Proofs.YtkehankfnkjnlaaGreatDoor
