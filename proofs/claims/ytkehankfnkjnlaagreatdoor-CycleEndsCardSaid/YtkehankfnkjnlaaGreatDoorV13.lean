import Derived.Test.YtkehankfnkjnlaaGreatDoorV12
import Derived.RangeFuncBox
import Derived.RangeFuncNested
import Derived.RangeFuncLeaves
import Derived.RangeFuncCalls
import Derived.WalkKit
import Derived.OwnWalkIn
import Derived.TacticsInMore
import Derived.LoopNIn
import Derived.LoopIn
import Derived.Maps.AppendAt
namespace Go.Proofs.YtkehankfnkjnlaaGreatDoor
set_option linter.unusedSimpArgs false
set_option linter.unusedVariables false
set_option maxHeartbeats 16000000
set_option maxRecDepth 20000
open Go.ChangeAt Go.ChangeShapes Go.Joins Go.RowKit Go.WideShapes
variable {h : Hp} {w w' W W' : World} {p q : Option Addr} {n g : Nat} {a : Int} {v : Value}
theorem zo3 (p : Option Addr) (c : Nat) (q : Option Addr) (d : Nat) (h : Hp) (g x : Int) (w : World) (hh : HpAt w p c q d h) (hF : formB h = true) (g0 : 0 ≤ g) (g1 : g < h.n) (hx : (Lit.int .u64 x).wf = true) :
  Calls Tryz.prog 209 #[.agg #[.slice p h.n c, .slice q h.m d, .bool h.b], .int .i64 g, .int .u64 x] w fun e w' => ∃ p' c' q' d', e = .returned (.agg #[.slice p' h.n c', .slice q' h.m d', .bool h.b]) ∧
   HpOwn w' w.heap.size p' c' q' d' (putH h g x) ∧ Below w.heap.size w w' := by
 obtain ⟨w0, hw0, gB, gR, hst⟩ := boxed2 (w := w) (v0 := .slice p h.n c) (v1 := .slice q h.m d) (v2 := .bool h.b) (u0 := .slice none 0 0) (u1 := .slice none 0 0) (u2 := .bool false) (t := 27)
 have hat := hh.below hst
 have hF' : Hid (formB h = true) := hF
 have hn0 : 0 < h.n := by omega
 have hnl : h.n ≤ 512 := by have := zad.1 hF; omega
 have hlR : w.heap.size + 1 < w0.heap.size := gR.1
 clear hF hh
 go_enter Tryz.func209, Tryz.ntmps209
 go_upto_region 1 with fail
 rw [← hw0]
 clear hw0
 refine ze6 (s := 8) (h' := 3) (d' := 7) (pos := "object.go:118") (by kernel_rfl) (by decide) (by decide) (by decide) (by simp) hF'.out hat gB rfl ?_
 intro y0 y1 y2 y3 y4 y5 y6 y7 y8 B7 p' c' q' d' w4 hown g7 hl7 n1 n2 hb4
 simp only [puts, Act.put]
 obtain ⟨gw, rfl, hgw, hgw'⟩ := hown.word hn0
 have m1 : ¬ B7 = gw := fun e => n1 (by rw [e]; rfl)
 obtain ⟨⟨u, u0⟩, u1, ho⟩ := hown.store g0 g1 hx
 replace gR := gR.below hb4
 have hbW := bjoin hb4 hst
 obtain ⟨lG, z0, z1, z2, -, -, -⟩ := id g7
 clear n1 n2 hat gB hown
 go_upto_region 3 with fail
 obtain ⟨w8, hw8⟩ : ∃ w8, w8 = w4.setCell ⟨gw, g.toNat, none⟩ (.int .u64 x) := ⟨_, rfl⟩
 replace g7 : Box3 B7 (.slice (some ⟨gw, 0, none⟩) h.n c') (.slice q' h.m d') (.bool h.b) w8 := by rw [hw8]; exact g7.other (fun e => m1 e.symm) _ _
 replace gR : Box3 (w.heap.size + 1) (.slice none 0 0) (.slice none 0 0) (.bool false) w8 := by rw [hw8]; exact gR.other (by omega) _ _
 have hb8 : Below w.heap.size w w8 := by rw [hw8]; exact hbW.setCell (by show w.heap.size ≤ gw; omega) _
 rw [← hw8] at ho ⊢
 clear hw8 u0 u1 lG z0 z1 z2 hb4 hbW
 obtain ⟨lG, z0, z1, z2, -, -, -⟩ := g7
 obtain ⟨lR, v0, v1, v2, f0, f1, f2⟩ := gR
 go_wp2
 refine bodyPost_ret (by simp [results, Tryz.results209, go_sem, *]; try rfl) rfl ?_
 have hz := (((ho.under (g := w.heap.size + 1) (by omega) 0 (.slice (some ⟨gw, 0, none⟩) h.n c')).under (g := w.heap.size + 1) (by omega) 1 (.slice q' h.m d')).under (g := w.heap.size + 1) (by omega) 2 (.bool h.b)).lower (show w.heap.size ≤ w0.heap.size by omega)
 exact ⟨some ⟨gw, 0, none⟩, c', q', d', rfl, hz, ((hb8.setCell (Nat.le_succ _) _).setCell (Nat.le_succ _) _).setCell (Nat.le_succ _) _⟩
theorem zpo (p : Option Addr) (c : Nat) (q : Option Addr) (d : Nat) (h : Hp) (a : Int) (w : World) (hS : Sz w) (hh : HpAt w p c q d h) (hF : formB h = true) :
  Calls Tryz.prog 207 #[.agg #[.slice p h.n c, .slice q h.m d, .bool h.b], .int .i64 a] w fun e w' => ∃ p' c' q' d', e = .returned (.tuple #[.agg #[.slice p' h.n c', .slice q' h.m d', .bool h.b], .bool (obB h a)]) ∧
   HpAt w' p' c' q' d' (paH h a) ∧ Src w.heap.size (obB h a) h.n h.m p c q d p' c' q' d' ∧ Below w.heap.size w w' := by
 obtain ⟨w0, hw0, gB, gR, hst⟩ := boxed2 (w := w) (v0 := .slice p h.n c) (v1 := .slice q h.m d) (v2 := .bool h.b) (u0 := .slice none 0 0) (u1 := .slice none 0 0) (u2 := .bool false) (t := 27)
 have hat := hh.below hst
 have hG := zeg p c q d h a w0 (hS.below hst) hat hF
 obtain ⟨l0, x0, x1, x2, -, -, -⟩ := id gB
 obtain ⟨lR, y0, y1, y2, f0, f1, f2⟩ := id gR
 have hF' : Hid (formB h = true) := hF
 cases ho : obB h a with
 | false =>
  have e2 : paH h a = h := by unfold paH; rw [if_neg (by simp [ho])]
  rw [e2]
  rw [ho] at hG
  generalize obC h a = C at *
  generalize obK h a = K at *
  generalize obN h a = N at *
  clear e2 hF hS
  go_enter Tryz.func207, Tryz.ntmps207
  go_upto_region 1 with fail
  rw [← hw0]
  clear hw0
  go_wp2_with (first
  | (go_at_call 66; refine zm (hG) ?_; rintro e w' ⟨rfl, hb⟩; obtain ⟨hc, hf, hb, hz⟩ := bstep hb (w := w0) (by go_grown); try simp only [za, zb, zd] at hc hf hz)
  )
  refine bodyPost_ret (by simp [results, Tryz.results207, go_sem, *]; try rfl) rfl ?_
  have hbb := ((((bjoin hb hst).alloc (by have := hst.size; omega) (.cells #[.bool false, .bool C, .int .i64 K, .int .i64 N] 60)).setCell (p := ⟨w.heap.size + 1, 0, none⟩) (Nat.le_succ _) (.slice p h.n c)).setCell (p := ⟨w.heap.size + 1, 1, none⟩) (Nat.le_succ _) (.slice q h.m d)).setCell (p := ⟨w.heap.size + 1, 2, none⟩) (Nat.le_succ _) (.bool h.b)
  exact ⟨p, c, q, d, rfl, hh.below hbb, ⟨fun h => (by cases h), fun _ => ⟨rfl, rfl, rfl, rfl⟩⟩, hbb⟩
 | true =>
  obtain ⟨-, -, a0, a1, -, -, eC, eK, eN, hmy⟩ := zbj hF ho
  rw [← eK, ← eN] at hmy
  replace hmy := zel (c' := h.b) hmy
  have e2 : paH h a = putH h a (hputW true h.b (obK h a) (obN h a)) := by unfold paH; rw [if_pos ho]
  have hwd : (Lit.int .u64 (hputW true h.b (obK h a) (obN h a))).wf = true := by have := zw5 hmy; exact zso this.1 (by omega)
  have hP := fun W => zji true h.b (obK h a) (obN h a) W
  rw [e2]
  rw [ho] at hG
  generalize hputW true h.b (obK h a) (obN h a) = X at *
  generalize hmayB true h.b (obK h a) (obN h a) = M at *
  generalize obC h a = C at *
  generalize obK h a = K at *
  generalize obN h a = N at *
  clear e2 hF eC eK eN hmy hS
  go_enter Tryz.func207, Tryz.ntmps207
  go_upto_region 1 with fail
  rw [← hw0]
  clear hw0
  go_upto_region 4 with (first
  | (go_at_call 66; refine zm (hG) ?_; rintro e w' ⟨rfl, hb⟩; obtain ⟨hc, hf, hb, hz⟩ := bstep hb (w := w0) (by go_grown); try simp only [za, zb, zd] at hc hf hz)
  )
  obtain ⟨w4, hw4⟩ : ∃ w4, w4 = w'.alloc (.cells #[.bool true, .bool C, .int .i64 K, .int .i64 N] 60) := ⟨_, rfl⟩
  have hB4 : Below w0.heap.size w0 w4 := by rw [hw4]; exact hb.alloc hb.size _
  have gX : Box4 w'.heap.size (.bool true) (.bool C) (.int .i64 K) (.int .i64 N) w4 := by rw [hw4]; exact Box4.new _ _ _ _ _ _
  have hSl : w0.heap.size ≤ w'.heap.size := hb.size
  rw [← hw4]
  clear hw4 hb hc hf hz x0 x1 x2 y0 y1 y2 f0 f1 f2 hG
  generalize w'.heap.size = B6 at *
  replace gB := gB.below hB4
  replace gR := gR.below hB4
  have hat4 := hat.below hB4
  have hbW := bjoin hB4 hst
  obtain ⟨-, x0, x1, x2, -, -, -⟩ := id gB
  obtain ⟨lX, z0, z1, z2, z3, g0, g1, g2, g3⟩ := id gX
  go_upto_region 5 with fail
  obtain ⟨w5, hw5⟩ : ∃ w5, w5 = w4.setCell ⟨B6, 1, none⟩ (.bool h.b) := ⟨_, rfl⟩
  have gX5 : Box4 B6 (.bool true) (.bool h.b) (.int .i64 K) (.int .i64 N) w5 := by
   rw [hw5]
   refine ⟨by simpa [World.setCell] using lX, ?_, ?_, ?_, ?_, ?_, ?_, ?_, ?_⟩ <;> simp [go_sem, *]
  have hne : ∀ (p : Option Addr), (∀ b off sp, p = some ⟨b, off, sp⟩ → b < w.heap.size) → ∀ b off sp, p = some ⟨b, off, sp⟩ → b ≠ B6 := fun p hp b off sp e => by have := hp b off sp e; have := hst.size; omega
  have hlow := hh.in.lower hF'.out
  have hin5 : HpIn w5 p h.n c q h.m d h.b h := by rw [hw5]; exact hat4.in.setCell ⟨hne p hlow.1, hne q hlow.2⟩ _ _
  have gB5 : Box3 w.heap.size (.slice p h.n c) (.slice q h.m d) (.bool h.b) w5 := by rw [hw5]; exact gB.other (by have := hst.size; omega) _ _
  have hst2 : w.heap.size + 2 ≤ w0.heap.size := lR
  have gR5 : Box3 (w.heap.size + 1) (.slice none 0 0) (.slice none 0 0) (.bool false) w5 := by rw [hw5]; exact gR.other (by omega) _ _
  have hb5 : Below w.heap.size w w5 := by rw [hw5]; exact hbW.setCell (by show w.heap.size ≤ B6; omega) _
  rw [← hw5]
  clear hw5 x0 x1 x2 lX z0 z1 z2 z3 g0 g1 g2 g3 gX gB gR hat4 hbW hne
  obtain ⟨l5, x0, x1, x2, -, -, -⟩ := id gB5
  obtain ⟨l6, y0, y1, y2, f0, f1, f2⟩ := id gR5
  obtain ⟨lX, z0, z1, z2, z3, -, -, -, -⟩ := id gX5
  have hs5 := hb5.size
  have hl5 : w.heap.size + 2 ≤ w5.heap.size := by omega
  go_wp2_with (first
  | (go_at_call 142; refine zm (hP _) ?_; rintro e w' ⟨rfl, hb⟩; obtain ⟨hc, hf, hb, hz⟩ := bstep hb (w := w5) (by go_grown); try simp only [za, zb, zd] at hc hf hz)
  | (go_at_call 209; refine zm (zo3 _ _ _ _ h _ X _ (hin5.at'.below (by go_grown)) hF'.out a0 a1 hwd) ?_; rintro e w' ⟨p', c', q', d', rfl, hown, hb⟩; obtain ⟨hc, hf, hb, hz⟩ := bstep hb (w := w5) (by go_grown); try simp only [za, zb, zd] at hc hf hz)
  )
  have hbS := hb
  refine bodyPost_ret (by simp [results, Tryz.results207, go_sem, *]; try rfl) rfl ?_
  have hz3 := (((hown.under (g := w.heap.size + 1) (by omega) 0 (.slice p' h.n c')).under (g := w.heap.size + 1) (by omega) 1 (.slice q' h.m d')).under (g := w.heap.size + 1) (by omega) 2 (.bool h.b)).lower (show w.heap.size ≤ _ by omega)
  exact ⟨p', c', q', d', rfl, hz3.at, ⟨fun _ => ⟨hz3.newW, hz3.newS⟩, fun h => (by cases h)⟩, (((bjoin hbS hb5).setCell (Nat.le_succ _) _).setCell (Nat.le_succ _) _).setCell (Nat.le_succ _) _⟩
attribute [local go_sem] Oper.semAt_some
def obL (h : Hp) : Nat → List Int
 | 0 => []
 | k + 1 => if obB h k = true then obL h k ++ [(k : Int)] else obL h k
theorem zg9 {k : Nat} (e : obB h k = true) : obL h (k + 1) = obL h k ++ [(k : Int)] := by simp [obL, e]
theorem zjy {k : Nat} (e : obB h k = false) : obL h (k + 1) = obL h k := by simp [obL, e]
theorem zb1 (h : Hp) : ∀ k, (obL h k).length ≤ k
 | 0 => by simp [obL]
 | k + 1 => by
  have := zb1 h k
  unfold obL
  split
  ·simp; omega
  ·omega
theorem zc6 (h : Hp) (x : Int) : ∀ k : Nat, x ∈ obL h k ↔ 0 ≤ x ∧ x < k ∧ obB h x = true
 | 0 => by simp [obL]; omega
 | k + 1 => by
  have ih := zc6 h x k
  by_cases e : obB h k = true
  ·rw [zg9 e, List.mem_append, ih]
   simp only [List.mem_cons, List.not_mem_nil, or_false]
   constructor
   ·rintro (⟨a, b, c⟩ | rfl)
    ·exact ⟨a, by omega, c⟩
    ·exact ⟨by omega, by omega, e⟩
   ·rintro ⟨a, b, c⟩
    by_cases ex : x = k
    ·exact .inr ex
    ·exact .inl ⟨a, by omega, c⟩
  ·rw [zjy (by simpa using e), ih]
   constructor
   ·rintro ⟨a, b, c⟩; exact ⟨a, by omega, c⟩
   ·rintro ⟨a, b, c⟩
    by_cases ex : x = k
    ·subst ex; exact absurd c e
    ·exact ⟨a, by omega, c⟩
theorem zfa (h : Hp) : ∀ k : Nat, (obL h k).Pairwise (· < ·)
 | 0 => by simp [obL]
 | k + 1 => by
  have ih := zfa h k
  by_cases e : obB h k = true
  ·rw [zg9 e, List.pairwise_append]
   refine ⟨ih, by simp, fun a ha b hb => ?_⟩
   simp only [List.mem_cons, List.not_mem_nil, or_false] at hb
   subst hb
   exact ((zc6 h a k).1 ha).2.1
  ·rw [zjy (by simpa using e)]; exact ih
theorem zm2 (k : IntKind) (L : List Int) : L.map (Value.int k) = vals k L.length fun i => L[i]?.getD 0 := by
 apply List.ext_getElem
 ·simp [vals]
 ·intro i h1 h2
  have : i < L.length := by simpa using h1
  simp [vals, this]
theorem zg1 (h : Below w.heap.size w w') : w.grownBy w' none := ⟨h.os, h.tape, h.output, h.size, fun k hk _ => h.block k hk⟩
theorem ztp (v0 v1 v2 : Value) (w : World) :
  Calls Tryz.prog 103 #[.agg #[v0, v1, v2]] w fun e w' => e = .returned (.func (.func 143) #[] #[.pointer (some ⟨w.heap.size, 0, none⟩)]) ∧ w' = w.alloc (.cells #[v0, v1, v2] 27) := by
 go_enter Tryz.func103, Tryz.ntmps103
 go_wp2
 go_returns
 exact ⟨rfl, rfl⟩
set_option maxRecDepth 100000 in
theorem zq6 (l Bn : Nat) (p : Option Addr) (c : Nat) (q : Option Addr) (d : Nat) (h : Hp) (w0 : World) (hS : Sz w0) (hh : HpAt w0 p c q d h) (hF : formB h = true) (J Jx : List Int → World → Prop) (W : World) (hJ : AbidesFrom W.heap.size J) 
  (hY : ∀ pre x W1, J pre W1 → pre.length < h.n → YieldAt Fence.wide 1 Tryz.prog l #[.int .i64 x] W1 fun e W' =>
   (e = .returned (.bool true) ∧ J (pre ++ [x]) W' ∧ Below w0.heap.size W1 W' ∧ (Box3 Bn (.slice p h.n c) (.slice q h.m d) (.bool h.b) W1 → Box3 Bn (.slice p h.n c) (.slice q h.m d) (.bool h.b) W')) ∨ (e = .returned (.bool false) ∧ Jx (pre ++ [x]) W'))
  (hB : Below w0.heap.size w0 W) (hBn : Box3 Bn (.slice p h.n c) (.slice q h.m d) (.bool h.b) W) (h0 : J [] W) :
  CallsIn Fence.wide 2 Tryz.prog 143 #[.func (.yield l) #[] #[], .pointer (some ⟨Bn, 0, none⟩)] W fun e W' => (∃ v, e = .returned v) ∧
   ((∃ ys, ys = obL h h.n ∧ J ys W') ∨ (∃ pre, (∃ k, k ≤ h.n ∧ pre = obL h k) ∧ Jx pre W')) := by
 have hnl : h.n ≤ 512 := by have := zad.1 hF; omega
 have hF' : Hid (formB h = true) := hF
 clear hF
 refine callsIn_of_wp Tryz.func143 rfl trivial ?_ rfl
 simp only [Tryz.ntmps143, List.size_toArray, List.length_cons, List.length_nil, Nat.reduceAdd, Nat.reduceSub, Array.replicate_succ, Array.replicate_zero, List.push_toArray, List.append_toArray, List.nil_append, List.cons_append]
 obtain ⟨l0, x0, x1, x2, -, -, -⟩ := id hBn
 gi_wp2
 gi_loopw [9] (fun i wr => ∃ k : Nat, k ≤ h.n ∧ i = .int .i64 k ∧ J (obL h k) wr ∧ Below w0.heap.size w0 wr ∧ Box3 Bn (.slice p h.n c) (.slice q h.m d) (.bool h.b) wr)
  (fun i _ => h.n - (intOf i).toNat)
 case atStart => exact ⟨0, Nat.zero_le _, rfl, h0, hB, hBn⟩
 case round =>
  clear h0 hB l0 x0 x1 x2 hBn
  obtain ⟨k, hk, rfl, hJs, hb0, hBx⟩ := hrel
  obtain ⟨l0, x0, x1, x2, -, -, -⟩ := id hBx
  have hSr := hS.below hb0
  have hhr := hh.below hb0
  by_cases hlt : k < h.n
  ·have hG := zeg p c q d h k wr hSr hhr hF'.out
   cases ho : obB h k with
   | true =>
    rw [ho] at hG
    have e1 := zg9 ho
    generalize obC h k = C at *
    generalize obK h k = K at *
    generalize obN h k = N at *
    clear ho hSr hhr
    gi_wp2_with (refine ⟨trivial, ?_⟩; gi_at_call 66; refine (callsIn_wide.2 hG).mono ?_; rintro e w' ⟨rfl, hbG⟩; have hb1 : Below wr.heap.size wr (w'.alloc (.cells #[.bool true, .bool C, .int .i64 K, .int .i64 N] 60)) := hbG.alloc hbG.size _; have hJ1 := hJ _ _ _ _ hJs (zg1 hb1) (fun r e => (by cases e)); have hBx1 := hBx.below hb1; obtain ⟨fn, tmps, assign, body, hy, hR⟩ := hY _ (k : Int) _ hJ1 (by have := zb1 h k; omega))
    refine hR.mono ?_
    rintro e W3 (⟨rfl, hJ3, hk3, hB3⟩ | ⟨rfl, hJx3⟩)
    ·have hbn : Below w0.heap.size w0 W3 := (bjoin hb1 hb0).trans hk3
     have hBx3 := hB3 hBx1
     gi_wp2
     go_roundw
     case rel => exact ⟨k + 1, by omega, by simp, by rw [e1]; exact hJ3, hbn, hBx3⟩
     case measure => simp [intOf]; omega
    ·gi_wp2
     refine bodyPost_ret (results_none rfl _ _ _) rfl ?_
     exact ⟨⟨_, rfl⟩, .inr ⟨_, ⟨k + 1, by omega, e1.symm⟩, hJx3⟩⟩
   | false =>
    obtain ⟨o1, o2, o3⟩ := zfn ho
    rw [ho, o1, o2, o3] at hG
    have e1 := zjy ho
    clear ho o1 o2 o3 hSr hhr
    gi_wp2_with (refine ⟨trivial, ?_⟩; gi_at_call 66; refine (callsIn_wide.2 hG).mono ?_; rintro e w' ⟨rfl, hbG⟩; have hb1 : Below wr.heap.size wr (w'.alloc (.cells #[.bool false, .bool false, .int .i64 0, .int .i64 0] 60)) := hbG.alloc hbG.size _; have hJ1 := hJ _ _ _ _ hJs (zg1 hb1) (fun r e => (by cases e)); have hBx1 := hBx.below hb1)
    refine ⟨fun _ h => (by cases h), ?_⟩
    gi_wp2
    go_roundw
    case rel => exact ⟨k + 1, by omega, by simp, by rw [e1]; exact hJ1, bjoin hb1 hb0, hBx1⟩
    case measure => simp [intOf]; omega
  ·obtain rfl : k = h.n := by omega
   gi_wp2
   go_end0
   exact ⟨⟨_, rfl⟩, .inl ⟨_, rfl, hJs⟩⟩
theorem zuk : (Tryz.prog.info? 3).map (fun i => (i.zero, i.size, i.bytes)) = some (some (.int .i64 0), 1, 8) := by kernel_rfl
def KeepsBox (n₀ Bn : Nat) (x y z : Value) (A B : World) : Prop := Below n₀ A B ∧ (Box3 Bn x y z A → Box3 Bn x y z B)
theorem zpk {b l : Nat} {x y z : Value} (h : Box3 b x y z W) (hl : b < l) (o : Obj) : Box3 b x y z (W.putObj l o) :=
 h.grown (grownBy_putObj' W l o) (by simp; omega)
theorem zqv (Bn : Nat) (p : Option Addr) (c : Nat) (q : Option Addr) (d : Nat) (h : Hp) (w0 : World) (hS : Sz w0) (hh : HpAt w0 p c q d h) (hF : formB h = true) (w : World) (hB : Below w0.heap.size w0 w) (hBn : Box3 Bn (.slice p h.n c) (.slice q h.m d) (.bool h.b) w) :
  SeqStopsK Fence.wide 2 Tryz.prog 143 #[.pointer (some ⟨Bn, 0, none⟩)] (fun x : Int => #[Value.int .i64 x]) (KeepsBox w0.heap.size Bn (.slice p h.n c) (.slice q h.m d) (.bool h.b)) (fun ys => ys = obL h h.n) (fun pre => ∃ k, k ≤ h.n ∧ pre = obL h k) h.n w := fun l J Jx W hW hJ _ hY h0 =>
 zq6 l Bn p c q d h w0 hS hh hF J Jx W hJ hY (bjoin hW hB) (hBn.below hW) h0
set_option maxRecDepth 100000 in
theorem zrk (p : Option Addr) (c : Nat) (q : Option Addr) (d : Nat) (h : Hp) (w : World) (hS : Sz w) (hh : HpAt w p c q d h) (hF : formB h = true) :
  Calls Tryz.prog 67 #[.agg #[.slice p h.n c, .slice q h.m d, .bool h.b]] w fun e w' => ∃ v, e = .returned v ∧ w'.ownsRow w.heap.size 3 1 v (obL h h.n).length ((obL h h.n).map (Value.int .i64)) ∧ Below w.heap.size w w' := by
 have hnl : h.n ≤ 512 := by have := zad.1 hF; omega
 have hLl := zb1 h h.n
 obtain ⟨i0, hi, hz0, hz1, hz2⟩ := info_parts zuk
 have hF' : Hid (formB h = true) := hF
 clear hF
 refine (callsIn_wide (n := 3)).1 ?_
 refine callsIn_of_wp_marks Tryz.func67 rfl trivial ?_ rfl
 simp only [Tryz.ntmps67, List.size_toArray, List.length_cons, List.length_nil, Nat.reduceAdd, Nat.reduceSub, Array.replicate_succ, Array.replicate_zero, List.push_toArray, List.append_toArray, List.nil_append, List.cons_append]
 gi_wp2_with (refine ⟨trivial, ?_⟩; gi_at_call 103; refine (callsIn_wide.2 (ztp _ _ _ _)).mono ?_; rintro e w' ⟨rfl, rfl⟩)
 have bL := Boxed.new (w.alloc (.cells #[.slice p h.n c, .slice q h.m d, .bool h.b] 27)) 29 (.slice none 0 0)
 have bI := Box3.new ((w.alloc (.cells #[.slice p h.n c, .slice q h.m d, .bool h.b] 27)).alloc (.cells #[.slice none 0 0] 29)) (.slice p h.n c) (.slice q h.m d) (.bool h.b) 27
 rw [World.size_alloc] at bL
 rw [World.size_alloc, World.size_alloc] at bI
 replace bL := bL.alloc (.cells #[.slice p h.n c, .slice q h.m d, .bool h.b] 27)
 have hB0 : Below w.heap.size w (((w.alloc (.cells #[.slice p h.n c, .slice q h.m d, .bool h.b] 27)).alloc (.cells #[.slice none 0 0] 29)).alloc (.cells #[.slice p h.n c, .slice q h.m d, .bool h.b] 27)) := (((Below.refl _ w).alloc (Nat.le_refl _) _).alloc (by simp) _).alloc (by simp; omega) _
 generalize hw0 : (((w.alloc (.cells #[.slice p h.n c, .slice q h.m d, .bool h.b] 27)).alloc (.cells #[.slice none 0 0] 29)).alloc (.cells #[.slice p h.n c, .slice q h.m d, .bool h.b] 27)) = w0 at *
 have hsz : w0.heap.size = w.heap.size + 3 := by rw [← hw0]; simp
 clear hw0
 refine wpIn_rangeFunc_ownG rfl (by omega) (gf := 143) (lb := #[.pointer (some ⟨w.heap.size + 1 + 1, 0, none⟩)]) rfl trivial (enters_of Tryz.func143 (by kernel_rfl) rfl)
  (zqv (w.heap.size + 1 + 1) p c q d h w hS hh hF'.out w0 hB0 bI) (fun a b => ⟨a.1.trans b.1, fun x => b.2 (a.2 x)⟩) (fun W l o o' hl hW hc hk => ⟨belowK_b (w := w0) (by omega) W l o o' hl hW hc hk, fun x => zpk x (by omega) o'⟩) zr (fun _ => rfl)
  (fun pre W => (∃ v, Boxed W (w.heap.size + 1) 29 v ∧ W.ownsRow w0.heap.size 3 1 v pre.length (pre.map (Value.int .i64)) ∧ True) ∧ Below w.heap.size w0 W)
  (fun _ _ _ => False)
  (OwnFrom.and (Own.from (holdsRow_own w0.heap.size (w.heap.size + 1) 29 3 1 (fun pre : List Int => pre.length) (fun pre : List Int => pre.map (Value.int .i64)) (fun _ _ => True)) _) (ownFrom_below (by omega) (by omega)))
  (fun _ _ _ _ _ hs _ _ => hs)
  ⟨⟨_, bL, World.ownsRow_nil _ _ _ _, trivial⟩, zr⟩
  (fun x => { tmps := #[.agg #[.slice p h.n c, .slice q h.m d, .bool h.b], .pointer (some ⟨w.heap.size, 0, none⟩), .slice none 0 0, .pointer (some ⟨w.heap.size + 1, 0, none⟩), .int .i64 x, .agg #[.slice p h.n c, .slice q h.m d, .bool h.b], .func (.func 143) #[] #[.pointer (some ⟨w.heap.size + 1 + 1, 0, none⟩)], .int .i64 x, undef, undef, undef, undef, undef], defers := [] }) ?assign ?body ?done ?stop
 case assign =>
  intro l x W K hK
  gi_wp2
  exact hK
 case body =>
  rintro l pre x W ⟨⟨v, hv, hrow, -⟩, hB⟩ hlt
  have hc := hv.cell
  gi_wp2_with (gi_at_builtin; refine wpListIn_append_own _ rfl _ _ 29 rfl w0.heap.size 3 i0 (.int .i64 0) 1 8 Tryz.underlying29 hi hz0 hz1 hz2 rfl (by decide) _ _ _ rfl (hrow.alloc _) ⟨W.heap.size, 0, none⟩ 1 1 [.int .i64 x] rfl rfl (cell_one_new _ _ _) (by simp [Value.oneCell']) (by simp only [maxLen]; omega) (by omega) (by have := hB.size; simp; omega) ?_; intro v' w1 hown' hgrow _; obtain ⟨g', cap', rfl⟩ := ownsRow_succ hown'; obtain ⟨hv1, hv2, hr2, hk2, hb2⟩ := hv.appended (by decide) (zag hrow (show w.heap.size ≤ w0.heap.size by omega)) (by have := hB.size; omega) (Nat.le_succ _) (zag hown' (show w.heap.size ≤ w0.heap.size by omega)) hgrow; have hc1 := hv1.cell; have hf1 := hv1.frozen)
  have hne : v.ownBlock ≠ some (w.heap.size + 1 + 1) := fun e => by have := (hrow.lt _ e).1; omega
  refine ⟨hk2.from _, ⟨hb2, fun y => ?_⟩, ⟨_, hv2, ?_, trivial⟩, hB.trans hb2⟩
  ·exact ((y.below (zr.alloc (Nat.le_refl _) _)).grown hgrow hne).other (g := w.heap.size + 1) (by omega) _ _
  ·have := za0 hown' (g := w.heap.size + 1) (fun e => by have := (hown'.lt _ e).1; omega) 0 (.slice (some ⟨g', 0, none⟩) (pre.length + 1) cap')
   simpa using this
 case done =>
  rintro D ys W hD rfl ⟨⟨v, hv, hrow, -⟩, hB⟩ hK
  have hc := hv.cell
  gi_wp2
  refine ⟨by simp, .inl ⟨_, _, rfl, run_takeDeferred hK, ?_⟩⟩
  exact ⟨_, results_tmp rfl _ _ _, v, rfl, ownsRow_putObj (zag hrow (show w.heap.size ≤ w0.heap.size by omega)) _ hK rfl, (hB0.trans hB).trans (belowK_b (w := w) (Nat.le_refl _) W D _ _ (by omega) hK rfl rfl)⟩
 case stop =>
  rintro D c pre W _ _ h _
  exact h.elim
def rfL (h : Hp) (a : Int) : Nat → List Int
 | 0 => []
 | k + 1 => if getK (woH h (a + 1 + k)) = 2 then rfL h a k ++ [getN (woH h (a + 1 + k))] else rfL h a k
theorem zms {k : Nat} (e : getK (woH h (a + 1 + k)) = 2) : rfL h a (k + 1) = rfL h a k ++ [getN (woH h (a + 1 + k))] := by simp only [rfL]; rw [if_pos e]
theorem ztm {k : Nat} (e : ¬ getK (woH h (a + 1 + k)) = 2) : rfL h a (k + 1) = rfL h a k := by simp only [rfL]; rw [if_neg e]
theorem zma (h : Hp) (a : Int) : ∀ k, (rfL h a k).length ≤ k
 | 0 => by simp [rfL]
 | k + 1 => by
  have := zma h a k
  by_cases e : getK (woH h (a + 1 + k)) = 2
  ·rw [zms e]; simp; omega
  ·rw [ztm e]; omega
def rfH (h : Hp) (a : Int) : List Int := rfL h a (obN h a).toNat
theorem zgz : (Tryz.prog.info? 3).map (fun i => (i.zero, i.size, i.bytes)) = some (some (.int .i64 0), 1, 8) := by kernel_rfl
theorem ztk (hF : formB h = true) (e : obB h a = true) : a + 1 < h.n := by
 obtain ⟨hf, -, a0, a1, -, a3, -⟩ := zbj hF e
 obtain ⟨-, -, -, -, -, i0, i1, ea⟩ := zbd hF hf
 rcases zaq (spH h (a / 32)).cl with ⟨-, e1, e2, -⟩ | ⟨-, e1, e2, -⟩ | ⟨-, e1, e2, -⟩ | ⟨-, e1, e2, -⟩ | ⟨-, e1, e2, -⟩
 all_goals
  rw [e1] at ea
  rw [e2] at i1
  omega
theorem zr9 (p : Option Addr) (c : Nat) (q : Option Addr) (d : Nat) (h : Hp) (a : Int) (w : World) (hS : Sz w) (hh : HpAt w p c q d h) (hF : formB h = true) :
  Calls Tryz.prog 71 #[.agg #[.slice p h.n c, .slice q h.m d, .bool h.b], .int .i64 a] w fun e w' => ∃ v, e = .returned v ∧ w'.ownsRow w.heap.size 3 1 v (rfH h a).length ((rfH h a).map (Value.int .i64)) ∧ Below w.heap.size w w' := by
 obtain ⟨w0, hw0⟩ : ∃ w0, w0 = w.alloc (.cells #[.slice p h.n c, .slice q h.m d, .bool h.b] 27) := ⟨_, rfl⟩
 have gB : Box3 w.heap.size (.slice p h.n c) (.slice q h.m d) (.bool h.b) w0 := by rw [hw0]; exact Box3.new _ _ _ _ _
 have hst : Below w.heap.size w w0 := by rw [hw0]; go_grown
 have hat := hh.below hst
 have hG := zeg p c q d h a w0 (hS.below hst) hat hF
 obtain ⟨l0, x0, x1, x2, -, -, -⟩ := id gB
 cases ho : obB h a with
 | false =>
  obtain ⟨o1, o2, o3⟩ := zfn ho
  have eL : rfH h a = [] := by unfold rfH; rw [o3]; rfl
  rw [eL]
  rw [ho, o1, o2, o3] at hG
  clear hF hat hh ho o1 o2 o3 eL
  go_enter Tryz.func71, Tryz.ntmps71
  go_upto_region 1 with fail
  rw [← hw0]
  clear hw0
  go_wp2_with (first
  | (go_at_call 66; refine zm (hG) ?_; rintro e w' ⟨rfl, hb⟩; obtain ⟨hc, hf, hb, hz⟩ := bstep hb (w := w0) (by go_grown); try simp only [za, zb, zd] at hc hf hz)
  )
  go_returns
  exact ⟨_, rfl, World.ownsRow_nil _ _ _ _, by go_grown; exact bjoin hb hst⟩
 | true =>
  obtain ⟨-, -, a0, a1, a2, a3, -, -, a4, -⟩ := zbj hF ho
  have hrm := ztk hF ho
  have hN := zct (X := woH h a)
  rw [← a4] at hN a2
  have hnl : h.n ≤ 512 := by have := zad.1 hF; omega
  have hcp := hat.ncap.1
  have eL : rfH h a = rfL h a (obN h a).toNat := rfl
  rw [eL]
  rw [ho] at hG
  obtain ⟨i0, hi, hz0, hz1, hz2⟩ := info_parts zgz
  have hlen := fun k => zma h a k
  obtain ⟨⟨b, off, rfl, hlt, -⟩, -⟩ := hat.ints 0 (by omega)
  generalize obN h a = N at *
  generalize obC h a = C at *
  generalize obK h a = K at *
  obtain ⟨M, rfl⟩ : ∃ M : Nat, N = (M : Int) := ⟨N.toNat, by omega⟩
  rw [Int.toNat_natCast]
  have hi' : a + 1 + M ≤ c := by omega
  have lo' : a + 1 ≤ a + 1 + (M : Int) := by omega
  have hhi : a + 1 + M ≤ h.n := by omega
  have hne : ¬ c = (a + 1).toNat := by omega
  obtain ⟨N0, N1⟩ := hN
  clear ho eL a2 a3 a4 hF
  go_enter Tryz.func71, Tryz.ntmps71
  go_upto_region 1 with fail
  rw [← hw0]
  clear hw0
  go_upto_region 6 with (first
  | (go_at_call 66; refine zm (hG) ?_; rintro e w' ⟨rfl, hb⟩; obtain ⟨hc, hf, hb, hz⟩ := bstep hb (w := w0) (by go_grown); try simp only [za, zb, zd] at hc hf hz)
  )
  have hlM : (a + 1 + (M : Int)).toNat - (a + 1).toNat = M := by omega
  rw [hlM]
  obtain ⟨w5, hw5⟩ : ∃ W, W = w'.alloc (.cells #[.bool true, .bool C, .int .i64 K, .int .i64 (M : Int)] 60) := ⟨_, rfl⟩
  have hb5 : Below w.heap.size w w5 := by rw [hw5]; exact bjoin (zr.alloc (Nat.le_refl _) _) (bjoin hb hst)
  rw [← hw5]
  clear hw5 hc hf hb hz hlM x0 x1 x2 l0 gB hat hG hS hst hi' lo' hne hcp hlt
  go_wp2
  go_loopg [7, 30] M (fun g ov iv wr => ∃ j : Nat, j ≤ M ∧ g = M - j ∧ iv = .int .i64 j ∧ wr.ownsRow w.heap.size 3 1 ov (rfL h a j).length ((rfL h a j).map (Value.int .i64)) ∧ Below w.heap.size w wr)
  case atStart => exact ⟨0, by omega, by omega, rfl, World.ownsRow_nil _ _ _ _, hb5⟩
  case round =>
   obtain ⟨j, jh, rfl, rfl, hown, hbw⟩ := hrel
   by_cases hj : j < M
   ·obtain ⟨⟨b', off', e, hlt, v0⟩, -⟩ := (hh.below hbw).ints (a + 1 + j).toNat (by omega)
    injection e with e
    injection e with e1 e2
    subst e1 e2
    have ea : off + (a + 1 + (j : Int)).toNat = off + (a + 1).toNat + j := by omega
    rw [ea, show h.z (a + 1 + (j : Int)).toNat = woH h (a + 1 + j) from rfl] at v0
    obtain ⟨X0, X1⟩ := zpu hh.wf (show 0 ≤ a + 1 + (j : Int) by omega) (by omega)
    have hV := zq7 (woH h (a + 1 + j))
    have hl := hlen j
    have hsz : w.heap.size ≤ wr.heap.size := hbw.size
    by_cases e : getK (woH h (a + 1 + j)) = 2
    ·have eY := zms e
     rw [e] at hV
     generalize getN (woH h (a + 1 + j)) = Y at *
     generalize woH h (a + 1 + j) = X at *
     clear e ea
     go_wp2_with (first
  | (go_at_call 105; refine zm (hV _ X0 X1) ?_; rintro e w' ⟨rfl, hb⟩; obtain ⟨hc, hf, hb, hz⟩ := bstep hb (w := wr) (by go_grown); try simp only [za, zb, zd] at hc hf hz)
     | (at_builtin; refine wpList_append_own _ rfl (.tmp 39) (.tmp 42) 29 rfl w.heap.size 3 i0 (.int .i64 0) 1 8 Tryz.underlying29 hi hz0 hz1 hz2 rfl (by decide) _ _ _ rfl (((zaa hown hb).alloc _).alloc _) ⟨w'.heap.size + 1, 0, none⟩ 1 1 [.int .i64 Y] rfl rfl (by have := zri (w'.alloc (.cells #[.int .i64 2, .int .i64 Y] 70)) (.int .i64 Y) 3; simpa using this) (by simp [Value.oneCell']) (by simp only [maxLen]; omega) (by omega) (by simp; omega) ?_; intro ov w1 hown' hgrow _)
     )
     have hown2 : w1.ownsRow w.heap.size 3 1 ov (rfL h a (j + 1)).length ((rfL h a (j + 1)).map (Value.int .i64)) := by rw [eY]; simpa using hown'
     have hb2 := ((bjoin hb hbw).alloc (by have := hb.size; omega) (.cells #[.int .i64 2, .int .i64 Y] 70)).alloc (by have := hb.size; simp; omega) (.cells #[.int .i64 Y] 3)
     have hb3 := hb2.grown hgrow (by have := hb.size; simp; omega) (fun k hk => (hown.lt k hk).1)
     go_roundg (M - (j + 1))
     case measure => omega
     case rel => exact ⟨j + 1, by omega, rfl, by go_num, hown2, hb3⟩
    ·have eY := ztm e
     have eK : (getK (woH h (a + 1 + j)) == 2) = false := by simp [e]
     generalize getN (woH h (a + 1 + j)) = Y at *
     generalize getK (woH h (a + 1 + j)) = Z at *
     generalize woH h (a + 1 + j) = X at *
     clear e ea
     go_wp2_with (first
  | (go_at_call 105; refine zm (hV _ X0 X1) ?_; rintro e w' ⟨rfl, hb⟩; obtain ⟨hc, hf, hb, hz⟩ := bstep hb (w := wr) (by go_grown); try simp only [za, zb, zd] at hc hf hz)
     )
     have hown2 : (w'.alloc (.cells #[.int .i64 Z, .int .i64 Y] 70)).ownsRow w.heap.size 3 1 u7 (rfL h a (j + 1)).length ((rfL h a (j + 1)).map (Value.int .i64)) := by rw [eY]; exact (zaa hown hb).alloc _
     have hb2 := (bjoin hb hbw).alloc (by have := hb.size; omega) (.cells #[.int .i64 Z, .int .i64 Y] 70)
     go_roundg (M - (j + 1))
     case measure => omega
     case rel => exact ⟨j + 1, by omega, rfl, by go_num, hown2, hb2⟩
   ·obtain rfl : j = M := by omega
    obtain ⟨q', cap', rfl, -⟩ := zaf hown
    go_wp2
    go_returns
    exact ⟨_, rfl, hown, hbw⟩
theorem pa_n (h : Hp) (a : Int) : (paH h a).n = h.n ∧ (paH h a).m = h.m ∧ (paH h a).b = h.b := by unfold paH; split <;> exact ⟨rfl, rfl, rfl⟩
theorem za6 (h0 : -9223372036854775808 ≤ a) (h1 : a ≤ 9223372036854775807) : (Lit.int .i64 a).wf = true := by
 simp [Lit.wf, IntKind.min, IntKind.max, IntKind.signed, IntKind.bits]; omega
theorem get_wf {X : Int} (h : 0 ≤ X ∧ X < 18446744073709551616) : (Lit.int .i64 (getN X)).wf = true := by
 have : 0 ≤ getN X ∧ getN X < 9223372036854775808 := by unfold getN; split; · omega
                                                        split <;> omega
 exact za6 (by omega) (by omega)
structure NumRow (B : Nat) (L : List Int) (W : World) (p : Option Addr) (c : Nat) : Prop where
 ints : Ints .i64 W p L.length fun i => L[i]?.getD 0
 new : ∀ b off sp, p = some ⟨b, off, sp⟩ → B ≤ b
theorem NumRow.below {B : Nat} {L : List Int} {c : Nat} (r : NumRow B L W p c) (hb : Below W.heap.size W W') : NumRow B L W' p c := ⟨r.ints.below hb, r.new⟩
theorem zcy {B : Nat} {e : TypeId} {L : List Int} (h : W.ownsRow B e 1 v L.length (L.map (Value.int .i64))) (hw : ∀ x ∈ L, (Lit.int .i64 x).wf = true) : ∃ p c, v = .slice p L.length c ∧ NumRow B L W p c := by
 obtain ⟨p, c, rfl, hn⟩ := zaf h
 rw [zm2] at h
 exact ⟨p, c, rfl, zd0 h fun i hi => by
  have : L[i]?.getD 0 = L[i] := by simp [hi]
  rw [this]; exact hw _ (List.getElem_mem hi), hn⟩
theorem znj (h : Hp) (hn : h.n ≤ 512) : ∀ x ∈ obL h h.n, (Lit.int .i64 x).wf = true := fun x hx => by
 obtain ⟨h0, h1, -⟩ := (zc6 h x h.n).1 hx
 exact za6 (by omega) (by omega)
theorem zwf (hw : h.wf) (a0 : 0 ≤ a) : ∀ k : Nat, a + k < h.n → ∀ x ∈ rfL h a k, (Lit.int .i64 x).wf = true
 | 0, _ => by simp [rfL]
 | k + 1, hk => by
  have ih := zwf hw a0 k (by omega)
  by_cases e : getK (woH h (a + 1 + k)) = 2
  ·rw [zms e]
   intro x hx
   simp only [List.mem_append, List.mem_cons, List.not_mem_nil, or_false] at hx
   rcases hx with hx | rfl
   ·exact ih x hx
   ·exact get_wf (zpu hw (by omega) (by omega))
  ·rw [ztm e]; exact ih
theorem zwl (hw : h.wf) (hF : formB h = true) (a : Int) : ∀ x ∈ rfH h a, (Lit.int .i64 x).wf = true := by
 unfold rfH
 cases ho : obB h a with
 | false => rw [(zfn ho).2.2]; intro x hx; cases hx
 | true =>
  obtain ⟨-, -, a0, a1, a2, a3, -, -, a4, -⟩ := zbj hF ho
  have hN := zct (X := woH h a)
  rw [← a4] at hN a2
  exact zwf hw a0 _ (by omega)
section
variable {p : Option Addr} {n c : Nat} {q : Option Addr} {m d : Nat} {b : Bool} {h : Hp} {w : World}
theorem zg8 (hS : Sz w) (hh : HpIn w p n c q m d b h) (hF : formB h = true) :
  Calls Tryz.prog 66 #[.agg #[.slice p n c, .slice q m d, .bool b], .int .i64 a] w fun e w' => e = .returned (.tuple #[.agg #[.bool (obB h a), .bool (obC h a), .int .i64 (obK h a), .int .i64 (obN h a)], .bool (obB h a)]) ∧ Below w.heap.size w w' := by
 obtain ⟨rfl, rfl, rfl, hh⟩ := hh
 exact zeg _ _ _ _ _ _ _ hS hh hF
theorem zkf {a i : Int} (hS : Sz w) (hh : HpIn w p n c q m d b h) (hF : formB h = true) :
  Calls Tryz.prog 157 #[.agg #[.slice p n c, .slice q m d, .bool b], .int .i64 a, .int .i64 i] w fun e w' => e = .returned (.tuple #[.agg #[.int .i64 (getK (fdX h a i)), .int .i64 (getN (fdX h a i))], .int .i64 (fdE h a i)]) ∧ Below w.heap.size w w' := by
 obtain ⟨rfl, rfl, rfl, hh⟩ := hh
 exact zh4 _ _ _ _ _ _ _ _ hS hh hF
theorem zdo (hS : Sz w) (hh : HpIn w p n c q m d b h) (hF : formB h = true) :
  Calls Tryz.prog 68 #[.agg #[.slice p n c, .slice q m d, .bool b], .int .i64 a] w fun e w' => e = .returned (.bool (blB h a)) ∧ Below w.heap.size w w' := by
 obtain ⟨rfl, rfl, rfl, hh⟩ := hh
 exact zol _ _ _ _ _ _ _ hS hh hF
theorem zk8 (hS : Sz w) (hh : HpIn w p n c q m d b h) (hF : formB h = true) :
  Calls Tryz.prog 207 #[.agg #[.slice p n c, .slice q m d, .bool b], .int .i64 a] w fun e w' => ∃ p' c' q' d', e = .returned (.tuple #[.agg #[.slice p' n c', .slice q' m d', .bool b], .bool (obB h a)]) ∧
   HpIn w' p' n c' q' m d' b (paH h a) ∧ Src w.heap.size (obB h a) n m p c q d p' c' q' d' ∧ Below w.heap.size w w' := by
 obtain ⟨rfl, rfl, rfl, hh⟩ := hh
 refine zm (zpo _ _ _ _ _ a _ hS hh hF) ?_
 rintro e w' ⟨p', c', q', d', rfl, h1, h2, h3⟩
 obtain ⟨a1, a2, a3⟩ := pa_n h a
 exact ⟨p', c', q', d', rfl, ⟨a1.symm, a2.symm, a3.symm, h1⟩, h2, h3⟩
theorem zvt (hS : Sz w) (hh : HpIn w p n c q m d b h) (hF : formB h = true) :
  Calls Tryz.prog 67 #[.agg #[.slice p n c, .slice q m d, .bool b]] w fun e w' => ∃ pl cl, e = .returned (.slice pl (obL h h.n).length cl) ∧ NumRow w.heap.size (obL h h.n) w' pl cl ∧ Below w.heap.size w w' := by
 obtain ⟨rfl, rfl, rfl, hh⟩ := hh
 refine zm (zrk _ _ _ _ _ _ hS hh hF) ?_
 rintro e w' ⟨v, rfl, h1, h2⟩
 obtain ⟨pl, cl, rfl, hr⟩ := zcy h1 (znj h (by have := zad.1 hF; omega))
 exact ⟨pl, cl, rfl, hr, h2⟩
end
def deH (h : Hp) (d : Dd) : Hp := if d.k = 0 then opH h d.a d.b else if d.k = 1 ∨ d.k = 2 then laH h d.a d.b else if d.k = 3 then frH h d.a else if d.k = 4 then loH h d.a else flipB h
def maH (h : Hp) (f : Nat → Dd) : Nat → Hp
 | 0 => h
 | n + 1 => deH (maH h f n) (f n)
theorem zu3 {N e size n : Nat} {R : Array Value} {xs : List Value} (hN : N ≤ w.heap.size) (hR : R.toList = xs) (hs : R.size = n * size) (hm : n ≤ maxLen) (h0 : 0 < size) : (w.alloc (.cells R e)).ownsRow N e size (.slice (some ⟨w.heap.size, 0, none⟩) n n) n xs := by
 refine ⟨by rw [← hR, Array.length_toList, hs], .inr ⟨w.heap.size, n, R, rfl, hN, heap_alloc_new _ _, Nat.le_refl _, hm, hs, ?_⟩⟩
 rw [hR, List.take_of_length_le (by rw [← hR, Array.length_toList, hs]; exact Nat.le_refl _)]
section
variable {W W' : World} {g A N M : Nat} {p : Option Addr} {c : Nat} {q : Option Addr} {d : Nat} {b : Bool} {H : Hp}
end
theorem zez (h : Hp) (p : Nat) : spH h (p : Int) = h.s p := by unfold spH; rw [Int.toNat_natCast]
theorem zsj {L : List (Int × Int)} (hl : Laid h L) : Laid (flipB h) L := ⟨hl.form, hl.wf, hl.all, hl.nodup, hl.size, hl.head, hl.tail, hl.rest, hl.sum⟩
theorem wo_put {p x b : Int} (b0 : 0 ≤ b) (hne : ¬ b = p) : woH (putH h p x) b = woH h b := by
 show putZ h.z p x b.toNat = h.z b.toNat
 unfold putZ; rw [if_neg (by omega)]
theorem zxn {p x : Int} (p0 : 0 ≤ p) : woH (putH h p x) p = x := by
 show putZ h.z p x p.toNat = x
 unfold putZ; rw [if_pos (by omega)]
theorem zlk {h g : Hp} (hob : ∀ b, obB g b = obB h b) : ∀ k, obL g k = obL h k
 | 0 => rfl
 | k + 1 => by
  have ih := zlk hob k
  unfold obL
  rw [hob, ih]
def depsGB (ops : Array Oper) : Bool := (List.range ops.size).all fun i => match ops[i]? with | some o => (match o.guard with | none => true | some (g, _) => o.after.any fun e => Region.binds .any e && e.on == g) && o.after.all fun e => !Region.binds .any e || decide (e.on < i) | none => false
section
variable {P : Program} {l : List Oper} {Q : Exit → Act → World → Prop} {a : Act} {ds : List (Option Nat)} {Φ : Nat → Value → Prop} {skip : Nat → Bool} {W : World}
end
end Go.Proofs.YtkehankfnkjnlaaGreatDoor
