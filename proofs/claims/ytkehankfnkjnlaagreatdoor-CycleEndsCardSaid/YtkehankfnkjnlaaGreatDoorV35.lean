import Derived.Test.YtkehankfnkjnlaaGreatDoorV34
import Derived.Test.YtkehankfnkjnlaaGreatDoorV33
namespace Go.Proofs.YtkehankfnkjnlaaGreatDoor
set_option linter.unusedSimpArgs false
set_option linter.unusedVariables false
set_option maxHeartbeats 16000000
set_option maxRecDepth 20000
open Go.ChangeAt Go.ChangeShapes Go.Joins Go.RowKit Go.WideShapes
variable {h : Hp} {w w' W W' : World} {p q : Option Addr} {n g : Nat} {a : Int} {v : Value}
def gnB (k : Int) : Bool := decide (0 ≤ k ∧ k ≤ 16)
def gnR (k : Int) : Int := if gnB k = true then k else 0
theorem ze5 (k : Int) (w : World) :
  Calls Tryz.prog 156 #[.int .i64 k] w fun e w' => e = .returned (.bool (gnB k)) ∧ Below w.heap.size w w' := by
 by_cases h0 : k < 0
 ·have e : gnB k = false := by simp [gnB]; omega
  rw [e]
  go_enter Tryz.func156, Tryz.ntmps156
  go_wp2
  go_returns
  exact ⟨rfl, by go_grown⟩
 by_cases h1 : 16 < k
 ·have e : gnB k = false := by simp [gnB]; omega
  rw [e]
  go_enter Tryz.func156, Tryz.ntmps156
  have d0 : decide (k ≤ 16) = false := by simp; omega
  go_wp2
  go_returns
  exact ⟨zab (by simp [d0]), by go_grown⟩
 ·have e : gnB k = true := by simp [gnB]; omega
  rw [e]
  have d0 : decide (k ≤ 16) = true := by simp; omega
  go_enter Tryz.func156, Tryz.ntmps156
  go_wp2
  go_returns
  exact ⟨zab (by simp [d0]), by go_grown⟩
theorem zk1 (p : Option Addr) (n c : Nat) (w : World) (hnc : n ≤ c ∧ c ≤ maxLen) :
  Calls Tryz.prog 210 #[.slice p n c] w fun e w' => e = .returned (.slice p n n) ∧ Below w.heap.size w w' := by
 obtain ⟨h1, h2⟩ := hnc
 simp only [maxLen] at h2
 go_enter Tryz.func210, Tryz.ntmps210
 go_wp2
 go_returns
 exact ⟨rfl, by go_grown⟩
theorem zuc (k : Int) (w : World) :
  Calls Tryz.prog 162 #[.int .i64 k] w fun e w' => e = .returned (.tuple #[.agg #[.int .i64 (gnR k), .slice none 0 0], .bool (gnB k)]) ∧ Below w.heap.size w w' := by
 cases e : gnB k with
 | false =>
  have e' : gnR k = 0 := by unfold gnR; rw [if_neg (by simp [e])]
  have hR := fun W => ze5 k W
  simp only [e] at hR
  rw [e']
  clear e e'
  go_enter Tryz.func162, Tryz.ntmps162
  go_wp2_with (first
  | (go_at_call 156; refine zm (hR _) ?_; rintro e w' ⟨rfl, hb⟩; obtain ⟨hc, hf, hb, hz⟩ := bstep hb (w := w) (by go_grown); try simp only [za, zb, zd] at hc hf hz)
  )
  refine bodyPost_ret (by simp [results, Tryz.results162, go_sem, *]; try rfl) rfl ?_
  exact ⟨rfl, by go_grown⟩
 | true =>
  have e' : gnR k = k := by unfold gnR; rw [if_pos e]
  have hR := fun W => ze5 k W
  simp only [e] at hR
  rw [e']
  clear e e'
  go_enter Tryz.func162, Tryz.ntmps162
  go_wp2_with (first
  | (go_at_call 156; refine zm (hR _) ?_; rintro e w' ⟨rfl, hb⟩; obtain ⟨hc, hf, hb, hz⟩ := bstep hb (w := w) (by go_grown); try simp only [za, zb, zd] at hc hf hz)
  )
  refine bodyPost_ret (by simp [results, Tryz.results162, go_sem, *]; try rfl) rfl ?_
  exact ⟨rfl, by go_grown⟩
theorem zhv (r : Int) (p : Option Addr) (n c : Nat) (z : Nat → Int) (w : World) (hz : GrAt w p c n z) :
  Calls Tryz.prog 123 #[.agg #[.int .i64 r, .slice p n c]] w fun e w' => e = .returned (.bool (rightG r n z)) ∧ Below w.heap.size w w' := by
 cases eR : gnB r with
 | false =>
  have e : rightG r n z = false := by simp [gnB] at eR; simp [rightG]; omega
  have hR := fun W => ze5 r W
  simp only [eR] at hR
  rw [e]
  clear e eR
  go_enter Tryz.func123, Tryz.ntmps123
  go_wp2_with (first
  | (go_at_call 156; refine zm (hR _) ?_; rintro e w' ⟨rfl, hb⟩; obtain ⟨hc, hf, hb, hz⟩ := bstep hb (w := w) (by go_grown); try simp only [za, zb, zd] at hc hf hz)
  )
  go_returns
  exact ⟨rfl, by go_grown⟩
 | true =>
 have hR := fun W => ze5 r W
 simp only [eR] at hR
 have h01 : 0 ≤ r ∧ r ≤ 16 := by simpa [gnB] using eR
 obtain ⟨h0, h1⟩ := h01
 clear eR
 by_cases h2 : r < n
 ·have e : rightG r n z = false := by simp [rightG]; omega
  rw [e]
  go_enter Tryz.func123, Tryz.ntmps123
  go_wp2_with (first
  | (go_at_call 156; refine zm (hR _) ?_; rintro e w' ⟨rfl, hb⟩; obtain ⟨hc, hf, hb, hz⟩ := bstep hb (w := w) (by go_grown); try simp only [za, zb, zd] at hc hf hz)
  )
  go_returns
  exact ⟨rfl, by go_grown⟩
 obtain ⟨w0, hw0⟩ : ∃ w0, w0 = w.alloc (.cells #[.int .i64 r, .slice p n c] 31) := ⟨_, rfl⟩
 have hB0 : Below w.heap.size w w0 := by rw [hw0]; exact zr.alloc (Nat.le_refl _) _
 have g2 : w.heap.size < w0.heap.size ∧ w0.cell? ⟨w.heap.size, 0, none⟩ = some (.int .i64 r) ∧ w0.cell? ⟨w.heap.size, 1, none⟩ = some (.slice p n c) := by rw [hw0]; simp [go_sem]
 have hin := hz.ints.below hB0
 obtain ⟨l0, x0, x1⟩ := g2
 go_enter Tryz.func123, Tryz.ntmps123
 go_upto_region 1 with fail
 rw [← hw0]
 clear hw0
 go_upto_region 2 with (first
  | (go_at_call 156; refine zm (hR _) ?_; rintro e w' ⟨rfl, hb⟩; obtain ⟨hc, hf, hb, hz⟩ := bstep hb (w := w0) (by go_grown); try simp only [za, zb, zd] at hc hf hz)
 )
 have hBx := hb
 generalize w' = w1 at *
 go_wp2
 go_loopg [20] n (fun g iv wr => ∃ i : Nat, i ≤ n ∧ g = n - i ∧ iv = .int .i64 i ∧ (∀ j, j < i → 0 ≤ z j) ∧ Below w0.heap.size w0 wr)
 case atStart => exact ⟨0, by omega, by omega, rfl, fun j hj => absurd hj (Nat.not_lt_zero _), hBx⟩
 case round =>
  obtain ⟨i, ih, rfl, rfl, hall, hbw⟩ := hrel
  by_cases hi : i < n
  ·obtain ⟨⟨b, off, rfl, hlt, v0⟩, -⟩ := (hin.below hbw) i hi
   by_cases e : 0 ≤ z i
   ·have hnx : Hid (∀ j, j < i + 1 → 0 ≤ z j) := fun j hj => by
     by_cases e' : j = i
     ·subst e'; exact e
     ·exact hall j (by omega)
    clear hall
    generalize z i = x at *
    go_wp2
    go_roundg (n - (i + 1))
    case measure => omega
    case rel => exact ⟨i + 1, by omega, rfl, by go_num, hnx.out, hbw⟩
   ·have hno : Hid (rightG r n z = false) := by
     show rightG r n z = false
     simp only [rightG, Bool.and_eq_false_iff, decide_eq_false_iff_not]
     exact .inr fun h => e (h i hi)
    clear hall
    generalize z i = x at *
    go_wp2
    go_returns
    exact ⟨zab hno.out.symm, bjoin hbw hB0⟩
  ·obtain rfl : i = n := by omega
   have hyes : Hid (rightG r i z = true) := zbe.2 ⟨by omega, hall⟩
   clear hall
   go_wp2
   go_returns
   exact ⟨zab hyes.out.symm, bjoin hbw hB0⟩
theorem zru (r a : Int) (p : Option Addr) (n c : Nat) (z : Nat → Int) (w : World) (hz : GrAt w p c n z) (hr : r ≤ 1000000) (ha : (Lit.int .i64 a).wf = true) :
  Calls Tryz.prog 208 #[.agg #[.int .i64 r, .slice p n c], .int .i64 a] w fun e w' => ∃ p' c', e = .returned (.tuple #[.agg #[.int .i64 r, .slice p' (gpN r n a) c'], .bool (gpB r n a)]) ∧ GrAt w' p' c' (gpN r n a) (gpZ r n z a) ∧ (gpB r n a = true → ∀ b off sp, p' = some ⟨b, off, sp⟩ → w.heap.size ≤ b) ∧ Below w.heap.size w w' ∧ (∀ b off sp, p' = some ⟨b, off, sp⟩ → (gpB r n a = false ∧ p' = p) ∨ ∃ cs, w'.heap[b]? = some (.cells cs 3 (0, 0))) := by
 obtain ⟨w0, hw0, ⟨l0, x0, x1⟩, ⟨l1, y0, y1, f0, f1⟩, hb0⟩ := boxed2g (w := w) (v0 := .int .i64 r) (v1 := .slice p n c) (u0 := .int .i64 0) (u1 := .slice none 0 0) (t := 31)
 have fx : w0.frozen? ⟨w.heap.size, 1, none⟩ = false := by
  rw [hw0]
  exact ((zr.alloc (Nat.le_refl _) _).frozen (p := ⟨w.heap.size, 1, none⟩) (by simp)).trans (frozen_of_row _ _ _ _ _ (heap_alloc_new w _))
 have hz0 := hz.below hb0
 have hcap := hz.ncap
 obtain ⟨hc1, hc2⟩ := hcap
 cases e : gpB r n a with
 | false =>
  have eN : gpN r n a = n := by unfold gpN; rw [if_neg (by simp [e])]
  have eZ : gpZ r n z a = z := by unfold gpZ; rw [if_neg (by simp [e])]
  rw [eN, eZ]
  have hbb : Below w.heap.size w ((w0.setCell ⟨w.heap.size + 1, 0, none⟩ (.int .i64 r)).setCell ⟨w.heap.size + 1, 1, none⟩ (.slice p n c)) := (hb0.setCell (Nat.le_succ _) _).setCell (Nat.le_succ _) _
  by_cases h1 : r ≤ n
  ·clear e eN eZ
   go_enter Tryz.func208, Tryz.ntmps208
   go_upto_region 1 with fail
   rw [← hw0]
   clear hw0
   go_wp2
   refine bodyPost_ret (by simp [results, Tryz.results208, go_sem, *]; try rfl) rfl ?_
   first | exact ⟨p, c, rfl, hz.below hbb, fun h => (by cases h), hbb, fun _ _ _ _ => .inl ⟨trivial, rfl⟩⟩ | exact ⟨p, c, rfl, hz.below hbb, hbb, fun _ _ _ _ => .inl ⟨trivial, rfl⟩⟩ | exact ⟨p, c, rfl, hz.below hbb, hbb, fun _ _ _ _ => .inl rfl⟩
  ·have h0 : a < 0 := by simp [gpB] at e; omega
   clear e eN eZ
   go_enter Tryz.func208, Tryz.ntmps208
   go_upto_region 1 with fail
   rw [← hw0]
   clear hw0
   go_wp2
   refine bodyPost_ret (by simp [results, Tryz.results208, go_sem, *]; try rfl) rfl ?_
   first | exact ⟨p, c, rfl, hz.below hbb, fun h => (by cases h), hbb, fun _ _ _ _ => .inl ⟨trivial, rfl⟩⟩ | exact ⟨p, c, rfl, hz.below hbb, hbb, fun _ _ _ _ => .inl ⟨trivial, rfl⟩⟩ | exact ⟨p, c, rfl, hz.below hbb, hbb, fun _ _ _ _ => .inl rfl⟩
 | true =>
  have eN : gpN r n a = n + 1 := by unfold gpN; rw [if_pos e]
  have eZ : gpZ r n z a = pzZ z n a := by unfold gpZ; rw [if_pos e]
  rw [eN, eZ]
  have h01 : 0 ≤ a ∧ (n : Int) < r := by simpa [gpB] using e
  obtain ⟨h0, h1⟩ := h01
  have hcells : ∀ w', Below w.heap.size w w' → ∀ b, p = some b → ∀ j u, (vals .i64 n z)[j]? = some u → w'.cell? (b.add j) = some u := fun w' hb b hp j u hj => by
   have hjn : j < n := by have := (List.getElem?_eq_some_iff.1 hj).1; rwa [zae] at this
   obtain ⟨ad, e1, hc⟩ := (hz.ints.below hb).cells (by omega)
   rw [hp] at e1
   injection e1 with e1
   subst e1
   exact hc j u hj
  have hpn : p = none → n = 0 ∧ n = 0 := fun h => ⟨(hz.pnil h).1, (hz.pnil h).1⟩
  clear e eN eZ
  go_enter Tryz.func208, Tryz.ntmps208
  go_upto_region 1 with fail
  rw [← hw0]
  clear hw0
  obtain ⟨i0, hj0, hj1, hj2, hj3⟩ := info_parts zb5
  go_upto_region 4 with (first
  | (go_at_call 210; refine zm (zk1 p n c _ ⟨hc1, hc2⟩) ?_; rintro e w' ⟨rfl, hb⟩; obtain ⟨hc, hf, hb, hz⟩ := bstep hb (w := w0) (by go_grown); try simp only [za, zb, zd] at hc hf hz)
   | (at_builtin; refine wpList_append_grows _ rfl (.tmp 20) (.tmp 22) 29 rfl 3 i0 (.int .i64 0) 1 8 Tryz.underlying29 hj0 hj1 hj2 hj3 rfl (by decide) p n n (vals .i64 n z) rfl hpn (by simp [zae]) (hcells _ ((hb0.trans (hb.mono (Nat.le_of_lt l0))).alloc (Nat.le_trans (Nat.le_of_lt l0) hb.size) _)) ⟨w'.heap.size, 0, none⟩ 1 1 [.int .i64 a] rfl rfl (zil _ _ _) (by simp [Value.oneCell']) (by omega) (by simp only [maxLen]; omega) (by omega) ?_; intro ov w1 ho hgr)
  )
  have hb1 : Below w0.heap.size w0 w1 := hb.trans (((Below.refl w'.heap.size w').alloc (Nat.le_refl _) (.cells #[.int .i64 a] 3)).mono hb.size |>.trans (zr.grown hgr (Nat.le_trans hb.size (by simp)) (fun k hk => by cases hk)))
  have hown : w1.ownsRow w0.heap.size 3 1 ov (n + 1) (vals .i64 n z ++ [.int .i64 a]) := zag ho (Nat.le_trans hb.size (by simp))
  clear ho hgr hc hf hz hb
  obtain ⟨pp, cc, rfl, hnew⟩ := zaf hown
  have htag := zdy hown
  rw [zwt] at hown
  have hg0 : GrAt w1 pp cc (n + 1) (pzZ z n a) := zed hown (by simp only [maxLen]; omega) (pz_wf hz0.ints.wf ha)
  have hg : GrAt w1 pp (n + 1) (n + 1) (pzZ z n a) := ⟨hg0.ints, hg0.nle, fun e => ⟨(hg0.pnil e).1, (hg0.pnil e).1⟩, Nat.le_refl _, hg0.nle⟩
  have hcc := hg0.ncap
  clear hown hg0 hcells
  have x0' := zcl hb1 l0 x0
  have x1' := zcl hb1 l0 x1
  have fx' := (hb1.frozen (p := ⟨w.heap.size, 1, none⟩) l0).trans fx
  have y0' := zcl hb1 l1 y0
  have y1' := zcl hb1 l1 y1
  have f0' := (hb1.frozen (p := ⟨w.heap.size + 1, 0, none⟩) l1).trans f0
  have f1' := (hb1.frozen (p := ⟨w.heap.size + 1, 1, none⟩) l1).trans f1
  clear x0 x1 fx y0 y1 f0 f1 hb hz0
  have hbW := hb0.trans (hb1.mono (Nat.le_of_lt l0))
  have hlz := hb1.size
  clear hb0 hb1
  go_upto_region 5 with (first
  | (go_at_call 210; refine zm (zk1 pp (n + 1) cc _ hcc) ?_; rintro e w' ⟨rfl, hb⟩; obtain ⟨hc, hf, hb, hz⟩ := bstep hb (w := w1) (by go_grown); try simp only [za, zb, zd] at hc hf hz)
  )
  have gg : GrAt (((w'.setCell ⟨w.heap.size, 1, none⟩ (.slice pp (n + 1) (n + 1))).setCell ⟨w.heap.size + 1, 0, none⟩ (.int .i64 r)).setCell ⟨w.heap.size + 1, 1, none⟩ (.slice pp (n + 1) (n + 1))) pp (n + 1) (n + 1) (pzZ z n a) :=
   (((hg.below hb).setCell (fun b off e => by have := hnew b off none e; omega) _ _).setCell (fun b off e => by have := hnew b off none e; omega) _ _).setCell (fun b off e => by have := hnew b off none e; omega) _ _
  have hbE : Below w.heap.size w (((w'.setCell ⟨w.heap.size, 1, none⟩ (.slice pp (n + 1) (n + 1))).setCell ⟨w.heap.size + 1, 0, none⟩ (.int .i64 r)).setCell ⟨w.heap.size + 1, 1, none⟩ (.slice pp (n + 1) (n + 1))) :=
   ((((hbW.trans (hb.mono hbW.size)).setCell (Nat.le_refl _) _).setCell (Nat.le_succ _) _).setCell (Nat.le_succ _) _)
  go_wp2
  refine bodyPost_ret (by simp [results, Tryz.results208, go_sem, *]; try rfl) rfl ?_
  refine ⟨pp, n + 1, rfl, gg, fun _ b off sp e => Nat.le_trans (Nat.le_of_lt l0) (hnew b off sp e), hbE, fun b off sp e => .inr ?_⟩
  obtain ⟨cs, hcs⟩ := htag b off sp e
  have hne := hnew b off sp e
  have hltb : b < w1.heap.size := (Array.getElem?_eq_some_iff.1 hcs).1
  refine ⟨cs, ?_⟩
  rw [Below.heap_setCell _ _ _ b (by show ¬ b = w.heap.size + 1; omega), Below.heap_setCell _ _ _ b (by show ¬ b = w.heap.size + 1; omega), Below.heap_setCell _ _ _ b (by show ¬ b = w.heap.size; omega)]
  exact (hb.block b hltb).trans hcs
theorem zjl (r : Int) (p : Option Addr) (n c : Nat) (z : Nat → Int) (w : World) (hz : GrAt w p c n z) (hn : n ≤ 1000000) :
  Calls Tryz.prog 166 #[.agg #[.int .i64 r, .slice p n c]] w fun e w' => ∃ p' c', e = .returned (.tuple #[.agg #[.int .i64 r, .slice p' (n - 1 : Nat) c'], .int .i64 (gqX n z), .bool (decide (0 < n))]) ∧ GrAt w' p' c' (n - 1) z ∧ (0 < n → ∀ b off sp, p' = some ⟨b, off, sp⟩ → w.heap.size ≤ b) ∧ Below w.heap.size w w' ∧ (0 < n → ∀ b off sp, p' = some ⟨b, off, sp⟩ → ∃ cs, w'.heap[b]? = some (.cells cs 3 (0, 0))) := by
 obtain ⟨w0, hw0, ⟨l0, x0, x1⟩, ⟨l1, y0, y1, f0, f1⟩, hb0⟩ := boxed2g (w := w) (v0 := .int .i64 r) (v1 := .slice p n c) (u0 := .int .i64 0) (u1 := .slice none 0 0) (t := 31)
 have fx : w0.frozen? ⟨w.heap.size, 1, none⟩ = false := by
  rw [hw0]
  exact ((zr.alloc (Nat.le_refl _) _).frozen (p := ⟨w.heap.size, 1, none⟩) (by simp)).trans (frozen_of_row _ _ _ _ _ (heap_alloc_new w _))
 have hz0 := hz.below hb0
 by_cases h0 : n = 0
 ·subst h0
  have hbb : Below w.heap.size w ((w0.setCell ⟨w.heap.size + 1, 0, none⟩ (.int .i64 r)).setCell ⟨w.heap.size + 1, 1, none⟩ (.slice p 0 c)) := (hb0.setCell (Nat.le_succ _) _).setCell (Nat.le_succ _) _
  go_enter Tryz.func166, Tryz.ntmps166
  go_upto_region 1 with fail
  rw [← hw0]
  clear hw0
  go_wp2
  refine bodyPost_ret (by simp [results, Tryz.results166, go_sem, *]; try rfl) rfl ?_
  exact ⟨p, c, rfl, hz.below hbb, fun h => absurd h (Nat.lt_irrefl 0), hbb, fun h => absurd h (Nat.lt_irrefl 0)⟩
 ·obtain ⟨m, rfl⟩ : ∃ m, n = m + 1 := ⟨n - 1, by omega⟩
  have eX : gqX (m + 1) z = z m := by unfold gqX; rw [if_neg (by omega)]; rfl
  have eD : decide (0 < m + 1) = true := by simp
  rw [eX, eD, show m + 1 - 1 = m from rfl]
  have hwf := hz.ints.wf
  obtain ⟨⟨b, off, rfl, hltw, -⟩, hwm⟩ := hz.ints m (by omega)
  obtain ⟨⟨b', off', eq, hlt, v0⟩, -⟩ := hz0.ints m (by omega)
  injection eq with eq
  injection eq with eq1 eq2
  subst eq1 eq2
  have hcap := hz.ncap
  obtain ⟨hc1, hc2⟩ := hcap
  have hin : Ints .i64 w0 (some ⟨b, off, none⟩) m z := fun i hi => hz0.ints i (by omega)
  clear eX eD h0 hz0
  have hmc : m ≤ c := by omega
  have hm1 : (m : Int) < m + 1 := by omega
  generalize hX : z m = X at *
  go_enter Tryz.func166, Tryz.ntmps166
  go_upto_region 1 with fail
  rw [← hw0]
  clear hw0
  go_upto_region 5 with fail
  obtain ⟨i0, hj0, hj1, hj2, hj3⟩ := info_parts zb5
  refine wp_region_lit ?_
  go_wp2_with (first
   | (at_builtin; refine za7 rfl _ (.tmp 22) 29 rfl w0.heap.size 3 i0 (.int .i64 0) 8 Tryz.underlying29 hj0 hj1 hj2 hj3 rfl (.slice none 0 0) 0 [] rfl (zsh _ _ _ _).1 .i64 (some ⟨b, off, none⟩) m c z rfl hin (fun e => (by cases e)) (by simp only [maxLen]; omega) (by omega) (Nat.le_refl _) ?_; intro ov w1 ho hgr; rw [Nat.zero_add, List.nil_append] at ho; obtain ⟨pp, cc, rfl, hnew⟩ := zaf ho; have htag := zdy ho; have hb1 : Below w0.heap.size w0 w1 := zr.grown hgr (Nat.le_refl _) (fun k hk => by cases hk); have x0' := zcl hb1 l0 x0; have x1' := zcl hb1 l0 x1; have fx' := (hb1.frozen (p := ⟨w.heap.size, 1, none⟩) l0).trans fx; have y0' := zcl hb1 l1 y0; have y1' := zcl hb1 l1 y1; have f0' := (hb1.frozen (p := ⟨w.heap.size + 1, 0, none⟩) l1).trans f0; have f1' := (hb1.frozen (p := ⟨w.heap.size + 1, 1, none⟩) l1).trans f1)
  )
  have hg0 : GrAt w1 pp cc m z := zed ho (by simp only [maxLen]; omega) fun i hi => hwf i (by omega)
  have gg := ((hg0.setCell (g := w.heap.size) (fun b off e => by have := hnew b off none e; omega) 1 (.slice pp m cc)).setCell (g := w.heap.size + 1) (fun b off e => by have := hnew b off none e; omega) 0 (.int .i64 r)).setCell (g := w.heap.size + 1) (fun b off e => by have := hnew b off none e; omega) 1 (.slice pp m cc)
  have hbE := (((hb0.trans (hb1.mono (Nat.le_of_lt l0))).setCell (p := ⟨w.heap.size, 1, none⟩) (Nat.le_refl _) (.slice pp m cc)).setCell (p := ⟨w.heap.size + 1, 0, none⟩) (Nat.le_succ _) (.int .i64 r)).setCell (p := ⟨w.heap.size + 1, 1, none⟩) (Nat.le_succ _) (.slice pp m cc)
  refine bodyPost_ret (by simp [results, Tryz.results166, go_sem, *]; try rfl) rfl ?_
  have hfin : ∀ b off sp, pp = some ⟨b, off, sp⟩ → ∃ cs, (((w1.setCell ⟨w.heap.size, 1, none⟩ (.slice pp m cc)).setCell ⟨w.heap.size + 1, 0, none⟩ (.int .i64 r)).setCell ⟨w.heap.size + 1, 1, none⟩ (.slice pp m cc)).heap[b]? = some (.cells cs 3 (0, 0)) := fun b off sp e => by
   obtain ⟨cs, hcs⟩ := htag b off sp e
   have hne := hnew b off sp e
   refine ⟨cs, ?_⟩
   rw [Below.heap_setCell _ _ _ b (by show ¬ b = w.heap.size + 1; omega), Below.heap_setCell _ _ _ b (by show ¬ b = w.heap.size + 1; omega), Below.heap_setCell _ _ _ b (by show ¬ b = w.heap.size; omega)]
   exact hcs
  refine ⟨pp, cc, rfl, gg, ?_, hbE, ?_⟩
  ·first | exact fun b off sp e => Nat.le_trans (Nat.le_of_lt l0) (hnew b off sp e) | exact fun _ b off sp e => Nat.le_trans (Nat.le_of_lt l0) (hnew b off sp e)
  ·first | exact hfin | exact fun _ => hfin
def rmL (rr : Nat → Int) (k : Nat) : List Value := ((List.range k).map fun i => [Value.int .i64 (rr i), .slice none 0 0]).flatten
theorem zjc (rr : Nat → Int) (k : Nat) : rmL rr (k + 1) = rmL rr k ++ [.int .i64 (rr k), .slice none 0 0] := by
 simp [rmL, List.range_succ]
theorem zig (rr : Nat → Int) : ∀ k, (rmL rr k).length = k * 2
 | 0 => rfl
 | k + 1 => by rw [zjc, List.length_append, zig rr k]; simp; omega
theorem zio (rr : Nat → Int) : ∀ (k i : Nat), i < k → (rmL rr k)[i * 2]? = some (.int .i64 (rr i)) ∧ (rmL rr k)[i * 2 + 1]? = some (.slice none 0 0)
 | 0, i, h => absurd h (Nat.not_lt_zero i)
 | k + 1, i, h => by
  rw [zjc]
  have hl := zig rr k
  by_cases e : i < k
  ·obtain ⟨h1, h2⟩ := zio rr k i e
   rw [List.getElem?_append_left (by omega), List.getElem?_append_left (by omega)]
   exact ⟨h1, h2⟩
  ·obtain rfl : i = k := by omega
   rw [List.getElem?_append_right (by omega), List.getElem?_append_right (by omega), hl]
   simp
def rrF (r : Int) (br : Nat → Int) : Nat → Int := fun i => if i = 0 then r else br (i - 1)
theorem zw8 (r : Int) (nb : Nat) (br : Nat → Int) : vals .i64 1 (fun _ => r) ++ vals .i64 nb br = vals .i64 (1 + nb) (rrF r br) := by
 refine List.ext_getElem? fun i => ?_
 by_cases h : i < 1 + nb
 ·rw [za4 .i64 _ h]
  by_cases h0 : i = 0
  ·subst h0
   rw [List.getElem?_append_left (by simp [zae]), za4 .i64 _ (by omega)]
   simp [rrF]
  ·rw [List.getElem?_append_right (by simp [zae]; omega), zae, za4 .i64 _ (by omega)]
   simp [rrF, h0]
 ·rw [List.getElem?_eq_none (by simp [zae]; omega), List.getElem?_eq_none (by simp [zae]; omega)]
theorem zxr {B : Nat} {x : Int} {T : TypeId} (h : TBox T B #[.int .i64 x] w) (hx : (Lit.int .i64 x).wf = true) : Ints .i64 w (some ⟨B, 0, none⟩) 1 (fun _ => x) := fun i hi => by
 obtain rfl : i = 0 := by omega
 exact ⟨⟨B, 0, rfl, h.lt, h.cell 0⟩, hx⟩
theorem zvp {B : Nat} (w : World) (x y : Value) (t : TypeId) (hB : B = w.heap.size) : ∀ j u, [x, y][j]? = some u → (w.alloc (.cells #[x, y] t)).cell? ((⟨B, 0, none⟩ : Addr).add j) = some u := by
 intro j u h
 subst hB
 match j, h with
 | 0, h =>
  obtain rfl : x = u := by simpa using h
  exact cell_of_row _ _ _ _ _ _ (heap_alloc_new w (.cells #[x, y] t))
 | 1, h =>
  obtain rfl : y = u := by simpa using h
  exact cell_of_row _ _ _ _ _ _ (heap_alloc_new w (.cells #[x, y] t))
theorem zqy {z : Nat → Int} (h : Ints .i64 w p n z) (e : p = none) : n = 0 := by
 rcases Nat.eq_zero_or_pos n with h0 | h0
 ·exact h0
 ·obtain ⟨⟨b, off, e1, -⟩, -⟩ := h 0 h0
  rw [e] at e1
  cases e1
theorem zmt (h : w.grownBy w' (some g)) : Aside (fun k => k = g) w w' :=
 ⟨h.os, h.tape, h.output, h.size, fun k hk hne => h.block k hk (fun e => hne (by injection e))⟩
theorem zxe {N g n c s : Nat} {E : TypeId} {xs : List Value} (h : w.ownsRow N E s (.slice (some ⟨g, 0, none⟩) n c) n xs) (h0 : 0 < n) : ∃ cur : Array Value, TBox E g cur w ∧ ∀ (t : Nat) (u : Value), xs[t]? = some u → cur[t]? = some u := by
 rcases h.2 with ⟨hv, -⟩ | ⟨g', cap, cur, hv, -, hg, -, -, -, ht⟩
 ·injection hv with hv; cases hv
 ·injection hv with hv
  injection hv with hv
  injection hv with hv
  subst hv
  refine ⟨cur, hg, fun t u hu => ?_⟩
  rw [← ht, List.getElem?_take] at hu
  split at hu
  ·simpa using hu
  ·cases hu
theorem zwe {T g : Nat} {x0 x1 x2 x3 x4 x5 x6 x7 : Value} (h : TBox T g #[x0, x1, x2, x3, x4, x5, x6, x7] w) : g < w.heap.size ∧ w.cell? ⟨g, 0, none⟩ = some x0 ∧ w.cell? ⟨g, 1, none⟩ = some x1 ∧ w.cell? ⟨g, 2, none⟩ = some x2 ∧ w.cell? ⟨g, 3, none⟩ = some x3 ∧ w.cell? ⟨g, 4, none⟩ = some x4 ∧ w.cell? ⟨g, 5, none⟩ = some x5 ∧ w.cell? ⟨g, 6, none⟩ = some x6 ∧ w.cell? ⟨g, 7, none⟩ = some x7 :=
 ⟨h.lt, h.cell 0, h.cell 1, h.cell 2, h.cell 3, h.cell 4, h.cell 5, h.cell 6, h.cell 7⟩
theorem zhm : PlainC #[.int .i64 0, .slice none 0 0, .slice none 0 0, .slice none 0 0, .int .i64 0, .int .i64 0, .int .i64 0, .bool false] := ⟨by decide, fun i x e => by
 match i, e with
 | 0, e => simp at e
 | 1, e => simp at e
 | 2, e => simp at e
 | 3, e => simp at e
 | 4, e => simp at e
 | 5, e => simp at e
 | 6, e => simp at e
 | 7, e => simp at e
 | i + 8, e => simp at e⟩
theorem zx6 {k : Int} (h0 : 0 ≤ k ∧ k ≤ 16) (w : World) : Calls Tryz.prog 162 #[.int .i64 k] w fun e w' => e = .returned (.tuple #[.agg #[.int .i64 k, .slice none 0 0], .bool true]) ∧ Below w.heap.size w w' := by
 have := zuc k w
 have e1 : gnB k = true := by simp [gnB]; omega
 have e2 : gnR k = k := by simp [gnR, e1]
 rwa [e1, e2] at this
theorem zv8 (N : Nat) (r : Int) {pb : Option Addr} {nb cb : Nat} {br : Nat → Int} {pv : Option Addr} {nr cv : Nat} {ro : Nat → Vl} (hN : N ≤ w.heap.size) 
  (hb : Ints .i64 w pb nb br) (hn : nb ≤ 1000) (hv : VAt w pv cv nr ro) (hr : nr ≤ 1000000) (h0 : 0 ≤ r ∧ r ≤ 16) (h1 : ∀ i, i < nb → 0 ≤ br i ∧ br i ≤ 16) (hq : pb = none → cb = 0 := by first | (intro e; cases e; done) | (intro _; rfl)) :
  Calls Tryz.prog 129 #[.int .i64 r, .slice pb nb cb, .slice pv nr cv] w fun e w' => ∃ pg' cg' pb' cb' pr' cr', e = .returned (.tuple #[.agg #[.int .i64 r, .slice pg' 0 cg', .slice pb' nb cb', .slice pr' nr cr', .int .i64 (-1), .int .i64 0, .int .i64 (-1), .bool false], .bool true]) ∧
   MAtE N w' (newM r nb br nr ro) pg' cg' pb' cb' pr' cr' ∧ (∀ b off sp, pr' = some ⟨b, off, sp⟩ → w.heap.size ≤ b) ∧ (∀ b off sp, pb' = some ⟨b, off, sp⟩ → w.heap.size ≤ b) ∧ Below w.heap.size w w' := by
 obtain ⟨w0, hw0⟩ : ∃ w0, w0 = w.alloc (.cells #[.int .i64 0, .slice none 0 0, .slice none 0 0, .slice none 0 0, .int .i64 0, .int .i64 0, .int .i64 0, .bool false] 35) := ⟨_, rfl⟩
 have gR : TBox 35 w.heap.size #[.int .i64 0, .slice none 0 0, .slice none 0 0, .slice none 0 0, .int .i64 0, .int .i64 0, .int .i64 0, .bool false] w0 := by rw [hw0]; exact TBox.new _ _ _
 have hb0 : Below w.heap.size w w0 := by rw [hw0]; exact zr.alloc (Nat.le_refl _) _
 have hsz0' : Hid (w0.heap.size = w.heap.size + 1) := by show w0.heap.size = w.heap.size + 1; rw [hw0]; simp
 obtain ⟨i0, hi, hz0, hz1, hz2⟩ := info_parts zho
 have hr64 : (Lit.int .i64 r).wf = true := za6 (by omega) (by omega)
 have hb2 : i0.bytes * (1 + nb) ≤ 281474976710656 := by rw [hz2]; omega
 have hb3 : 1 + nb ≤ maxLen := by simp only [maxLen]; omega
 go_enter Tryz.func129, Tryz.ntmps129
 go_upto_region 1 with fail
 rw [← hw0]
 clear hw0
 go_upto_region 2 with (first
  | (at_make; refine wpList_make_own w0 rfl (.const (.int .i64 0)) (.tmp 15) 32 rfl w0.heap.size 31 i0 (.agg #[.int .i64 0, .slice none 0 0]) 2 Tryz.underlying32 hi hz0 hz1 .i64 .i64 (1 + nb) (1 + nb) rfl rfl (by omega) hb2 hb3 (Nat.le_refl _) ?_; intro w1 hown1 hgrow1)
 )
 have hbw1 : Below w.heap.size w w1 := hb0.grown hgrow1 hb0.size (fun k hk => by cases hk)
 have gR1 := gR.below ((Below.refl w0.heap.size w0).grown hgrow1 (Nat.le_refl _) (fun k hk => by cases hk))
 have hgl := (hown1.lt _ rfl).2
 obtain ⟨w2, hw2⟩ : ∃ W, W = (w1.alloc (.cells #[.int .i64 r] 3)).alloc (.cells #[.slice (some ⟨w1.heap.size, 0, none⟩) 1 1, .slice pb nb cb] 29) := ⟨_, rfl⟩
 obtain ⟨t1, t2, hb2'⟩ := zbw hw2
 have hbw2 := bjoin hb2' hbw1
 have hC := zlz (w1.heap.size + 1) (some ⟨w1.heap.size, 0, none⟩) pb 1 1 nb cb (fun _ => r) br w2 t2.lt (t2.cell 0) (t2.cell 1) (zxr t1 hr64) (hb.below hbw2) (fun e => by cases e) (fun e => ⟨zqy hb e, hq e⟩) (by omega) (by omega)
 rw [zw8] at hC
 have hown2 := zaa hown1 hb2'
 have gR2 := gR1.below hb2'
 have hs2 := hb2'.size
 go_upto_region 3 with (first
  | (go_at_call 161; rw [← hw2]; refine zm hC ?_; rintro e w3 ⟨pc, cc, rfl, ho3, hb3⟩)
 )
 have hrr : ∀ i, i < 1 + nb → 0 ≤ rrF r br i ∧ rrF r br i ≤ 16 := fun i hi => by
  unfold rrF
  split
  ·exact h0
  ·exact h1 _ (by omega)
 have hZ3 : Ints .i64 w3 pc (1 + nb) (rrF r br) := zd0 ho3 fun i hi => by
  have := hrr i hi
  exact za6 (by omega) (by omega)
 have hnew3 := (zea ho3)
 have hown3 := zaa hown2 hb3
 have gR3 := gR2.below hb3
 have hbw3 := bjoin hb3 hbw2
 have hs3 := hb3.size
 clear hC hw2 t1 t2 hb2' ho3 hown2 hown1 gR1 gR2 gR hgrow1 hb3 hbw1 hbw2
 have hw0g : w.heap.size ≤ w0.heap.size := hb0.size
 have hgw : w.heap.size < w0.heap.size := by
  have := gR3
  have h1 : w0.heap.size = w.heap.size + 1 := hsz0'.out
  omega
 generalize w0.heap.size = g at *
 have hg3 : g < w2.heap.size := by omega
 go_loopg [8, 23] (1 + nb) (fun gh rv iv wr => ∃ j : Nat, j ≤ 1 + nb ∧ gh = 1 + nb - j ∧ rv = .slice (some ⟨g, 0, none⟩) j (1 + nb) ∧ iv = .int .i64 j ∧ wr.ownsRow g 31 2 (.slice (some ⟨g, 0, none⟩) j (1 + nb)) j (rmL (rrF r br) j) ∧ Aside (fun k => k = g) w3 wr)
 case atStart => exact ⟨0, by omega, by omega, rfl, rfl, hown3, Aside.of zr⟩
 case round =>
  clear hown3
  obtain ⟨j, hj, rfl, rfl, rfl, hown, hA⟩ := hrel
  have hsr := hA.size
  have hZ := hZ3.aside hA (fun k hk b off sp e => by
   obtain ⟨h1, -⟩ := hnew3 b off sp e
   have : k = g := hk
   omega)
  by_cases hlt : j < 1 + nb
  ·obtain ⟨⟨b, off, rfl, hl, hc⟩, hwf⟩ := hZ j hlt
   have hrj := hrr j hlt
   have hG := fun W => zx6 hrj W
   have hsn := zjc (rrF r br) j
   generalize rrF r br j = R at *
   generalize hXS1 : rmL (rrF r br) (j + 1) = XS1 at *
   generalize rmL (rrF r br) j = XS at *
   have hb1 : j + 1 ≤ 1 + nb := hlt
   have hone : ∀ u ∈ ([.int .i64 R, .slice none 0 0] : List Value), u.oneCell' = true := fun u hu => by
    simp only [List.mem_cons, List.not_mem_nil, or_false] at hu
    rcases hu with rfl | rfl <;> rfl
   go_upto_region 6 with (first
  | (go_at_call 162; refine zm (hG _) ?_; rintro e w' ⟨rfl, hb⟩; obtain ⟨hc, hf, hb, hz⟩ := bstep hb (w := wr) (by go_grown); try simp only [za, zb, zd] at hc hf hz)
   )
   obtain ⟨w4, hw4⟩ : ∃ W, W = w'.alloc (.cells #[.int .i64 R, .slice none 0 0] 31) := ⟨_, rfl⟩
   have hb4 : Below w'.heap.size w' w4 := by rw [hw4]; exact zr.alloc (Nat.le_refl _) _
   have gX : TBox 31 w'.heap.size #[.int .i64 R, .slice none 0 0] w4 := by rw [hw4]; exact TBox.new _ _ _
   rw [← hw4]
   have hbr4 := bjoin hb4 hb
   have x0 := gX.cell 0
   have x1 := gX.cell 1
   simp only [List.getElem?_toArray, List.getElem?_cons_zero, List.getElem?_cons_succ] at x0 x1
   have lX := gX.lt
   obtain ⟨w5, hw5⟩ : ∃ W, W = w4.alloc (.cells #[.int .i64 R, .slice none 0 0] 31) := ⟨_, rfl⟩
   have hb5 : Below w4.heap.size w4 w5 := by rw [hw5]; exact zr.alloc (Nat.le_refl _) _
   have hcell5 : ∀ j u, ([.int .i64 R, .slice none 0 0] : List Value)[j]? = some u → w5.cell? ((⟨w4.heap.size, 0, none⟩ : Addr).add j) = some u := by rw [hw5]; exact zvp w4 _ _ _ rfl
   have hbr5 := bjoin hb5 hbr4
   have hown5 := zaa hown hbr5
   clear hw4 hc hf hb hz hb4 gX hown
   generalize w'.heap.size = X at *
   go_wp2_with (first
    | (at_builtin; go_loud (rw [← hw5]); go_loud (refine wpList_append_fits w5 rfl (.tmp 35) (.tmp 37) 32 rfl g 31 i0 2 Tryz.underlying32 hi hz1 g j (1 + nb) XS rfl hown5 ⟨w4.heap.size, 0, none⟩ 1 1 [.int .i64 R, .slice none 0 0] rfl rfl hcell5 hone hb1 ?_); intro w9 hown9 hgrow9)
   )
   rw [← hsn] at hown9
   have hA9 := (hA.trans (Aside.of hbr5)).trans (zmt hgrow9)
   go_roundg (1 + nb - (j + 1))
   case measure => omega
   case rel => exact ⟨j + 1, by omega, rfl, rfl, by go_num, by rw [hXS1]; exact hown9, hA9⟩
  ·obtain rfl : j = 1 + nb := by omega
   obtain ⟨cur, hcur, hget⟩ := zxe hown (by omega)
   have gR6 := gR3.of_block (hA.block _ gR3.lt (by show ¬ w.heap.size = g; omega))
   have hbr : Below w.heap.size w wr := hbw3.trans (hA.below hbw3.size (fun k e => by rw [e]; exact hw0g))
   have hvr := hv.below hbr
   have hCl := fun W (hW : Below wr.heap.size wr W) => zfi pv nr cv ro W (hvr.below hW) hr
   have y0 : wr.cell? ⟨g, 0, none⟩ = some (.int .i64 r) := (hcur.cell 0).trans (hget 0 _ (zio (rrF r br) (1 + nb) 0 (by omega)).1)
   have y1 : wr.cell? ⟨g, 1, none⟩ = some (.slice none 0 0) := (hcur.cell 1).trans (hget 1 _ (zio (rrF r br) (1 + nb) 0 (by omega)).2)
   have lg := hcur.lt
   have hrows : RAt (GrE N) 2 wr (some ⟨g, 2, none⟩) nb nb (fun i => ⟨br i, 0, fun _ => 0⟩) := ⟨fun i hi => by
    obtain ⟨e1, e2⟩ := zio (rrF r br) (1 + nb) (i + 1) (by omega)
    have hb1 := h1 i hi
    rw [show rrF r br (i + 1) = br i by simp [rrF]] at e1
    refine ⟨g, 2, [.int .i64 (br i), .slice none 0 0], rfl, lg, rfl, fun k u hk => ?_, none, 0, rfl, zgt _ _, zjd _ _ _ _, show In64 (br i) from ⟨by omega, by omega⟩⟩
    match k, hk with
    | 0, hk => obtain rfl : Value.int .i64 (br i) = u := by simpa using hk
               rw [Nat.add_zero, show 2 + i * 2 = (i + 1) * 2 by omega]; exact (hcur.cell _).trans (hget _ _ e1)
    | 1, hk => obtain rfl : Value.slice none 0 0 = u := by simpa using hk
               rw [show 2 + i * 2 + 1 = (i + 1) * 2 + 1 by omega]; exact (hcur.cell _).trans (hget _ _ e2), by simp only [maxLen]; omega, (fun e => by cases e), Nat.le_refl _, by simp only [maxLen]; omega⟩
   obtain ⟨hl6, x0, x1, x2, x3, x4, x5, x6, x7⟩ := zwe gR6
   have fx := zbq gR6
   obtain ⟨f0, f1, f2, f3, f4, f5, f6, f7⟩ := fx
   clear hown hA hZ hZ3 hnew3 hrr gR3
   have hgtag : RowE N 31 nb (some ⟨g, 2, none⟩) wr := fun _ b1 off sp e => by
    injection e with e
    injection e with e
    subst e
    exact ⟨lg, .inr ⟨cur, hcur⟩⟩
   have hgl2 : ¬ g = w.heap.size := by omega
   have hgN : ∀ o b off sp, (some ⟨g, o, none⟩ : Option Addr) = some ⟨b, off, sp⟩ → w.heap.size ≤ b := fun o b off sp e => by
    injection e with e
    injection e with e
    omega
   clear hget hcur hbw3 hsr hs3 hs2
   go_upto_region 10 with fail
   go_cut [7] from 40 to 47 (fun bv wx => bv = .bool true ∧ ∃ pb' cb' p9 c9, MAtE N wx (newM r nb br nr ro) none 0 pb' cb' p9 c9 ∧ (∀ b off sp, p9 = some ⟨b, off, sp⟩ → w.heap.size ≤ b) ∧ (∀ b off sp, pb' = some ⟨b, off, sp⟩ → w.heap.size ≤ b) ∧ Below w.heap.size w wx ∧ TBox 35 w.heap.size #[.int .i64 r, .slice none 0 0, .slice pb' nb cb', .slice p9 nr c9, .int .i64 (-1), .int .i64 0, .int .i64 (-1), .bool false] wx)
   case first =>
    by_cases hnb0 : nb = 0
    ·clear hrows hgtag
     subst hnb0
     simp only [Nat.add_zero, Int.ofNat_zero, Int.add_zero] at *
     go_region_with (first
  | (go_at_call 163; refine zm (hCl _ (by go_grown)) ?_; rintro e w' ⟨p9, c9, rfl, hV9, ht9, hb⟩; obtain ⟨hc, hf, hb, hz⟩ := bstep hb (w := wr) (by go_grown); try simp only [za, zb, zd] at hc hf hz)
     )
     all_goals
      replace gR6 := gR6.below hb
      have v6 : VarT 35 8 w.heap.size w' := ⟨_, rfl, zhm, gR6⟩
      have hnew9 : ∀ b off sp, p9 = some ⟨b, off, sp⟩ → w.heap.size ≤ b := fun b1 off sp e => by have h := (ht9 b1 off sp e).1; have h2 := hbr.size; (try simp only [World.size_drew] at h); omega
      have hR9 : RowE N 70 nr p9 w' := fun _ b1 off sp e => by
       obtain ⟨-, cs, h1⟩ := ht9 b1 off sp e
       exact ⟨(Array.getElem?_eq_some_iff.1 h1).1, .inr ⟨cs, h1⟩⟩
      have hrat0 : RAt (GrE N) 2 w' (some ⟨g, 0, none⟩) 0 0 (fun i => (⟨br i, 0, fun _ => 0⟩ : Gy)) := ⟨fun i hi => absurd hi (Nat.not_lt_zero i), by decide, (fun e => by cases e), Nat.le_refl _, by decide⟩
      have hrow0 : RowE N 31 0 (some ⟨g, 0, none⟩) w' := fun h0 => absurd h0 (Nat.lt_irrefl 0)
      have hM := MAtE.puts (m := newM r 0 br nr ro) (⟨zgt _ _, zjd _ _ _ _, hrat0, hrow0, hV9, hR9⟩ : MAtE N w' (newM r 0 br nr ro) none 0 (some ⟨g, 0, none⟩) 0 p9 c9) v6 (by decide) (by decide) (by decide) hN [.int .i64 r, .slice none 0 0, .slice (some ⟨g, 0, none⟩) 0 0, .slice p9 nr c9, .int .i64 (-1), .int .i64 0, .int .i64 (-1), .bool false]
      have hbE := (bjoin hb hbr).trans (zao (Nat.le_refl w.heap.size) [.int .i64 r, .slice none 0 0, .slice (some ⟨g, 0, none⟩) 0 0, .slice p9 nr c9, .int .i64 (-1), .int .i64 0, .int .i64 (-1), .bool false] 0 w')
      have g9 : TBox 35 w.heap.size #[.int .i64 r, .slice none 0 0, .slice (some ⟨g, 0, none⟩) 0 0, .slice p9 nr c9, .int .i64 (-1), .int .i64 0, .int .i64 (-1), .bool false] _ := v6.full8
      simp only [putsL, Nat.reduceAdd] at hM hbE g9
      have hdr : ∀ W : World, Below W.heap.size W W.drew := fun W => zr.drew
      go_wp2_with fail
      go_meet
      first
       | exact ⟨rfl, (some ⟨g, 0, none⟩), 0, p9, c9, hM, hnew9, hgN _, hbE, g9⟩
       | exact ⟨rfl, (some ⟨g, 0, none⟩), 0, p9, c9, hM.below (hdr _), hnew9, hgN _, hbE.drew, g9.below (hdr _)⟩
       | exact ⟨rfl, (some ⟨g, 0, none⟩), 0, p9, c9, (hM.below (hdr _)).below (hdr _), hnew9, hgN _, hbE.drew.drew, (g9.below (hdr _)).below (hdr _)⟩
    ·have hnb1 : ¬ 1 + nb = 1 := by omega
     go_region_with (first
  | (go_at_call 163; refine zm (hCl _ (by go_grown)) ?_; rintro e w' ⟨p9, c9, rfl, hV9, ht9, hb⟩; obtain ⟨hc, hf, hb, hz⟩ := bstep hb (w := wr) (by go_grown); try simp only [za, zb, zd] at hc hf hz)
     )
     all_goals
      replace gR6 := gR6.below hb
      have v6 : VarT 35 8 w.heap.size w' := ⟨_, rfl, zhm, gR6⟩
      have hnew9 : ∀ b off sp, p9 = some ⟨b, off, sp⟩ → w.heap.size ≤ b := fun b1 off sp e => by have h := (ht9 b1 off sp e).1; have h2 := hbr.size; (try simp only [World.size_drew] at h); omega
      have hR9 : RowE N 70 nr p9 w' := fun _ b1 off sp e => by
       obtain ⟨-, cs, h1⟩ := ht9 b1 off sp e
       exact ⟨(Array.getElem?_eq_some_iff.1 h1).1, .inr ⟨cs, h1⟩⟩
      have hM := MAtE.puts (m := newM r nb br nr ro) (⟨zgt _ _, zjd _ _ _ _, hrows.below zbr hb, hgtag.below hb, hV9, hR9⟩ : MAtE N w' (newM r nb br nr ro) none 0 (some ⟨g, 2, none⟩) nb p9 c9) v6 (by decide) (by decide) (by decide) hN [.int .i64 r, .slice none 0 0, .slice (some ⟨g, 2, none⟩) nb nb, .slice p9 nr c9, .int .i64 (-1), .int .i64 0, .int .i64 (-1), .bool false]
      have hbE := (bjoin hb hbr).trans (zao (Nat.le_refl w.heap.size) [.int .i64 r, .slice none 0 0, .slice (some ⟨g, 2, none⟩) nb nb, .slice p9 nr c9, .int .i64 (-1), .int .i64 0, .int .i64 (-1), .bool false] 0 w')
      have g9 : TBox 35 w.heap.size #[.int .i64 r, .slice none 0 0, .slice (some ⟨g, 2, none⟩) nb nb, .slice p9 nr c9, .int .i64 (-1), .int .i64 0, .int .i64 (-1), .bool false] _ := v6.full8
      simp only [putsL, Nat.reduceAdd] at hM hbE g9
      have hdr : ∀ W : World, Below W.heap.size W W.drew := fun W => zr.drew
      go_wp2_with fail
      go_meet
      first
       | exact ⟨rfl, (some ⟨g, 2, none⟩), nb, p9, c9, hM, hnew9, hgN _, hbE, g9⟩
       | exact ⟨rfl, (some ⟨g, 2, none⟩), nb, p9, c9, hM.below (hdr _), hnew9, hgN _, hbE.drew, g9.below (hdr _)⟩
       | exact ⟨rfl, (some ⟨g, 2, none⟩), nb, p9, c9, (hM.below (hdr _)).below (hdr _), hnew9, hgN _, hbE.drew.drew, (g9.below (hdr _)).below (hdr _)⟩
   obtain ⟨rfl, pb', cb', p9, c9, hM, hnew9, hgN9, hbE, g9⟩ := hcut
   clear x0 x1 x2 x3 x4 x5 x6 x7 f0 f1 f2 f3 f4 f5 f6 f7 y0 y1 hl6 lg
   obtain ⟨hl6, x0, x1, x2, x3, x4, x5, x6, x7⟩ := zwe g9
   go_wp2
   refine bodyPost_ret (by simp [results, Tryz.results129, go_sem, *]; try rfl) rfl ?_
   exact ⟨none, 0, pb', cb', p9, c9, rfl, hM, hnew9, hgN9, hbE⟩
end Go.Proofs.YtkehankfnkjnlaaGreatDoor
