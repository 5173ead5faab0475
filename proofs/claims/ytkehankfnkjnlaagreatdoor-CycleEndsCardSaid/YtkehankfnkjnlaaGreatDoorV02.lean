import Derived.Test.YtkehankfnkjnlaaGreatDoorV01
import Derived.Deep.Cut
import Derived.Lib.TrailingZeros
import Derived.Lib.Tables
import Derived.Test.YtkehankfnkjnlaaGreatDoorProg
import Derived.Lib.EndianBits
import Derived.Shelf.Spec.TrailingZeros
namespace Go.Proofs.YtkehankfnkjnlaaGreatDoor
set_option linter.unusedSimpArgs false
set_option linter.unusedVariables false
set_option maxHeartbeats 16000000
set_option maxRecDepth 20000
open Go.ChangeAt Go.ChangeShapes Go.Joins Go.RowKit Go.WideShapes
theorem zcl {n b o : Nat} {w w' : World} {x : Option Value} (hb : Below n w w') (hl : b < n) (h : w.cell? ⟨b, o, none⟩ = x) : w'.cell? ⟨b, o, none⟩ = x := (hb.cell (p := ⟨b, o, none⟩) hl).trans h
theorem zr {n : Nat} {w : World} : Below n w w := Below.refl n w
theorem zl {P : Prop} (h : P := by first | rfl | (show Value.int _ _ = Value.int _ _; go_num; done) | (simp [valOf, *]; done) | (simp [valOf]; omega)) : P := h
theorem zm {P : Program} {f : FuncId} {args : Array Value} {w : World} {R R' : Ending → World → Prop} (h : Calls P f args w R) (hr : ∀ e w', R e w' → R' e w') : Calls P f args w R' := h.mono hr
theorem za (w : World) (o : Obj) : (w.alloc o).heap.size = w.heap.size + 1 := World.size_alloc w o
theorem zb (w : World) (a : Addr) (v : Value) : (w.setCell a v).heap.size = w.heap.size := World.size_setCell w a v
theorem zd (w : World) : w.drew.heap.size = w.heap.size := World.size_drew w
def szW (c : Int) : Int := if c = 0 then 2 else if c = 1 then 4 else if c = 2 then 8 else if c = 3 then 16 else 0
def blW (c : Int) : Int := if c = 0 then 16 else if c = 1 then 8 else if c = 2 then 4 else if c = 3 then 2 else 0
def flW (c : Int) : Int := if c = 0 then 1 else if c = 1 then 3 else if c = 2 then 7 else if c = 3 then 15 else 0
def Sz (w : World) : Prop := 0 < w.heap.size ∧ w.cell? ⟨0, 0, none⟩ = some (.int .i64 2) ∧ w.cell? ⟨0, 1, none⟩ = some (.int .i64 4) ∧ w.cell? ⟨0, 2, none⟩ = some (.int .i64 8) ∧ w.cell? ⟨0, 3, none⟩ = some (.int .i64 16)
theorem Sz.below {w w' : World} (h : Sz w) (hb : Below w.heap.size w w') : Sz w' := by
 obtain ⟨h0, h1, h2, h3, h4⟩ := h
 refine ⟨Nat.lt_of_lt_of_le h0 hb.size, ?_, ?_, ?_, ?_⟩ <;> rw [hb.cell (by exact h0)] <;> assumption
theorem zim {W : World} {l rest : List (String × DataW Unit)} (h : laidMetH Tryz.prog l W) (hp : (l.all fun x => x.2.handleName?.isNone) = true)
  (hm : (l.filter fun x => x.1 == "flotsam/class.sizes") = ("flotsam/class.sizes", Lib.tabData .i64 [2, 4, 8, 16]) :: rest) : Sz W := by
 have ht := tab_is (g := 0) (t := 71) (e := 3) (n := 4) h hp hm (by kernel_rfl) (by kernel_rfl) Tryz.underlying71 Tryz.underlying3 (by kernel_rfl) (by kernel_rfl)
 have hg : Tryz.prog.globalNamed "flotsam/class.sizes" = some 0 := by kernel_rfl
 have h0 := ht.cell hg 0 (by decide)
 exact ⟨World.block_lt_of_cell? W _ h0, h0, ht.cell hg 1 (by decide), ht.cell hg 2 (by decide), ht.cell hg 3 (by decide)⟩
theorem zbi (c : Int) (w : World) (hS : Sz w) :
  Calls Tryz.prog 65 #[.int .i64 c] w fun e w' => e = .returned (.int .i64 (szW c)) ∧ Below w.heap.size w w' := by
 obtain ⟨s, s0, s1, s2, s3⟩ := hS
 by_cases h : 0 ≤ c ∧ c < 4
 ·obtain rfl | rfl | rfl | rfl : c = 0 ∨ c = 1 ∨ c = 2 ∨ c = 3 := by omega
  all_goals
   go_enter Tryz.func65, Tryz.ntmps65
   go_wp2
   go_returns
   exact ⟨za5 (by simp [szW]), by go_grown⟩
 ·have e : szW c = 0 := by unfold szW; (repeat' split) <;> omega
  go_enter Tryz.func65, Tryz.ntmps65
  go_wp2
  all_goals
   go_returns
   exact ⟨za5 (by simp [e]), by go_grown⟩
theorem zaq (c : Int) : c = 0 ∧ szW c = 2 ∧ blW c = 16 ∧ flW c = 1 ∨ c = 1 ∧ szW c = 4 ∧ blW c = 8 ∧ flW c = 3 ∨ c = 2 ∧ szW c = 8 ∧ blW c = 4 ∧ flW c = 7 ∨ c = 3 ∧ szW c = 16 ∧ blW c = 2 ∧ flW c = 15 ∨ ¬ (0 ≤ c ∧ c < 4) ∧ szW c = 0 ∧ blW c = 0 ∧ flW c = 0 := by
 by_cases h : 0 ≤ c ∧ c < 4
 ·obtain rfl | rfl | rfl | rfl : c = 0 ∨ c = 1 ∨ c = 2 ∨ c = 3 := by omega
  all_goals simp [szW, blW, flW]
 ·refine .inr (.inr (.inr (.inr ⟨h, ?_, ?_, ?_⟩)))
  ·unfold szW; (repeat' split) <;> omega
  ·unfold blW; (repeat' split) <;> omega
  ·unfold flW; (repeat' split) <;> omega
theorem zc7 (c : Int) (w : World) (hS : Sz w) :
  Calls Tryz.prog 99 #[.int .i64 c] w fun e w' => e = .returned (.int .i64 (blW c)) ∧ Below w.heap.size w w' := by
 rcases zaq c with ⟨-, h0, h1, -⟩ | ⟨-, h0, h1, -⟩ | ⟨-, h0, h1, -⟩ | ⟨-, h0, h1, -⟩ | ⟨-, h0, h1, -⟩
 all_goals
  go_enter Tryz.func99, Tryz.ntmps99
  go_wp2_with (first
  | (go_at_call 65; refine zm (zbi _ _ hS) ?_; rintro e w' ⟨rfl, hb⟩; obtain ⟨hc, hf, hb, hz⟩ := bstep hb (w := w) (by go_grown); try simp only [za, zb, zd] at hc hf hz)
  )
  go_returns
  exact ⟨za5 (by simp [h1]), by go_grown⟩
theorem zx4 {c : Int} (h : 0 ≤ c) (h' : c < 3) : 2 * szW c = szW (c + 1) := by
 obtain rfl | rfl | rfl : c = 0 ∨ c = 1 ∨ c = 2 := by omega
 all_goals rfl
theorem zw9 {c : Int} (h : 0 ≤ c) (h' : c < 3) : blW c = 2 * blW (c + 1) := by
 obtain rfl | rfl | rfl : c = 0 ∨ c = 1 ∨ c = 2 := by omega
 all_goals rfl
theorem zco (c : Int) (w : World) :
  Calls Tryz.prog 33 #[.int .i64 c] w fun e w' => e = .returned (.int .i64 (szW c)) ∧ Below w.heap.size w w' := by
 by_cases h : 0 ≤ c ∧ c ≤ 3
 ·obtain ⟨h0, h1⟩ := h
  go_enter Tryz.func33, Tryz.ntmps33
  go_wp2
  go_loopg [3, 4] c.toNat (fun g nv iv wr => ∃ i : Int, 0 ≤ i ∧ i ≤ c ∧ g = (c - i).toNat ∧ nv = .int .i64 (szW i) ∧ iv = .int .i64 i ∧ Below w.heap.size w wr)
  case atStart => exact ⟨0, by omega, by omega, by omega, rfl, rfl, by go_grown⟩
  case round =>
   obtain ⟨i, il, ih, rfl, rfl, rfl, hbw⟩ := hrel
   obtain ⟨hc, hf, hb, hz⟩ := bstep hbw (w := w) zr
   have hbd := zaq i
   by_cases hi : i < c
   ·have hn := zx4 il (by omega)
    go_wp2
    go_roundg (c - (i + 1)).toNat
    case measure => omega
    case rel => exact ⟨i + 1, by omega, by omega, rfl, by simp [hn], rfl, by go_grown⟩
   ·obtain rfl : i = c := by omega
    go_wp2
    go_returns
    exact ⟨za5 (by simp), by go_grown⟩
 ·have e : szW c = 0 := by have := zaq c; omega
  go_enter Tryz.func33, Tryz.ntmps33
  go_wp2
  all_goals
   go_returns
   exact ⟨za5 (by simp [e]), by go_grown⟩
theorem za9 (c : Int) (w : World) :
  Calls Tryz.prog 34 #[.int .i64 c] w fun e w' => e = .returned (.int .i64 (blW c)) ∧ Below w.heap.size w w' := by
 by_cases h : 0 ≤ c ∧ c ≤ 3
 ·obtain ⟨h0, h1⟩ := h
  go_enter Tryz.func34, Tryz.ntmps34
  go_wp2
  go_loopg [3, 4] c.toNat (fun g nv iv wr => ∃ i : Int, 0 ≤ i ∧ i ≤ c ∧ g = (c - i).toNat ∧ nv = .int .i64 (blW i) ∧ iv = .int .i64 i ∧ Below w.heap.size w wr)
  case atStart => exact ⟨0, by omega, by omega, by omega, rfl, rfl, by go_grown⟩
  case round =>
   obtain ⟨i, il, ih, rfl, rfl, rfl, hbw⟩ := hrel
   obtain ⟨hc, hf, hb, hz⟩ := bstep hbw (w := w) zr
   have hbd := zaq i
   by_cases hi : i < c
   ·have hn := zw9 il (by omega)
    have hn' : blW i / 2 = blW (i + 1) := by omega
    go_wp2
    go_roundg (c - (i + 1)).toNat
    case measure => omega
    case rel => exact ⟨i + 1, by omega, by omega, rfl, by simp [hn'], rfl, by go_grown⟩
   ·obtain rfl : i = c := by omega
    go_wp2
    go_returns
    exact ⟨za5 (by simp), by go_grown⟩
 ·have e : blW c = 0 := by have := zaq c; omega
  go_enter Tryz.func34, Tryz.ntmps34
  go_wp2
  all_goals
   go_returns
   exact ⟨za5 (by simp [e]), by go_grown⟩
def inI (n : Nat) (i : Int) : Bool := decide (0 ≤ i) && decide (i < n)
def putZ (z : Nat → Int) (i v : Int) : Nat → Int := fun j => if (j : Int) = i then v else z j
def sameZ (n : Nat) (z : Nat → Int) (m : Nat) (y : Nat → Int) : Bool := decide (n = m ∧ ∀ i, i < n → z i = y i)
theorem zjn {n : Nat} {i : Int} (h : 0 ≤ i) (h' : i < n) : inI n i = true := by simp [inI, h, h']
theorem zgg {n : Nat} {i : Int} (h : ¬ (0 ≤ i ∧ i < n)) : inI n i = false := by simp [inI]; omega
theorem zqs {n : Nat} {i : Int} (h : inI n i = true) : 0 ≤ i ∧ i < n := by simpa [inI] using h
theorem zni (p q : Option Addr) (n cap m cap' : Nat) (z y : Nat → Int) (w : World) (hz : Ints .u64 w p n z) (hy : Ints .u64 w q m y) (hn : n ≤ maxLen) (hm : m ≤ maxLen) :
  Calls Tryz.prog 80 #[.slice p n cap, .slice q m cap'] w fun e w' => e = .returned (.bool (sameZ n z m y)) ∧ Below w.heap.size w w' := by
 simp only [maxLen] at hn hm
 by_cases hnm : n = m
 ·subst hnm
  go_enter Tryz.func80, Tryz.ntmps80
  go_wp2
  go_loopg [5] n (fun g jv wr => ∃ j : Int, 0 ≤ j ∧ j ≤ n ∧ g = (n - j).toNat ∧ jv = .int .i64 j ∧ (∀ t : Nat, t < j → z t = y t) ∧ Below w.heap.size w wr)
  case atStart => exact ⟨0, by omega, by omega, by omega, rfl, fun t ht => by omega, zr⟩
  case round =>
   obtain ⟨j, jl, jh, rfl, rfl, hall, hbw⟩ := hrel
   by_cases hj : j < n
   ·obtain ⟨⟨b, off, rfl, hlt, hcell⟩, hwf⟩ := (hz.below hbw) j.toNat (by omega)
    obtain ⟨⟨b', off', rfl, hlt', hcell'⟩, hwf'⟩ := (hy.below hbw) j.toNat (by omega)
    by_cases e : z j.toNat = y j.toNat
    ·go_wp2
     go_region
     all_goals
      go_wp2
      go_roundg ((n : Int) - (j + 1)).toNat
      case measure => omega
      case rel => exact ⟨j + 1, by omega, by omega, rfl, rfl, fun t ht => by
       by_cases ht' : (t : Int) < j
       ·exact hall t ht'
       ·obtain rfl : t = j.toNat := by omega
        exact e, by go_grown⟩
    ·have e' : sameZ n z n y = false := by
      simp only [sameZ, decide_eq_false_iff_not]
      exact fun h => e (h.2 _ (by omega))
     go_wp2
     go_region
     all_goals
      go_wp2
      go_returns
      exact ⟨zab (by simp [e']), by go_grown⟩
   ·have e' : sameZ n z n y = true := by
     simp only [sameZ, decide_eq_true_eq]
     exact ⟨trivial, fun t ht => hall t (by omega)⟩
    go_wp2
    go_returns
    exact ⟨zab (by simp [e']), by go_grown⟩
 ·have e' : sameZ n z m y = false := by simp [sameZ, hnm]
  have hnm' : ¬ (n : Int) = m := by omega
  go_enter Tryz.func80, Tryz.ntmps80
  go_wp2
  go_returns
  exact ⟨zab (by simp [e']), by go_grown⟩
theorem infoW : (Tryz.prog.info? 97).map (fun i => (i.zero, i.size, i.bytes)) = some (some (.int .u64 0), 1, 8) := by kernel_rfl
theorem zri (w : World) (x : Value) (t : TypeId) : ∀ j u, [x][j]? = some u → (w.alloc (.cells #[x] t)).cell? ((⟨w.heap.size, 0, none⟩ : Addr).add j) = some u := by
 intro j u hj
 match j, hj with
 | 0, hj => simp at hj; subst hj; simp [Addr.add]
def adB (g c i : Int) : Bool := decide (0 ≤ g ∧ g ≤ 15 ∧ 0 ≤ i ∧ i < blW c)
def adW (g c i : Int) : Int := if adB g c i = true then 32 * g + i * szW c else 0
def plB (c a : Int) : Bool := decide (0 ≤ a ∧ a < 512 ∧ szW c ≠ 0 ∧ a % szW c = 0)
def plP (c a : Int) : Int := if plB c a = true then a / 32 else 0
def plI (c a : Int) : Int := if plB c a = true then a % 32 / szW c else 0
theorem zwi (g c i : Int) (w : World) :
  Calls Tryz.prog 119 #[.int .i64 g, .int .i64 c, .int .i64 i] w fun e w' => e = .returned (.tuple #[.int .i64 (adW g c i), .bool (adB g c i)]) ∧ Below w.heap.size w w' := by
 by_cases h : 0 ≤ g ∧ g ≤ 15 ∧ 0 ≤ i ∧ i < blW c
 ·have e0 : adB g c i = true := by simp only [adB, decide_eq_true_eq]; exact h
  have e1 : adW g c i = 32 * g + i * szW c := by unfold adW; rw [if_pos e0]
  rw [e0, e1]
  clear e0 e1
  rcases zaq c with ⟨-, h0, h1, -⟩ | ⟨-, h0, h1, -⟩ | ⟨-, h0, h1, -⟩ | ⟨-, h0, h1, -⟩ | ⟨-, h0, h1, -⟩
  all_goals
   rw [h1] at h
   obtain ⟨a0, a1, a2, a3⟩ := h
   try omega
  all_goals
   go_enter Tryz.func119, Tryz.ntmps119
   go_wp2_with (first
  | (go_at_call 34; refine zm (za9 _ _) ?_; rintro e w' ⟨rfl, hb⟩; obtain ⟨hc, hf, hb, hz⟩ := bstep hb (w := w) (by go_grown); try simp only [za, zb, zd] at hc hf hz)
  | (go_at_call 33; refine zm (zco _ _) ?_; rintro e w' ⟨rfl, hb⟩; obtain ⟨hc, hf, hb, hz⟩ := bstep hb (w := w) (by go_grown); try simp only [za, zb, zd] at hc hf hz)
   )
   go_returns
   exact ⟨zfy (by simp [h0]; try omega) rfl, by go_grown⟩
 ·have e0 : adB g c i = false := by simp only [adB, decide_eq_false_iff_not]; exact h
  have e1 : adW g c i = 0 := by unfold adW; rw [if_neg (by simp [e0])]
  rw [e0, e1]
  clear e0 e1
  by_cases hg : 0 ≤ g ∧ g ≤ 15 ∧ 0 ≤ i
  ·obtain ⟨g0, g1, hi⟩ := hg
   have hb : ¬ i < blW c := by omega
   go_enter Tryz.func119, Tryz.ntmps119
   go_wp2_with (first
  | (go_at_call 34; refine zm (za9 _ _) ?_; rintro e w' ⟨rfl, hb⟩; obtain ⟨hc, hf, hb, hz⟩ := bstep hb (w := w) (by go_grown); try simp only [za, zb, zd] at hc hf hz)
   )
   go_returns
   exact ⟨rfl, by go_grown⟩
  ·go_enter Tryz.func119, Tryz.ntmps119
   go_wp2_with (first
  | (go_at_call 34; refine zm (za9 _ _) ?_; rintro e w' ⟨rfl, hb⟩; obtain ⟨hc, hf, hb, hz⟩ := bstep hb (w := w) (by go_grown); try simp only [za, zb, zd] at hc hf hz)
   )
   all_goals
    first
    | omega
    | (go_returns
       exact ⟨rfl, by go_grown⟩)
theorem zot (c a : Int) (w : World) (hS : Sz w) :
  Calls Tryz.prog 140 #[.int .i64 c, .int .i64 a] w fun e w' => e = .returned (.tuple #[.int .i64 (plP c a), .int .i64 (plI c a), .bool (plB c a)]) ∧ Below w.heap.size w w' := by
 by_cases h : 0 ≤ a ∧ a < 512 ∧ szW c ≠ 0 ∧ a % szW c = 0
 ·have e0 : plB c a = true := by simp only [plB, decide_eq_true_eq]; exact h
  have e1 : plP c a = a / 32 := by unfold plP; rw [if_pos e0]
  have e2 : plI c a = a % 32 / szW c := by unfold plI; rw [if_pos e0]
  rw [e0, e1, e2]
  clear e0 e1 e2
  rcases zaq c with ⟨-, h0, h1, -⟩ | ⟨-, h0, h1, -⟩ | ⟨-, h0, h1, -⟩ | ⟨-, h0, h1, -⟩ | ⟨-, h0, h1, -⟩
  all_goals
   rw [h0] at h ⊢
   obtain ⟨a0, a1, a2, a3⟩ := h
   try omega
  all_goals
   go_enter Tryz.func140, Tryz.ntmps140
   go_wp2_with (first
  | (go_at_call 65; refine zm (zbi _ _ (hS.below (by go_grown))) ?_; rintro e w' ⟨rfl, hb⟩; obtain ⟨hc, hf, hb, hz⟩ := bstep hb (w := w) (by go_grown); try simp only [za, zb, zd] at hc hf hz)
   )
   go_region
   all_goals
    go_wp2
    go_returns
    exact ⟨rfl, by go_grown⟩
 ·have e0 : plB c a = false := by simp only [plB, decide_eq_false_iff_not]; exact h
  have e1 : plP c a = 0 := by unfold plP; rw [if_neg (by simp [e0])]
  have e2 : plI c a = 0 := by unfold plI; rw [if_neg (by simp [e0])]
  rw [e0, e1, e2]
  clear e0 e1 e2
  by_cases ha : 0 ≤ a ∧ a < 512
  ·rcases zaq c with ⟨-, h0, h1, -⟩ | ⟨-, h0, h1, -⟩ | ⟨-, h0, h1, -⟩ | ⟨-, h0, h1, -⟩ | ⟨-, h0, h1, -⟩
   all_goals
    rw [h0] at h
    obtain ⟨a0, a1⟩ := ha
    go_enter Tryz.func140, Tryz.ntmps140
    go_wp2_with (first
  | (go_at_call 65; refine zm (zbi _ _ (hS.below (by go_grown))) ?_; rintro e w' ⟨rfl, hb⟩; obtain ⟨hc, hf, hb, hz⟩ := bstep hb (w := w) (by go_grown); try simp only [za, zb, zd] at hc hf hz)
    )
    go_returns
    exact ⟨rfl, by go_grown⟩
  ·go_enter Tryz.func140, Tryz.ntmps140
   go_wp2
   all_goals
    go_returns
    exact ⟨rfl, by go_grown⟩
theorem pl_at {c a p i : Int} (p0 : 0 ≤ p) (p1 : p < 16) (i0 : 0 ≤ i) (i1 : i < blW c) (h : 32 * p + i * szW c = a) : plB c a = true ∧ plP c a = p ∧ plI c a = i := by
 have key : plB c a = true ∧ a / 32 = p ∧ a % 32 / szW c = i := by
  simp only [plB, decide_eq_true_eq]
  rcases zaq c with ⟨-, h0, h1, -⟩ | ⟨-, h0, h1, -⟩ | ⟨-, h0, h1, -⟩ | ⟨-, h0, h1, -⟩ | ⟨-, h0, h1, -⟩
  all_goals
   rw [h1] at i1
   rw [h0] at h ⊢
   omega
 obtain ⟨h0, h1, h2⟩ := key
 exact ⟨h0, by unfold plP; rw [if_pos h0]; exact h1, by unfold plI; rw [if_pos h0]; exact h2⟩
theorem pl_in {c a : Int} (h : plB c a = true) : 0 ≤ plP c a ∧ plP c a < 16 ∧ 0 ≤ plI c a ∧ plI c a < blW c ∧ 32 * plP c a + plI c a * szW c = a := by
 have e1 : plP c a = a / 32 := by unfold plP; rw [if_pos h]
 have e2 : plI c a = a % 32 / szW c := by unfold plI; rw [if_pos h]
 rw [e1, e2]
 simp only [plB, decide_eq_true_eq] at h
 rcases zaq c with ⟨-, h0, h1, -⟩ | ⟨-, h0, h1, -⟩ | ⟨-, h0, h1, -⟩ | ⟨-, h0, h1, -⟩ | ⟨-, h0, h1, -⟩
 all_goals
  rw [h1]
  rw [h0] at h ⊢
  omega
theorem pl_no {c a : Int} (h : ¬ plB c a = true) : plB c a = false ∧ plP c a = 0 ∧ plI c a = 0 := by
 refine ⟨by simpa using h, ?_, ?_⟩
 ·unfold plP; rw [if_neg h]
 ·unfold plI; rw [if_neg h]
def inB (n : Int) : Bool := decide (0 ≤ n) && decide (n < 32)
def oneN (n : Int) : Nat := if inB n = true then 2 ^ n.toNat else 0
def oneW (n : Int) : Int := (oneN n : Int)
def hasB (m n : Int) : Bool := inB n && m.toNat.testBit n.toNat
def withW (m n : Int) : Int := ((m.toNat ||| oneN n : Nat) : Int)
def woutN (m : Nat) (n : Int) : Nat := (BitVec.ofNat 32 m &&& ~~~ BitVec.ofNat 32 (oneN n)).toNat
def woutW (m n : Int) : Int := (woutN m.toNat n : Int)
def leastW (m : Int) : Int := if m = 0 then 0 else (Lib.ctz 32 m.toNat : Int)
def leastB (m : Int) : Bool := !(m == 0)
def cntTo (f : Int → Bool) : Nat → Int
 | 0 => 0
 | k + 1 => cntTo f k + (if f (k : Int) = true then 1 else 0)
def countW (m : Int) : Int := cntTo (hasB m) 32
def wholeW (n : Int) : Int := if n ≤ 0 then 0 else if n < 32 then 2 ^ n.toNat - 1 else 4294967295
def Mask (m : Int) : Prop := 0 ≤ m ∧ m < 4294967296
theorem zcw (n : Int) : inB n = true ↔ 0 ≤ n ∧ n < 32 := by simp [inB]
theorem zbz {n : Int} (h0 : 0 ≤ n) (h1 : n < 32) : inB n = true := (zcw n).2 ⟨h0, h1⟩
theorem zrw {n : Int} (h : ¬ (0 ≤ n ∧ n < 32)) : inB n = false := by
 cases e : inB n with
 | false => rfl
 | true => exact absurd ((zcw n).1 e) h
theorem zjk {n : Int} (h0 : 0 ≤ n) (h1 : n < 32) : oneN n = 2 ^ n.toNat := by simp [oneN, zbz h0 h1]
theorem zra {n : Int} (h : ¬ (0 ≤ n ∧ n < 32)) : oneN n = 0 := by simp [oneN, zrw h]
theorem zfl (n : Int) : oneN n < 2 ^ 32 := by
 unfold oneN
 split
 ·rename_i h
  have := (zcw n).1 h
  exact Nat.pow_lt_pow_right (by decide) (by omega)
 ·decide
theorem zxg (n : Int) : 0 ≤ oneW n ∧ oneW n < 4294967296 := by
 have := zfl n
 unfold oneW
 omega
theorem zf0 (n : Int) (i : Nat) : (oneN n).testBit i = (inB n && decide (n.toNat = i)) := by
 unfold oneN
 split <;> simp_all [Nat.testBit_two_pow]
theorem zd2 {m i : Nat} (h : m < 2 ^ 32) (hi : 32 ≤ i) : m.testBit i = false :=
 Nat.testBit_lt_two_pow (Nat.lt_of_lt_of_le h (Nat.pow_le_pow_right (by decide) hi))
theorem zjh (m : Nat) (n : Int) (i : Nat) (h : m < 2 ^ 32) : (woutN m n).testBit i = (m.testBit i && !(oneN n).testBit i) := by
 unfold woutN
 rw [← BitVec.getLsbD, BitVec.getLsbD_and, BitVec.getLsbD_not, BitVec.getLsbD_ofNat, BitVec.getLsbD_ofNat]
 by_cases hi : i < 32
 ·simp [hi]
 ·simp [hi, zd2 h (by omega : 32 ≤ i)]
theorem zvf (m : Nat) (n : Int) : woutN m n < 2 ^ 32 := by unfold woutN; exact BitVec.isLt _
theorem zfd {m n : Int} (h : Mask m) : Mask (withW m n) := by
 have := Nat.or_lt_two_pow (x := m.toNat) (y := oneN n) (n := 32) (by have := h.2; have := h.1; omega) (zfl n)
 unfold withW Mask
 omega
theorem zrd (m n : Int) : Mask (woutW m n) := by
 have := zvf m.toNat n
 unfold woutW Mask
 omega
theorem zd6 (m n i : Int) : hasB (withW m n) i = (hasB m i || inB n && decide (i = n)) := by
 unfold hasB withW
 cases hi : inB i with
 | false =>
  cases hn : inB n with
  | false => simp
  | true =>
   have h1 := (zcw n).1 hn
   have : ¬ i = n := fun e => by rw [e, hn] at hi; simp at hi
   simp [this]
 | true =>
  have h0 := (zcw i).1 hi
  simp only [Int.toNat_natCast, Nat.testBit_or, zf0, Bool.true_and]
  congr 1
  cases hn : inB n with
  | false => rfl
  | true =>
   have h1 := (zcw n).1 hn
   simp only [Bool.true_and, decide_eq_decide]
   omega
theorem zvx {m : Int} (n i : Int) (h : Mask m) : hasB (woutW m n) i = (hasB m i && !(inB n && decide (i = n))) := by
 have hm : m.toNat < 2 ^ 32 := by have := h.1; have := h.2; omega
 unfold hasB woutW
 cases hi : inB i with
 | false => simp
 | true =>
  have h0 := (zcw i).1 hi
  simp only [Int.toNat_natCast, zjh _ _ _ hm, zf0, Bool.true_and]
  congr 2
  cases hn : inB n with
  | false => rfl
  | true =>
   have h1 := (zcw n).1 hn
   simp only [Bool.true_and, decide_eq_decide]
   omega
theorem zmb {m i : Int} (h : ¬ (0 ≤ i ∧ i < 32)) : hasB m i = false := by simp [hasB, zrw h]
theorem zga {m m' : Int} (h : Mask m) (h' : Mask m') (e : ∀ i : Int, 0 ≤ i → i < 32 → hasB m i = hasB m' i) : m = m' := by
 have hm : m.toNat < 2 ^ 32 := by have := h.1; have := h.2; omega
 have hm' : m'.toNat < 2 ^ 32 := by have := h'.1; have := h'.2; omega
 have key : m.toNat = m'.toNat := Nat.eq_of_testBit_eq fun i => by
  by_cases hi : i < 32
  ·have := e i (by omega) (by omega)
   simpa [hasB, zbz (by omega : (0 : Int) ≤ i) (by omega : (i : Int) < 32)] using this
  ·rw [zd2 hm (by omega), zd2 hm' (by omega)]
 have := h.1; have := h'.1
 omega
theorem ofInt32 (a : Nat) (ha : a < 4294967296) : (BitVec.ofInt 32 (a : Int)).toNat = a := by
 rw [BitVec.ofInt_natCast, BitVec.toNat_ofNat]; exact Nat.mod_eq_of_lt (by omega)
theorem zcc {m : Int} (h : Mask m) : (m.toNat : Int) = m := by have := h.1; omega
theorem zxh {m : Int} (n : Int) (h : Mask m) : bits .and .u32 m (oneW n) = if hasB m n = true then oneW n else 0 := by
 have hm : m.toNat < 2 ^ 32 := by have := h.1; have := h.2; omega
 have e : bits .and .u32 (m.toNat : Int) (oneN n : Int) = ((m.toNat &&& oneN n : Nat) : Int) := by
  show IntKind.u32.wrap ((BitVec.ofInt 32 (m.toNat : Int) &&& BitVec.ofInt 32 (oneN n : Int)).toNat : Int) = _
  have h1 : (m.toNat &&& oneN n) < 2 ^ 32 := Nat.and_lt_two_pow _ (zfl n)
  have h2 := zfl n
  rw [BitVec.toNat_and, ofInt32 _ (by omega), ofInt32 _ (by omega), IntKind.wrap_u32]
  omega
 rw [zcc h] at e
 unfold oneW
 rw [e]
 unfold hasB
 by_cases hn : 0 ≤ n ∧ n < 32
 ·rw [zjk hn.1 hn.2, zbz hn.1 hn.2]
  cases hb : m.toNat.testBit n.toNat with
  | true =>
   have : m.toNat &&& 2 ^ n.toNat = 2 ^ n.toNat := Nat.eq_of_testBit_eq fun i => by
    rw [Nat.testBit_and, Nat.testBit_two_pow]
    by_cases e : n.toNat = i
    ·subst e; simp [hb]
    ·simp [e]
   simp [this]
  | false =>
   have : m.toNat &&& 2 ^ n.toNat = 0 := Nat.eq_of_testBit_eq fun i => by
    rw [Nat.testBit_and, Nat.testBit_two_pow]
    by_cases e : n.toNat = i
    ·subst e; simp [hb]
    ·simp [e]
   simp [this]
 ·rw [zra hn, zrw hn]; simp
theorem or_one {m : Int} (n : Int) (h : Mask m) : bits .or .u32 m (oneW n) = withW m n := by
 have e : bits .or .u32 (m.toNat : Int) (oneN n : Int) = ((m.toNat ||| oneN n : Nat) : Int) := by
  show IntKind.u32.wrap ((BitVec.ofInt 32 (m.toNat : Int) ||| BitVec.ofInt 32 (oneN n : Int)).toNat : Int) = _
  have h1 : (m.toNat ||| oneN n) < 2 ^ 32 := Nat.or_lt_two_pow (by have := h.1; have := h.2; omega) (zfl n)
  have h2 := zfl n
  have := h.1; have := h.2
  rw [BitVec.toNat_or, ofInt32 _ (by omega), ofInt32 _ (by omega), IntKind.wrap_u32]
  omega
 rw [zcc h] at e
 exact e
theorem zrg {m : Nat} (h0 : m ≠ 0) (h : m < 2 ^ 32) : m.testBit (Lib.ctz 32 m) = true ∧ ∀ i, i < Lib.ctz 32 m → m.testBit i = false := by
 obtain ⟨k, hk, -⟩ := Lib.ctzFrom_spec 32 m (by omega) h
 have e : Lib.ctz 32 m = Lib.ctzFrom 32 m := by simp [Lib.ctz, h0]
 rw [e]
 generalize Lib.ctzFrom 32 m = c at hk
 subst hk
 constructor
 ·rw [Nat.mul_comm, Nat.testBit_mul_two_pow]; simp
 ·intro i hi
  rw [Nat.mul_comm, Nat.testBit_mul_two_pow]; simp; omega
theorem ctz_lt {m : Nat} (h0 : m ≠ 0) (h : m < 2 ^ 32) : Lib.ctz 32 m < 32 := (Lib.lowest_bit 32 m h0 h).2
theorem zob {m : Int} (h : Mask m) (h0 : m ≠ 0) : 0 ≤ leastW m ∧ leastW m < 32 ∧ hasB m (leastW m) = true ∧ ∀ i, i < leastW m → hasB m i = false := by
 have h1 := h.1
 have hm : m.toNat < 2 ^ 32 := by have := h.2; omega
 have hz : m.toNat ≠ 0 := by omega
 have hl := ctz_lt hz hm
 obtain ⟨a, b⟩ := zrg hz hm
 have e : leastW m = (Lib.ctz 32 m.toNat : Int) := by simp [leastW, h0]
 rw [e]
 refine ⟨by omega, by omega, by simp [hasB, zbz (by omega : (0 : Int) ≤ Lib.ctz 32 m.toNat) (by omega), a], fun i hi => ?_⟩
 by_cases hb : 0 ≤ i ∧ i < 32
 ·simp [hasB, b i.toNat (by omega)]
 ·exact zmb hb
theorem zxd {m : Int} (h : Mask m) (hl : ∀ j, 0 ≤ j → j < 32 → hasB m j = false) : m = 0 := by
 refine zga h ⟨by decide, by decide⟩ fun i a b => ?_
 rw [hl i a b]; simp [hasB]
theorem zva (i : Int) : hasB 0 i = false := by simp [hasB]
theorem zet {f g : Int → Bool} : ∀ {k : Nat}, (∀ i : Nat, i < k → f i = g i) → cntTo f k = cntTo g k
 | 0, _ => rfl
 | k + 1, h => by
  simp only [cntTo]
  rw [zet (k := k) fun i hi => h i (by omega), h k (by omega)]
theorem zcj (f : Int → Bool) : ∀ k : Nat, 0 ≤ cntTo f k ∧ cntTo f k ≤ k
 | 0 => by simp [cntTo]
 | k + 1 => by
  have := zcj f k
  simp only [cntTo]
  split <;> omega
theorem zdi (f : Int → Bool) (a : Nat) : ∀ k : Nat, cntTo f (a + k) = cntTo f a + cntTo (fun i => f (a + i)) k
 | 0 => by simp [cntTo]
 | k + 1 => by
  have := zdi f a k
  rw [show a + (k + 1) = (a + k) + 1 by omega]
  simp only [cntTo]
  rw [this, show ((a + k : Nat) : Int) = (a : Int) + (k : Int) by omega]
  omega
theorem zh2 {f : Int → Bool} : ∀ {k : Nat}, (∀ i : Nat, i < k → f i = false) → cntTo f k = 0
 | 0, _ => rfl
 | k + 1, h => by
  simp only [cntTo]
  rw [zh2 (k := k) fun i hi => h i (by omega), h k (by omega)]
  simp
def byteBits (b : Nat) : Int := cntTo (fun i => b.testBit i.toNat) 8
theorem zt5 : ∀ n : Fin 256, Lib.pop8 (n.val : Int) = byteBits n.val := by decide +kernel
theorem zix (b : Int) (h0 : 0 ≤ b) (h1 : b ≤ 255) : Lib.pop8 b = byteBits b.toNat := by
 have := zt5 ⟨b.toNat, by omega⟩
 simpa only [Int.toNat_of_nonneg h0] using this
theorem zxx (m : Nat) (a : Nat) (i : Nat) (hi : i < 8) : (m / 2 ^ a % 256).testBit i = m.testBit (a + i) := by
 rw [show (256 : Nat) = 2 ^ 8 from rfl, Nat.testBit_mod_two_pow, Nat.testBit_div_two_pow, Nat.add_comm]
 simp [hi]
theorem zkj {m : Int} (h : Mask m) : countW m = byteBits (m.toNat % 256) + byteBits (m.toNat / 2 ^ 8 % 256) + byteBits (m.toNat / 2 ^ 16 % 256) + byteBits (m.toNat / 2 ^ 24 % 256) := by
 have key : ∀ a : Nat, a + 8 ≤ 32 → cntTo (fun i => hasB m ((a : Int) + i)) 8 = byteBits (m.toNat / 2 ^ a % 256) := fun a ha => by
  unfold byteBits
  refine zet fun i hi => ?_
  simp only [Int.toNat_natCast, zxx _ _ _ hi, hasB, zbz (by omega : (0 : Int) ≤ (a : Int) + i) (by omega), Bool.true_and]
  congr 1
 have k0 := key 0 (by omega)
 have k1 := key 8 (by omega)
 have k2 := key 16 (by omega)
 have k3 := key 24 (by omega)
 unfold countW
 have e1 := zdi (hasB m) 24 8
 have e2 := zdi (hasB m) 16 8
 have e3 := zdi (hasB m) 8 8
 simp only [Nat.pow_zero, Nat.div_one, Int.natCast_zero, Int.zero_add] at k0
 rw [← k0, ← k1, ← k2, ← k3]
 rw [show (32 : Nat) = 24 + 8 from rfl, e1, show (24 : Nat) = 16 + 8 from rfl, e2, show (16 : Nat) = 8 + 8 from rfl, e3]
theorem zl7 : ∀ n : Fin 256, 0 ≤ byteBits n.val ∧ byteBits n.val ≤ 8 := by decide +kernel
theorem zcv (b : Nat) (h : b < 256) : 0 ≤ byteBits b ∧ byteBits b ≤ 8 := zl7 ⟨b, h⟩
theorem zd1 (n : Int) : Mask (wholeW n) := by
 unfold wholeW Mask
 split
 ·omega
 ·split
  ·have h1 : (2 : Int) ^ n.toNat = ((2 ^ n.toNat : Nat) : Int) := by simp
   have h2 : 2 ^ n.toNat < 2 ^ 32 := Nat.pow_lt_pow_right (by decide) (by omega)
   have h3 := Nat.two_pow_pos n.toNat
   rw [h1]
   omega
  ·omega
theorem zci (n : Int) {i : Int} (h0 : 0 ≤ i) (h1 : i < 32) : hasB (wholeW n) i = decide (i < n) := by
 unfold hasB wholeW
 rw [zbz h0 h1, Bool.true_and]
 split
 ·simp; omega
 ·split
  ·have e : ((2 : Int) ^ n.toNat - 1).toNat = 2 ^ n.toNat - 1 := by
    have h1 : (2 : Int) ^ n.toNat = ((2 ^ n.toNat : Nat) : Int) := by simp
    rw [h1]
    have h3 := Nat.two_pow_pos n.toNat
    omega
   rw [e, Nat.testBit_two_pow_sub_one]
   simp only [decide_eq_decide]
   omega
  ·have e : (4294967295 : Int).toNat = 2 ^ 32 - 1 := rfl
   rw [e, Nat.testBit_two_pow_sub_one]
   simp only [decide_eq_decide]
   omega
theorem zoc {n : Int} (h0 : 0 ≤ n) (h1 : n < 32) : (2 : Int) ^ n.toNat % 4294967296 = oneW n := by
 have e : (2 : Int) ^ n.toNat = ((2 ^ n.toNat : Nat) : Int) := by simp
 have := zxg n
 unfold oneW at this ⊢
 rw [zjk h0 h1] at this ⊢
 rw [e]
 omega
theorem zun {n : Int} (h : ¬ (0 ≤ n ∧ n < 32)) : oneW n = 0 := by simp [oneW, zra h]
theorem zrj (n : Int) (w : World) :
  Calls Tryz.prog 206 #[.int .i64 n] w fun e w' => e = .returned (.int .u32 (oneW n)) ∧ Below w.heap.size w w' := by
 by_cases h : 0 ≤ n ∧ n < 32
 ·obtain ⟨h0, h1⟩ := h
  have e := zoc h0 h1
  go_enter Tryz.func206, Tryz.ntmps206
  go_wp2
  go_returns
  exact ⟨za5 (by simp [e]), by go_grown⟩
 ·have e := zun h
  go_enter Tryz.func206, Tryz.ntmps206
  go_wp2
  all_goals
   go_returns
   exact ⟨za5 (by simp [e]), by go_grown⟩
theorem one_ne (n : Int) (h0 : 0 ≤ n) (h1 : n < 32) : ¬ oneW n = 0 := by
 unfold oneW
 rw [zjk h0 h1]
 have := Nat.two_pow_pos n.toNat
 omega
theorem zv4 {m : Int} (n : Int) (h : Mask m) : (bits .and .u32 m (oneW n) == 0) = !hasB m n := by
 rw [zxh n h]
 cases hb : hasB m n with
 | false => simp
 | true =>
  have hi : inB n = true := by
   cases hi : inB n with
   | true => rfl
   | false => simp [hasB, hi] at hb
  have := (zcw n).1 hi
  have := one_ne n this.1 this.2
  simp [this]
theorem zl4 (m n : Int) (w : World) (h : Mask m) :
  Calls Tryz.prog 202 #[.int .u32 m, .int .i64 n] w fun e w' => e = .returned (.bool (hasB m n)) ∧ Below w.heap.size w w' := by
 have e := zv4 n h
 go_enter Tryz.func202, Tryz.ntmps202
 go_wp2_with (first
  | (go_at_call 206; refine zm (zrj _ _) ?_; rintro e w' ⟨rfl, hb⟩; obtain ⟨hc, hf, hb, hz⟩ := bstep hb (w := w) (by go_grown); try simp only [za, zb, zd] at hc hf hz)
  )
 go_returns
 exact ⟨zab (by simp [bne, e]), by go_grown⟩
theorem znm (m n : Int) (w : World) (h : Mask m) :
  Calls Tryz.prog 203 #[.int .u32 m, .int .i64 n] w fun e w' => e = .returned (.int .u32 (withW m n)) ∧ Below w.heap.size w w' := by
 have e := or_one n h
 go_enter Tryz.func203, Tryz.ntmps203
 go_wp2_with (first
  | (go_at_call 206; refine zm (zrj _ _) ?_; rintro e w' ⟨rfl, hb⟩; obtain ⟨hc, hf, hb, hz⟩ := bstep hb (w := w) (by go_grown); try simp only [za, zb, zd] at hc hf hz)
  )
 go_returns
 exact ⟨za5 (by simp [e]), by go_grown⟩
def Tab (_ : World) : Prop := True
theorem zw2 (w : World) : Tab w := trivial
theorem zwr {m : Int} (h : Mask m) : ((((Lib.pop8 (m / 16777216) + Lib.pop8 (m / 65536 % 256)) % 256 + Lib.pop8 (m / 256 % 256)) % 256 + Lib.pop8 (m % 256)) % 256 : Int) = countW m ∧ 0 ≤ countW m ∧ countW m ≤ 32 := by
 have h1 := h.1
 have h2 := h.2
 rw [zkj h, zix _ (by omega) (by omega), zix _ (by omega) (by omega), zix _ (by omega) (by omega), zix _ (by omega) (by omega)]
 have e3 : (m / 16777216).toNat = m.toNat / 2 ^ 24 % 256 := by omega
 have e2 : (m / 65536 % 256).toNat = m.toNat / 2 ^ 16 % 256 := by omega
 have e1 : (m / 256 % 256).toNat = m.toNat / 2 ^ 8 % 256 := by omega
 have e0 : (m % 256).toNat = m.toNat % 256 := by omega
 rw [e0, e1, e2, e3]
 have b0 := zcv (m.toNat % 256) (by omega)
 have b1 := zcv (m.toNat / 2 ^ 8 % 256) (by omega)
 have b2 := zcv (m.toNat / 2 ^ 16 % 256) (by omega)
 have b3 := zcv (m.toNat / 2 ^ 24 % 256) (by omega)
 omega
set_option maxRecDepth 100000 in
theorem zvw (m : Int) (w : World) (h : Mask m) :
  Calls Tryz.prog 139 #[.int .u32 m] w fun e w' => e = .returned (.int .i64 (countW m)) ∧ Below w.heap.size w w' := by
 have e := zwr h
 obtain ⟨h1, h2⟩ := h
 have a1 : bits BinOp.and IntKind.u32 (m / 65536) 255 = m / 65536 % 256 := bits_mask .u32 32 (by decide) wraps_u32 8 (by decide) _ (by omega) (by omega)
 have a2 : bits BinOp.and IntKind.u32 (m / 256) 255 = m / 256 % 256 := bits_mask .u32 32 (by decide) wraps_u32 8 (by decide) _ (by omega) (by omega)
 have a3 : bits BinOp.and IntKind.u32 m 255 = m % 256 := bits_mask .u32 32 (by decide) wraps_u32 8 (by decide) _ (by omega) (by omega)
 obtain ⟨q00, q01⟩ : 0 ≤ m / 16777216 ∧ m / 16777216 ≤ 255 := by omega
 obtain ⟨q10, q11⟩ : 0 ≤ m / 65536 % 256 ∧ m / 65536 % 256 ≤ 255 := by omega
 obtain ⟨q20, q21⟩ : 0 ≤ m / 256 % 256 ∧ m / 256 % 256 ≤ 255 := by omega
 obtain ⟨q30, q31⟩ : 0 ≤ m % 256 ∧ m % 256 ≤ 255 := by omega
 go_enter Tryz.func139, Tryz.ntmps139
 go_wp2
 simp only [List.append_eq, List.cons_append, List.nil_append, Lib.fold_pop8tab]
 go_region
 go_wp2
 go_returns
 exact ⟨za5 (by omega), by go_grown⟩
theorem zkt (m : Int) (w : World) (h : Mask m) :
  Calls Tryz.prog 100 #[.int .u32 m] w fun e w' => e = .returned (.int .i64 (countW m)) ∧ Below w.heap.size w w' := by
 go_enter Tryz.func100, Tryz.ntmps100
 go_wp2_with (first
  | (go_at_call 139; refine zm (zvw _ _ h) ?_; rintro e w' ⟨rfl, hb⟩; obtain ⟨hc, hf, hb, hz⟩ := bstep hb (w := w) (by go_grown); try simp only [za, zb, zd] at hc hf hz)
  )
 go_returns
 exact ⟨rfl, by go_grown⟩
theorem zeu {n : Int} (h0 : 0 ≤ n) (h1 : n ≤ 32) : IntKind.u64.wrap (IntKind.u64.wrap (2 ^ n.toNat) - 1) % 4294967296 = wholeW n := by
 have e : (2 : Int) ^ n.toNat = ((2 ^ n.toNat : Nat) : Int) := by simp
 by_cases h : n < 32
 ·have h2 : 2 ^ n.toNat < 2 ^ 32 := Nat.pow_lt_pow_right (by decide) (by omega)
  have h3 := Nat.two_pow_pos n.toNat
  unfold wholeW
  rw [IntKind.wrap_u64, IntKind.wrap_u64, e]
  by_cases hz : n = 0
  ·subst hz; rfl
  ·rw [if_neg (by omega), if_pos h]
   omega
 ·obtain rfl : n = 32 := by omega
  rfl
theorem zs4 (n : Int) (w : World) :
  Calls Tryz.prog 185 #[.int .i64 n] w fun e w' => e = .returned (.int .u32 (wholeW n)) ∧ Below w.heap.size w w' := by
 have l := zeu (n := 0) (by decide) (by decide)
 have u := zeu (n := 32) (by decide) (by decide)
 by_cases h0 : 0 ≤ n
 ·by_cases h1 : n ≤ 32
  ·have e := zeu h0 h1
   go_enter Tryz.func185, Tryz.ntmps185
   go_wp2
   all_goals
    go_returns
    exact ⟨za5 (by simp [e]), by go_grown⟩
  ·have e : wholeW n = wholeW 32 := by unfold wholeW; rw [if_neg (by omega), if_neg (by omega)]; rfl
   go_enter Tryz.func185, Tryz.ntmps185
   go_wp2
   all_goals
    go_returns
    exact ⟨za5 (by first | rfl | (rw [e]; rfl)), by go_grown⟩
 ·have e : wholeW n = wholeW 0 := by unfold wholeW; rw [if_pos (by omega)]; rfl
  go_enter Tryz.func185, Tryz.ntmps185
  go_wp2
  all_goals
   go_returns
   exact ⟨za5 (by first | rfl | (rw [e]; rfl)), by go_grown⟩
end Go.Proofs.YtkehankfnkjnlaaGreatDoor
