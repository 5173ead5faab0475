import Derived.Deep.MidRow
import Derived.Test.YtkehankfnkjnlaaGreatDoorV04
namespace Go.Proofs.YtkehankfnkjnlaaGreatDoor
set_option linter.unusedSimpArgs false
set_option linter.unusedVariables false
set_option maxHeartbeats 16000000
set_option maxRecDepth 20000
open Go.ChangeAt Go.ChangeShapes Go.Joins Go.RowKit Go.WideShapes
variable {h : Hp} {w w' W W' : World} {p q : Option Addr} {n g : Nat} {a : Int} {v : Value}
def halfW (m i : Int) : Int := m / 2 ^ i.toNat
theorem zqa (m : Int) : halfW m 0 = m := by simp [halfW]
theorem zpj (m : Int) {i : Int} (h : 0 ≤ i) : halfW m i / 2 = halfW m (i + 1) := by
 unfold halfW
 rw [show (i + 1).toNat = i.toNat + 1 by omega, Int.pow_succ, Int.ediv_ediv_of_nonneg (Int.pow_nonneg (by decide))]
theorem zmo {m : Int} (h : Mask m) (i : Int) : 0 ≤ halfW m i ∧ halfW m i < 4294967296 := by
 have h1 := h.1
 have h2 := h.2
 have e : (2 : Int) ^ i.toNat = ((2 ^ i.toNat : Nat) : Int) := by simp
 have hp := Nat.two_pow_pos i.toNat
 unfold halfW
 rw [e]
 refine ⟨Int.ediv_nonneg h1 (by omega), ?_⟩
 have := Int.ediv_le_self ((2 ^ i.toNat : Nat) : Int) h1
 omega
theorem zrp {m n : Int} (h : Mask m) (h0 : 0 ≤ n) (h1 : n < 32) : (halfW m n % 2 == 1) = hasB m n := by
 have e : (2 : Int) ^ n.toNat = ((2 ^ n.toNat : Nat) : Int) := by simp
 unfold halfW hasB
 rw [zbz h0 h1, Bool.true_and, Nat.testBit_eq_decide_div_mod_eq, e]
 have hm := zcc h
 rw [← hm]
 have : ((m.toNat : Nat) : Int) / ((2 ^ n.toNat : Nat) : Int) % 2 = ((m.toNat / 2 ^ n.toNat % 2 : Nat) : Int) := by simp
 rw [this]
 simp only [Int.toNat_natCast]
 have h2 : m.toNat / 2 ^ n.toNat % 2 = 0 ∨ m.toNat / 2 ^ n.toNat % 2 = 1 := by omega
 rcases h2 with h2 | h2 <;> simp [h2]
theorem ziu (m n : Int) (w : World) (h : Mask m) :
  Calls Tryz.prog 35 #[.int .u32 m, .int .i64 n] w fun e w' => e = .returned (.bool (hasB m n)) ∧ Below w.heap.size w w' := by
 by_cases hn : 0 ≤ n ∧ n < 32
 ·obtain ⟨h0, h1⟩ := hn
  have e := zrp h h0 h1
  go_enter Tryz.func35, Tryz.ntmps35
  go_wp2
  go_loopg [0, 5] n.toNat (fun g mv iv wr => ∃ i : Int, 0 ≤ i ∧ i ≤ n ∧ g = (n - i).toNat ∧ mv = .int .u32 (halfW m i) ∧ iv = .int .i64 i ∧ Below w.heap.size w wr)
  case atStart => exact ⟨0, by omega, by omega, by omega, by rw [zqa], rfl, zr⟩
  case round =>
   obtain ⟨i, il, ih, rfl, rfl, rfl, hbw⟩ := hrel
   obtain ⟨hc, hf, hb, hz⟩ := bstep hbw (w := w) zr
   have en := zpj m il
   have hbd := zmo h i
   by_cases hi : i < n
   ·go_wp2
    go_roundg (n - (i + 1)).toNat
    case measure => omega
    case rel => exact ⟨i + 1, by omega, by omega, rfl, by simp [en], rfl, by go_grown⟩
   ·obtain rfl : i = n := by omega
    go_wp2
    go_returns
    exact ⟨zab (by simp [e]), by go_grown⟩
 ·have e := zmb (m := m) hn
  go_enter Tryz.func35, Tryz.ntmps35
  go_wp2
  all_goals
   go_returns
   exact ⟨zab (by simp [e]), by go_grown⟩
theorem zpy (f : Int → Bool) {i : Int} (h : 0 ≤ i) : cntTo f (i + 1).toNat = cntTo f i.toNat + (if f i = true then 1 else 0) := by
 rw [show (i + 1).toNat = i.toNat + 1 by omega]
 simp only [cntTo]
 rw [show ((i.toNat : Nat) : Int) = i by omega]
def cntF (m i : Int) : Int := cntTo (hasB m) i.toNat
theorem zp2 (m : Int) (w : World) (h : Mask m) :
  Calls Tryz.prog 77 #[.int .u32 m] w fun e w' => e = .returned (.int .i64 (countW m)) ∧ Below w.heap.size w w' := by
 go_enter Tryz.func77, Tryz.ntmps77
 go_wp2
 go_loopg [3, 4] 32 (fun g nv iv wr => ∃ i : Int, 0 ≤ i ∧ i ≤ 32 ∧ g = (32 - i).toNat ∧ nv = .int .i64 (cntF m i) ∧ iv = .int .i64 i ∧ Below w.heap.size w wr)
 case atStart => exact ⟨0, by omega, by omega, by omega, rfl, rfl, zr⟩
 case round =>
  obtain ⟨i, il, ih, rfl, rfl, rfl, hbw⟩ := hrel
  obtain ⟨hc, hf, hb, hz⟩ := bstep hbw (w := w) zr
  have hn : cntF m (i + 1) = cntF m i + (if hasB m i = true then 1 else 0) := zpy _ il
  have hbd : 0 ≤ cntF m i ∧ cntF m i ≤ 32 := by have := zcj (hasB m) i.toNat; unfold cntF; omega
  by_cases hi : i < 32
  ·cases hbit : hasB m i
   all_goals
    rw [hbit] at hn
    go_wp2_with (first
  | (go_at_call 35; refine zm (ziu _ _ _ h) ?_; rintro e w' ⟨rfl, hb⟩; obtain ⟨hc, hf, hb, hz⟩ := bstep hb (w := w) (by go_grown); try simp only [za, zb, zd] at hc hf hz)
    )
    go_roundg (32 - (i + 1)).toNat
    case measure => omega
    case rel => exact ⟨i + 1, by omega, by omega, rfl, by simp at hn ⊢; omega, rfl, by go_grown⟩
  ·obtain rfl : i = 32 := by omega
   go_wp2
   go_returns
   exact ⟨rfl, by go_grown⟩
theorem zgb (st cl fr : Int) (w : World) :
  Calls Tryz.prog 96 #[.agg #[.int .i64 st, .int .i64 cl, .int .u32 fr]] w fun e w' => e = .returned (.bool (useB st)) ∧ Below w.heap.size w w' := by
 have h : st = 1 ∨ st = 2 ∨ (¬ st = 1 ∧ ¬ st = 2) := by omega
 rcases h with rfl | rfl | ⟨h1, h2⟩
 ·go_enter Tryz.func96, Tryz.ntmps96
  go_wp2
  go_returns
  exact ⟨rfl, by go_grown⟩
 ·go_enter Tryz.func96, Tryz.ntmps96
  go_wp2
  go_returns
  exact ⟨rfl, by go_grown⟩
 ·have e : useB st = false := by simp [useB, h1, h2]
  go_enter Tryz.func96, Tryz.ntmps96
  go_wp2
  go_returns
  exact ⟨zab (by simp [e, h1, h2]), by go_grown⟩
theorem zkm (st cl fr : Int) (w : World) (hm : Mask fr) :
  Calls Tryz.prog 44 #[.agg #[.int .i64 st, .int .i64 cl, .int .u32 fr]] w fun e w' => e = .returned (.int .i64 (countW fr)) ∧ Below w.heap.size w w' := by
 go_enter Tryz.func44, Tryz.ntmps44
 go_wp2_with (first
  | (go_at_call 77; refine zm (zp2 _ _ hm) ?_; rintro e w' ⟨rfl, hb⟩; obtain ⟨hc, hf, hb, hz⟩ := bstep hb (w := w) (by go_grown); try simp only [za, zb, zd] at hc hf hz)
 )
 go_returns
 exact ⟨rfl, by go_grown⟩
theorem zh3 (st cl fr : Int) (w : World) (hm : Mask fr) :
  Calls Tryz.prog 61 #[.agg #[.int .i64 st, .int .i64 cl, .int .u32 fr]] w fun e w' => e = .returned (.bool (rightB st cl fr)) ∧ Below w.heap.size w w' := by
 by_cases h0 : st = 0
 ·subst h0
  by_cases h1 : cl = 0
  ·subst h1
   go_enter Tryz.func61, Tryz.ntmps61
   go_wp2
   go_returns
   exact ⟨zab (by simp [rightB]; try rfl), by go_grown⟩
  ·go_enter Tryz.func61, Tryz.ntmps61
   go_wp2
   go_returns
   exact ⟨zab (by simp [rightB, h1]), by go_grown⟩
 ·cases hu : useB st with
  | false =>
   have e : rightB st cl fr = false := by unfold rightB; rw [if_neg h0, hu]; rfl
   go_enter Tryz.func61, Tryz.ntmps61
   go_wp2_with (first
  | (go_at_call 96; refine zm (zgb _ _ _ _) ?_; rintro e w' ⟨rfl, hb⟩; obtain ⟨hc, hf, hb, hz⟩ := bstep hb (w := w) (by go_grown); try simp only [za, zb, zd] at hc hf hz)
   )
   go_returns
   exact ⟨zab (by simp [e]), by go_grown⟩
  | true =>
   by_cases hc : 0 ≤ cl ∧ cl ≤ 3
   ·obtain ⟨c0, c1⟩ := hc
    have hr : rightB st cl fr = smallB cl fr := by
     unfold rightB clB
     rw [if_neg h0, hu, decide_eq_true c0, decide_eq_true (show cl < 4 by omega)]
     rfl
    have hb := zbc cl
    obtain ⟨b0, b1⟩ := hb
    go_enter Tryz.func61, Tryz.ntmps61
    go_upto_region 1 with fail
    obtain ⟨w1, hw1⟩ : ∃ w1, w1 = w.alloc (.cells #[.int .i64 st, .int .i64 cl, .int .u32 fr] 51) := ⟨_, rfl⟩
    have hbA : Below w.heap.size w w1 := by rw [hw1]; go_grown
    have c0 : w1.cell? ⟨w.heap.size, 0, none⟩ = some (.int .i64 st) := by rw [hw1]; go_simp
    have c1 : w1.cell? ⟨w.heap.size, 1, none⟩ = some (.int .i64 cl) := by rw [hw1]; go_simp
    have c2 : w1.cell? ⟨w.heap.size, 2, none⟩ = some (.int .u32 fr) := by rw [hw1]; go_simp
    have hl : w.heap.size + 1 ≤ w1.heap.size := by rw [hw1]; simp
    rw [← hw1]
    clear hw1
    go_wp2_with (first
  | (go_at_call 96; refine zm (zgb _ _ _ _) ?_; rintro e w' ⟨rfl, hb⟩; obtain ⟨hc, hf, hb, hz⟩ := bstep hb (w := w1) (by go_grown); try simp only [za, zb, zd] at hc hf hz)
  | (go_at_call 34; refine zm (za9 _ _) ?_; rintro e w' ⟨rfl, hb⟩; obtain ⟨hc, hf, hb, hz⟩ := bstep hb (w := w1) (by go_grown); try simp only [za, zb, zd] at hc hf hz)
    )
    go_loopg [3] (32 - blW cl).toNat (fun g iv wr => ∃ i : Int, blW cl ≤ i ∧ i ≤ 32 ∧ g = (32 - i).toNat ∧ iv = .int .i64 i ∧ (∀ j, blW cl ≤ j → j < i → hasB fr j = false) ∧ Below w'.heap.size w' wr)
    case atStart => exact ⟨blW cl, by omega, by omega, by omega, rfl, fun j h0 h1 => by omega, zr⟩
    case round =>
     obtain ⟨i, il, ih, rfl, rfl, hno, hbw⟩ := hrel
     have hbW := bjoin hbw (bjoin hb hbA)
     obtain ⟨hc, hf, hb, hz⟩ := bstep hbw (w := w') zr
     by_cases hi : i < 32
     ·cases hbit : hasB fr i with
      | true =>
       have e : rightB st cl fr = false := by
        rw [hr]
        cases hs : smallB cl fr with
        | false => rfl
        | true => rw [(zbk hm).1 hs i il hi] at hbit; cases hbit
       go_wp2_with (first
  | (go_at_call 35; refine zm (ziu _ _ _ hm) ?_; rintro e w' ⟨rfl, hb⟩; obtain ⟨hc, hf, hb, hz⟩ := bstep hb (w := wr) (by go_grown); try simp only [za, zb, zd] at hc hf hz)
       )
       go_returns
       exact ⟨zab (by first | rw [e] | rw [← hr, e]), bjoin (by assumption) hbW⟩
      | false =>
       go_wp2_with (first
  | (go_at_call 35; refine zm (ziu _ _ _ hm) ?_; rintro e w' ⟨rfl, hb⟩; obtain ⟨hc, hf, hb, hz⟩ := bstep hb (w := wr) (by go_grown); try simp only [za, zb, zd] at hc hf hz)
       )
       go_roundg (32 - (i + 1)).toNat
       case measure => omega
       case rel => exact ⟨i + 1, by omega, by omega, rfl, rfl, fun j h0 h1 => by
        by_cases e : j = i
        ·rw [e, hbit]
        ·exact hno j h0 (by omega), bjoin hb hbw⟩
     ·have e : rightB st cl fr = true := by
       rw [hr]
       exact (zbk hm).2 fun j h0 h1 => hno j h0 (by omega)
      go_wp2
      go_returns
      exact ⟨zab (by first | rw [e] | rw [← hr, e]), hbW⟩
   ·have e : rightB st cl fr = false := by
     unfold rightB clB
     rw [if_neg h0, hu]
     simp
     omega
    by_cases h : 0 ≤ cl
    ·have h3 : 3 < cl := by omega
     go_enter Tryz.func61, Tryz.ntmps61
     go_wp2_with (first
  | (go_at_call 96; refine zm (zgb _ _ _ _) ?_; rintro e w' ⟨rfl, hb⟩; obtain ⟨hc, hf, hb, hz⟩ := bstep hb (w := w) (by go_grown); try simp only [za, zb, zd] at hc hf hz)
     )
     go_returns
     exact ⟨zab (by simp [e]), by go_grown⟩
    ·go_enter Tryz.func61, Tryz.ntmps61
     go_wp2_with (first
  | (go_at_call 96; refine zm (zgb _ _ _ _) ?_; rintro e w' ⟨rfl, hb⟩; obtain ⟨hc, hf, hb, hz⟩ := bstep hb (w := w) (by go_grown); try simp only [za, zb, zd] at hc hf hz)
     )
     go_returns
     exact ⟨zab (by simp [e]), by go_grown⟩
theorem fld_at (k : Int) (h0 : 0 ≤ k) (h1 : k < 4) : k = 0 ∧ fldV k = 1 ∨ k = 1 ∧ fldV k = 3 ∨ k = 2 ∧ fldV k = 7 ∨ k = 3 ∧ fldV k = 15 := by
 obtain rfl | rfl | rfl | rfl : k = 0 ∨ k = 1 ∨ k = 2 ∨ k = 3 := by omega
 all_goals simp [fldV]
theorem zc0 (u c : Bool) (k n : Int) (w : World) :
  Calls Tryz.prog 91 #[.agg #[.bool u, .bool c, .int .i64 k, .int .i64 n]] w fun e w' => e = .returned (.bool (hmayB u c k n)) ∧ Below w.heap.size w w' := by
 cases u with
 | false =>
  go_enter Tryz.func91, Tryz.ntmps91
  go_wp2
  all_goals
   go_returns
   exact ⟨zab (by simp [hmayB]; simp_all), by go_grown⟩
 | true =>
  by_cases hk : 0 ≤ k ∧ k < 4 ∧ 0 ≤ n
  ·obtain ⟨h0, h1, h2⟩ := hk
   obtain ⟨rfl, hf⟩ | ⟨rfl, hf⟩ | ⟨rfl, hf⟩ | ⟨rfl, hf⟩ := fld_at k h0 h1
   all_goals
    clear h0 h1
    go_enter Tryz.func91, Tryz.ntmps91
    go_wp2
    go_region
    go_wp2
    go_returns
    exact ⟨zab (by simp_all [hmayB]), by go_grown⟩
  ·go_enter Tryz.func91, Tryz.ntmps91
   go_wp2
   all_goals
    go_returns
    exact ⟨zab (by simp [hmayB]; omega), by go_grown⟩
theorem ze8 (u c : Bool) (k n : Int) (w : World) (h : hmayB u c k n = true) :
  Calls Tryz.prog 92 #[.agg #[.bool u, .bool c, .int .i64 k, .int .i64 n]] w fun e w' => e = .returned (.int .u64 (hputW u c k n)) ∧ Below w.heap.size w w' := by
 cases u with
 | false =>
  obtain ⟨rfl, rfl, rfl⟩ := zs0 h
  go_enter Tryz.func92, Tryz.ntmps92
  go_wp2
  go_returns
  exact ⟨rfl, by go_grown⟩
 | true =>
  have hk : 0 ≤ k ∧ k < 4 ∧ 0 ≤ n ∧ n < 16 := by have := zd3 h; omega
  obtain ⟨k0, k1, n0, n1⟩ := hk
  have hw := zdl h
  cases c
  all_goals
   go_enter Tryz.func92, Tryz.ntmps92
   go_wp2
   go_returns
   exact ⟨za5 (by (try simp [hw]); try omega), by go_grown⟩
def at1 (x c : Int) : Prop := gU x = true → c ≤ x / 16 % 4
def at2 (x c n : Int) : Prop := gU x = true → c < x / 16 % 4 ∨ c = x / 16 % 4 ∧ n ≤ x % 16
def at3 (x c n k : Int) : Prop := gU x = true → c < x / 16 % 4 ∨ c = x / 16 % 4 ∧ (n < x % 16 ∨ n = x % 16 ∧ k ≤ x / 64 % 2)
theorem ztd (x c n k : Int) (kb : Bool) (hkb : kb = decide (k = 1)) (k0 : 0 ≤ k) (k1 : k < 2) (h : at3 x c n k) :
  (hmayB true kb c n = true ∧ hputW true kb c n = x ∧ gU x = true ∧ gC x = kb ∧ gK x = c ∧ gN x = n) ∨ ((hmayB true kb c n = false ∨ hmayB true kb c n = true ∧ ¬ hputW true kb c n = x) ∧ at3 x c n (k + 1)) := by
 by_cases ht : hmayB true kb c n = true ∧ hputW true kb c n = x
 ·obtain ⟨hm, hp⟩ := ht
  obtain ⟨a, b, d, e⟩ := zto x kb c n hm hp
  refine .inl ⟨hm, hp, a, ?_, ?_, ?_⟩
  ·simp [gC, a, b]
  ·simp [gK, a, d]
  ·simp [gN, a, e]
 ·refine .inr ⟨?_, fun hg => ?_⟩
  ·cases hm : hmayB true kb c n with
   | false => exact .inl rfl
   | true => exact .inr ⟨rfl, fun hp => ht ⟨hm, hp⟩⟩
  ·obtain h | ⟨h, h' | ⟨h', h''⟩⟩ := h hg
   ·exact .inl h
   ·exact .inr ⟨h, .inl h'⟩
   ·refine .inr ⟨h, .inr ⟨h', ?_⟩⟩
    by_cases e : k = x / 64 % 2
    ·exfalso
     obtain ⟨-, -, -, hm, hp⟩ := zi7 x hg
     rw [← h, ← h', ← e, ← hkb] at hm hp
     exact ht ⟨hm, hp⟩
    ·omega
theorem zta (x : Int) (w : World) (h0 : 0 ≤ x) (h1 : x < 18446744073709551616) :
  Calls Tryz.prog 58 #[.int .u64 x] w fun e w' => e = .returned (.tuple #[.agg #[.bool (gU x), .bool (gC x), .int .i64 (gK x), .int .i64 (gN x)], .bool (gU x || x == 0)]) ∧ Below w.heap.size w w' := by
 by_cases hx : x = 0
 ·subst hx
  go_enter Tryz.func58, Tryz.ntmps58
  go_wp2
  go_returns
  exact ⟨rfl, by go_grown⟩
 ·have hx' : (x == 0) = false := by simpa using hx
  go_enter Tryz.func58, Tryz.ntmps58
  go_wp2
  obtain ⟨w0, hw0⟩ : ∃ w0, w0 = w.alloc (.cells #[.bool false, .bool false, .int .i64 0, .int .i64 0] 60) := ⟨_, rfl⟩
  have hb0 : Below w.heap.size w w0 := by rw [hw0]; go_grown
  have c0 : w0.cell? ⟨w.heap.size, 0, none⟩ = some (.bool false) := by rw [hw0]; go_simp
  have c1 : w0.cell? ⟨w.heap.size, 1, none⟩ = some (.bool false) := by rw [hw0]; go_simp
  have c2 : w0.cell? ⟨w.heap.size, 2, none⟩ = some (.int .i64 0) := by rw [hw0]; go_simp
  have c3 : w0.cell? ⟨w.heap.size, 3, none⟩ = some (.int .i64 0) := by rw [hw0]; go_simp
  have f0 : w0.frozen? ⟨w.heap.size, 0, none⟩ = false := by rw [hw0]; go_simp
  have f1 : w0.frozen? ⟨w.heap.size, 1, none⟩ = false := by rw [hw0]; go_simp
  have f2 : w0.frozen? ⟨w.heap.size, 2, none⟩ = false := by rw [hw0]; go_simp
  have f3 : w0.frozen? ⟨w.heap.size, 3, none⟩ = false := by rw [hw0]; go_simp
  have z0 : w.heap.size + 1 ≤ w0.heap.size := by rw [hw0]; simp
  go_loopg [4] 4 (fun g cv wr => ∃ c : Int, 0 ≤ c ∧ c ≤ 4 ∧ g = (4 - c).toNat ∧ cv = .int .i64 c ∧ at1 x c ∧ Below w0.heap.size w0 wr)
  case atStart => exact ⟨0, by omega, by omega, rfl, rfl, fun _ => by omega, by rw [hw0]; exact zr⟩
  case round =>
   clear hw0
   obtain ⟨c, cl, ch, rfl, rfl, hat, hbw⟩ := hrel
   obtain ⟨hc, hf, hb, hz⟩ := bstep hbw (w := w0) zr
   by_cases hc4 : c < 4
   ·go_wp2
    go_loopg [5] 16 (fun g nv wr => ∃ n : Int, 0 ≤ n ∧ n ≤ 16 ∧ g = (16 - n).toNat ∧ nv = .int .i64 n ∧ at2 x c n ∧ Below w0.heap.size w0 wr)
    case atStart => exact ⟨0, by omega, by omega, rfl, rfl, fun hg => by have := hat hg; omega, hb⟩
    case round =>
     clear hc hf hb hz hbw hat
     obtain ⟨n, nl, nh, rfl, rfl, hat, hbw⟩ := hrel
     obtain ⟨hc, hf, hb, hz⟩ := bstep hbw (w := w0) zr
     by_cases hn : n < 16
     ·go_wp2
      go_loopg [6] 2 (fun g kv wr => ∃ k : Int, 0 ≤ k ∧ k ≤ 2 ∧ g = (2 - k).toNat ∧ kv = .int .i64 k ∧ at3 x c n k ∧ Below w0.heap.size w0 wr)
      case atStart => exact ⟨0, by omega, by omega, rfl, rfl, fun hg => by have := hat hg; omega, hb⟩
      case round =>
       clear hc hf hb hz hbw hat
       obtain ⟨k, kl, kh, rfl, rfl, hat, hbw⟩ := hrel
       obtain ⟨hc, hf, hb, hz⟩ := bstep hbw (w := w0) zr
       by_cases hk : k < 2
       ·obtain rfl | rfl : k = 0 ∨ k = 1 := by omega
        ·obtain ⟨hm, hp, g1, g2, g3, g4⟩ | ⟨hm | ⟨hm, hp⟩, hat⟩ := ztd x c n 0 false rfl (by omega) (by omega) hat
         ·go_wp2_with (first
  | (go_at_call 91; refine zm (zc0 _ _ _ _ _) ?_; rintro e w' ⟨rfl, hb⟩; obtain ⟨hc, hf, hb, hz⟩ := bstep hb (w := w0) (by go_grown); try simp only [za, zb, zd] at hc hf hz)
  | (go_at_call 92; refine zm (ze8 _ _ _ _ _ hm) ?_; rintro e w' ⟨rfl, hb⟩; obtain ⟨hc, hf, hb, hz⟩ := bstep hb (w := w0) (by go_grown); try simp only [za, zb, zd] at hc hf hz)
          )
          refine bodyPost_ret (by simp [results, Tryz.results58, go_sem, *]; try rfl) rfl ?_
          exact ⟨by simp [g1, g2, g3, g4], by go_grown; all_goals exact bjoin (by assumption) hb0⟩
         ·go_wp2_with (first
  | (go_at_call 91; refine zm (zc0 _ _ _ _ _) ?_; rintro e w' ⟨rfl, hb⟩; obtain ⟨hc, hf, hb, hz⟩ := bstep hb (w := w0) (by go_grown); try simp only [za, zb, zd] at hc hf hz)
          )
          go_roundg 1
          case measure => omega
          case rel => exact ⟨1, by omega, by omega, rfl, rfl, hat, by go_grown⟩
         ·go_wp2_with (first
  | (go_at_call 91; refine zm (zc0 _ _ _ _ _) ?_; rintro e w' ⟨rfl, hb⟩; obtain ⟨hc, hf, hb, hz⟩ := bstep hb (w := w0) (by go_grown); try simp only [za, zb, zd] at hc hf hz)
  | (go_at_call 92; refine zm (ze8 _ _ _ _ _ hm) ?_; rintro e w' ⟨rfl, hb⟩; obtain ⟨hc, hf, hb, hz⟩ := bstep hb (w := w0) (by go_grown); try simp only [za, zb, zd] at hc hf hz)
          )
          go_roundg 1
          case measure => omega
          case rel => exact ⟨1, by omega, by omega, rfl, rfl, hat, by go_grown⟩
        ·obtain ⟨hm, hp, g1, g2, g3, g4⟩ | ⟨hm | ⟨hm, hp⟩, hat⟩ := ztd x c n 1 true rfl (by omega) (by omega) hat
         ·go_wp2_with (first
  | (go_at_call 91; refine zm (zc0 _ _ _ _ _) ?_; rintro e w' ⟨rfl, hb⟩; obtain ⟨hc, hf, hb, hz⟩ := bstep hb (w := w0) (by go_grown); try simp only [za, zb, zd] at hc hf hz)
  | (go_at_call 92; refine zm (ze8 _ _ _ _ _ hm) ?_; rintro e w' ⟨rfl, hb⟩; obtain ⟨hc, hf, hb, hz⟩ := bstep hb (w := w0) (by go_grown); try simp only [za, zb, zd] at hc hf hz)
          )
          refine bodyPost_ret (by simp [results, Tryz.results58, go_sem, *]; try rfl) rfl ?_
          exact ⟨by simp [g1, g2, g3, g4], by go_grown; all_goals exact bjoin (by assumption) hb0⟩
         ·go_wp2_with (first
  | (go_at_call 91; refine zm (zc0 _ _ _ _ _) ?_; rintro e w' ⟨rfl, hb⟩; obtain ⟨hc, hf, hb, hz⟩ := bstep hb (w := w0) (by go_grown); try simp only [za, zb, zd] at hc hf hz)
          )
          go_roundg 0
          case measure => omega
          case rel => exact ⟨2, by omega, by omega, rfl, rfl, hat, by go_grown⟩
         ·go_wp2_with (first
  | (go_at_call 91; refine zm (zc0 _ _ _ _ _) ?_; rintro e w' ⟨rfl, hb⟩; obtain ⟨hc, hf, hb, hz⟩ := bstep hb (w := w0) (by go_grown); try simp only [za, zb, zd] at hc hf hz)
  | (go_at_call 92; refine zm (ze8 _ _ _ _ _ hm) ?_; rintro e w' ⟨rfl, hb⟩; obtain ⟨hc, hf, hb, hz⟩ := bstep hb (w := w0) (by go_grown); try simp only [za, zb, zd] at hc hf hz)
          )
          go_roundg 0
          case measure => omega
          case rel => exact ⟨2, by omega, by omega, rfl, rfl, hat, by go_grown⟩
       ·go_wp2
        go_roundg (16 - (n + 1)).toNat
        case measure => omega
        case rel => exact ⟨n + 1, by omega, by omega, rfl, rfl, fun hg => by have := hat hg; omega, hb⟩
     ·go_wp2
      go_roundg (4 - (c + 1)).toNat
      case measure => omega
      case rel => exact ⟨c + 1, by omega, by omega, rfl, rfl, fun hg => by have := hat hg; omega, hb⟩
   ·have hg : gU x = false := by
     cases hg : gU x with
     | false => rfl
     | true => have := hat hg; omega
    have e1 : gC x = false := by simp [gC, hg]
    have e2 : gK x = 0 := by simp [gK, hg]
    have e3 : gN x = 0 := by simp [gN, hg]
    go_wp2
    refine bodyPost_ret (by simp [results, Tryz.results58, go_sem, *]; try rfl) rfl ?_
    exact ⟨by simp [hg, e1, e2, e3, hx], by go_grown; all_goals exact bjoin (by assumption) hb0⟩
end Go.Proofs.YtkehankfnkjnlaaGreatDoor
