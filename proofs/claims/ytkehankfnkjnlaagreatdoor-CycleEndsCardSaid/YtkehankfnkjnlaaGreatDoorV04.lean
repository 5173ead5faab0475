import Derived.Test.YtkehankfnkjnlaaGreatDoorV03
namespace Go.Proofs.YtkehankfnkjnlaaGreatDoor
set_option linter.unusedSimpArgs false
set_option linter.unusedVariables false
set_option maxHeartbeats 16000000
set_option maxRecDepth 20000
open Go.ChangeAt Go.ChangeShapes Go.Joins Go.RowKit Go.WideShapes
variable {h : Hp} {w w' W W' : World} {p q : Option Addr} {n g : Nat} {a : Int} {v : Value}
def fldV (k : Int) : Int := if k = 0 then 1 else if k = 1 then 3 else if k = 2 then 7 else 15
def hmayB (u c : Bool) (k n : Int) : Bool := if u = true then decide (0 ≤ k) && decide (k < 4) && decide (0 ≤ n) && decide (n ≤ fldV k) else !c && (k == 0) && (n == 0)
def hputW (u c : Bool) (k n : Int) : Int := if hmayB u c k n = true then (if u = true then 128 + (if c = true then 64 else 0) + 16 * k + n else 0) else 0
def gU (x : Int) : Bool := decide (128 ≤ x) && decide (x < 256) && decide (x % 16 ≤ fldV (x / 16 % 4))
def gC (x : Int) : Bool := gU x && decide (x / 64 % 2 = 1)
def gK (x : Int) : Int := if gU x = true then x / 16 % 4 else 0
def gN (x : Int) : Int := if gU x = true then x % 16 else 0
theorem zst (k n : Int) (h0 : 0 ≤ k) (h1 : k < 4) (h : n ≤ fldV k) : (k = 0 ∧ n ≤ 1) ∨ (k = 1 ∧ n ≤ 3) ∨ (k = 2 ∧ n ≤ 7) ∨ (k = 3 ∧ n ≤ 15) := by
 obtain rfl | rfl | rfl | rfl : k = 0 ∨ k = 1 ∨ k = 2 ∨ k = 3 := by omega
 all_goals simp [fldV] at h ⊢; omega
theorem zd3 {c : Bool} {k n : Int} (h : hmayB true c k n = true) : (k = 0 ∧ 0 ≤ n ∧ n ≤ 1) ∨ (k = 1 ∧ 0 ≤ n ∧ n ≤ 3) ∨ (k = 2 ∧ 0 ≤ n ∧ n ≤ 7) ∨ (k = 3 ∧ 0 ≤ n ∧ n ≤ 15) := by
 simp [hmayB] at h
 have := zst k n (by omega) (by omega) h.2
 omega
theorem zs0 {c : Bool} {k n : Int} (h : hmayB false c k n = true) : c = false ∧ k = 0 ∧ n = 0 := by
 simp [hmayB] at h
 exact ⟨h.1.1, h.1.2, h.2⟩
theorem zdl {c : Bool} {k n : Int} (h : hmayB true c k n = true) : hputW true c k n = 128 + (if c = true then 64 else 0) + 16 * k + n := by
 simp [hputW, h]
theorem zvq {u c : Bool} {k n : Int} (h : hmayB u c k n = false) : hputW u c k n = 0 := by simp [hputW, h]
theorem zu2 (c : Bool) (k n : Int) : hputW false c k n = 0 := by simp [hputW]
theorem zi7 (x : Int) (h : gU x = true) : 128 ≤ x ∧ x < 256 ∧ x / 128 % 2 = 1 ∧ hmayB true (decide (x / 64 % 2 = 1)) (x / 16 % 4) (x % 16) = true ∧ hputW true (decide (x / 64 % 2 = 1)) (x / 16 % 4) (x % 16) = x := by
 simp [gU] at h
 have hm : hmayB true (decide (x / 64 % 2 = 1)) (x / 16 % 4) (x % 16) = true := by simp [hmayB, h]; omega
 refine ⟨by omega, by omega, by omega, hm, ?_⟩
 rw [zdl hm]
 simp only [decide_eq_true_eq]
 split <;> omega
theorem zto (x : Int) (c : Bool) (k n : Int) (h : hmayB true c k n = true) (hp : hputW true c k n = x) : gU x = true ∧ c = decide (x / 64 % 2 = 1) ∧ k = x / 16 % 4 ∧ n = x % 16 := by
 rw [zdl h] at hp
 have hk := zd3 h
 simp [hmayB] at h
 have e1 : x / 16 % 4 = k := by subst hp; split <;> omega
 have e2 : x % 16 = n := by subst hp; split <;> omega
 refine ⟨?_, ?_, e1.symm, e2.symm⟩
 ·simp [gU, e1, e2, h]; subst hp; split <;> omega
 ·cases c <;> simp at hp ⊢ <;> omega
theorem zef (k : Int) (w : World) (h0 : 0 ≤ k) (h1 : k < 4) :
  Calls Tryz.prog 195 #[.int .i64 k] w fun e w' => e = .returned (.int .i64 (fldV k)) ∧ Below w.heap.size w w' := by
 obtain rfl | rfl | rfl | rfl : k = 0 ∨ k = 1 ∨ k = 2 ∨ k = 3 := by omega
 all_goals
  go_enter Tryz.func195, Tryz.ntmps195
  go_wp2
  go_returns
  exact ⟨za5 (by simp [fldV]), by go_grown⟩
theorem zl5 (c : Bool) (k n : Int) (w : World) :
  Calls Tryz.prog 170 #[.agg #[.bool false, .bool c, .int .i64 k, .int .i64 n]] w fun e w' => e = .returned (.bool (hmayB false c k n)) ∧ Below w.heap.size w w' := by
 go_enter Tryz.func170, Tryz.ntmps170
 go_wp2
 all_goals
  go_returns
  exact ⟨zab (by simp [hmayB]; simp_all), by go_grown⟩
theorem zlx (c : Bool) (k n : Int) (w : World) :
  Calls Tryz.prog 170 #[.agg #[.bool true, .bool c, .int .i64 k, .int .i64 n]] w fun e w' => e = .returned (.bool (hmayB true c k n)) ∧ Below w.heap.size w w' := by
 by_cases hk : 0 ≤ k ∧ k < 4
 ·obtain ⟨hk0, hk1⟩ := hk
  have hf := zst k
  by_cases hn : 0 ≤ n
  ·go_enter Tryz.func170, Tryz.ntmps170
   go_wp2
   refine zap (by kernel_rfl) (by kernel_rfl) fun hpc => ?_
   repeat (first | go_big_quiet_step ((first | (go_at_call 195; exact zak (zef _ _ (by omega) (by omega))))) | quiet_step ((first | (go_at_call 195; exact zak (zef _ _ (by omega) (by omega))))))
   refine wpQuiet_nil ?_
   intro w' hbq
   clear hpc
   obtain ⟨hc, hf, hb, hz⟩ := bstep hbq (w := w) (by go_grown)
   try simp only [za, zb, zd] at hc hf hz
   go_wp2
   all_goals
    go_returns
    exact ⟨zab (by simp_all [hmayB]), by go_grown⟩
  ·have hd : decide (n ≥ 0) = false := by simpa using hn
   have hd' : decide (0 ≤ n) = false := by simpa using hn
   go_enter Tryz.func170, Tryz.ntmps170
   go_wp2
   refine zap (by kernel_rfl) (by kernel_rfl) fun hpc => ?_
   repeat (first | go_big_quiet_step ((first | (go_at_call 195; exact zak (zef _ _ (by omega) (by omega))))) | quiet_step ((first | (go_at_call 195; exact zak (zef _ _ (by omega) (by omega))))))
   refine wpQuiet_nil ?_
   intro w' hbq
   clear hpc
   obtain ⟨hc, hf, hb, hz⟩ := bstep hbq (w := w) (by go_grown)
   try simp only [za, zb, zd] at hc hf hz
   go_wp2
   all_goals
    go_returns
    exact ⟨zab (by simp_all [hmayB]; try omega), by go_grown⟩
 ·go_enter Tryz.func170, Tryz.ntmps170
  go_wp2
  all_goals
   go_returns
   exact ⟨zab (by simp [hmayB]; omega), by go_grown⟩
theorem zi5 (u c : Bool) (k n : Int) (w : World) :
  Calls Tryz.prog 170 #[.agg #[.bool u, .bool c, .int .i64 k, .int .i64 n]] w fun e w' => e = .returned (.bool (hmayB u c k n)) ∧ Below w.heap.size w w' := by
 cases u
 ·exact zl5 c k n w
 ·exact zlx c k n w
theorem zxo (u c : Bool) (k n : Int) (w : World) (h : hmayB u c k n = false) :
  Calls Tryz.prog 142 #[.agg #[.bool u, .bool c, .int .i64 k, .int .i64 n]] w fun e w' => e = .returned (.tuple #[.int .u64 0, .bool false]) ∧ Below w.heap.size w w' := by
 go_enter Tryz.func142, Tryz.ntmps142
 go_wp2_with (first
  | (go_at_call 170; refine zm (zi5 _ _ _ _ _) ?_; rintro e w' ⟨rfl, hb⟩; obtain ⟨hc, hf, hb, hz⟩ := bstep hb (w := w) (by go_grown); try simp only [za, zb, zd] at hc hf hz)
  )
 all_goals
  go_returns
  exact ⟨rfl, by go_grown⟩
theorem zxf (w : World) :
  Calls Tryz.prog 142 #[.agg #[.bool false, .bool false, .int .i64 0, .int .i64 0]] w fun e w' => e = .returned (.tuple #[.int .u64 0, .bool true]) ∧ Below w.heap.size w w' := by
 have h : hmayB false false 0 0 = true := rfl
 go_enter Tryz.func142, Tryz.ntmps142
 go_wp2_with (first
  | (go_at_call 170; refine zm (zi5 _ _ _ _ _) ?_; rintro e w' ⟨rfl, hb⟩; obtain ⟨hc, hf, hb, hz⟩ := bstep hb (w := w) (by go_grown); try simp only [za, zb, zd] at hc hf hz)
  )
 all_goals
  go_returns
  exact ⟨rfl, by go_grown⟩
theorem or_hdr (k n : Int) (k0 : 0 ≤ k) (k1 : k < 4) (n0 : 0 ≤ n) (n1 : n < 16) :
  bits BinOp.or IntKind.u64 (bits BinOp.or IntKind.u64 128 (k * 16)) n = 128 + 16 * k + n ∧ bits BinOp.or IntKind.u64 (128 + 16 * k + n) 64 = 192 + 16 * k + n := by
 have key : ∀ (i : Fin 4) (j : Fin 16), bits BinOp.or IntKind.u64 (bits BinOp.or IntKind.u64 128 ((i.val : Int) * 16)) (j.val : Int) = 128 + 16 * (i.val : Int) + (j.val : Int) ∧
   bits BinOp.or IntKind.u64 (128 + 16 * (i.val : Int) + (j.val : Int)) 64 = 192 + 16 * (i.val : Int) + (j.val : Int) := by decide +kernel
 have h := key ⟨k.toNat, by omega⟩ ⟨n.toNat, by omega⟩
 have a : ((k.toNat : Nat) : Int) = k := by omega
 have b : ((n.toNat : Nat) : Int) = n := by omega
 simp only [a, b] at h
 exact h
theorem zxu (c : Bool) (k n : Int) (w : World) (h : hmayB true c k n = true) :
  Calls Tryz.prog 142 #[.agg #[.bool true, .bool c, .int .i64 k, .int .i64 n]] w fun e w' => e = .returned (.tuple #[.int .u64 (hputW true c k n), .bool true]) ∧ Below w.heap.size w w' := by
 have hk : 0 ≤ k ∧ k < 4 ∧ 0 ≤ n ∧ n < 16 := by have := zd3 h; omega
 obtain ⟨k0, k1, n0, n1⟩ := hk
 have hw := zdl h
 have hor := or_hdr k n k0 k1 n0 n1
 cases c
 all_goals
  go_enter Tryz.func142, Tryz.ntmps142
  go_wp2_with (first
  | (go_at_call 170; refine zm (zi5 _ _ _ _ _) ?_; rintro e w' ⟨rfl, hb⟩; obtain ⟨hc, hf, hb, hz⟩ := bstep hb (w := w) (by go_grown); try simp only [za, zb, zd] at hc hf hz)
  )
  go_returns
  exact ⟨zfy (by simp [hw, hor]; try omega) rfl, by go_grown⟩
theorem zji (u c : Bool) (k n : Int) (w : World) :
  Calls Tryz.prog 142 #[.agg #[.bool u, .bool c, .int .i64 k, .int .i64 n]] w fun e w' => e = .returned (.tuple #[.int .u64 (hputW u c k n), .bool (hmayB u c k n)]) ∧ Below w.heap.size w w' := by
 cases h : hmayB u c k n with
 | false => exact (zxo u c k n w h).mono fun e w' ⟨he, hb⟩ => ⟨by rw [he, zvq h], hb⟩
 | true =>
  cases u with
  | false =>
   obtain ⟨rfl, rfl, rfl⟩ := zs0 h
   exact (zxf w).mono fun e w' ⟨he, hb⟩ => ⟨by rw [he]; rfl, hb⟩
  | true => exact zxu c k n w h
def partV (x f : Int) : Int := if f = 7 then x / 128 % 2 else if f = 6 then x / 64 % 2 else if f = 4 then x / 16 % 4 else x % 16
theorem zn8 (x f t : Int) (w : World) (h0 : 0 ≤ x) (h1 : x < 18446744073709551616) (hft : f = 7 ∧ t = 8 ∨ f = 6 ∧ t = 7 ∨ f = 4 ∧ t = 6 ∨ f = 0 ∧ t = 4) :
  Calls Tryz.prog 141 #[.int .u64 x, .int .i64 f, .int .i64 t] w fun e w' => e = .returned (.int .i64 (partV x f)) ∧ Below w.heap.size w w' := by
 obtain ⟨rfl, rfl⟩ | ⟨rfl, rfl⟩ | ⟨rfl, rfl⟩ | ⟨rfl, rfl⟩ := hft
 ·have hm : bits BinOp.and IntKind.u64 (x / 128) 1 = x / 128 % 2 := bits_mask .u64 64 (by decide) wraps_u64 1 (by decide) (x / 128) (by omega) (by omega)
  have hr : wrap64 (x / 128 % 2) = x / 128 % 2 := by unfold wrap64; omega
  go_enter Tryz.func141, Tryz.ntmps141
  go_wp2
  refine zap (by kernel_rfl) (by kernel_rfl) fun hpc => ?_
  repeat (first | go_big_quiet_step (fail) | quiet_step (fail))
  refine wpQuiet_nil ?_
  intro w' hbq
  clear hpc
  obtain ⟨hc, hf, hb, hz⟩ := bstep hbq (w := w) (by go_grown)
  try simp only [za, zb, zd] at hc hf hz
  go_wp2
  go_returns
  exact ⟨za5 (by simp [hm, hr, partV]), by go_grown⟩
 ·have hm : bits BinOp.and IntKind.u64 (x / 64) 1 = x / 64 % 2 := bits_mask .u64 64 (by decide) wraps_u64 1 (by decide) (x / 64) (by omega) (by omega)
  have hr : wrap64 (x / 64 % 2) = x / 64 % 2 := by unfold wrap64; omega
  go_enter Tryz.func141, Tryz.ntmps141
  go_wp2
  refine zap (by kernel_rfl) (by kernel_rfl) fun hpc => ?_
  repeat (first | go_big_quiet_step (fail) | quiet_step (fail))
  refine wpQuiet_nil ?_
  intro w' hbq
  clear hpc
  obtain ⟨hc, hf, hb, hz⟩ := bstep hbq (w := w) (by go_grown)
  try simp only [za, zb, zd] at hc hf hz
  go_wp2
  go_returns
  exact ⟨za5 (by simp [hm, hr, partV]), by go_grown⟩
 ·have hm : bits BinOp.and IntKind.u64 (x / 16) 3 = x / 16 % 4 := bits_mask .u64 64 (by decide) wraps_u64 2 (by decide) (x / 16) (by omega) (by omega)
  have hr : wrap64 (x / 16 % 4) = x / 16 % 4 := by unfold wrap64; omega
  go_enter Tryz.func141, Tryz.ntmps141
  go_wp2
  refine zap (by kernel_rfl) (by kernel_rfl) fun hpc => ?_
  repeat (first | go_big_quiet_step (fail) | quiet_step (fail))
  refine wpQuiet_nil ?_
  intro w' hbq
  clear hpc
  obtain ⟨hc, hf, hb, hz⟩ := bstep hbq (w := w) (by go_grown)
  try simp only [za, zb, zd] at hc hf hz
  go_wp2
  go_returns
  exact ⟨za5 (by simp [hm, hr, partV]), by go_grown⟩
 ·have hm : bits BinOp.and IntKind.u64 (x) 15 = x % 16 := bits_mask .u64 64 (by decide) wraps_u64 4 (by decide) (x) (by omega) (by omega)
  have hr : wrap64 (x % 16) = x % 16 := by unfold wrap64; omega
  go_enter Tryz.func141, Tryz.ntmps141
  go_wp2
  refine zap (by kernel_rfl) (by kernel_rfl) fun hpc => ?_
  repeat (first | go_big_quiet_step (fail) | quiet_step (fail))
  refine wpQuiet_nil ?_
  intro w' hbq
  clear hpc
  obtain ⟨hc, hf, hb, hz⟩ := bstep hbq (w := w) (by go_grown)
  try simp only [za, zb, zd] at hc hf hz
  go_wp2
  go_returns
  exact ⟨za5 (by simp [hm, hr, partV]), by go_grown⟩
def bV (u : Bool) : Int := if u = true then 1 else 0
theorem znq (x : Int) (u c : Bool) (k n : Int) (w : World) (h0 : 0 ≤ x) (h1 : x < 18446744073709551616) 
  (h7 : partV x 7 = bV u) (h6 : partV x 6 = bV c) (h4 : partV x 4 = k) (h3 : partV x 0 = n) (hm : hmayB u c k n = true) (hp : hputW u c k n = x) :
  Calls Tryz.prog 102 #[.int .u64 x] w fun e w' => e = .returned (.tuple #[.agg #[.bool u, .bool c, .int .i64 k, .int .i64 n], .bool true]) ∧ Below w.heap.size w w' := by
 cases u <;> cases c
 all_goals
  simp only [bV] at h7 h6
  go_enter Tryz.func102, Tryz.ntmps102
  go_wp2_with (first
  | (go_at_call 141; refine zm (zn8 _ _ _ _ (by omega) (by omega) (by decide)) ?_; rintro e w' ⟨rfl, hb⟩; obtain ⟨hc, hf, hb, hz⟩ := bstep hb (w := w) (by go_grown); try simp only [za, zb, zd] at hc hf hz)
  | (go_at_call 142; refine zm (zji _ _ _ _ _) ?_; rintro e w' ⟨rfl, hb⟩; obtain ⟨hc, hf, hb, hz⟩ := bstep hb (w := w) (by go_grown); try simp only [za, zb, zd] at hc hf hz)
  )
  refine bodyPost_ret (by simp [results, Tryz.results102, go_sem, *]; try rfl) rfl ?_
  exact ⟨rfl, by go_grown⟩
theorem zw4 (x : Int) (u c : Bool) (k n : Int) (w : World) (h0 : 0 ≤ x) (h1 : x < 18446744073709551616) 
  (h7 : partV x 7 = bV u) (h6 : partV x 6 = bV c) (h4 : partV x 4 = k) (h3 : partV x 0 = n) (hm : hmayB u c k n = false ∨ hmayB u c k n = true ∧ ¬ hputW u c k n = x) :
  Calls Tryz.prog 102 #[.int .u64 x] w fun e w' => e = .returned (.tuple #[.agg #[.bool false, .bool false, .int .i64 0, .int .i64 0], .bool false]) ∧ Below w.heap.size w w' := by
 rcases hm with hm | ⟨hm, hp⟩
 all_goals cases u <;> cases c
 all_goals
  simp only [bV] at h7 h6
  go_enter Tryz.func102, Tryz.ntmps102
  go_wp2_with (first
  | (go_at_call 141; refine zm (zn8 _ _ _ _ (by omega) (by omega) (by decide)) ?_; rintro e w' ⟨rfl, hb⟩; obtain ⟨hc, hf, hb, hz⟩ := bstep hb (w := w) (by go_grown); try simp only [za, zb, zd] at hc hf hz)
  | (go_at_call 142; refine zm (zji _ _ _ _ _) ?_; rintro e w' ⟨rfl, hb⟩; obtain ⟨hc, hf, hb, hz⟩ := bstep hb (w := w) (by go_grown); try simp only [za, zb, zd] at hc hf hz)
  )
  all_goals
   refine bodyPost_ret (by simp [results, Tryz.results102, go_sem, *]; try rfl) rfl ?_
   exact ⟨rfl, by go_grown⟩
theorem zu9 (x : Int) (w : World) (h0 : 0 ≤ x) (h1 : x < 18446744073709551616) :
  Calls Tryz.prog 102 #[.int .u64 x] w fun e w' => e = .returned (.tuple #[.agg #[.bool (gU x), .bool (gC x), .int .i64 (gK x), .int .i64 (gN x)], .bool (gU x || x == 0)]) ∧ Below w.heap.size w w' := by
 have b7 : partV x 7 = bV (decide (x / 128 % 2 = 1)) := by simp [partV, bV]; split <;> omega
 have b6 : partV x 6 = bV (decide (x / 64 % 2 = 1)) := by simp [partV, bV]; split <;> omega
 have b4 : partV x 4 = x / 16 % 4 := rfl
 have b3 : partV x 0 = x % 16 := rfl
 cases hg : gU x with
 | true =>
  obtain ⟨g0, g1, g2, hm, hp⟩ := zi7 x hg
  rw [show decide (x / 128 % 2 = 1) = true by simp [g2]] at b7
  refine (znq x _ _ _ _ w h0 h1 b7 b6 b4 b3 hm hp).mono fun e w' ⟨he, hb⟩ => ⟨?_, hb⟩
  rw [he]
  simp [gC, gK, gN, hg]
 | false =>
  by_cases hx : x = 0
  ·subst hx
   exact (znq 0 false false 0 0 w h0 h1 rfl rfl rfl rfl rfl rfl).mono fun e w' ⟨he, hb⟩ => ⟨by rw [he]; rfl, hb⟩
  ·refine (zw4 x _ _ _ _ w h0 h1 b7 b6 b4 b3 ?_).mono fun e w' ⟨he, hb⟩ => ⟨by rw [he]; simp [gC, gK, gN, hg, hx], hb⟩
   cases hm : hmayB (decide (x / 128 % 2 = 1)) (decide (x / 64 % 2 = 1)) (x / 16 % 4) (x % 16) with
   | false => exact .inl rfl
   | true =>
    refine .inr ⟨rfl, fun hp => ?_⟩
    by_cases h7 : x / 128 % 2 = 1
    ·simp only [h7, decide_true] at hm hp
     have := (zto x _ _ _ hm hp).1
     simp [hg] at this
    ·simp only [h7, decide_false, zu2] at hp
     omega
def Sp.right (s : Sp) : Bool := rightB s.st s.cl s.fr
def spEq (s t : Sp) : Bool := s.st == t.st && (s.cl == t.cl && s.fr == t.fr)
theorem zn3 {s t : Sp} : spEq s t = true ↔ s = t := by
 obtain ⟨a, b, c⟩ := s
 obtain ⟨a', b', c'⟩ := t
 simp [spEq]
def setS (s : Nat → Sp) (p : Int) (x : Sp) : Nat → Sp := fun j => if (j : Int) = p then x else s j
def zerZ (z : Nat → Int) (a k : Int) : Nat → Int := fun j => if a ≤ j ∧ (j : Int) < a + k then 0 else z j
def spH (h : Hp) (p : Int) : Sp := h.s p.toNat
def formB (h : Hp) : Bool := decide (1 ≤ h.m ∧ h.m ≤ 16 ∧ h.n = 32 * h.m ∧ ∀ i, i < h.m → (h.s i).right = true)
def sameS (n : Nat) (s t : Nat → Sp) : Bool := (List.range n).all fun i => spEq (s i) (t i)
def sameH (a b : Hp) : Bool := (a.b == b.b) && (decide (a.m = b.m) && (sameZ a.n a.z b.n b.z && sameS a.m a.s b.s))
def fiB (h : Hp) (a : Int) : Bool := inI (32 * h.m) a && (!((spH h (a / 32)).st == 0) && plB (spH h (a / 32)).cl a)
def fiP (h : Hp) (a : Int) : Int := if fiB h a = true then a / 32 else 0
def fiI (h : Hp) (a : Int) : Int := if fiB h a = true then plI (spH h (a / 32)).cl a else 0
def withS (h : Hp) (p : Int) (x : Sp) : Hp := { h with s := setS h.s p x }
def opB (h : Hp) (p c : Int) : Bool := inI h.m p && (clB c && (spH h p).st == 0)
def opH (h : Hp) (p c : Int) : Hp := if opB h p c = true then withS h p ⟨1, c, wholeW (blW c)⟩ else h
def loB (h : Hp) (p : Int) : Bool := inI h.m p && (!((spH h p).st == 0) && countW (spH h p).fr == blW (spH h p).cl)
def loH (h : Hp) (p : Int) : Hp := if loB h p = true then withS h p ⟨0, 0, 0⟩ else h
def laB (h : Hp) (p f : Int) : Bool := inI h.m p && (decide (0 ≤ f) && (decide (f < szW (spH h p).cl) && takeB (spH h p).st (spH h p).fr))
def laH (h : Hp) (p f : Int) : Hp :=
 if laB h p f = true then
  { withS h p ⟨(spH h p).st, (spH h p).cl, woutW (spH h p).fr (leastW (spH h p).fr)⟩ with
   z := putZ (zerZ h.z (32 * p + leastW (spH h p).fr * szW (spH h p).cl) (szW (spH h p).cl)) (32 * p + leastW (spH h p).fr * szW (spH h p).cl) (hputW true h.b (spH h p).cl f) }
 else h
def frB (h : Hp) (a : Int) : Bool := fiB h a && giveB (spH h (a / 32)).st (spH h (a / 32)).cl (spH h (a / 32)).fr (plI (spH h (a / 32)).cl a)
def frH (h : Hp) (a : Int) : Hp :=
 if frB h a = true then
  { withS h (a / 32) ⟨(spH h (a / 32)).st, (spH h (a / 32)).cl, withW (spH h (a / 32)).fr (plI (spH h (a / 32)).cl a)⟩ with z := zerZ h.z a (szW (spH h (a / 32)).cl) }
 else h
def usS (s : Sp) : Int := usedN s.st s.cl s.fr * szW s.cl
def usT (s : Nat → Sp) : Nat → Int
 | 0 => 0
 | k + 1 => usT s k + usS (s k)
def usH (h : Hp) : Int := usT h.s h.m
def Hp.wf (h : Hp) : Prop := (∀ i, i < h.n → (Lit.int .u64 (h.z i)).wf = true) ∧ ∀ i, i < h.m → (h.s i).wf
theorem zad : formB h = true ↔ 1 ≤ h.m ∧ h.m ≤ 16 ∧ h.n = 32 * h.m ∧ ∀ i, i < h.m → (h.s i).right = true := by simp only [formB, decide_eq_true_eq]
theorem zdn (hw : h.wf) {p : Int} (h0 : 0 ≤ p) (h1 : p < h.m) : Mask (spH h p).fr := (hw.2 p.toNat (by omega)).2.2
theorem zcx (hf : formB h = true) {p : Int} (h0 : 0 ≤ p) (h1 : p < h.m) : rightB (spH h p).st (spH h p).cl (spH h p).fr = true := (zad.1 hf).2.2.2 p.toNat (by omega)
theorem zgn (hf : formB h = true) {p : Int} {x : Sp} (hx : x.right = true) : formB (withS h p x) = true := by
 obtain ⟨a, b, c, d⟩ := zad.1 hf
 refine zad.2 ⟨a, b, c, fun i hi => ?_⟩
 show (setS h.s p x i).right = true
 unfold setS
 split
 ·exact hx
 ·exact d i hi
theorem la_spec {p f : Int} (hf : formB h = true) (hw : h.wf) (e : laB h p f = true) :
  0 ≤ p ∧ p < h.m ∧ p < 16 ∧ 0 ≤ f ∧ f < szW (spH h p).cl ∧ takeB (spH h p).st (spH h p).fr = true ∧ (spH h p).st = 1 ∧ 0 ≤ (spH h p).cl ∧ (spH h p).cl < 4 ∧ 0 ≤ leastW (spH h p).fr ∧ leastW (spH h p).fr < blW (spH h p).cl := by
 simp only [laB, Bool.and_eq_true, decide_eq_true_eq] at e
 obtain ⟨e1, e2, e3, e4⟩ := e
 obtain ⟨p0, p1⟩ := zqs e1
 obtain ⟨a, b, c, d, e, -⟩ := ztt (zcx hf p0 p1) (zdn hw p0 p1) e4
 have := (zad.1 hf).2.1
 exact ⟨p0, p1, by omega, e2, e3, e4, a, b, c, d, e⟩
theorem zbd (hf : formB h = true) (e : fiB h a = true) :
  0 ≤ a / 32 ∧ a / 32 < h.m ∧ a / 32 < 16 ∧ ((spH h (a / 32)).st = 1 ∨ (spH h (a / 32)).st = 2) ∧ plB (spH h (a / 32)).cl a = true ∧ 0 ≤ plI (spH h (a / 32)).cl a ∧ plI (spH h (a / 32)).cl a < blW (spH h (a / 32)).cl ∧ 32 * (a / 32) + plI (spH h (a / 32)).cl a * szW (spH h (a / 32)).cl = a := by
 simp only [fiB, Bool.and_eq_true, Bool.not_eq_true', beq_eq_false_iff_ne] at e
 obtain ⟨e1, e2, e3⟩ := e
 obtain ⟨a0, a1⟩ := zqs e1
 have hm := (zad.1 hf).2.1
 obtain ⟨-, -, c, d, e⟩ := pl_in e3
 have hp : plP (spH h (a / 32)).cl a = a / 32 := by unfold plP; rw [if_pos e3]
 rw [hp] at e
 have hst : (spH h (a / 32)).st = 1 ∨ (spH h (a / 32)).st = 2 := by
  rcases zaz.1 (zcx hf (p := a / 32) (by omega) (by omega)) with ⟨h0, -⟩ | ⟨h0, -⟩
  ·exact absurd h0 e2
  ·exact h0
 exact ⟨by omega, by omega, by omega, hst, e3, c, d, e⟩
theorem fi_of {p i : Int} (hf : formB h = true) (p0 : 0 ≤ p) (p1 : p < h.m) (hst : ¬ (spH h p).st = 0) (i0 : 0 ≤ i) (i1 : i < blW (spH h p).cl) :
  fiB h (32 * p + i * szW (spH h p).cl) = true ∧ (32 * p + i * szW (spH h p).cl) / 32 = p ∧ plI (spH h p).cl (32 * p + i * szW (spH h p).cl) = i := by
 have hm := (zad.1 hf).2.1
 obtain ⟨a, b, c⟩ := pl_at p0 (show p < 16 by omega) i0 i1 rfl
 have hp : (32 * p + i * szW (spH h p).cl) / 32 = p := by
  have : plP (spH h p).cl (32 * p + i * szW (spH h p).cl) = (32 * p + i * szW (spH h p).cl) / 32 := by unfold plP; rw [if_pos a]
  omega
 refine ⟨?_, hp, c⟩
 unfold fiB
 rw [hp, a, zjn (by omega) (by omega)]
 simp [hst]
theorem zt8 (hf : formB h = true) (hw : h.wf) (e : frB h a = true) :
  fiB h a = true ∧ giveB (spH h (a / 32)).st (spH h (a / 32)).cl (spH h (a / 32)).fr (plI (spH h (a / 32)).cl a) = true ∧ hasB (spH h (a / 32)).fr (plI (spH h (a / 32)).cl a) = false := by
 simp only [frB, Bool.and_eq_true] at e
 obtain ⟨p0, p1, -⟩ := zbd hf e.1
 exact ⟨e.1, e.2, (zkh (zcx hf p0 p1) (zdn hw p0 p1) e.2).2.2.2.2.2.2.1⟩
theorem zs3 (hf : formB h = true) (hw : h.wf) (a : Int) : formB (frH h a) = true := by
 unfold frH
 split
 ·rename_i e
  obtain ⟨e1, e2, -⟩ := zt8 hf hw e
  obtain ⟨p0, p1, -⟩ := zbd hf e1
  have hr := zpi (i := plI (spH h (a / 32)).cl a) (zcx hf p0 p1) (zdn hw p0 p1)
  rw [giveF, if_pos e2] at hr
  exact zgn (h := h) hf hr
 ·exact hf
theorem zj9 {s t : Nat → Sp} : ∀ {k : Nat}, (∀ i, i < k → s i = t i) → usT s k = usT t k
 | 0, _ => rfl
 | k + 1, h => by
  simp only [usT]
  rw [zj9 (k := k) fun i hi => h i (by omega), h k (by omega)]
theorem zs5 (s : Nat → Sp) (p : Int) (x : Sp) : ∀ {k : Nat}, 0 ≤ p → p < k → usT (setS s p x) k = usT s k - usS (s p.toNat) + usS x
 | 0, h0, h1 => by omega
 | k + 1, h0, h1 => by
  simp only [usT]
  by_cases e : p = k
  ·subst e
   rw [zj9 (s := setS s k x) (t := s) fun i hi => by unfold setS; rw [if_neg (by omega)]]
   have : setS s k x k = x := by unfold setS; rw [if_pos rfl]
   rw [this, Int.toNat_natCast]
   omega
  ·rw [zs5 s p x (k := k) h0 (by omega)]
   have : setS s p x k = s k := by unfold setS; rw [if_neg (by omega)]
   rw [this]
   omega
theorem ztz {p : Int} {x : Sp} (h0 : 0 ≤ p) (h1 : p < h.m) : usH (withS h p x) = usH h - usS (spH h p) + usS x := zs5 h.s p x h0 h1
theorem zhn {s t : Nat → Sp} : sameS n s t = true ↔ ∀ i, i < n → s i = t i := by
 simp only [sameS, List.all_eq_true, List.mem_range, zn3]
theorem zsa {n m : Nat} {z y : Nat → Int} : sameZ n z m y = true ↔ n = m ∧ ∀ i, i < n → z i = y i := by simp only [sameZ, decide_eq_true_eq]
theorem zq5 {a b : Hp} : sameH a b = true ↔ a.b = b.b ∧ a.m = b.m ∧ (a.n = b.n ∧ ∀ i, i < a.n → a.z i = b.z i) ∧ ∀ i, i < a.m → a.s i = b.s i := by
 simp only [sameH, Bool.and_eq_true, beq_iff_eq, decide_eq_true_eq, zsa, zhn]
theorem zor (h : Hp) : sameH h h = true := zq5.2 ⟨rfl, rfl, ⟨rfl, fun _ _ => rfl⟩, fun _ _ => rfl⟩
theorem ze3 (h : Hp) {p : Int} (x : Sp) (h0 : 0 ≤ p) : spH (withS h p x) p = x := by
 show setS h.s p x p.toNat = x
 unfold setS; rw [if_pos (by omega)]
theorem zkw (a b : Int) : (a + 1) * b = a * b + b := by rw [Int.add_mul, Int.one_mul]
theorem zb4 (hf : formB h = true) (e : fiB h a = true) : 0 ≤ a ∧ 32 * (a / 32) ≤ a ∧ a + szW (spH h (a / 32)).cl ≤ 32 * (a / 32) + 32 ∧ a + szW (spH h (a / 32)).cl ≤ h.n ∧ 2 ≤ szW (spH h (a / 32)).cl := by
 obtain ⟨p0, p1, -, -, -, i0, i1, e1⟩ := zbd hf e
 have hn := (zad.1 hf).2.2.1
 generalize plI (spH h (a / 32)).cl a = i at i0 i1 e1
 rcases zaq (spH h (a / 32)).cl with ⟨-, h0, h1, -⟩ | ⟨-, h0, h1, -⟩ | ⟨-, h0, h1, -⟩ | ⟨-, h0, h1, -⟩ | ⟨-, h0, h1, -⟩
 all_goals
  rw [h1] at i1
  rw [h0] at e1 ⊢
  omega
theorem zj0 {a b : Int} (hf : formB h = true) (ha : fiB h a = true) (hb : fiB h b = true) (hne : ¬ a = b) :
  a + szW (spH h (a / 32)).cl ≤ b ∨ b + szW (spH h (b / 32)).cl ≤ a := by
 by_cases hp : a / 32 = b / 32
 ·obtain ⟨-, -, -, -, -, i0, i1, e1⟩ := zbd hf ha
  obtain ⟨-, -, -, -, -, j0, j1, e2⟩ := zbd hf hb
  rw [← hp] at e2 j0 j1 ⊢
  generalize plI (spH h (a / 32)).cl a = i at i0 i1 e1
  generalize plI (spH h (a / 32)).cl b = j at j0 j1 e2
  rcases zaq (spH h (a / 32)).cl with ⟨-, h0, h1, -⟩ | ⟨-, h0, h1, -⟩ | ⟨-, h0, h1, -⟩ | ⟨-, h0, h1, -⟩ | ⟨-, h0, h1, -⟩
  all_goals
   rw [h1] at i1
   rw [h0] at e1 e2 ⊢
   omega
 ·have := zb4 hf ha
  have := zb4 hf hb
  omega
def usedB (h : Hp) (a : Int) : Bool := fiB h a && !hasB (spH h (a / 32)).fr (plI (spH h (a / 32)).cl a)
theorem fr_iff (hf : formB h = true) (a : Int) : frB h a = usedB h a := by
 unfold frB usedB
 cases e : fiB h a with
 | false => rfl
 | true =>
  obtain ⟨-, -, -, hst, -, i0, i1, -⟩ := zbd hf e
  simp [giveB, (zg2 _).2 hst, i0, i1]
structure Laid (h : Hp) (L : List (Int × Int)) : Prop where
 form : formB h = true
 wf : h.wf
 all : ∀ a, a ∈ L.map Prod.fst ↔ usedB h a = true
 nodup : (L.map Prod.fst).Nodup
 size : ∀ x ∈ L, x.2 = szW (spH h (x.1 / 32)).cl
 head : ∀ x ∈ L, ∃ c f, hmayB true c (spH h (x.1 / 32)).cl f = true ∧ h.z x.1.toNat = hputW true c (spH h (x.1 / 32)).cl f
 tail : ∀ x ∈ L, ∀ k : Int, 0 < k → k < x.2 → h.z (x.1 + k).toNat = 0
 rest : ∀ j : Nat, j < h.n → (∀ x ∈ L, ¬ (x.1 ≤ j ∧ (j : Int) < x.1 + x.2)) → h.z j = 0
 sum : usH h = (L.map Prod.snd).sum
theorem zjt (h : Hp) {p q : Int} (x : Sp) (h0 : 0 ≤ q) (hne : ¬ q = p) : spH (withS h p x) q = spH h q := by
 show setS h.s p x q.toNat = h.s q.toNat
 unfold setS; rw [if_neg (by omega)]
theorem zqx (hw : h.wf) {p : Int} {x : Sp} (hx : x.wf) : (withS h p x).wf := by
 refine ⟨hw.1, fun i hi => ?_⟩
 show (setS h.s p x i).wf
 unfold setS; split
 ·exact hx
 ·exact hw.2 i hi
theorem zo6 {h g : Hp} (hm : g.m = h.m) (hs : 0 ≤ a / 32 → spH g (a / 32) = spH h (a / 32)) : usedB g a = usedB h a := by
 unfold usedB fiB
 by_cases h0 : 0 ≤ a
 ·rw [hs (by omega), hm]
 ·rw [show inI (32 * g.m) a = false from zgg (by omega), show inI (32 * h.m) a = false from zgg (by omega)]
  rfl
theorem zqu (e : (spH h (a / 32)).st = 0) : usedB h a = false := by simp [usedB, fiB, e]
theorem zw5 {c : Bool} {k n : Int} (h : hmayB true c k n = true) : 0 ≤ hputW true c k n ∧ hputW true c k n < 256 := by
 rw [zdl h]
 have := zd3 h
 split <;> omega
theorem zso (h : 0 ≤ a) (h' : a < 18446744073709551616) : (Lit.int .u64 a).wf = true := by
 simp [Lit.wf, IntKind.min, IntKind.max, IntKind.signed, IntKind.bits]; omega
theorem zws (hw : h.wf) (a : Int) : (frH h a).wf := by
 unfold frH
 split
 ·rename_i e
  simp only [frB, fiB, Bool.and_eq_true] at e
  obtain ⟨a0, a1⟩ := zqs e.1.1
  have hs := hw.2 (a / 32).toNat (by omega)
  have hx : (⟨(spH h (a / 32)).st, (spH h (a / 32)).cl, withW (spH h (a / 32)).fr (plI (spH h (a / 32)).cl a)⟩ : Sp).wf := ⟨hs.1, hs.2.1, zfd hs.2.2⟩
  refine ⟨fun i hi => ?_, (zqx hw (p := a / 32) hx).2⟩
  show (Lit.int .u64 (zerZ h.z _ _ i)).wf = true
  unfold zerZ
  split
  ·decide
  ·exact hw.1 i hi
 ·exact hw
theorem zgi {p i : Int} (hf : formB h = true) (e : fiB h a = true) (ep : a / 32 = p) (ei : plI (spH h (a / 32)).cl a = i) : a = 32 * p + i * szW (spH h p).cl := by
 obtain ⟨-, -, -, -, -, -, -, e1⟩ := zbd hf e
 rw [ei, ep] at e1
 exact e1.symm
def newH (n : Nat) : Hp := ⟨32 * n, fun _ => 0, n, fun _ => ⟨0, 0, 0⟩, false⟩
theorem znc (h1 : 1 ≤ n) (h2 : n ≤ 16) : formB (newH n) = true := zad.2 ⟨h1, h2, rfl, fun _ _ => by show rightB 0 0 0 = true; decide⟩
theorem zqw : (⟨0, 0, 0⟩ : Sp).wf := ⟨⟨by decide, by decide⟩, ⟨by decide, by decide⟩, ⟨by decide, by decide⟩⟩
theorem zlf (n : Nat) : (newH n).wf := ⟨fun _ _ => by show (Lit.int .u64 0).wf = true; decide, fun _ _ => zqw⟩
theorem zrs : ∀ k : Nat, usT (fun _ => ⟨0, 0, 0⟩) k = 0
 | 0 => rfl
 | k + 1 => by simp only [usT]; rw [zrs k]; simp [usS, usedN, useB]
theorem Laid.new (h1 : 1 ≤ n) (h2 : n ≤ 16) : Laid (newH n) [] where
 form := znc h1 h2
 wf := zlf n
 all := fun a => by rw [zqu (h := newH n) rfl]; simp
 nodup := by simp
 size := fun x hx => by simp at hx
 head := fun x hx => by simp at hx
 tail := fun x hx => by simp at hx
 rest := fun _ _ _ => rfl
 sum := zrs n
end Go.Proofs.YtkehankfnkjnlaaGreatDoor
