/- Headers as words: what chapter 2 says of them, plain lemmas. -/
import Derived.Test.YtonjnedlnfdanaaDoorBase
import Derived.Lib.EndianBits
import Derived.Test.YtonjnedlnfdanaaDoorProg
namespace Go.Proofs.YtonjnedlnfdanaaDoor
set_option linter.unusedSimpArgs false
set_option linter.unusedVariables false
open Go.ChangeShapes Go.WideShapes Go.ChangeAt Go.RowKit

def fldV (k : Int) : Int := if k = 0 then 1 else if k = 1 then 3 else if k = 2 then 7 else 15
def hmayB (u c : Bool) (k n : Int) : Bool := if u = true then decide (0 ≤ k) && decide (k < 4) && decide (0 ≤ n) && decide (n ≤ fldV k) else !c && (k == 0) && (n == 0)
def hputW (u c : Bool) (k n : Int) : Int := if hmayB u c k n = true then (if u = true then 128 + (if c = true then 64 else 0) + 16 * k + n else 0) else 0
def gU (x : Int) : Bool := decide (128 ≤ x) && decide (x < 256) && decide (x % 16 ≤ fldV (x / 16 % 4))
def gC (x : Int) : Bool := gU x && decide (x / 64 % 2 = 1)
def gK (x : Int) : Int := if gU x = true then x / 16 % 4 else 0
def gN (x : Int) : Int := if gU x = true then x % 16 else 0

theorem fldV_le (k n : Int) (h0 : 0 ≤ k) (h1 : k < 4) (h : n ≤ fldV k) : (k = 0 ∧ n ≤ 1) ∨ (k = 1 ∧ n ≤ 3) ∨ (k = 2 ∧ n ≤ 7) ∨ (k = 3 ∧ n ≤ 15) := by
  obtain rfl | rfl | rfl | rfl : k = 0 ∨ k = 1 ∨ k = 2 ∨ k = 3 := by omega
  all_goals simp [fldV] at h ⊢; omega
theorem hmay_cases {c : Bool} {k n : Int} (h : hmayB true c k n = true) : (k = 0 ∧ 0 ≤ n ∧ n ≤ 1) ∨ (k = 1 ∧ 0 ≤ n ∧ n ≤ 3) ∨ (k = 2 ∧ 0 ≤ n ∧ n ≤ 7) ∨ (k = 3 ∧ 0 ≤ n ∧ n ≤ 15) := by
  simp [hmayB] at h
  have := fldV_le k n (by omega) (by omega) h.2
  omega
theorem hmay_un {c : Bool} {k n : Int} (h : hmayB false c k n = true) : c = false ∧ k = 0 ∧ n = 0 := by
  simp [hmayB] at h
  exact ⟨h.1.1, h.1.2, h.2⟩

theorem hputW_yes {c : Bool} {k n : Int} (h : hmayB true c k n = true) : hputW true c k n = 128 + (if c = true then 64 else 0) + 16 * k + n := by
  simp [hputW, h]

theorem hputW_no {u c : Bool} {k n : Int} (h : hmayB u c k n = false) : hputW u c k n = 0 := by simp [hputW, h]
theorem hputW_un (c : Bool) (k n : Int) : hputW false c k n = 0 := by simp [hputW]

theorem raw_yes (x : Int) (h : gU x = true) : 128 ≤ x ∧ x < 256 ∧ x / 128 % 2 = 1 ∧ hmayB true (decide (x / 64 % 2 = 1)) (x / 16 % 4) (x % 16) = true ∧ hputW true (decide (x / 64 % 2 = 1)) (x / 16 % 4) (x % 16) = x := by
  simp [gU] at h
  have hm : hmayB true (decide (x / 64 % 2 = 1)) (x / 16 % 4) (x % 16) = true := by simp [hmayB, h]; omega
  refine ⟨by omega, by omega, by omega, hm, ?_⟩
  rw [hputW_yes hm]
  simp only [decide_eq_true_eq]
  split <;> omega
/-- What a test tells of a header that may be: it is x's just if it is what x says. -/
theorem raw_of (x : Int) (c : Bool) (k n : Int) (h : hmayB true c k n = true) (hp : hputW true c k n = x) : gU x = true ∧ c = decide (x / 64 % 2 = 1) ∧ k = x / 16 % 4 ∧ n = x % 16 := by
  rw [hputW_yes h] at hp
  have hk := hmay_cases h
  simp [hmayB] at h
  have e1 : x / 16 % 4 = k := by subst hp; split <;> omega
  have e2 : x % 16 = n := by subst hp; split <;> omega
  refine ⟨?_, ?_, e1.symm, e2.symm⟩
  · simp [gU, e1, e2, h]; subst hp; split <;> omega
  · cases c <;> simp at hp ⊢ <;> omega
end Go.Proofs.YtonjnedlnfdanaaDoor
/-! Contracts of header.May, header.Put, header.Get and of the reference's May, Put, Get, for every header and word. -/
namespace Go.Proofs.YtonjnedlnfdanaaDoor
set_option linter.unusedSimpArgs false
set_option linter.unusedVariables false
open Go.ChangeShapes Go.WideShapes Go.ChangeAt Go.RowKit

theorem fields_any (k : Int) (w : World) (h0 : 0 ≤ k) (h1 : k < 4) :
    Calls Tryd.prog 50 #[.int .i64 k] w fun e w' => e = .returned (.int .i64 (fldV k)) ∧ Below w.heap.size w w' := by
  obtain rfl | rfl | rfl | rfl : k = 0 ∨ k = 1 ∨ k = 2 ∨ k = 3 := by omega
  all_goals
    go_enter Tryd.func50, Tryd.ntmps50
    go_wp2
    go_returns
    exact ⟨ret_int (by simp [fldV]), by go_grown⟩

set_option maxHeartbeats 400000 in
theorem hmay_un_any (c : Bool) (k n : Int) (w : World) :
    Calls Tryd.prog 49 #[.agg #[.bool false, .bool c, .int .i64 k, .int .i64 n]] w fun e w' => e = .returned (.bool (hmayB false c k n)) ∧ Below w.heap.size w w' := by
  go_enter Tryd.func49, Tryd.ntmps49
  go_wp2
  all_goals
    go_returns
    exact ⟨ret_bool (by simp [hmayB]; simp_all), by go_grown⟩

set_option maxHeartbeats 400000 in
theorem hmay_us_any (c : Bool) (k n : Int) (w : World) :
    Calls Tryd.prog 49 #[.agg #[.bool true, .bool c, .int .i64 k, .int .i64 n]] w fun e w' => e = .returned (.bool (hmayB true c k n)) ∧ Below w.heap.size w w' := by
  by_cases hk : 0 ≤ k ∧ k < 4
  · obtain ⟨hk0, hk1⟩ := hk
    have hf := fldV_le k
    by_cases hn : 0 ≤ n
    · go_enter Tryd.func49, Tryd.ntmps49
      go_wp2
      refine wp_region_plus (by kernel_rfl) (by kernel_rfl) fun hpc => ?_
      repeat (first | go_big_quiet_step ((first | (go_at_call 50; exact quiet_plus (fields_any _ _ (by omega) (by omega))))) | quiet_step ((first | (go_at_call 50; exact quiet_plus (fields_any _ _ (by omega) (by omega))))))
      refine wpQuiet_nil ?_
      intro w' hbq
      clear hpc
      obtain ⟨hc, hf, hb, hz⟩ := bstep hbq (w := w) (by go_grown)
      try simp only [World.size_alloc, World.size_setCell, World.size_drew] at hc hf hz
      go_wp2
      all_goals
        go_returns
        exact ⟨ret_bool (by simp_all [hmayB]), by go_grown⟩
    · have hd : decide (n ≥ 0) = false := by simpa using hn
      have hd' : decide (0 ≤ n) = false := by simpa using hn
      go_enter Tryd.func49, Tryd.ntmps49
      go_wp2
      refine wp_region_plus (by kernel_rfl) (by kernel_rfl) fun hpc => ?_
      repeat (first | go_big_quiet_step ((first | (go_at_call 50; exact quiet_plus (fields_any _ _ (by omega) (by omega))))) | quiet_step ((first | (go_at_call 50; exact quiet_plus (fields_any _ _ (by omega) (by omega))))))
      refine wpQuiet_nil ?_
      intro w' hbq
      clear hpc
      obtain ⟨hc, hf, hb, hz⟩ := bstep hbq (w := w) (by go_grown)
      try simp only [World.size_alloc, World.size_setCell, World.size_drew] at hc hf hz
      go_wp2
      all_goals
        go_returns
        exact ⟨ret_bool (by simp_all [hmayB]; try omega), by go_grown⟩
  · go_enter Tryd.func49, Tryd.ntmps49
    go_wp2
    all_goals
      go_returns
      exact ⟨ret_bool (by simp [hmayB]; omega), by go_grown⟩

theorem hmay_any (u c : Bool) (k n : Int) (w : World) :
    Calls Tryd.prog 49 #[.agg #[.bool u, .bool c, .int .i64 k, .int .i64 n]] w fun e w' => e = .returned (.bool (hmayB u c k n)) ∧ Below w.heap.size w w' := by
  cases u
  · exact hmay_un_any c k n w
  · exact hmay_us_any c k n w

set_option maxHeartbeats 400000 in
theorem hput_no (u c : Bool) (k n : Int) (w : World) (h : hmayB u c k n = false) :
    Calls Tryd.prog 47 #[.agg #[.bool u, .bool c, .int .i64 k, .int .i64 n]] w fun e w' => e = .returned (.tuple #[.int .u64 0, .bool false]) ∧ Below w.heap.size w w' := by
  go_enter Tryd.func47, Tryd.ntmps47
  go_wp2_with (first
    | (go_at_call 49; refine Calls.mono (hmay_any _ _ _ _ _) ?_; rintro e w' ⟨rfl, hb⟩; obtain ⟨hc, hf, hb, hz⟩ := bstep hb (w := w) (by go_grown); try simp only [World.size_alloc, World.size_setCell, World.size_drew] at hc hf hz)
    )
  all_goals
    go_returns
    exact ⟨rfl, by go_grown⟩

set_option maxHeartbeats 400000 in
theorem hput_un (w : World) :
    Calls Tryd.prog 47 #[.agg #[.bool false, .bool false, .int .i64 0, .int .i64 0]] w fun e w' => e = .returned (.tuple #[.int .u64 0, .bool true]) ∧ Below w.heap.size w w' := by
  have h : hmayB false false 0 0 = true := rfl
  go_enter Tryd.func47, Tryd.ntmps47
  go_wp2_with (first
    | (go_at_call 49; refine Calls.mono (hmay_any _ _ _ _ _) ?_; rintro e w' ⟨rfl, hb⟩; obtain ⟨hc, hf, hb, hz⟩ := bstep hb (w := w) (by go_grown); try simp only [World.size_alloc, World.size_setCell, World.size_drew] at hc hf hz)
    )
  all_goals
    go_returns
    exact ⟨rfl, by go_grown⟩

theorem or_hdr (k n : Int) (k0 : 0 ≤ k) (k1 : k < 4) (n0 : 0 ≤ n) (n1 : n < 16) :
    bits BinOp.or IntKind.u64 (bits BinOp.or IntKind.u64 128 (k * 16)) n = 128 + 16 * k + n ∧ bits BinOp.or IntKind.u64 (128 + 16 * k + n) 64 = 192 + 16 * k + n := by
  have key : ∀ (i : Fin 4) (j : Fin 16), bits BinOp.or IntKind.u64 (bits BinOp.or IntKind.u64 128 ((i.val : Int) * 16)) (j.val : Int) = 128 + 16 * (i.val : Int) + (j.val : Int) ∧
      bits BinOp.or IntKind.u64 (128 + 16 * (i.val : Int) + (j.val : Int)) 64 = 192 + 16 * (i.val : Int) + (j.val : Int) := by decide +kernel
  have h := key ⟨k.toNat, by omega⟩ ⟨n.toNat, by omega⟩
  have a : ((k.toNat : Nat) : Int) = k := by omega
  have b : ((n.toNat : Nat) : Int) = n := by omega
  simp only [a, b] at h
  exact h

set_option maxHeartbeats 400000 in
theorem hput_us (c : Bool) (k n : Int) (w : World) (h : hmayB true c k n = true) :
    Calls Tryd.prog 47 #[.agg #[.bool true, .bool c, .int .i64 k, .int .i64 n]] w fun e w' => e = .returned (.tuple #[.int .u64 (hputW true c k n), .bool true]) ∧ Below w.heap.size w w' := by
  have hk : 0 ≤ k ∧ k < 4 ∧ 0 ≤ n ∧ n < 16 := by have := hmay_cases h; omega
  obtain ⟨k0, k1, n0, n1⟩ := hk
  have hw := hputW_yes h
  have hor := or_hdr k n k0 k1 n0 n1
  cases c
  all_goals
    go_enter Tryd.func47, Tryd.ntmps47
    go_wp2_with (first
    | (go_at_call 49; refine Calls.mono (hmay_any _ _ _ _ _) ?_; rintro e w' ⟨rfl, hb⟩; obtain ⟨hc, hf, hb, hz⟩ := bstep hb (w := w) (by go_grown); try simp only [World.size_alloc, World.size_setCell, World.size_drew] at hc hf hz)
    )
    go_returns
    exact ⟨ret_int_bool (by simp [hw, hor]; try omega) rfl, by go_grown⟩

theorem hput_any (u c : Bool) (k n : Int) (w : World) :
    Calls Tryd.prog 47 #[.agg #[.bool u, .bool c, .int .i64 k, .int .i64 n]] w fun e w' => e = .returned (.tuple #[.int .u64 (hputW u c k n), .bool (hmayB u c k n)]) ∧ Below w.heap.size w w' := by
  cases h : hmayB u c k n with
  | false => exact (hput_no u c k n w h).mono fun e w' ⟨he, hb⟩ => ⟨by rw [he, hputW_no h], hb⟩
  | true =>
    cases u with
    | false =>
      obtain ⟨rfl, rfl, rfl⟩ := hmay_un h
      exact (hput_un w).mono fun e w' ⟨he, hb⟩ => ⟨by rw [he]; rfl, hb⟩
    | true => exact hput_us c k n w h

def partV (x f : Int) : Int := if f = 7 then x / 128 % 2 else if f = 6 then x / 64 % 2 else if f = 4 then x / 16 % 4 else x % 16
theorem part_any (x f t : Int) (w : World) (h0 : 0 ≤ x) (h1 : x < 18446744073709551616) (hft : f = 7 ∧ t = 8 ∨ f = 6 ∧ t = 7 ∨ f = 4 ∧ t = 6 ∨ f = 0 ∧ t = 4) :
    Calls Tryd.prog 46 #[.int .u64 x, .int .i64 f, .int .i64 t] w fun e w' => e = .returned (.int .i64 (partV x f)) ∧ Below w.heap.size w w' := by
  obtain ⟨rfl, rfl⟩ | ⟨rfl, rfl⟩ | ⟨rfl, rfl⟩ | ⟨rfl, rfl⟩ := hft
  · have hm : bits BinOp.and IntKind.u64 (x / 128) 1 = x / 128 % 2 := bits_mask .u64 64 (by decide) wraps_u64 1 (by decide) (x / 128) (by omega) (by omega)
    have hr : wrap64 (x / 128 % 2) = x / 128 % 2 := by unfold wrap64; omega
    go_enter Tryd.func46, Tryd.ntmps46
    go_wp2
    refine wp_region_plus (by kernel_rfl) (by kernel_rfl) fun hpc => ?_
    repeat (first | go_big_quiet_step (fail) | quiet_step (fail))
    refine wpQuiet_nil ?_
    intro w' hbq
    clear hpc
    obtain ⟨hc, hf, hb, hz⟩ := bstep hbq (w := w) (by go_grown)
    try simp only [World.size_alloc, World.size_setCell, World.size_drew] at hc hf hz
    go_wp2
    go_returns
    exact ⟨ret_int (by simp [hm, hr, partV]), by go_grown⟩
  · have hm : bits BinOp.and IntKind.u64 (x / 64) 1 = x / 64 % 2 := bits_mask .u64 64 (by decide) wraps_u64 1 (by decide) (x / 64) (by omega) (by omega)
    have hr : wrap64 (x / 64 % 2) = x / 64 % 2 := by unfold wrap64; omega
    go_enter Tryd.func46, Tryd.ntmps46
    go_wp2
    refine wp_region_plus (by kernel_rfl) (by kernel_rfl) fun hpc => ?_
    repeat (first | go_big_quiet_step (fail) | quiet_step (fail))
    refine wpQuiet_nil ?_
    intro w' hbq
    clear hpc
    obtain ⟨hc, hf, hb, hz⟩ := bstep hbq (w := w) (by go_grown)
    try simp only [World.size_alloc, World.size_setCell, World.size_drew] at hc hf hz
    go_wp2
    go_returns
    exact ⟨ret_int (by simp [hm, hr, partV]), by go_grown⟩
  · have hm : bits BinOp.and IntKind.u64 (x / 16) 3 = x / 16 % 4 := bits_mask .u64 64 (by decide) wraps_u64 2 (by decide) (x / 16) (by omega) (by omega)
    have hr : wrap64 (x / 16 % 4) = x / 16 % 4 := by unfold wrap64; omega
    go_enter Tryd.func46, Tryd.ntmps46
    go_wp2
    refine wp_region_plus (by kernel_rfl) (by kernel_rfl) fun hpc => ?_
    repeat (first | go_big_quiet_step (fail) | quiet_step (fail))
    refine wpQuiet_nil ?_
    intro w' hbq
    clear hpc
    obtain ⟨hc, hf, hb, hz⟩ := bstep hbq (w := w) (by go_grown)
    try simp only [World.size_alloc, World.size_setCell, World.size_drew] at hc hf hz
    go_wp2
    go_returns
    exact ⟨ret_int (by simp [hm, hr, partV]), by go_grown⟩
  · have hm : bits BinOp.and IntKind.u64 (x) 15 = x % 16 := bits_mask .u64 64 (by decide) wraps_u64 4 (by decide) (x) (by omega) (by omega)
    have hr : wrap64 (x % 16) = x % 16 := by unfold wrap64; omega
    go_enter Tryd.func46, Tryd.ntmps46
    go_wp2
    refine wp_region_plus (by kernel_rfl) (by kernel_rfl) fun hpc => ?_
    repeat (first | go_big_quiet_step (fail) | quiet_step (fail))
    refine wpQuiet_nil ?_
    intro w' hbq
    clear hpc
    obtain ⟨hc, hf, hb, hz⟩ := bstep hbq (w := w) (by go_grown)
    try simp only [World.size_alloc, World.size_setCell, World.size_drew] at hc hf hz
    go_wp2
    go_returns
    exact ⟨ret_int (by simp [hm, hr, partV]), by go_grown⟩

def bV (u : Bool) : Int := if u = true then 1 else 0
set_option maxHeartbeats 1000000 in
theorem hget_yes (x : Int) (u c : Bool) (k n : Int) (w : World) (h0 : 0 ≤ x) (h1 : x < 18446744073709551616)
    (h7 : partV x 7 = bV u) (h6 : partV x 6 = bV c) (h4 : partV x 4 = k) (h3 : partV x 0 = n) (hm : hmayB u c k n = true) (hp : hputW u c k n = x) :
    Calls Tryd.prog 44 #[.int .u64 x] w fun e w' => e = .returned (.tuple #[.agg #[.bool u, .bool c, .int .i64 k, .int .i64 n], .bool true]) ∧ Below w.heap.size w w' := by
  cases u <;> cases c
  all_goals
    simp only [bV] at h7 h6
    go_enter Tryd.func44, Tryd.ntmps44
    go_wp2_with (first
    | (go_at_call 46; refine Calls.mono (part_any _ _ _ _ (by omega) (by omega) (by decide)) ?_; rintro e w' ⟨rfl, hb⟩; obtain ⟨hc, hf, hb, hz⟩ := bstep hb (w := w) (by go_grown); try simp only [World.size_alloc, World.size_setCell, World.size_drew] at hc hf hz)
    | (go_at_call 47; refine Calls.mono (hput_any _ _ _ _ _) ?_; rintro e w' ⟨rfl, hb⟩; obtain ⟨hc, hf, hb, hz⟩ := bstep hb (w := w) (by go_grown); try simp only [World.size_alloc, World.size_setCell, World.size_drew] at hc hf hz)
    )
    refine bodyPost_ret (by simp [results, Tryd.results44, go_sem, *]; try rfl) rfl ?_
    exact ⟨rfl, by go_grown⟩

set_option maxHeartbeats 1000000 in
theorem hget_no (x : Int) (u c : Bool) (k n : Int) (w : World) (h0 : 0 ≤ x) (h1 : x < 18446744073709551616)
    (h7 : partV x 7 = bV u) (h6 : partV x 6 = bV c) (h4 : partV x 4 = k) (h3 : partV x 0 = n) (hm : hmayB u c k n = false ∨ hmayB u c k n = true ∧ ¬ hputW u c k n = x) :
    Calls Tryd.prog 44 #[.int .u64 x] w fun e w' => e = .returned (.tuple #[.agg #[.bool false, .bool false, .int .i64 0, .int .i64 0], .bool false]) ∧ Below w.heap.size w w' := by
  rcases hm with hm | ⟨hm, hp⟩
  all_goals cases u <;> cases c
  all_goals
    simp only [bV] at h7 h6
    go_enter Tryd.func44, Tryd.ntmps44
    go_wp2_with (first
    | (go_at_call 46; refine Calls.mono (part_any _ _ _ _ (by omega) (by omega) (by decide)) ?_; rintro e w' ⟨rfl, hb⟩; obtain ⟨hc, hf, hb, hz⟩ := bstep hb (w := w) (by go_grown); try simp only [World.size_alloc, World.size_setCell, World.size_drew] at hc hf hz)
    | (go_at_call 47; refine Calls.mono (hput_any _ _ _ _ _) ?_; rintro e w' ⟨rfl, hb⟩; obtain ⟨hc, hf, hb, hz⟩ := bstep hb (w := w) (by go_grown); try simp only [World.size_alloc, World.size_setCell, World.size_drew] at hc hf hz)
    )
    all_goals
      refine bodyPost_ret (by simp [results, Tryd.results44, go_sem, *]; try rfl) rfl ?_
      exact ⟨rfl, by go_grown⟩

theorem hget_any (x : Int) (w : World) (h0 : 0 ≤ x) (h1 : x < 18446744073709551616) :
    Calls Tryd.prog 44 #[.int .u64 x] w fun e w' => e = .returned (.tuple #[.agg #[.bool (gU x), .bool (gC x), .int .i64 (gK x), .int .i64 (gN x)], .bool (gU x || x == 0)]) ∧ Below w.heap.size w w' := by
  have b7 : partV x 7 = bV (decide (x / 128 % 2 = 1)) := by simp [partV, bV]; split <;> omega
  have b6 : partV x 6 = bV (decide (x / 64 % 2 = 1)) := by simp [partV, bV]; split <;> omega
  have b4 : partV x 4 = x / 16 % 4 := rfl
  have b3 : partV x 0 = x % 16 := rfl
  cases hg : gU x with
  | true =>
    obtain ⟨g0, g1, g2, hm, hp⟩ := raw_yes x hg
    rw [show decide (x / 128 % 2 = 1) = true by simp [g2]] at b7
    refine (hget_yes x _ _ _ _ w h0 h1 b7 b6 b4 b3 hm hp).mono fun e w' ⟨he, hb⟩ => ⟨?_, hb⟩
    rw [he]
    simp [gC, gK, gN, hg]
  | false =>
    by_cases hx : x = 0
    · subst hx
      exact (hget_yes 0 false false 0 0 w h0 h1 rfl rfl rfl rfl rfl rfl).mono fun e w' ⟨he, hb⟩ => ⟨by rw [he]; rfl, hb⟩
    · refine (hget_no x _ _ _ _ w h0 h1 b7 b6 b4 b3 ?_).mono fun e w' ⟨he, hb⟩ => ⟨by rw [he]; simp [gC, gK, gN, hg, hx], hb⟩
      cases hm : hmayB (decide (x / 128 % 2 = 1)) (decide (x / 64 % 2 = 1)) (x / 16 % 4) (x % 16) with
      | false => exact .inl rfl
      | true =>
        refine .inr ⟨rfl, fun hp => ?_⟩
        by_cases h7 : x / 128 % 2 = 1
        · simp only [h7, decide_true] at hm hp
          have := (raw_of x _ _ _ hm hp).1
          simp [hg] at this
        · simp only [h7, decide_false, hputW_un] at hp
          omega

end Go.Proofs.YtonjnedlnfdanaaDoor
