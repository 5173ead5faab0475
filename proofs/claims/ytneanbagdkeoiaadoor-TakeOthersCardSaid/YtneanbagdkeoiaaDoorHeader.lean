/- Headers as words: what chapter 2 says of them, plain lemmas. -/
import Derived.Test.YtneanbagdkeoiaaDoorBase
import Derived.Lib.EndianBits
import Derived.Test.YtneanbagdkeoiaaDoorProg
namespace Go.Proofs.YtneanbagdkeoiaaDoor
set_option linter.unusedSimpArgs false
set_option linter.unusedVariables false
open Go.ChangeShapes Go.WideShapes Go.ChangeAt Go.RowKit

def fldV (k : Int) : Int := if k = 0 then 1 else if k = 1 then 3 else if k = 2 then 7 else 15
def hmayB (u c : Bool) (k n : Int) : Bool := if u = true then decide (0 ≤ k) && decide (k < 4) && decide (0 ≤ n) && decide (n ≤ fldV k) else !c && (k == 0) && (n == 0)
def hputW (u c : Bool) (k n : Int) : Int := if hmayB u c k n = true then (if u = true then 128 + (if c = true then 64 else 0) + 16 * k + n else 0) else 0
def gU (x : Int) : Bool := decide (128 ≤ x) && decide (x < 256) && decide (x % 16 ≤ fldV (x / 16 % 4))
def gC (x : Int) : Bool := gU x && decide (x / 64 % 2 = 1)
def gK (x : Int) : Int := if gU x = true then x / 16 % 4 else 0
def gN (x : Int) : Int := if gU x = true then x % 16 else 0

theorem fldV_le (k n : Int) (h0 : 0 ≤ k) (h1 : k < 4) (h : n ≤ fldV k) : (k = 0 ∧ n ≤ 1) ∨ (k = 1 ∧ n ≤ 3) ∨ (k = 2 ∧ n ≤ 7) ∨ (k = 3 ∧ n ≤ 15) := by
  obtain rfl | rfl | rfl | rfl : k = 0 ∨ k = 1 ∨ k = 2 ∨ k = 3 := by omega
  all_goals simp [fldV] at h ⊢; omega
theorem hmay_cases {c : Bool} {k n : Int} (h : hmayB true c k n = true) : (k = 0 ∧ 0 ≤ n ∧ n ≤ 1) ∨ (k = 1 ∧ 0 ≤ n ∧ n ≤ 3) ∨ (k = 2 ∧ 0 ≤ n ∧ n ≤ 7) ∨ (k = 3 ∧ 0 ≤ n ∧ n ≤ 15) := by
  simp [hmayB] at h
  have := fldV_le k n (by omega) (by omega) h.2
  omega
theorem hmay_un {c : Bool} {k n : Int} (h : hmayB false c k n = true) : c = false ∧ k = 0 ∧ n = 0 := by
  simp [hmayB] at h
  exact ⟨h.1.1, h.1.2, h.2⟩

theorem hputW_yes {c : Bool} {k n : Int} (h : hmayB true c k n = true) : hputW true c k n = 128 + (if c = true then 64 else 0) + 16 * k + n := by
  simp [hputW, h]

theorem hputW_no {u c : Bool} {k n : Int} (h : hmayB u c k n = false) : hputW u c k n = 0 := by simp [hputW, h]
theorem hputW_un (c : Bool) (k n : Int) : hputW false c k n = 0 := by simp [hputW]

theorem raw_yes (x : Int) (h : gU x = true) : 128 ≤ x ∧ x < 256 ∧ x / 128 % 2 = 1 ∧ hmayB true (decide (x / 64 % 2 = 1)) (x / 16 % 4) (x % 16) = true ∧ hputW true (decide (x / 64 % 2 = 1)) (x / 16 % 4) (x % 16) = x := by
  simp [gU] at h
  have hm : hmayB true (decide (x / 64 % 2 = 1)) (x / 16 % 4) (x % 16) = true := by simp [hmayB, h]; omega
  refine ⟨by omega, by omega, by omega, hm, ?_⟩
  rw [hputW_yes hm]
  simp only [decide_eq_true_eq]
  split <;> omega
/-- What a test tells of a header that may be: it is x's just if it is what x says. -/
theorem raw_of (x : Int) (c : Bool) (k n : Int) (h : hmayB true c k n = true) (hp : hputW true c k n = x) : gU x = true ∧ c = decide (x / 64 % 2 = 1) ∧ k = x / 16 % 4 ∧ n = x % 16 := by
  rw [hputW_yes h] at hp
  have hk := hmay_cases h
  simp [hmayB] at h
  have e1 : x / 16 % 4 = k := by subst hp; split <;> omega
  have e2 : x % 16 = n := by subst hp; split <;> omega
  refine ⟨?_, ?_, e1.symm, e2.symm⟩
  · simp [gU, e1, e2, h]; subst hp; split <;> omega
  · cases c <;> simp at hp ⊢ <;> omega
end Go.Proofs.YtneanbagdkeoiaaDoor
/-! Contracts of header.May, header.Put, header.Get and of the reference's May, Put, Get, for every header and word. -/
namespace Go.Proofs.YtneanbagdkeoiaaDoor
set_option linter.unusedSimpArgs false
set_option linter.unusedVariables false
open Go.ChangeShapes Go.WideShapes Go.ChangeAt Go.RowKit

theorem fields_any (k : Int) (w : World) (h0 : 0 ≤ k) (h1 : k < 4) :
    Calls Tryd.prog 91 #[.int .i64 k] w fun e w' => e = .returned (.int .i64 (fldV k)) ∧ Below w.heap.size w w' := by
  obtain rfl | rfl | rfl | rfl : k = 0 ∨ k = 1 ∨ k = 2 ∨ k = 3 := by omega
  all_goals
    go_enter Tryd.func91, Tryd.ntmps91
    go_wp2
    go_returns
    exact ⟨ret_int (by simp [fldV]), by go_grown⟩

set_option maxHeartbeats 400000 in
theorem hmay_un_any (c : Bool) (k n : Int) (w : World) :
    Calls Tryd.prog 81 #[.agg #[.bool false, .bool c, .int .i64 k, .int .i64 n]] w fun e w' => e = .returned (.bool (hmayB false c k n)) ∧ Below w.heap.size w w' := by
  go_enter Tryd.func81, Tryd.ntmps81
  go_wp2
  all_goals
    go_returns
    exact ⟨ret_bool (by simp [hmayB]; simp_all), by go_grown⟩

set_option maxHeartbeats 400000 in
theorem hmay_us_any (c : Bool) (k n : Int) (w : World) :
    Calls Tryd.prog 81 #[.agg #[.bool true, .bool c, .int .i64 k, .int .i64 n]] w fun e w' => e = .returned (.bool (hmayB true c k n)) ∧ Below w.heap.size w w' := by
  by_cases hk : 0 ≤ k ∧ k < 4
  · obtain ⟨hk0, hk1⟩ := hk
    have hf := fldV_le k
    by_cases hn : 0 ≤ n
    · go_enter Tryd.func81, Tryd.ntmps81
      go_wp2
      refine wp_region_plus (by kernel_rfl) (by kernel_rfl) fun hpc => ?_
      repeat (first | go_big_quiet_step ((first | (go_at_call 91; exact quiet_plus (fields_any _ _ (by omega) (by omega))))) | quiet_step ((first | (go_at_call 91; exact quiet_plus (fields_any _ _ (by omega) (by omega))))))
      refine wpQuiet_nil ?_
      intro w' hbq
      clear hpc
      obtain ⟨hc, hf, hb, hz⟩ := bstep hbq (w := w) (by go_grown)
      try simp only [World.size_alloc, World.size_setCell, World.size_drew] at hc hf hz
      go_wp2
      all_goals
        go_returns
        exact ⟨ret_bool (by simp_all [hmayB]), by go_grown⟩
    · have hd : decide (n ≥ 0) = false := by simpa using hn
      have hd' : decide (0 ≤ n) = false := by simpa using hn
      go_enter Tryd.func81, Tryd.ntmps81
      go_wp2
      refine wp_region_plus (by kernel_rfl) (by kernel_rfl) fun hpc => ?_
      repeat (first | go_big_quiet_step ((first | (go_at_call 91; exact quiet_plus (fields_any _ _ (by omega) (by omega))))) | quiet_step ((first | (go_at_call 91; exact quiet_plus (fields_any _ _ (by omega) (by omega))))))
      refine wpQuiet_nil ?_
      intro w' hbq
      clear hpc
      obtain ⟨hc, hf, hb, hz⟩ := bstep hbq (w := w) (by go_grown)
      try simp only [World.size_alloc, World.size_setCell, World.size_drew] at hc hf hz
      go_wp2
      all_goals
        go_returns
        exact ⟨ret_bool (by simp_all [hmayB]; try omega), by go_grown⟩
  · go_enter Tryd.func81, Tryd.ntmps81
    go_wp2
    all_goals
      go_returns
      exact ⟨ret_bool (by simp [hmayB]; omega), by go_grown⟩

theorem hmay_any (u c : Bool) (k n : Int) (w : World) :
    Calls Tryd.prog 81 #[.agg #[.bool u, .bool c, .int .i64 k, .int .i64 n]] w fun e w' => e = .returned (.bool (hmayB u c k n)) ∧ Below w.heap.size w w' := by
  cases u
  · exact hmay_un_any c k n w
  · exact hmay_us_any c k n w

set_option maxHeartbeats 400000 in
theorem hput_no (u c : Bool) (k n : Int) (w : World) (h : hmayB u c k n = false) :
    Calls Tryd.prog 62 #[.agg #[.bool u, .bool c, .int .i64 k, .int .i64 n]] w fun e w' => e = .returned (.tuple #[.int .u64 0, .bool false]) ∧ Below w.heap.size w w' := by
  go_enter Tryd.func62, Tryd.ntmps62
  go_wp2_with (first
    | (go_at_call 81; refine Calls.mono (hmay_any _ _ _ _ _) ?_; rintro e w' ⟨rfl, hb⟩; obtain ⟨hc, hf, hb, hz⟩ := bstep hb (w := w) (by go_grown); try simp only [World.size_alloc, World.size_setCell, World.size_drew] at hc hf hz)
    )
  all_goals
    go_returns
    exact ⟨rfl, by go_grown⟩

set_option maxHeartbeats 400000 in
theorem hput_un (w : World) :
    Calls Tryd.prog 62 #[.agg #[.bool false, .bool false, .int .i64 0, .int .i64 0]] w fun e w' => e = .returned (.tuple #[.int .u64 0, .bool true]) ∧ Below w.heap.size w w' := by
  have h : hmayB false false 0 0 = true := rfl
  go_enter Tryd.func62, Tryd.ntmps62
  go_wp2_with (first
    | (go_at_call 81; refine Calls.mono (hmay_any _ _ _ _ _) ?_; rintro e w' ⟨rfl, hb⟩; obtain ⟨hc, hf, hb, hz⟩ := bstep hb (w := w) (by go_grown); try simp only [World.size_alloc, World.size_setCell, World.size_drew] at hc hf hz)
    )
  all_goals
    go_returns
    exact ⟨rfl, by go_grown⟩

theorem or_hdr (k n : Int) (k0 : 0 ≤ k) (k1 : k < 4) (n0 : 0 ≤ n) (n1 : n < 16) :
    bits BinOp.or IntKind.u64 (bits BinOp.or IntKind.u64 128 (k * 16)) n = 128 + 16 * k + n ∧ bits BinOp.or IntKind.u64 (128 + 16 * k + n) 64 = 192 + 16 * k + n := by
  have key : ∀ (i : Fin 4) (j : Fin 16), bits BinOp.or IntKind.u64 (bits BinOp.or IntKind.u64 128 ((i.val : Int) * 16)) (j.val : Int) = 128 + 16 * (i.val : Int) + (j.val : Int) ∧
      bits BinOp.or IntKind.u64 (128 + 16 * (i.val : Int) + (j.val : Int)) 64 = 192 + 16 * (i.val : Int) + (j.val : Int) := by decide +kernel
  have h := key ⟨k.toNat, by omega⟩ ⟨n.toNat, by omega⟩
  have a : ((k.toNat : Nat) : Int) = k := by omega
  have b : ((n.toNat : Nat) : Int) = n := by omega
  simp only [a, b] at h
  exact h

set_option maxHeartbeats 400000 in
theorem hput_us (c : Bool) (k n : Int) (w : World) (h : hmayB true c k n = true) :
    Calls Tryd.prog 62 #[.agg #[.bool true, .bool c, .int .i64 k, .int .i64 n]] w fun e w' => e = .returned (.tuple #[.int .u64 (hputW true c k n), .bool true]) ∧ Below w.heap.size w w' := by
  have hk : 0 ≤ k ∧ k < 4 ∧ 0 ≤ n ∧ n < 16 := by have := hmay_cases h; omega
  obtain ⟨k0, k1, n0, n1⟩ := hk
  have hw := hputW_yes h
  have hor := or_hdr k n k0 k1 n0 n1
  cases c
  all_goals
    go_enter Tryd.func62, Tryd.ntmps62
    go_wp2_with (first
    | (go_at_call 81; refine Calls.mono (hmay_any _ _ _ _ _) ?_; rintro e w' ⟨rfl, hb⟩; obtain ⟨hc, hf, hb, hz⟩ := bstep hb (w := w) (by go_grown); try simp only [World.size_alloc, World.size_setCell, World.size_drew] at hc hf hz)
    )
    go_returns
    exact ⟨ret_int_bool (by simp [hw, hor]; try omega) rfl, by go_grown⟩

theorem hput_any (u c : Bool) (k n : Int) (w : World) :
    Calls Tryd.prog 62 #[.agg #[.bool u, .bool c, .int .i64 k, .int .i64 n]] w fun e w' => e = .returned (.tuple #[.int .u64 (hputW u c k n), .bool (hmayB u c k n)]) ∧ Below w.heap.size w w' := by
  cases h : hmayB u c k n with
  | false => exact (hput_no u c k n w h).mono fun e w' ⟨he, hb⟩ => ⟨by rw [he, hputW_no h], hb⟩
  | true =>
    cases u with
    | false =>
      obtain ⟨rfl, rfl, rfl⟩ := hmay_un h
      exact (hput_un w).mono fun e w' ⟨he, hb⟩ => ⟨by rw [he]; rfl, hb⟩
    | true => exact hput_us c k n w h

def partV (x f : Int) : Int := if f = 7 then x / 128 % 2 else if f = 6 then x / 64 % 2 else if f = 4 then x / 16 % 4 else x % 16
def bV (u : Bool) : Int := if u = true then 1 else 0
end Go.Proofs.YtneanbagdkeoiaaDoor
