/- Contracts of bits.* for every mask and number. -/
import Derived.Test.YtjlflbaglaillaaDoorProg
import Derived.Test.YtjlflbaglaillaaDoorBitsFn
import Derived.Lib.EndianBits
import Derived.Shelf.Spec.TrailingZeros
namespace Go.Proofs.YtjlflbaglaillaaDoor
set_option linter.unusedSimpArgs false
set_option linter.unusedVariables false
open Go.ChangeShapes Go.WideShapes Go.ChangeAt Go.RowKit

theorem oneW_shift {n : Int} (h0 : 0 ≤ n) (h1 : n < 32) : (2 : Int) ^ n.toNat % 4294967296 = oneW n := by
  have e : (2 : Int) ^ n.toNat = ((2 ^ n.toNat : Nat) : Int) := by simp
  have := oneW_lt n
  unfold oneW at this ⊢
  rw [oneN_yes h0 h1] at this ⊢
  rw [e]
  omega
theorem oneW_out {n : Int} (h : ¬ (0 ≤ n ∧ n < 32)) : oneW n = 0 := by simp [oneW, oneN_no h]

theorem one_any (n : Int) (w : World) :
    Calls Tryd.prog 76 #[.int .i64 n] w fun e w' => e = .returned (.int .u32 (oneW n)) ∧ Below w.heap.size w w' := by
  by_cases h : 0 ≤ n ∧ n < 32
  · obtain ⟨h0, h1⟩ := h
    have e := oneW_shift h0 h1
    go_enter Tryd.func76, Tryd.ntmps76
    go_wp2
    go_returns
    exact ⟨ret_int (by simp [e]), by go_grown⟩
  · have e := oneW_out h
    go_enter Tryd.func76, Tryd.ntmps76
    go_wp2
    all_goals
      go_returns
      exact ⟨ret_int (by simp [e]), by go_grown⟩

theorem one_ne (n : Int) (h0 : 0 ≤ n) (h1 : n < 32) : ¬ oneW n = 0 := by
  unfold oneW
  rw [oneN_yes h0 h1]
  have := Nat.two_pow_pos n.toNat
  omega
theorem has_bits {m : Int} (n : Int) (h : Mask m) : (bits .and .u32 m (oneW n) == 0) = !hasB m n := by
  rw [and_one n h]
  cases hb : hasB m n with
  | false => simp
  | true =>
    have hi : inB n = true := by
      cases hi : inB n with
      | true => rfl
      | false => simp [hasB, hi] at hb
    have := (inB_iff n).1 hi
    have := one_ne n this.1 this.2
    simp [this]

theorem has_any (m n : Int) (w : World) (h : Mask m) :
    Calls Tryd.prog 67 #[.int .u32 m, .int .i64 n] w fun e w' => e = .returned (.bool (hasB m n)) ∧ Below w.heap.size w w' := by
  have e := has_bits n h
  go_enter Tryd.func67, Tryd.ntmps67
  go_wp2_with (first
    | (go_at_call 76; refine Calls.mono (one_any _ _) ?_; rintro e w' ⟨rfl, hb⟩; obtain ⟨hc, hf, hb, hz⟩ := bstep hb (w := w) (by go_grown); try simp only [World.size_alloc, World.size_setCell, World.size_drew] at hc hf hz)
    )
  go_returns
  exact ⟨ret_bool (by simp [bne, e]), by go_grown⟩

theorem with_any (m n : Int) (w : World) (h : Mask m) :
    Calls Tryd.prog 68 #[.int .u32 m, .int .i64 n] w fun e w' => e = .returned (.int .u32 (withW m n)) ∧ Below w.heap.size w w' := by
  have e := or_one n h
  go_enter Tryd.func68, Tryd.ntmps68
  go_wp2_with (first
    | (go_at_call 76; refine Calls.mono (one_any _ _) ?_; rintro e w' ⟨rfl, hb⟩; obtain ⟨hc, hf, hb, hz⟩ := bstep hb (w := w) (by go_grown); try simp only [World.size_alloc, World.size_setCell, World.size_drew] at hc hf hz)
    )
  go_returns
  exact ⟨ret_int (by simp [e]), by go_grown⟩

theorem without_any (m n : Int) (w : World) (h : Mask m) :
    Calls Tryd.prog 71 #[.int .u32 m, .int .i64 n] w fun e w' => e = .returned (.int .u32 (woutW m n)) ∧ Below w.heap.size w w' := by
  have e := andNot_one n h
  go_enter Tryd.func71, Tryd.ntmps71
  go_wp2_with (first
    | (go_at_call 76; refine Calls.mono (one_any _ _) ?_; rintro e w' ⟨rfl, hb⟩; obtain ⟨hc, hf, hb, hz⟩ := bstep hb (w := w) (by go_grown); try simp only [World.size_alloc, World.size_setCell, World.size_drew] at hc hf hz)
    )
  go_returns
  exact ⟨ret_int (by simp [e]), by go_grown⟩

/-- The library's table of 32 bytes, in its variable. -/
def Tab (w : World) : Prop := 1 < w.heap.size ∧ ∀ j, j < 32 → w.cell? ⟨1, j, none⟩ = some (.int .u8 (Lib.deBruijn32tab.getD j 0 : Nat))
theorem Tab.below {w w' : World} (h : Tab w) (hb : Below w.heap.size w w') : Tab w' :=
  ⟨Nat.lt_of_lt_of_le h.1 hb.size, fun j hj => by rw [hb.cell (p := ⟨1, j, none⟩) h.1]; exact h.2 j hj⟩

/-- The walk, the product's top bits told (they are the place i of the table, where c stands). -/
theorem tz_walk {m : Int} {i c : Nat} (w : World) (hb : (m == 0) = false) (hi : i < 32) (hc : c < 32) (hcell : w.cell? ⟨1, i, none⟩ = some (.int .u8 c))
    (top : bits BinOp.and IntKind.u32 m (-m % 4294967296) * 125613361 % 4294967296 / 134217728 = i) :
    Calls Tryd.prog 78 #[.int .u32 m] w fun e w' => e = .returned (.int .i64 c) ∧ Below w.heap.size w w' := by
  go_enter Tryd.func78, Tryd.ntmps78
  go_wp2_with (simp only [top])
  go_returns
  exact ⟨ret_int (by simp; try omega), by go_grown⟩
theorem tz_any (m : Int) (w : World) (h : Mask m) (h0 : m ≠ 0) (ht : Tab w) :
    Calls Tryd.prog 78 #[.int .u32 m] w fun e w' => e = .returned (.int .i64 (leastW m)) ∧ Below w.heap.size w w' := by
  have hm : m.toNat < 2 ^ 32 := by have := h.1; have := h.2; omega
  have hz : m.toNat ≠ 0 := by have := h.1; omega
  obtain ⟨hlow, hc⟩ := Lib.lowest_bit 32 m.toNat hz hm
  obtain ⟨hi, htab⟩ := Lib.deBruijn32_at _ hc
  have top := tz32_key m.toNat _ hm hz hlow
  rw [toNat_cast h] at top
  rw [show leastW m = (Lib.ctz 32 m.toNat : Int) by simp [leastW, h0]]
  exact tz_walk w (by simpa using h0) hi hc (by rw [ht.2 _ hi, htab]) top

theorem least_any (m : Int) (w : World) (h : Mask m) (ht : Tab w) :
    Calls Tryd.prog 70 #[.int .u32 m] w fun e w' => e = .returned (.tuple #[.int .i64 (leastW m), .bool (leastB m)]) ∧ Below w.heap.size w w' := by
  by_cases h0 : m = 0
  · subst h0
    go_enter Tryd.func70, Tryd.ntmps70
    go_wp2
    go_returns
    exact ⟨ret_int_bool rfl rfl, by go_grown⟩
  · have e0 : (m == 0) = false := by simpa using h0
    go_enter Tryd.func70, Tryd.ntmps70
    go_wp2_with (first
    | (go_at_call 78; refine Calls.mono (tz_any _ _ h h0 ht) ?_; rintro e w' ⟨rfl, hb⟩; obtain ⟨hc, hf, hb, hz⟩ := bstep hb (w := w) (by go_grown); try simp only [World.size_alloc, World.size_setCell, World.size_drew] at hc hf hz)
    )
    go_returns
    exact ⟨ret_int_bool rfl (by simp [leastB, e0]), by go_grown⟩

theorem pop_sum {m : Int} (h : Mask m) : ((((Lib.pop8 (m / 16777216) + Lib.pop8 (m / 65536 % 256)) % 256 + Lib.pop8 (m / 256 % 256)) % 256 + Lib.pop8 (m % 256)) % 256 : Int) = countW m ∧ 0 ≤ countW m ∧ countW m ≤ 32 := by
  have h1 := h.1
  have h2 := h.2
  rw [countW_bytes h, pop8_of _ (by omega) (by omega), pop8_of _ (by omega) (by omega), pop8_of _ (by omega) (by omega), pop8_of _ (by omega) (by omega)]
  have e3 : (m / 16777216).toNat = m.toNat / 2 ^ 24 % 256 := by omega
  have e2 : (m / 65536 % 256).toNat = m.toNat / 2 ^ 16 % 256 := by omega
  have e1 : (m / 256 % 256).toNat = m.toNat / 2 ^ 8 % 256 := by omega
  have e0 : (m % 256).toNat = m.toNat % 256 := by omega
  rw [e0, e1, e2, e3]
  have b0 := byteBits_le' (m.toNat % 256) (by omega)
  have b1 := byteBits_le' (m.toNat / 2 ^ 8 % 256) (by omega)
  have b2 := byteBits_le' (m.toNat / 2 ^ 16 % 256) (by omega)
  have b3 := byteBits_le' (m.toNat / 2 ^ 24 % 256) (by omega)
  omega

set_option maxHeartbeats 2000000 in
set_option maxRecDepth 100000 in
theorem ones_any (m : Int) (w : World) (h : Mask m) :
    Calls Tryd.prog 75 #[.int .u32 m] w fun e w' => e = .returned (.int .i64 (countW m)) ∧ Below w.heap.size w w' := by
  have e := pop_sum h
  obtain ⟨h1, h2⟩ := h
  have a1 : bits BinOp.and IntKind.u32 (m / 65536) 255 = m / 65536 % 256 := bits_mask .u32 32 (by decide) wraps_u32 8 (by decide) _ (by omega) (by omega)
  have a2 : bits BinOp.and IntKind.u32 (m / 256) 255 = m / 256 % 256 := bits_mask .u32 32 (by decide) wraps_u32 8 (by decide) _ (by omega) (by omega)
  have a3 : bits BinOp.and IntKind.u32 m 255 = m % 256 := bits_mask .u32 32 (by decide) wraps_u32 8 (by decide) _ (by omega) (by omega)
  obtain ⟨q00, q01⟩ : 0 ≤ m / 16777216 ∧ m / 16777216 ≤ 255 := by omega
  obtain ⟨q10, q11⟩ : 0 ≤ m / 65536 % 256 ∧ m / 65536 % 256 ≤ 255 := by omega
  obtain ⟨q20, q21⟩ : 0 ≤ m / 256 % 256 ∧ m / 256 % 256 ≤ 255 := by omega
  obtain ⟨q30, q31⟩ : 0 ≤ m % 256 ∧ m % 256 ≤ 255 := by omega
  go_enter Tryd.func75, Tryd.ntmps75
  go_wp2
  simp only [List.append_eq, List.cons_append, List.nil_append, Lib.fold_pop8tab]
  go_region
  go_wp2
  go_returns
  exact ⟨ret_int (by omega), by go_grown⟩

theorem count_any (m : Int) (w : World) (h : Mask m) :
    Calls Tryd.prog 62 #[.int .u32 m] w fun e w' => e = .returned (.int .i64 (countW m)) ∧ Below w.heap.size w w' := by
  go_enter Tryd.func62, Tryd.ntmps62
  go_wp2_with (first
    | (go_at_call 75; refine Calls.mono (ones_any _ _ h) ?_; rintro e w' ⟨rfl, hb⟩; obtain ⟨hc, hf, hb, hz⟩ := bstep hb (w := w) (by go_grown); try simp only [World.size_alloc, World.size_setCell, World.size_drew] at hc hf hz)
    )
  go_returns
  exact ⟨rfl, by go_grown⟩

theorem whole_shift {n : Int} (h0 : 0 ≤ n) (h1 : n ≤ 32) : IntKind.u64.wrap (IntKind.u64.wrap (2 ^ n.toNat) - 1) % 4294967296 = wholeW n := by
  have e : (2 : Int) ^ n.toNat = ((2 ^ n.toNat : Nat) : Int) := by simp
  by_cases h : n < 32
  · have h2 : 2 ^ n.toNat < 2 ^ 32 := Nat.pow_lt_pow_right (by decide) (by omega)
    have h3 := Nat.two_pow_pos n.toNat
    unfold wholeW
    rw [IntKind.wrap_u64, IntKind.wrap_u64, e]
    by_cases hz : n = 0
    · subst hz; rfl
    · rw [if_neg (by omega), if_pos h]
      omega
  · obtain rfl : n = 32 := by omega
    rfl
set_option maxHeartbeats 1000000 in
theorem whole_any (n : Int) (w : World) :
    Calls Tryd.prog 74 #[.int .i64 n] w fun e w' => e = .returned (.int .u32 (wholeW n)) ∧ Below w.heap.size w w' := by
  have l := whole_shift (n := 0) (by decide) (by decide)
  have u := whole_shift (n := 32) (by decide) (by decide)
  by_cases h0 : 0 ≤ n
  · by_cases h1 : n ≤ 32
    · have e := whole_shift h0 h1
      go_enter Tryd.func74, Tryd.ntmps74
      go_wp2
      all_goals
        go_returns
        exact ⟨ret_int (by simp [e]), by go_grown⟩
    · have e : wholeW n = wholeW 32 := by unfold wholeW; rw [if_neg (by omega), if_neg (by omega)]; rfl
      go_enter Tryd.func74, Tryd.ntmps74
      go_wp2
      all_goals
        go_returns
        exact ⟨ret_int (by first | rfl | (rw [e]; rfl)), by go_grown⟩
  · have e : wholeW n = wholeW 0 := by unfold wholeW; rw [if_pos (by omega)]; rfl
    go_enter Tryd.func74, Tryd.ntmps74
    go_wp2
    all_goals
      go_returns
      exact ⟨ret_int (by first | rfl | (rw [e]; rfl)), by go_grown⟩

end Go.Proofs.YtjlflbaglaillaaDoor
