/- Contracts of the reference's functions of layer 3, for every mask and number. -/
import Derived.Test.YtonjnedlnfdanaaDoorBits
import Derived.Deep.Cut
import Derived.Deep.MidRow
namespace Go.Proofs.YtonjnedlnfdanaaDoor
set_option linter.unusedSimpArgs false
set_option linter.unusedVariables false
open Go.ChangeShapes Go.WideShapes Go.ChangeAt Go.RowKit

def halfW (m i : Int) : Int := m / 2 ^ i.toNat
theorem halfW_zero (m : Int) : halfW m 0 = m := by simp [halfW]
theorem halfW_next (m : Int) {i : Int} (h : 0 ≤ i) : halfW m i / 2 = halfW m (i + 1) := by
  unfold halfW
  rw [show (i + 1).toNat = i.toNat + 1 by omega, Int.pow_succ, Int.ediv_ediv_of_nonneg (Int.pow_nonneg (by decide))]
theorem halfW_bound {m : Int} (h : Mask m) (i : Int) : 0 ≤ halfW m i ∧ halfW m i < 4294967296 := by
  have h1 := h.1
  have h2 := h.2
  have e : (2 : Int) ^ i.toNat = ((2 ^ i.toNat : Nat) : Int) := by simp
  have hp := Nat.two_pow_pos i.toNat
  unfold halfW
  rw [e]
  refine ⟨Int.ediv_nonneg h1 (by omega), ?_⟩
  have := Int.ediv_le_self ((2 ^ i.toNat : Nat) : Int) h1
  omega
theorem halfW_bit {m n : Int} (h : Mask m) (h0 : 0 ≤ n) (h1 : n < 32) : (halfW m n % 2 == 1) = hasB m n := by
  have e : (2 : Int) ^ n.toNat = ((2 ^ n.toNat : Nat) : Int) := by simp
  unfold halfW hasB
  rw [inB_yes h0 h1, Bool.true_and, Nat.testBit_eq_decide_div_mod_eq, e]
  have hm := toNat_cast h
  rw [← hm]
  have : ((m.toNat : Nat) : Int) / ((2 ^ n.toNat : Nat) : Int) % 2 = ((m.toNat / 2 ^ n.toNat % 2 : Nat) : Int) := by simp
  rw [this]
  simp only [Int.toNat_natCast]
  have h2 : m.toNat / 2 ^ n.toNat % 2 = 0 ∨ m.toNat / 2 ^ n.toNat % 2 = 1 := by omega
  rcases h2 with h2 | h2 <;> simp [h2]

theorem rhas_any (m n : Int) (w : World) (h : Mask m) :
    Calls Tryd.prog 18 #[.int .u32 m, .int .i64 n] w fun e w' => e = .returned (.bool (hasB m n)) ∧ Below w.heap.size w w' := by
  by_cases hn : 0 ≤ n ∧ n < 32
  · obtain ⟨h0, h1⟩ := hn
    have e := halfW_bit h h0 h1
    go_enter Tryd.func18, Tryd.ntmps18
    go_wp2
    go_loopg [0, 5] n.toNat (fun g mv iv wr => ∃ i : Int, 0 ≤ i ∧ i ≤ n ∧ g = (n - i).toNat ∧ mv = .int .u32 (halfW m i) ∧ iv = .int .i64 i ∧ Below w.heap.size w wr)
    case atStart => exact ⟨0, by omega, by omega, by omega, by rw [halfW_zero], rfl, Below.refl _ _⟩
    case round =>
      obtain ⟨i, il, ih, rfl, rfl, rfl, hbw⟩ := hrel
      obtain ⟨hc, hf, hb, hz⟩ := bstep hbw (w := w) (Below.refl _ _)
      have en := halfW_next m il
      have hbd := halfW_bound h i
      by_cases hi : i < n
      · go_wp2
        go_roundg (n - (i + 1)).toNat
        case measure => omega
        case rel => exact ⟨i + 1, by omega, by omega, rfl, by simp [en], rfl, by go_grown⟩
      · obtain rfl : i = n := by omega
        go_wp2
        go_returns
        exact ⟨ret_bool (by simp [e]), by go_grown⟩
  · have e := has_out (m := m) hn
    go_enter Tryd.func18, Tryd.ntmps18
    go_wp2
    all_goals
      go_returns
      exact ⟨ret_bool (by simp [e]), by go_grown⟩

def topW (f : Int → Bool) (i : Int) : Int := (fromTop f (31 - i).toNat : Nat)
theorem topW_small (f : Int → Bool) {i : Int} (h : 0 ≤ i) (h' : i ≤ 31) : 0 ≤ topW f i ∧ topW f i < 2147483648 := by
  have h1 := fromTop_lt f (31 - i).toNat
  have h2 : 2 ^ (31 - i).toNat ≤ 2 ^ 31 := Nat.pow_le_pow_right (by decide) (by omega)
  unfold topW
  omega
theorem topW_next (f : Int → Bool) {i : Int} (h : 0 ≤ i) (h' : i ≤ 31) : topW f (i - 1) = 2 * topW f i + (if f i = true then 1 else 0) := by
  unfold topW
  rw [show (31 - (i - 1)).toNat = (31 - i).toNat + 1 by omega]
  simp only [fromTop]
  rw [show 31 - (((31 - i).toNat : Nat) : Int) = i by omega]
  split <;> simp
theorem topW_end (f : Int → Bool) : topW f (-1) = ofF f := rfl
set_option maxHeartbeats 1000000 in
theorem of_any (xs : Array Value) (f : Int → Bool) (w : World) (hs : xs.size = 32) (hx : ∀ i : Nat, i < 32 → xs[i]? = some (.bool (f i))) :
    Calls Tryd.prog 34 #[.agg xs] w fun e w' => e = .returned (.int .u32 (ofF f)) ∧ Below w.heap.size w w' := by
  go_enter Tryd.func34, Tryd.ntmps34
  go_wp2
  obtain ⟨w0, hw0⟩ : ∃ w0, w0 = w.alloc (.cells xs 76) := ⟨_, rfl⟩
  have hb0 : Below w.heap.size w w0 := by rw [hw0]; go_grown
  have z0 : w0.heap.size = w.heap.size + 1 := by rw [hw0]; simp
  have c0 : ∀ i : Nat, i < 32 → w0.cell? ⟨w.heap.size, i, none⟩ = some (.bool (f i)) := fun i hi => by
    rw [hw0]; simp [go_sem, hx i hi]
  go_loopg [3, 4] 32 (fun g mv iv wr => ∃ i : Int, -1 ≤ i ∧ i ≤ 31 ∧ g = (i + 1).toNat ∧ mv = .int .u32 (topW f i) ∧ iv = .int .i64 i ∧ Below w0.heap.size w0 wr)
  case atStart => exact ⟨31, by omega, by omega, rfl, rfl, rfl, by rw [hw0]; exact Below.refl _ _⟩
  case round =>
    clear hw0
    obtain ⟨i, il, ih, rfl, rfl, rfl, hbw⟩ := hrel
    by_cases hk : 0 ≤ i
    · have hcell : wr.cell? ⟨w.heap.size, i.toNat, none⟩ = some (.bool (f i)) := by
        rw [hbw.cell (p := ⟨w.heap.size, _, none⟩) (by simp [z0]), c0 _ (by omega)]
        congr 3
        omega
      have hs := topW_small f hk ih
      have hn := topW_next f hk ih
      cases hfk : f i
      all_goals
        rw [hfk] at hcell hn
        go_wp2
        go_roundg (i - 1 + 1).toNat
        case measure => omega
        case rel => exact ⟨i - 1, by omega, by omega, rfl, by simp at hn ⊢; omega, by simp, by go_grown⟩
    · obtain rfl : i = -1 := by omega
      have e := topW_end f
      go_wp2
      go_returns
      exact ⟨ret_int e, by go_grown; all_goals exact bjoin (by assumption) hb0⟩
/-- A mask with a number, or without. -/
def turnF (m n : Int) (b : Bool) (i : Int) : Bool := if inB n = true ∧ i = n then b else hasB m i
def fillF (m k i : Int) : Bool := if i < k then hasB m i else false

/-- A row of 32 bools in a block. -/
def Row (b : Nat) (f : Int → Bool) (w : World) : Prop := ∀ j : Nat, j < 32 → w.cell? ⟨b, j, none⟩ = some (.bool (f j)) ∧ w.frozen? ⟨b, j, none⟩ = false
theorem row_new (w : World) (t : TypeId) : Row w.heap.size (fun _ => false) (w.alloc (.cells (Array.replicate 32 (.bool false)) t)) := fun j hj => by
  constructor
  · simp [go_sem, hj]
  · simp [go_sem]
theorem Row.below {b : Nat} {f : Int → Bool} {w w' : World} (h : Row b f w) (hlt : b < w.heap.size) (hb : Below w.heap.size w w') : Row b f w' := fun j hj => by
  rw [hb.cell (p := ⟨b, j, none⟩) hlt, hb.frozen (p := ⟨b, j, none⟩) hlt]; exact h j hj
theorem Row.set {b : Nat} {f g : Int → Bool} {w : World} {i : Int} {v : Bool} (h : Row b f w) (h0 : 0 ≤ i) (h1 : i < 32) (e : ∀ j : Nat, j < 32 → g j = if (j : Int) = i then v else f j) :
    Row b g (w.setCell ⟨b, i.toNat, none⟩ (.bool v)) := fun j hj => by
  have := h j hj
  have := h i.toNat (by omega)
  constructor
  · rw [e j hj]
    by_cases hji : (j : Int) = i
    · have : j = i.toNat := by omega
      subst this
      simp [go_sem, *]
    · have : ¬ j = i.toNat := by omega
      simp [go_sem, *]
  · simp [go_sem, *]

/-- The whole row is read. -/
theorem wpList_load_bools {P : Program} {ops : Array Oper} {rest : List Oper} {op : Oper} {a : Act} {w : World} {Q : Exit → Act → World → Prop} {f : Int → Bool} {b : Nat} {d : TypeDesc} (hrow : Row b f w)
    (hgd : op.guard = none) (ty : TypeId) (x : Operand) (ho : op.op = .load ty x) (hx : a.eval x = .pointer (some ⟨b, 0, none⟩))
    (hu : P.underlying ty = some d) (hd : d.isRow = true) (hi : (P.info? ty).map (·.size) = some 32)
    (h : ∀ xs : Array Value, xs.size = 32 → (∀ i : Nat, i < 32 → xs[i]? = some (.bool (f i))) → wpList P ops Q rest (a.put op.dst (.agg xs)) w) : wpList P ops Q (op :: rest) a w :=
  wpList_load_mid hgd ty x ho b 0 hx ((List.range 32).map fun j : Nat => Value.bool (f j)) d (fun j v hv => by
    have hj : j < 32 := by
      rcases Nat.lt_or_ge j 32 with h | h
      · exact h
      · rw [List.getElem?_eq_none (by simpa using h)] at hv; cases hv
    rw [Nat.zero_add, (hrow j hj).1]
    simp [hj] at hv
    rw [hv]) hu hd (by rw [hi]; simp) (h _ (by simp) fun i hi => by simp [hi])

set_option maxHeartbeats 1000000 in
theorem turned_any (m n : Int) (b : Bool) (w : World) (h : Mask m) :
    Calls Tryd.prog 41 #[.int .u32 m, .int .i64 n, .bool b] w fun e w' => e = .returned (.int .u32 (ofF (turnF m n b))) ∧ Below w.heap.size w w' := by
  go_enter Tryd.func41, Tryd.ntmps41
  go_wp2
  go_loopg [8] 32 (fun g iv wr => ∃ i : Int, 0 ≤ i ∧ i ≤ 32 ∧ g = (32 - i).toNat ∧ iv = .int .i64 i ∧ Below w.heap.size w wr ∧ w.heap.size < wr.heap.size ∧ Row w.heap.size (fillF m i) wr)
  case atStart => exact ⟨0, by omega, by omega, rfl, rfl, by go_grown, by simp, by
    intro j hj
    have := row_new w 76 j hj
    rw [show fillF m 0 (j : Int) = false by unfold fillF; rw [if_neg (by omega)]]
    exact this⟩
  case round =>
    obtain ⟨i, il, ih, rfl, rfl, hbw, hsz, hrow⟩ := hrel
    by_cases hi : i < 32
    · have hcell := (hrow i.toNat (by omega)).1
      have hfz := (hrow i.toNat (by omega)).2
      go_wp2_with (first
    | (go_at_call 18; refine Calls.mono (rhas_any _ _ _ h) ?_; rintro e w' ⟨rfl, hb⟩; obtain ⟨hc, hf, hb, hz⟩ := bstep hb (w := wr) (by go_grown); try simp only [World.size_alloc, World.size_setCell, World.size_drew] at hc hf hz)
      )
      go_roundg (32 - (i + 1)).toNat
      case measure => omega
      case rel => exact ⟨i + 1, by omega, by omega, rfl, rfl, by go_grown; all_goals exact bjoin (by assumption) hbw, by go_grown, by
        refine (hrow.below hsz (by assumption)).set il hi fun j hj => ?_
        unfold fillF
        by_cases e : (j : Int) = i
        · subst e; simp; omega
        · simp only [e, if_false]
          by_cases e' : (j : Int) < i
          · rw [if_pos e', if_pos (by omega)]
          · rw [if_neg e', if_neg (by omega)]⟩
    · obtain rfl : i = 32 := by omega
      by_cases hn : 0 ≤ n ∧ n < 32
      · obtain ⟨n0, n1⟩ := hn
        have hcell := (hrow n.toNat (by omega)).1
        have hfz := (hrow n.toNat (by omega)).2
        go_upto_region 8 with fail
        have hrow2 : Row w.heap.size (turnF m n b) (wr.setCell ⟨w.heap.size, n.toNat, none⟩ (.bool b)) := hrow.set n0 n1 fun j hj => by
          unfold turnF fillF
          rw [inB_yes n0 n1, if_pos (show (j : Int) < 32 by omega)]
          simp
        have hb2 : Below w.heap.size w (wr.setCell ⟨w.heap.size, n.toNat, none⟩ (.bool b)) := by go_grown
        have hz2 : w.heap.size < (wr.setCell ⟨w.heap.size, n.toNat, none⟩ (.bool b)).heap.size := by simp [hsz]
        generalize wr.setCell ⟨w.heap.size, n.toNat, none⟩ (.bool b) = w2 at hrow2 hb2 hz2 ⊢
        clear hcell hfz hrow hbw hsz
        refine wp_region_lit ?_
        refine wpList_load_bools hrow2 rfl 76 (.tmp 7) rfl rfl Tryd.underlying76 rfl (by kernel_rfl) fun xs hxs hxb => ?_
        go_wp2_with (first
    | (go_at_call 34; refine Calls.mono (of_any _ (turnF m n b) _ hxs hxb) ?_; rintro e w' ⟨rfl, hb⟩; obtain ⟨hc, hf, hb, hz⟩ := bstep hb (w := w2) (by go_grown); try simp only [World.size_alloc, World.size_setCell, World.size_drew] at hc hf hz)
        )
        go_returns
        exact ⟨rfl, by go_grown; all_goals exact bjoin (by assumption) hb2⟩
      · have hrow2 : Row w.heap.size (turnF m n b) wr := fun j hj => by
          refine ⟨?_, (hrow j hj).2⟩
          rw [(hrow j hj).1]
          unfold turnF fillF
          rw [inB_no hn, if_pos (show (j : Int) < 32 by omega)]
          simp
        have hb2 := hbw
        have hz2 := hsz
        go_upto_region 8 with fail
        all_goals
          generalize wr = w2 at hrow2 hb2 hz2 ⊢
          clear hrow hbw hsz
          refine wp_region_lit ?_
          refine wpList_load_bools hrow2 rfl 76 (.tmp 7) rfl rfl Tryd.underlying76 rfl (by kernel_rfl) fun xs hxs hxb => ?_
          go_wp2_with (first
    | (go_at_call 34; refine Calls.mono (of_any _ (turnF m n b) _ hxs hxb) ?_; rintro e w' ⟨rfl, hb⟩; obtain ⟨hc, hf, hb, hz⟩ := bstep hb (w := w2) (by go_grown); try simp only [World.size_alloc, World.size_setCell, World.size_drew] at hc hf hz)
          )
          go_returns
          exact ⟨rfl, by go_grown; all_goals exact bjoin (by assumption) hb2⟩

theorem turn_with {m : Int} (n : Int) (h : Mask m) : ofF (turnF m n true) = withW m n :=
  of_eq (mask_with h) fun i _ _ => by
    rw [has_with]
    unfold turnF
    by_cases e : inB n = true ∧ i = n
    · simp [e.1, e.2]
    · rw [if_neg e]
      cases hn : inB n with
      | false => simp
      | true =>
        have : ¬ i = n := fun h => e ⟨hn, h⟩
        simp [this]
theorem turn_without {m : Int} (n : Int) (h : Mask m) : ofF (turnF m n false) = woutW m n :=
  of_eq (mask_wout m n) fun i _ _ => by
    rw [has_wout n i h]
    unfold turnF
    by_cases e : inB n = true ∧ i = n
    · simp [e.1, e.2]
    · rw [if_neg e]
      cases hn : inB n with
      | false => simp
      | true =>
        have : ¬ i = n := fun h => e ⟨hn, h⟩
        simp [this]
theorem rwith_any (m n : Int) (w : World) (h : Mask m) :
    Calls Tryd.prog 36 #[.int .u32 m, .int .i64 n] w fun e w' => e = .returned (.int .u32 (withW m n)) ∧ Below w.heap.size w w' := by
  have e := turn_with n h
  go_enter Tryd.func36, Tryd.ntmps36
  go_wp2_with (first
    | (go_at_call 41; refine Calls.mono (turned_any _ _ _ _ h) ?_; rintro e w' ⟨rfl, hb⟩; obtain ⟨hc, hf, hb, hz⟩ := bstep hb (w := w) (by go_grown); try simp only [World.size_alloc, World.size_setCell, World.size_drew] at hc hf hz)
  )
  go_returns
  exact ⟨rfl, by go_grown⟩
theorem rwithout_any (m n : Int) (w : World) (h : Mask m) :
    Calls Tryd.prog 35 #[.int .u32 m, .int .i64 n] w fun e w' => e = .returned (.int .u32 (woutW m n)) ∧ Below w.heap.size w w' := by
  have e := turn_without n h
  go_enter Tryd.func35, Tryd.ntmps35
  go_wp2_with (first
    | (go_at_call 41; refine Calls.mono (turned_any _ _ _ _ h) ?_; rintro e w' ⟨rfl, hb⟩; obtain ⟨hc, hf, hb, hz⟩ := bstep hb (w := w) (by go_grown); try simp only [World.size_alloc, World.size_setCell, World.size_drew] at hc hf hz)
  )
  go_returns
  exact ⟨rfl, by go_grown⟩

theorem cntTo_next (f : Int → Bool) {i : Int} (h : 0 ≤ i) : cntTo f (i + 1).toNat = cntTo f i.toNat + (if f i = true then 1 else 0) := by
  rw [show (i + 1).toNat = i.toNat + 1 by omega]
  simp only [cntTo]
  rw [show ((i.toNat : Nat) : Int) = i by omega]
def cntF (m i : Int) : Int := cntTo (hasB m) i.toNat
theorem rcount_any (m : Int) (w : World) (h : Mask m) :
    Calls Tryd.prog 37 #[.int .u32 m] w fun e w' => e = .returned (.int .i64 (countW m)) ∧ Below w.heap.size w w' := by
  go_enter Tryd.func37, Tryd.ntmps37
  go_wp2
  go_loopg [3, 4] 32 (fun g nv iv wr => ∃ i : Int, 0 ≤ i ∧ i ≤ 32 ∧ g = (32 - i).toNat ∧ nv = .int .i64 (cntF m i) ∧ iv = .int .i64 i ∧ Below w.heap.size w wr)
  case atStart => exact ⟨0, by omega, by omega, by omega, rfl, rfl, Below.refl _ _⟩
  case round =>
    obtain ⟨i, il, ih, rfl, rfl, rfl, hbw⟩ := hrel
    obtain ⟨hc, hf, hb, hz⟩ := bstep hbw (w := w) (Below.refl _ _)
    have hn : cntF m (i + 1) = cntF m i + (if hasB m i = true then 1 else 0) := cntTo_next _ il
    have hbd : 0 ≤ cntF m i ∧ cntF m i ≤ 32 := by have := cntTo_bound (hasB m) i.toNat; unfold cntF; omega
    by_cases hi : i < 32
    · cases hbit : hasB m i
      all_goals
        rw [hbit] at hn
        go_wp2_with (first
    | (go_at_call 18; refine Calls.mono (rhas_any _ _ _ h) ?_; rintro e w' ⟨rfl, hb⟩; obtain ⟨hc, hf, hb, hz⟩ := bstep hb (w := w) (by go_grown); try simp only [World.size_alloc, World.size_setCell, World.size_drew] at hc hf hz)
        )
        go_roundg (32 - (i + 1)).toNat
        case measure => omega
        case rel => exact ⟨i + 1, by omega, by omega, rfl, by simp at hn ⊢; omega, rfl, by go_grown⟩
    · obtain rfl : i = 32 := by omega
      go_wp2
      go_returns
      exact ⟨rfl, by go_grown⟩

def belowF (n k i : Int) : Bool := if i < k then decide (i < n) else false
theorem below_whole (n : Int) : ofF (belowF n 32) = wholeW n :=
  of_eq (mask_whole n) fun i h0 h1 => by
    rw [has_whole n h0 h1]
    unfold belowF
    rw [if_pos h1]
set_option maxHeartbeats 1000000 in
theorem rwhole_any (n : Int) (w : World) :
    Calls Tryd.prog 23 #[.int .i64 n] w fun e w' => e = .returned (.int .u32 (wholeW n)) ∧ Below w.heap.size w w' := by
  have e := below_whole n
  go_enter Tryd.func23, Tryd.ntmps23
  go_wp2
  go_loopg [4] 32 (fun g iv wr => ∃ i : Int, 0 ≤ i ∧ i ≤ 32 ∧ g = (32 - i).toNat ∧ iv = .int .i64 i ∧ Below w.heap.size w wr ∧ w.heap.size < wr.heap.size ∧ Row w.heap.size (belowF n i) wr)
  case atStart => exact ⟨0, by omega, by omega, rfl, rfl, by go_grown, by simp, by
    intro j hj
    have := row_new w 76 j hj
    rw [show belowF n 0 (j : Int) = false by unfold belowF; rw [if_neg (by omega)]]
    exact this⟩
  case round =>
    obtain ⟨i, il, ih, rfl, rfl, hbw, hsz, hrow⟩ := hrel
    by_cases hi : i < 32
    · have hcell := (hrow i.toNat (by omega)).1
      have hfz := (hrow i.toNat (by omega)).2
      go_wp2
      go_roundg (32 - (i + 1)).toNat
      case measure => omega
      case rel => exact ⟨i + 1, by omega, by omega, rfl, rfl, by go_grown, by go_grown, hrow.set il hi fun j hj => by
        unfold belowF
        by_cases e : (j : Int) = i
        · subst e; simp; intros; omega
        · simp only [e, if_false]
          by_cases e' : (j : Int) < i
          · rw [if_pos e', if_pos (by omega)]
          · rw [if_neg e', if_neg (by omega)]⟩
    · obtain rfl : i = 32 := by omega
      go_upto_region 6 with fail
      clear e
      refine wp_region_lit ?_
      refine wpList_load_bools hrow rfl 76 (.tmp 3) rfl rfl Tryd.underlying76 rfl (by kernel_rfl) fun xs hxs hxb => ?_
      go_wp2_with (first
    | (go_at_call 34; refine Calls.mono (of_any _ (belowF n 32) _ hxs hxb) ?_; rintro e w' ⟨rfl, hb⟩; obtain ⟨hc, hf, hb, hz⟩ := bstep hb (w := wr) (by go_grown); try simp only [World.size_alloc, World.size_setCell, World.size_drew] at hc hf hz)
      )
      go_returns
      exact ⟨ret_int (below_whole n), by go_grown; all_goals exact bjoin (by assumption) hbw⟩

end Go.Proofs.YtonjnedlnfdanaaDoor
