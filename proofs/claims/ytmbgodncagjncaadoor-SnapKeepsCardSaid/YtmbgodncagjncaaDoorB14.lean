/- Contracts of the reference's functions of layer 3, for every mask and number. -/
import Derived.Test.YtmbgodncagjncaaDoorB04
import Derived.Deep.Cut
import Derived.Deep.MidRow
import Derived.Test.YtmbgodncagjncaaDoorB05
namespace Go.Proofs.YtmbgodncagjncaaDoor
set_option linter.unusedSimpArgs false
set_option linter.unusedVariables false
open Go.ChangeShapes Go.WideShapes Go.ChangeAt Go.RowKit

def halfW (m i : Int) : Int := m / 2 ^ i.toNat
theorem halfW_zero (m : Int) : halfW m 0 = m := by simp [halfW]
theorem halfW_next (m : Int) {i : Int} (h : 0 ≤ i) : halfW m i / 2 = halfW m (i + 1) := by
  unfold halfW
  rw [show (i + 1).toNat = i.toNat + 1 by omega, Int.pow_succ, Int.ediv_ediv_of_nonneg (Int.pow_nonneg (by decide))]
theorem halfW_bound {m : Int} (h : Mask m) (i : Int) : 0 ≤ halfW m i ∧ halfW m i < 4294967296 := by
  have h1 := h.1
  have h2 := h.2
  have e : (2 : Int) ^ i.toNat = ((2 ^ i.toNat : Nat) : Int) := by simp
  have hp := Nat.two_pow_pos i.toNat
  unfold halfW
  rw [e]
  refine ⟨Int.ediv_nonneg h1 (by omega), ?_⟩
  have := Int.ediv_le_self ((2 ^ i.toNat : Nat) : Int) h1
  omega
theorem halfW_bit {m n : Int} (h : Mask m) (h0 : 0 ≤ n) (h1 : n < 32) : (halfW m n % 2 == 1) = hasB m n := by
  have e : (2 : Int) ^ n.toNat = ((2 ^ n.toNat : Nat) : Int) := by simp
  unfold halfW hasB
  rw [inB_yes h0 h1, Bool.true_and, Nat.testBit_eq_decide_div_mod_eq, e]
  have hm := toNat_cast h
  rw [← hm]
  have : ((m.toNat : Nat) : Int) / ((2 ^ n.toNat : Nat) : Int) % 2 = ((m.toNat / 2 ^ n.toNat % 2 : Nat) : Int) := by simp
  rw [this]
  simp only [Int.toNat_natCast]
  have h2 : m.toNat / 2 ^ n.toNat % 2 = 0 ∨ m.toNat / 2 ^ n.toNat % 2 = 1 := by omega
  rcases h2 with h2 | h2 <;> simp [h2]

theorem rhas_any (m n : Int) (w : World) (h : Mask m) :
    Calls Tryd.prog 69 #[.int .u32 m, .int .i64 n] w fun e w' => e = .returned (.bool (hasB m n)) ∧ Below w.heap.size w w' := by
  by_cases hn : 0 ≤ n ∧ n < 32
  · obtain ⟨h0, h1⟩ := hn
    have e := halfW_bit h h0 h1
    go_enter Tryd.func69, Tryd.ntmps69
    go_wp2
    go_loopg [0, 5] n.toNat (fun g mv iv wr => ∃ i : Int, 0 ≤ i ∧ i ≤ n ∧ g = (n - i).toNat ∧ mv = .int .u32 (halfW m i) ∧ iv = .int .i64 i ∧ Below w.heap.size w wr)
    case atStart => exact ⟨0, by omega, by omega, by omega, by rw [halfW_zero], rfl, Below.refl _ _⟩
    case round =>
      obtain ⟨i, il, ih, rfl, rfl, rfl, hbw⟩ := hrel
      obtain ⟨hc, hf, hb, hz⟩ := bstep hbw (w := w) (Below.refl _ _)
      have en := halfW_next m il
      have hbd := halfW_bound h i
      by_cases hi : i < n
      · go_wp2
        go_roundg (n - (i + 1)).toNat
        case measure => omega
        case rel => exact ⟨i + 1, by omega, by omega, rfl, by simp [en], rfl, by go_grown⟩
      · obtain rfl : i = n := by omega
        go_wp2
        go_returns
        exact ⟨ret_bool (by simp [e]), by go_grown⟩
  · have e := has_out (m := m) hn
    go_enter Tryd.func69, Tryd.ntmps69
    go_wp2
    all_goals
      go_returns
      exact ⟨ret_bool (by simp [e]), by go_grown⟩

/-- A row of 32 bools in a block. -/
def Row (b : Nat) (f : Int → Bool) (w : World) : Prop := ∀ j : Nat, j < 32 → w.cell? ⟨b, j, none⟩ = some (.bool (f j)) ∧ w.frozen? ⟨b, j, none⟩ = false
theorem Row.below {b : Nat} {f : Int → Bool} {w w' : World} (h : Row b f w) (hlt : b < w.heap.size) (hb : Below w.heap.size w w') : Row b f w' := fun j hj => by
  rw [hb.cell (p := ⟨b, j, none⟩) hlt, hb.frozen (p := ⟨b, j, none⟩) hlt]; exact h j hj
theorem Row.set {b : Nat} {f g : Int → Bool} {w : World} {i : Int} {v : Bool} (h : Row b f w) (h0 : 0 ≤ i) (h1 : i < 32) (e : ∀ j : Nat, j < 32 → g j = if (j : Int) = i then v else f j) :
    Row b g (w.setCell ⟨b, i.toNat, none⟩ (.bool v)) := fun j hj => by
  have := h j hj
  have := h i.toNat (by omega)
  constructor
  · rw [e j hj]
    by_cases hji : (j : Int) = i
    · have : j = i.toNat := by omega
      subst this
      simp [go_sem, *]
    · have : ¬ j = i.toNat := by omega
      simp [go_sem, *]
  · simp [go_sem, *]

end Go.Proofs.YtmbgodncagjncaaDoor
namespace Go.Proofs.YtmbgodncagjncaaDoor
set_option linter.unusedSimpArgs false
set_option linter.unusedVariables false
open Go.ChangeShapes Go.WideShapes Go.ChangeAt Go.RowKit

theorem ruse_any (st cl fr : Int) (w : World) :
    Calls Tryd.prog 68 #[.agg #[.int .i64 st, .int .i64 cl, .int .u32 fr]] w fun e w' => e = .returned (.bool (useB st)) ∧ Below w.heap.size w w' := by
  have h : st = 1 ∨ st = 2 ∨ (¬ st = 1 ∧ ¬ st = 2) := by omega
  rcases h with rfl | rfl | ⟨h1, h2⟩
  · go_enter Tryd.func68, Tryd.ntmps68
    go_wp2
    go_returns
    exact ⟨rfl, by go_grown⟩
  · go_enter Tryd.func68, Tryd.ntmps68
    go_wp2
    go_returns
    exact ⟨rfl, by go_grown⟩
  · have e : useB st = false := by simp [useB, h1, h2]
    go_enter Tryd.func68, Tryd.ntmps68
    go_wp2
    go_returns
    exact ⟨ret_bool (by simp [e, h1, h2]), by go_grown⟩

set_option maxHeartbeats 1000000 in
theorem rright_any (st cl fr : Int) (w : World) (hm : Mask fr) :
    Calls Tryd.prog 48 #[.agg #[.int .i64 st, .int .i64 cl, .int .u32 fr]] w fun e w' => e = .returned (.bool (rightB st cl fr)) ∧ Below w.heap.size w w' := by
  by_cases h0 : st = 0
  · subst h0
    by_cases h1 : cl = 0
    · subst h1
      go_enter Tryd.func48, Tryd.ntmps48
      go_wp2
      go_returns
      exact ⟨ret_bool (by simp [rightB]; try rfl), by go_grown⟩
    · go_enter Tryd.func48, Tryd.ntmps48
      go_wp2
      go_returns
      exact ⟨ret_bool (by simp [rightB, h1]), by go_grown⟩
  · cases hu : useB st with
    | false =>
      have e : rightB st cl fr = false := by unfold rightB; rw [if_neg h0, hu]; rfl
      go_enter Tryd.func48, Tryd.ntmps48
      go_wp2_with (first
    | (go_at_call 68; refine Calls.mono (ruse_any _ _ _ _) ?_; rintro e w' ⟨rfl, hb⟩; obtain ⟨hc, hf, hb, hz⟩ := bstep hb (w := w) (by go_grown); try simp only [World.size_alloc, World.size_setCell, World.size_drew] at hc hf hz)
      )
      go_returns
      exact ⟨ret_bool (by simp [e]), by go_grown⟩
    | true =>
      by_cases hc : 0 ≤ cl ∧ cl ≤ 3
      · obtain ⟨c0, c1⟩ := hc
        have hr : rightB st cl fr = smallB cl fr := by
          unfold rightB clB
          rw [if_neg h0, hu, decide_eq_true c0, decide_eq_true (show cl < 4 by omega)]
          rfl
        have hb := bl_bound cl
        obtain ⟨b0, b1⟩ := hb
        go_enter Tryd.func48, Tryd.ntmps48
        go_upto_region 1 with fail
        obtain ⟨w1, hw1⟩ : ∃ w1, w1 = w.alloc (.cells #[.int .i64 st, .int .i64 cl, .int .u32 fr] 68) := ⟨_, rfl⟩
        have hbA : Below w.heap.size w w1 := by rw [hw1]; go_grown
        have c0 : w1.cell? ⟨w.heap.size, 0, none⟩ = some (.int .i64 st) := by rw [hw1]; go_simp
        have c1 : w1.cell? ⟨w.heap.size, 1, none⟩ = some (.int .i64 cl) := by rw [hw1]; go_simp
        have c2 : w1.cell? ⟨w.heap.size, 2, none⟩ = some (.int .u32 fr) := by rw [hw1]; go_simp
        have hl : w.heap.size + 1 ≤ w1.heap.size := by rw [hw1]; simp
        rw [← hw1]
        clear hw1
        go_wp2_with (first
    | (go_at_call 68; refine Calls.mono (ruse_any _ _ _ _) ?_; rintro e w' ⟨rfl, hb⟩; obtain ⟨hc, hf, hb, hz⟩ := bstep hb (w := w1) (by go_grown); try simp only [World.size_alloc, World.size_setCell, World.size_drew] at hc hf hz)
    | (go_at_call 60; refine Calls.mono (rcblocks_any _ _) ?_; rintro e w' ⟨rfl, hb⟩; obtain ⟨hc, hf, hb, hz⟩ := bstep hb (w := w1) (by go_grown); try simp only [World.size_alloc, World.size_setCell, World.size_drew] at hc hf hz)
        )
        go_loopg [3] (32 - blW cl).toNat (fun g iv wr => ∃ i : Int, blW cl ≤ i ∧ i ≤ 32 ∧ g = (32 - i).toNat ∧ iv = .int .i64 i ∧ (∀ j, blW cl ≤ j → j < i → hasB fr j = false) ∧ Below w'.heap.size w' wr)
        case atStart => exact ⟨blW cl, by omega, by omega, by omega, rfl, fun j h0 h1 => by omega, Below.refl _ _⟩
        case round =>
          obtain ⟨i, il, ih, rfl, rfl, hno, hbw⟩ := hrel
          have hbW := bjoin hbw (bjoin hb hbA)
          obtain ⟨hc, hf, hb, hz⟩ := bstep hbw (w := w') (Below.refl _ _)
          by_cases hi : i < 32
          · cases hbit : hasB fr i with
            | true =>
              have e : rightB st cl fr = false := by
                rw [hr]
                cases hs : smallB cl fr with
                | false => rfl
                | true => rw [(small_iff hm).1 hs i il hi] at hbit; cases hbit
              go_wp2_with (first
    | (go_at_call 69; refine Calls.mono (rhas_any _ _ _ hm) ?_; rintro e w' ⟨rfl, hb⟩; obtain ⟨hc, hf, hb, hz⟩ := bstep hb (w := wr) (by go_grown); try simp only [World.size_alloc, World.size_setCell, World.size_drew] at hc hf hz)
              )
              go_returns
              exact ⟨ret_bool (by first | rw [e] | rw [← hr, e]), bjoin (by assumption) hbW⟩
            | false =>
              go_wp2_with (first
    | (go_at_call 69; refine Calls.mono (rhas_any _ _ _ hm) ?_; rintro e w' ⟨rfl, hb⟩; obtain ⟨hc, hf, hb, hz⟩ := bstep hb (w := wr) (by go_grown); try simp only [World.size_alloc, World.size_setCell, World.size_drew] at hc hf hz)
              )
              go_roundg (32 - (i + 1)).toNat
              case measure => omega
              case rel => exact ⟨i + 1, by omega, by omega, rfl, rfl, fun j h0 h1 => by
                by_cases e : j = i
                · rw [e, hbit]
                · exact hno j h0 (by omega), bjoin hb hbw⟩
          · have e : rightB st cl fr = true := by
              rw [hr]
              exact (small_iff hm).2 fun j h0 h1 => hno j h0 (by omega)
            go_wp2
            go_returns
            exact ⟨ret_bool (by first | rw [e] | rw [← hr, e]), hbW⟩
      · have e : rightB st cl fr = false := by
          unfold rightB clB
          rw [if_neg h0, hu]
          simp
          omega
        by_cases h : 0 ≤ cl
        · have h3 : 3 < cl := by omega
          go_enter Tryd.func48, Tryd.ntmps48
          go_wp2_with (first
    | (go_at_call 68; refine Calls.mono (ruse_any _ _ _ _) ?_; rintro e w' ⟨rfl, hb⟩; obtain ⟨hc, hf, hb, hz⟩ := bstep hb (w := w) (by go_grown); try simp only [World.size_alloc, World.size_setCell, World.size_drew] at hc hf hz)
          )
          go_returns
          exact ⟨ret_bool (by simp [e]), by go_grown⟩
        · go_enter Tryd.func48, Tryd.ntmps48
          go_wp2_with (first
    | (go_at_call 68; refine Calls.mono (ruse_any _ _ _ _) ?_; rintro e w' ⟨rfl, hb⟩; obtain ⟨hc, hf, hb, hz⟩ := bstep hb (w := w) (by go_grown); try simp only [World.size_alloc, World.size_setCell, World.size_drew] at hc hf hz)
          )
          go_returns
          exact ⟨ret_bool (by simp [e]), by go_grown⟩

end Go.Proofs.YtmbgodncagjncaaDoor
