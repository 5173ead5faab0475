/- Contracts of class.Words, class.Blocks, class.Fields, class.Of and of the reference's Words, Blocks, Of, for every number. -/
import Derived.Test.YtonjnedlnfdanaaDoorBase
namespace Go.Proofs.YtonjnedlnfdanaaDoor
set_option linter.unusedSimpArgs false
set_option linter.unusedVariables false
open Go.ChangeShapes Go.WideShapes Go.ChangeAt Go.RowKit Go.Joins

def szW (c : Int) : Int := if c = 0 then 2 else if c = 1 then 4 else if c = 2 then 8 else if c = 3 then 16 else 0
def blW (c : Int) : Int := if c = 0 then 16 else if c = 1 then 8 else if c = 2 then 4 else if c = 3 then 2 else 0
def flW (c : Int) : Int := if c = 0 then 1 else if c = 1 then 3 else if c = 2 then 7 else if c = 3 then 15 else 0
def ofC (n : Int) : Int := if n ≤ 1 then 0 else if n ≤ 3 then 1 else if n ≤ 7 then 2 else if n ≤ 15 then 3 else 0
def ofB (n : Int) : Bool := decide (0 ≤ n) && decide (n ≤ 15)

/-- The code's table of sizes, in its variable. -/
def Sz (w : World) : Prop := 0 < w.heap.size ∧ w.cell? ⟨0, 0, none⟩ = some (.int .i64 2) ∧ w.cell? ⟨0, 1, none⟩ = some (.int .i64 4) ∧ w.cell? ⟨0, 2, none⟩ = some (.int .i64 8) ∧ w.cell? ⟨0, 3, none⟩ = some (.int .i64 16)
theorem Sz.below {w w' : World} (h : Sz w) (hb : Below w.heap.size w w') : Sz w' := by
  obtain ⟨h0, h1, h2, h3, h4⟩ := h
  refine ⟨Nat.lt_of_lt_of_le h0 hb.size, ?_, ?_, ?_, ?_⟩ <;> rw [hb.cell (by exact h0)] <;> assumption
theorem sizes_of {W : World} {l rest : List (String × DataW Unit)} (h : laidMetH Tryd.prog l W) (hp : (l.all fun x => x.2.handleName?.isNone) = true)
    (hm : (l.filter fun x => x.1 == "flotsam/class.sizes") = ("flotsam/class.sizes", Lib.tabData .i64 [2, 4, 8, 16]) :: rest) : Sz W := by
  have ht := tab_is (g := 0) (t := 93) (e := 3) (n := 4) h hp hm (by kernel_rfl) (by kernel_rfl) Tryd.underlying93 Tryd.underlying3 (by kernel_rfl) (by kernel_rfl)
  have hg : Tryd.prog.globalNamed "flotsam/class.sizes" = some 0 := by kernel_rfl
  have h0 := ht.cell hg 0 (by decide)
  exact ⟨World.block_lt_of_cell? W _ h0, h0, ht.cell hg 1 (by decide), ht.cell hg 2 (by decide), ht.cell hg 3 (by decide)⟩

theorem cwords_any (c : Int) (w : World) (hS : Sz w) :
    Calls Tryd.prog 48 #[.int .i64 c] w fun e w' => e = .returned (.int .i64 (szW c)) ∧ Below w.heap.size w w' := by
  obtain ⟨s, s0, s1, s2, s3⟩ := hS
  by_cases h : 0 ≤ c ∧ c < 4
  · obtain rfl | rfl | rfl | rfl : c = 0 ∨ c = 1 ∨ c = 2 ∨ c = 3 := by omega
    all_goals
      go_enter Tryd.func48, Tryd.ntmps48
      go_wp2
      go_returns
      exact ⟨ret_int (by simp [szW]), by go_grown⟩
  · have e : szW c = 0 := by unfold szW; (repeat' split) <;> omega
    go_enter Tryd.func48, Tryd.ntmps48
    go_wp2
    all_goals
      go_returns
      exact ⟨ret_int (by simp [e]), by go_grown⟩

theorem cl_cases (c : Int) : c = 0 ∧ szW c = 2 ∧ blW c = 16 ∧ flW c = 1 ∨ c = 1 ∧ szW c = 4 ∧ blW c = 8 ∧ flW c = 3 ∨ c = 2 ∧ szW c = 8 ∧ blW c = 4 ∧ flW c = 7 ∨ c = 3 ∧ szW c = 16 ∧ blW c = 2 ∧ flW c = 15 ∨ ¬ (0 ≤ c ∧ c < 4) ∧ szW c = 0 ∧ blW c = 0 ∧ flW c = 0 := by
  by_cases h : 0 ≤ c ∧ c < 4
  · obtain rfl | rfl | rfl | rfl : c = 0 ∨ c = 1 ∨ c = 2 ∨ c = 3 := by omega
    all_goals simp [szW, blW, flW]
  · refine .inr (.inr (.inr (.inr ⟨h, ?_, ?_, ?_⟩)))
    · unfold szW; (repeat' split) <;> omega
    · unfold blW; (repeat' split) <;> omega
    · unfold flW; (repeat' split) <;> omega

theorem of_none {n : Int} (h : ofB n = false) : ofC n = 0 ∨ n < 0 := by
  simp [ofB] at h
  by_cases h0 : n < 0
  · exact .inr h0
  · left; unfold ofC; (repeat' split) <;> omega

theorem sz_next {c : Int} (h : 0 ≤ c) (h' : c < 3) : 2 * szW c = szW (c + 1) := by
  obtain rfl | rfl | rfl : c = 0 ∨ c = 1 ∨ c = 2 := by omega
  all_goals rfl
theorem bl_next {c : Int} (h : 0 ≤ c) (h' : c < 3) : blW c = 2 * blW (c + 1) := by
  obtain rfl | rfl | rfl : c = 0 ∨ c = 1 ∨ c = 2 := by omega
  all_goals rfl

theorem rcwords_any (c : Int) (w : World) :
    Calls Tryd.prog 24 #[.int .i64 c] w fun e w' => e = .returned (.int .i64 (szW c)) ∧ Below w.heap.size w w' := by
  by_cases h : 0 ≤ c ∧ c ≤ 3
  · obtain ⟨h0, h1⟩ := h
    go_enter Tryd.func24, Tryd.ntmps24
    go_wp2
    go_loopg [3, 4] c.toNat (fun g nv iv wr => ∃ i : Int, 0 ≤ i ∧ i ≤ c ∧ g = (c - i).toNat ∧ nv = .int .i64 (szW i) ∧ iv = .int .i64 i ∧ Below w.heap.size w wr)
    case atStart => exact ⟨0, by omega, by omega, by omega, rfl, rfl, by go_grown⟩
    case round =>
      obtain ⟨i, il, ih, rfl, rfl, rfl, hbw⟩ := hrel
      obtain ⟨hc, hf, hb, hz⟩ := bstep hbw (w := w) (Below.refl _ _)
      have hbd := cl_cases i
      by_cases hi : i < c
      · have hn := sz_next il (by omega)
        go_wp2
        go_roundg (c - (i + 1)).toNat
        case measure => omega
        case rel => exact ⟨i + 1, by omega, by omega, rfl, by simp [hn], rfl, by go_grown⟩
      · obtain rfl : i = c := by omega
        go_wp2
        go_returns
        exact ⟨ret_int (by simp), by go_grown⟩
  · have e : szW c = 0 := by have := cl_cases c; omega
    go_enter Tryd.func24, Tryd.ntmps24
    go_wp2
    all_goals
      go_returns
      exact ⟨ret_int (by simp [e]), by go_grown⟩

theorem rcblocks_any (c : Int) (w : World) :
    Calls Tryd.prog 17 #[.int .i64 c] w fun e w' => e = .returned (.int .i64 (blW c)) ∧ Below w.heap.size w w' := by
  by_cases h : 0 ≤ c ∧ c ≤ 3
  · obtain ⟨h0, h1⟩ := h
    go_enter Tryd.func17, Tryd.ntmps17
    go_wp2
    go_loopg [3, 4] c.toNat (fun g nv iv wr => ∃ i : Int, 0 ≤ i ∧ i ≤ c ∧ g = (c - i).toNat ∧ nv = .int .i64 (blW i) ∧ iv = .int .i64 i ∧ Below w.heap.size w wr)
    case atStart => exact ⟨0, by omega, by omega, by omega, rfl, rfl, by go_grown⟩
    case round =>
      obtain ⟨i, il, ih, rfl, rfl, rfl, hbw⟩ := hrel
      obtain ⟨hc, hf, hb, hz⟩ := bstep hbw (w := w) (Below.refl _ _)
      have hbd := cl_cases i
      by_cases hi : i < c
      · have hn := bl_next il (by omega)
        have hn' : blW i / 2 = blW (i + 1) := by omega
        go_wp2
        go_roundg (c - (i + 1)).toNat
        case measure => omega
        case rel => exact ⟨i + 1, by omega, by omega, rfl, by simp [hn'], rfl, by go_grown⟩
      · obtain rfl : i = c := by omega
        go_wp2
        go_returns
        exact ⟨ret_int (by simp), by go_grown⟩
  · have e : blW c = 0 := by have := cl_cases c; omega
    go_enter Tryd.func17, Tryd.ntmps17
    go_wp2
    all_goals
      go_returns
      exact ⟨ret_int (by simp [e]), by go_grown⟩

end Go.Proofs.YtonjnedlnfdanaaDoor
