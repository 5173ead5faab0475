/- Contract of the code's Kept: is a page in a cache (chapter 11)? -/
import Derived.Test.YtjoepiopigmmnaaDoorCacheFn
import Derived.Test.YtjoepiopigmmnaaDoorRowOne
namespace Go.Proofs.YtjoepiopigmmnaaDoor
set_option linter.unusedSimpArgs false
set_option linter.unusedVariables false
open Go.ChangeShapes Go.WideShapes Go.ChangeAt Go.RowKit Go.Joins

theorem Box4.ints {B : Nat} {W : World} {z : Nat → Int} (g : Box4 B (.int .i64 (z 0)) (.int .i64 (z 1)) (.int .i64 (z 2)) (.int .i64 (z 3)) W) (hw : ∀ i, i < 4 → (Lit.int .i64 (z i)).wf = true) : Ints .i64 W (some ⟨B, 0, none⟩) 4 z := fun i hi => by
  refine ⟨⟨B, 0, rfl, g.1, ?_⟩, hw i hi⟩
  rw [Nat.zero_add]
  have : i = 0 ∨ i = 1 ∨ i = 2 ∨ i = 3 := by omega
  rcases this with rfl | rfl | rfl | rfl
  · exact g.c0
  · exact g.c1
  · exact g.c2
  · exact g.c3
theorem hasY_four (y : Nat → Int) (x : Int) (i : Nat) : hasY y x ((i + 1) * 4) = (hasY y x (i * 4) || hasY (fun j => y (i * 4 + j)) x 4) := by
  rw [show (i + 1) * 4 = i * 4 + 1 + 1 + 1 + 1 by omega]
  simp only [hasY, Nat.add_zero, Bool.false_or, Bool.or_assoc]
set_option maxHeartbeats 2000000 in
theorem sindex_any (p : Option Addr) (n c : Nat) (z : Nat → Int) (x : Int) (w : World) (hin : Ints .i64 w p n z) (hn : n ≤ maxLen) :
    Calls Tryd.prog 72 #[.slice p n c, .int .i64 x] w fun e w' => ∃ i : Int, e = .returned (.int .i64 i) ∧ -1 ≤ i ∧ i < 9223372036854775807 ∧ (0 ≤ i ↔ hasY z x n = true) ∧ Below w.heap.size w w' := by
  simp only [maxLen] at hn
  go_enter Tryd.func72, Tryd.ntmps72
  go_wp2
  go_loopg [8] n (fun g iv wr => ∃ i : Nat, i ≤ n ∧ g = n - i ∧ iv = .int .i64 i ∧ hasY z x i = false ∧ Below w.heap.size w wr)
  case atStart => exact ⟨0, by omega, by omega, rfl, rfl, Below.refl _ _⟩
  case round =>
    obtain ⟨i, ih, rfl, rfl, hno, hbw⟩ := hrel
    by_cases hi : i < n
    · obtain ⟨⟨b, off, rfl, hlt, hv⟩, -⟩ := (hin.below hbw) i hi
      by_cases hy : z i = x
      · have hyes : Hid (0 ≤ (i : Int) ↔ hasY z x n = true) := ⟨fun _ => hasY_hit hy hi, fun _ => by omega⟩
        rw [hy] at hv
        clear hno
        go_wp2
        go_returns
        exact ⟨i, rfl, by omega, by omega, hyes.out, hbw⟩
      · have hno2 : Hid (hasY z x (i + 1) = false) := hasY_miss hno hy
        have d : (x == z i) = false := by simp; omega
        clear hno hy
        generalize z i = v at *
        go_wp2
        go_roundg (n - (i + 1))
        case measure => omega
        case rel => exact ⟨i + 1, by omega, rfl, by go_num, hno2.out, hbw⟩
    · obtain rfl : n = i := by omega
      have hyes : Hid (0 ≤ (-1 : Int) ↔ hasY z x n = true) := by show 0 ≤ (-1 : Int) ↔ hasY z x n = true; rw [hno]; simp
      clear hno
      go_wp2
      go_returns
      exact ⟨-1, rfl, by omega, by omega, hyes.out, hbw⟩
theorem scontains_any (p : Option Addr) (n c : Nat) (z : Nat → Int) (x : Int) (w : World) (hin : Ints .i64 w p n z) (hn : n ≤ maxLen) :
    Calls Tryd.prog 59 #[.slice p n c, .int .i64 x] w fun e w' => e = .returned (.bool (hasY z x n)) ∧ Below w.heap.size w w' := by
  have hI := sindex_any p n c z x w hin hn
  generalize hasY z x n = B at *
  go_enter Tryd.func59, Tryd.ntmps59
  go_wp2_with (first
    | (go_at_call 72; refine Calls.mono hI ?_; rintro e w1 ⟨i, rfl, i0, i1, hiff, hb⟩)
  )
  go_returns
  refine ⟨ret_bool ?_, by go_grown⟩
  cases B
  · simp at hiff; first | (simp; done) | (simp; omega)
  · simp at hiff; first | (simp; done) | (simp; omega)
set_option maxHeartbeats 4000000 in
theorem tkept_any (p : Option Addr) (n c : Nat) (y : Nat → Int) (x : Int) (w : World) (hin : Ints .i64 w p (n * 4) y) (hn : n ≤ 1000) :
    Calls Tryd.prog 40 #[.slice p n c, .int .i64 x] w fun e w' => e = .returned (.bool (keptY n y x)) ∧ Below w.heap.size w w' := by
  by_cases hx : x < 0
  · have hk : keptY n y x = false := by simp [keptY]; omega
    rw [hk]
    go_enter Tryd.func40, Tryd.ntmps40
    go_wp2
    go_returns
    exact ⟨rfl, by go_grown⟩
  · have hk : keptY n y x = hasY y x (n * 4) := by simp [keptY]; omega
    rw [hk]
    clear hk
    go_enter Tryd.func40, Tryd.ntmps40
    go_wp2
    go_loopg [11] n (fun g iv wr => ∃ i : Nat, i ≤ n ∧ g = n - i ∧ iv = .int .i64 i ∧ hasY y x (i * 4) = false ∧ Below w.heap.size w wr)
    case atStart => exact ⟨0, by omega, by omega, rfl, rfl, Below.refl _ _⟩
    case round =>
      obtain ⟨i, ih, rfl, rfl, hno, hbw⟩ := hrel
      by_cases hi : i < n
      · have A : ∀ k, k < 4 → ∃ b off, p = some ⟨b, off, none⟩ ∧ b < wr.heap.size ∧ wr.cell? ⟨b, off + i * 4 + k, none⟩ = some (.int .i64 (y (i * 4 + k))) := fun k hk => by
          obtain ⟨⟨b', off', e, hlt', hv⟩, -⟩ := (hin.below hbw) (i * 4 + k) (by omega)
          exact ⟨b', off', e, hlt', by rw [Nat.add_assoc]; exact hv⟩
        have hwf : ∀ k, k < 4 → (Lit.int .i64 (y (i * 4 + k))).wf = true := fun k hk => (hin (i * 4 + k) (by omega)).2
        obtain ⟨b, off, rfl, hlt, a0⟩ := A 0 (by omega)
        simp only [Nat.add_zero] at a0
        have A' : ∀ k, k < 4 → wr.cell? ⟨b, off + i * 4 + k, none⟩ = some (.int .i64 (y (i * 4 + k))) := fun k hk => by
          obtain ⟨b', off', e, -, hv⟩ := A k hk
          injection e with e
          injection e with e1 e2
          subst e1 e2
          exact hv
        have a1 := A' 1 (by omega)
        have a2 := A' 2 (by omega)
        have a3 := A' 3 (by omega)
        clear A A'
        go_upto_region 6 with fail
        obtain ⟨wx, hwx⟩ : ∃ wx, wx = wr.alloc (.cells #[.int .i64 (y (i * 4)), .int .i64 (y (i * 4 + 1)), .int .i64 (y (i * 4 + 2)), .int .i64 (y (i * 4 + 3))] 50) := ⟨_, rfl⟩
        have gX : Box4 wr.heap.size (.int .i64 (y (i * 4))) (.int .i64 (y (i * 4 + 1))) (.int .i64 (y (i * 4 + 2))) (.int .i64 (y (i * 4 + 3))) wx := by rw [hwx]; exact Box4.new _ _ _ _ _ _
        have hbx : Below wr.heap.size wr wx := by rw [hwx]; exact (Below.refl _ _).alloc (Nat.le_refl _) _
        have hbX := bjoin hbx hbw
        have hC := fun W (hW : Below wx.heap.size wx W) => scontains_any (some ⟨wr.heap.size, 0, none⟩) 4 4 (fun j => y (i * 4 + j)) x W ((Box4.ints (z := fun j => y (i * 4 + j)) gX hwf).below hW) (by decide)
        have h4 := hasY_four y x i
        rw [hno, Bool.false_or] at h4
        obtain ⟨lX, -⟩ := id gX
        rw [← hwx]
        clear hwx a0 a1 a2 a3 hlt hbx hbw gX hwf hno
        generalize wr.heap.size = X at *
        generalize hasY (fun j => y (i * 4 + j)) x 4 = B at *
        cases B
        case' true =>
          have hyes : Hid (hasY y x (n * 4) = true) := by
            rcases Nat.lt_or_ge (i + 1) n with h | h
            · have hm : ∀ a b : Nat, a ≤ b → hasY y x a = true → hasY y x b = true := fun a b hab ha => by
                induction b with
                | zero => obtain rfl : a = 0 := by omega
                          exact ha
                | succ b ihb =>
                  by_cases e : a = b + 1
                  · subst e; exact ha
                  · show (hasY y x b || decide (y b = x)) = true
                    rw [ihb (by omega)]; rfl
              exact hm _ _ (by omega) h4
            · obtain rfl : n = i + 1 := by omega
              exact h4
          clear h4
          go_wp2_with (first
            | (go_at_call 59; refine Calls.mono (hC _ (by go_grown)) ?_; rintro e w1 ⟨rfl, hb1⟩)
          )
          go_returns
          exact ⟨by rw [hyes.out]; rfl, bjoin hb1 hbX⟩
        case' false =>
          have h5 : Hid (hasY y x ((i + 1) * 4) = false) := h4
          clear h4
          go_wp2_with (first
            | (go_at_call 59; refine Calls.mono (hC _ (by go_grown)) ?_; rintro e w1 ⟨rfl, hb1⟩)
          )
          go_roundg (n - (i + 1))
          case measure => omega
          case rel => exact ⟨i + 1, by omega, rfl, by go_num, h5.out, bjoin hb1 hbX⟩
      · obtain rfl : n = i := by omega
        have h5 : Hid (hasY y x (n * 4) = false) := hno
        clear hno
        go_wp2
        go_returns
        exact ⟨by rw [h5.out]; rfl, hbw⟩
end Go.Proofs.YtjoepiopigmmnaaDoor
