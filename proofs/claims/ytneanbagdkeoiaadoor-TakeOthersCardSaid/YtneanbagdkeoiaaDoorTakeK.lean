/- Contracts of the code's Kept, isOf and Right (chapter 11). -/
import Derived.Test.YtneanbagdkeoiaaDoorTakeC
import Derived.Test.YtneanbagdkeoiaaDoorRowOne
namespace Go.Proofs.YtneanbagdkeoiaaDoor
set_option linter.unusedSimpArgs false
set_option linter.unusedVariables false
open Go.ChangeShapes Go.WideShapes Go.ChangeAt Go.RowKit Go.Joins

theorem Box4.ints {B : Nat} {W : World} {z : Nat → Int} (g : Box4 B (.int .i64 (z 0)) (.int .i64 (z 1)) (.int .i64 (z 2)) (.int .i64 (z 3)) W) (hw : ∀ i, i < 4 → (Lit.int .i64 (z i)).wf = true) : Ints .i64 W (some ⟨B, 0, none⟩) 4 z := fun i hi => by
  refine ⟨⟨B, 0, rfl, g.1, ?_⟩, hw i hi⟩
  rw [Nat.zero_add]
  have : i = 0 ∨ i = 1 ∨ i = 2 ∨ i = 3 := by omega
  rcases this with rfl | rfl | rfl | rfl
  · exact g.c0
  · exact g.c1
  · exact g.c2
  · exact g.c3
theorem hasY_four (y : Nat → Int) (x : Int) (i : Nat) : hasY y x ((i + 1) * 4) = (hasY y x (i * 4) || hasY (fun j => y (i * 4 + j)) x 4) := by
  rw [show (i + 1) * 4 = i * 4 + 1 + 1 + 1 + 1 by omega]
  simp only [hasY, Nat.add_zero, Bool.false_or, Bool.or_assoc]
set_option maxHeartbeats 2000000 in
theorem sindex_any (p : Option Addr) (n c : Nat) (z : Nat → Int) (x : Int) (w : World) (hin : Ints .i64 w p n z) (hn : n ≤ maxLen) :
    Calls Tryd.prog 50 #[.slice p n c, .int .i64 x] w fun e w' => ∃ i : Int, e = .returned (.int .i64 i) ∧ -1 ≤ i ∧ i < 9223372036854775807 ∧ (0 ≤ i ↔ hasY z x n = true) ∧ Below w.heap.size w w' := by
  simp only [maxLen] at hn
  go_enter Tryd.func50, Tryd.ntmps50
  go_wp2
  go_loopg [8] n (fun g iv wr => ∃ i : Nat, i ≤ n ∧ g = n - i ∧ iv = .int .i64 i ∧ hasY z x i = false ∧ Below w.heap.size w wr)
  case atStart => exact ⟨0, by omega, by omega, rfl, rfl, Below.refl _ _⟩
  case round =>
    obtain ⟨i, ih, rfl, rfl, hno, hbw⟩ := hrel
    by_cases hi : i < n
    · obtain ⟨⟨b, off, rfl, hlt, hv⟩, -⟩ := (hin.below hbw) i hi
      by_cases hy : z i = x
      · have hyes : Hid (0 ≤ (i : Int) ↔ hasY z x n = true) := ⟨fun _ => hasY_hit hy hi, fun _ => by omega⟩
        rw [hy] at hv
        clear hno
        go_wp2
        go_returns
        exact ⟨i, rfl, by omega, by omega, hyes.out, hbw⟩
      · have hno2 : Hid (hasY z x (i + 1) = false) := hasY_miss hno hy
        have d : (x == z i) = false := by simp; omega
        clear hno hy
        generalize z i = v at *
        go_wp2
        go_roundg (n - (i + 1))
        case measure => omega
        case rel => exact ⟨i + 1, by omega, rfl, by go_num, hno2.out, hbw⟩
    · obtain rfl : n = i := by omega
      have hyes : Hid (0 ≤ (-1 : Int) ↔ hasY z x n = true) := by show 0 ≤ (-1 : Int) ↔ hasY z x n = true; rw [hno]; simp
      clear hno
      go_wp2
      go_returns
      exact ⟨-1, rfl, by omega, by omega, hyes.out, hbw⟩
theorem scontains_any (p : Option Addr) (n c : Nat) (z : Nat → Int) (x : Int) (w : World) (hin : Ints .i64 w p n z) (hn : n ≤ maxLen) :
    Calls Tryd.prog 27 #[.slice p n c, .int .i64 x] w fun e w' => e = .returned (.bool (hasY z x n)) ∧ Below w.heap.size w w' := by
  have hI := sindex_any p n c z x w hin hn
  generalize hasY z x n = B at *
  go_enter Tryd.func27, Tryd.ntmps27
  go_wp2_with (first
    | (go_at_call 50; refine Calls.mono hI ?_; rintro e w1 ⟨i, rfl, i0, i1, hiff, hb⟩)
  )
  go_returns
  refine ⟨ret_bool ?_, by go_grown⟩
  cases B
  · simp at hiff; first | (simp; done) | (simp; omega)
  · simp at hiff; first | (simp; done) | (simp; omega)
set_option maxHeartbeats 4000000 in
theorem tkept_any (p : Option Addr) (n c : Nat) (y : Nat → Int) (x : Int) (w : World) (hin : Ints .i64 w p (n * 4) y) (hn : n ≤ 1000) :
    Calls Tryd.prog 13 #[.slice p n c, .int .i64 x] w fun e w' => e = .returned (.bool (keptY n y x)) ∧ Below w.heap.size w w' := by
  by_cases hx : x < 0
  · have hk : keptY n y x = false := by simp [keptY]; omega
    rw [hk]
    go_enter Tryd.func13, Tryd.ntmps13
    go_wp2
    go_returns
    exact ⟨rfl, by go_grown⟩
  · have hk : keptY n y x = hasY y x (n * 4) := by simp [keptY]; omega
    rw [hk]
    clear hk
    go_enter Tryd.func13, Tryd.ntmps13
    go_wp2
    go_loopg [11] n (fun g iv wr => ∃ i : Nat, i ≤ n ∧ g = n - i ∧ iv = .int .i64 i ∧ hasY y x (i * 4) = false ∧ Below w.heap.size w wr)
    case atStart => exact ⟨0, by omega, by omega, rfl, rfl, Below.refl _ _⟩
    case round =>
      obtain ⟨i, ih, rfl, rfl, hno, hbw⟩ := hrel
      by_cases hi : i < n
      · have A : ∀ k, k < 4 → ∃ b off, p = some ⟨b, off, none⟩ ∧ b < wr.heap.size ∧ wr.cell? ⟨b, off + i * 4 + k, none⟩ = some (.int .i64 (y (i * 4 + k))) := fun k hk => by
          obtain ⟨⟨b', off', e, hlt', hv⟩, -⟩ := (hin.below hbw) (i * 4 + k) (by omega)
          exact ⟨b', off', e, hlt', by rw [Nat.add_assoc]; exact hv⟩
        have hwf : ∀ k, k < 4 → (Lit.int .i64 (y (i * 4 + k))).wf = true := fun k hk => (hin (i * 4 + k) (by omega)).2
        obtain ⟨b, off, rfl, hlt, a0⟩ := A 0 (by omega)
        simp only [Nat.add_zero] at a0
        have A' : ∀ k, k < 4 → wr.cell? ⟨b, off + i * 4 + k, none⟩ = some (.int .i64 (y (i * 4 + k))) := fun k hk => by
          obtain ⟨b', off', e, -, hv⟩ := A k hk
          injection e with e
          injection e with e1 e2
          subst e1 e2
          exact hv
        have a1 := A' 1 (by omega)
        have a2 := A' 2 (by omega)
        have a3 := A' 3 (by omega)
        clear A A'
        go_upto_region 6 with fail
        obtain ⟨wx, hwx⟩ : ∃ wx, wx = wr.alloc (.cells #[.int .i64 (y (i * 4)), .int .i64 (y (i * 4 + 1)), .int .i64 (y (i * 4 + 2)), .int .i64 (y (i * 4 + 3))] 51) := ⟨_, rfl⟩
        have gX : Box4 wr.heap.size (.int .i64 (y (i * 4))) (.int .i64 (y (i * 4 + 1))) (.int .i64 (y (i * 4 + 2))) (.int .i64 (y (i * 4 + 3))) wx := by rw [hwx]; exact Box4.new _ _ _ _ _ _
        have hbx : Below wr.heap.size wr wx := by rw [hwx]; exact (Below.refl _ _).alloc (Nat.le_refl _) _
        have hbX := bjoin hbx hbw
        have hC := fun W (hW : Below wx.heap.size wx W) => scontains_any (some ⟨wr.heap.size, 0, none⟩) 4 4 (fun j => y (i * 4 + j)) x W ((Box4.ints (z := fun j => y (i * 4 + j)) gX hwf).below hW) (by decide)
        have h4 := hasY_four y x i
        rw [hno, Bool.false_or] at h4
        obtain ⟨lX, -⟩ := id gX
        rw [← hwx]
        clear hwx a0 a1 a2 a3 hlt hbx hbw gX hwf hno
        generalize wr.heap.size = X at *
        generalize hasY (fun j => y (i * 4 + j)) x 4 = B at *
        cases B
        case' true =>
          have hyes : Hid (hasY y x (n * 4) = true) := by
            rcases Nat.lt_or_ge (i + 1) n with h | h
            · have hm : ∀ a b : Nat, a ≤ b → hasY y x a = true → hasY y x b = true := fun a b hab ha => by
                induction b with
                | zero => obtain rfl : a = 0 := by omega
                          exact ha
                | succ b ihb =>
                  by_cases e : a = b + 1
                  · subst e; exact ha
                  · show (hasY y x b || decide (y b = x)) = true
                    rw [ihb (by omega)]; rfl
              exact hm _ _ (by omega) h4
            · obtain rfl : n = i + 1 := by omega
              exact h4
          clear h4
          go_wp2_with (first
            | (go_at_call 27; refine Calls.mono (hC _ (by go_grown)) ?_; rintro e w1 ⟨rfl, hb1⟩)
          )
          go_returns
          exact ⟨by rw [hyes.out]; rfl, bjoin hb1 hbX⟩
        case' false =>
          have h5 : Hid (hasY y x ((i + 1) * 4) = false) := h4
          clear h4
          go_wp2_with (first
            | (go_at_call 27; refine Calls.mono (hC _ (by go_grown)) ?_; rintro e w1 ⟨rfl, hb1⟩)
          )
          go_roundg (n - (i + 1))
          case measure => omega
          case rel => exact ⟨i + 1, by omega, rfl, by go_num, h5.out, bjoin hb1 hbX⟩
      · obtain rfl : n = i := by omega
        have h5 : Hid (hasY y x (n * 4) = false) := hno
        clear hno
        go_wp2
        go_returns
        exact ⟨by rw [h5.out]; rfl, hbw⟩
set_option maxHeartbeats 4000000 in
theorem tisof_any (p : Option Addr) (c : Nat) (q : Option Addr) (d : Nat) (h : Hp) (g k : Int) (w : World) (hh : HpAt w p c q d h) :
    Calls Tryd.prog 26 #[.agg #[.slice p h.n c, .slice q h.m d, .bool h.b], .int .i64 g, .int .i64 k] w fun e w' => e = .returned (.bool (isO h g k)) ∧ Below w.heap.size w w' := by
  have hmm := hh.mle
  simp only [maxLen] at hmm
  obtain ⟨w0, hw0⟩ : ∃ w0, w0 = w.alloc (.cells #[.slice p h.n c, .slice q h.m d, .bool h.b] 25) := ⟨_, rfl⟩
  have hbx : Box3 w.heap.size (.slice p h.n c) (.slice q h.m d) (.bool h.b) w0 := by rw [hw0]; exact Box3.new _ _ _ _ _
  have hbA : Below w.heap.size w w0 := by rw [hw0]; exact (Below.refl _ _).alloc (Nat.le_refl _) _
  have hsp := hh.spans.below hbA
  obtain ⟨hl, k0, k1, k2, -, -, -⟩ := hbx
  clear hh
  by_cases hneg : g < 0
  · have e : isO h g k = false := by simp [isO, inI]; omega
    rw [e]
    clear e
    go_enter Tryd.func26, Tryd.ntmps26
    go_upto_region 1 with fail
    rw [← hw0]
    clear hw0
    go_wp2
    go_returns
    exact ⟨rfl, hbA⟩
  · by_cases hbig : (h.m : Int) ≤ g
    · have e : isO h g k = false := by simp [isO, inI]; omega
      rw [e]
      clear e
      go_enter Tryd.func26, Tryd.ntmps26
      go_upto_region 1 with fail
      rw [← hw0]
      clear hw0
      go_wp2
      go_returns
      exact ⟨rfl, hbA⟩
    · obtain ⟨⟨bs, os, rfl, hls, s0, s1, -⟩, -⟩ := hsp g.toNat (by omega)
      have e : isO h g k = (!((h.s g.toNat).st == 0) && (h.s g.toNat).cl == k) := by
        have : inI h.m g = true := by simp [inI]; omega
        simp [isO, this, spH]
      rw [e]
      clear e
      generalize (h.s g.toNat).st = st at *
      generalize (h.s g.toNat).cl = cl at *
      by_cases h0 : st = 0
      · subst h0
        go_enter Tryd.func26, Tryd.ntmps26
        go_upto_region 1 with fail
        rw [← hw0]
        clear hw0
        go_wp2
        go_returns
        exact ⟨rfl, hbA⟩
      · have d0 : (st == 0) = false := by simp [h0]
        have d1 : (st != 0) = true := by simp [h0]
        go_enter Tryd.func26, Tryd.ntmps26
        go_upto_region 1 with fail
        rw [← hw0]
        clear hw0
        go_wp2
        go_returns
        exact ⟨ret_bool (by simp [d0]), hbA⟩
theorem bool_info : (Tryd.prog.info? 4).map (fun i => (i.zero, i.size, i.bytes)) = some (some (.bool false), 1, 1) := by kernel_rfl
theorem index_four (xs : Array Value) (k : Nat) (v : Int) (hk : k < 4) (hx : xs[k]? = some (.int .i64 v)) : ∀ W, (Instr.index 51 (.agg xs) (.int .i64 (k : Int))).run Tryd.prog W = .ok (.int .i64 v) W := by
  intro W
  have hP : Tryd.prog.plainKey 3 = true := by kernel_rfl
  have hC : Tryd.prog.cellsOf 3 = 1 := by kernel_rfl
  obtain ⟨i0, hi, -⟩ := info_parts int_info11
  have hS := run_sizeOf (w := W) hi
  rw [hC] at hS
  have hU : (underlying 51).run Tryd.prog W = .ok (.array 4 3) W := run_underlying Tryd.underlying51 W
  have hA : (asIntOf (.int .i64 (k : Int))).run Tryd.prog W = .ok (.i64, (k : Int)) W := rfl
  have h4 : (0 : Int) ≤ k ∧ (k : Int) < (4 : Nat) := by omega
  unfold Instr.index
  rw [Sem.run_bind, hA, Result.andThen_ok]
  simp only []
  rw [Sem.run_bind, hU, Result.andThen_ok]
  simp only [if_pos h4]
  rw [Sem.run_bind, hS, Result.andThen_ok, Nat.mul_one, Int.toNat_natCast]
  exact run_part_plain W hP hx
set_option maxRecDepth 20000 in
set_option maxHeartbeats 16000000 in
theorem tright_any (p : Option Addr) (c : Nat) (q : Option Addr) (d : Nat) (h : Hp) (pc : Option Addr) (n cc : Nat) (y : Nat → Int) (w : World) (hh : HpAt w p c q d h) (hm16 : h.m ≤ 16) (hin : Ints .i64 w pc (n * 4) y) (hn : n ≤ 1000) :
    Calls Tryd.prog 11 #[.agg #[.slice p h.n c, .slice q h.m d, .bool h.b], .slice pc n cc] w fun e w' => e = .returned (.bool (rightY h n y)) ∧ Below w.heap.size w w' := by
  obtain ⟨i0, hi0, hz0, hz1, hz2⟩ := info_parts bool_info
  obtain ⟨w0, hw0⟩ : ∃ w0, w0 = w.alloc (.cells #[.slice p h.n c, .slice q h.m d, .bool h.b] 25) := ⟨_, rfl⟩
  have g3 : Box3 w.heap.size (.slice p h.n c) (.slice q h.m d) (.bool h.b) w0 := by rw [hw0]; exact Box3.new _ _ _ _ _
  have hbA : Below w.heap.size w w0 := by rw [hw0]; exact (Below.refl _ _).alloc (Nat.le_refl _) _
  have hat := hh.below hbA
  have hy := hin.below hbA
  have hsz := hbA.size
  clear hh hin
  obtain ⟨l3, x0, x1, x2, -, -, -⟩ := id g3
  have hl3 := l3
  go_enter Tryd.func11, Tryd.ntmps11
  go_upto_region 1 with fail
  rw [← hw0]
  clear hw0
  go_upto_region 2 with (first
    | (at_make; refine wpList_make_full _ rfl (.tmp 12) (.tmp 12) 59 rfl w0.heap.size 4 i0 (.bool false) 1 Tryd.underlying59 hi0 hz0 hz1 _ _ _ _ h.m rfl rfl rfl rfl (by rw [hz2]; omega) (by simp only [maxLen]; omega) (Nat.le_refl _) ?_; intro w1 hown hgrow)
  )
  have hmk : (madeCells (Value.bool false).cells (h.m * 1)).toList = metV h.m y 0 := by rw [Nat.mul_one, ← metV_nought]; exact toList_madeCells_one _ _
  rw [hmk] at hown
  have hB1 : Below w0.heap.size w0 w1 := (Below.refl _ _).grown hgrow (Nat.le_refl _) (by simp)
  clear hmk hgrow x0 x1 x2 l3
  go_wp2
  go_loopg [16] n (fun g iv wr => ∃ i : Nat, i ≤ n ∧ g = n - i ∧ iv = .int .i64 i ∧ (∀ j, j < i * 4 → metOk h y j) ∧ wr.ownsRow w0.heap.size 4 1 (.slice (some ⟨w0.heap.size, 0, none⟩) h.m h.m) h.m (metV h.m y (i * 4)) ∧ Below w0.heap.size w0 wr)
  case atStart => exact ⟨0, by omega, by omega, rfl, fun j hj => by omega, by rw [Nat.zero_mul]; exact hown, hB1⟩
  case round =>
    clear hown hB1
    obtain ⟨i, ih, rfl, rfl, hall, hown, hbw⟩ := hrel
    by_cases hi : i < n
    · have A : ∀ k, k < 4 → ∃ b off, pc = some ⟨b, off, none⟩ ∧ b < wr.heap.size ∧ wr.cell? ⟨b, off + i * 4 + k, none⟩ = some (.int .i64 (y (i * 4 + k))) := fun k hk => by
        obtain ⟨⟨b', off', e, hlt', hv⟩, -⟩ := (hy.below hbw) (i * 4 + k) (by omega)
        exact ⟨b', off', e, hlt', by rw [Nat.add_assoc]; exact hv⟩
      obtain ⟨b, off, rfl, hlt, a0⟩ := A 0 (by omega)
      simp only [Nat.add_zero] at a0
      have A' : ∀ k, k < 4 → wr.cell? ⟨b, off + i * 4 + k, none⟩ = some (.int .i64 (y (i * 4 + k))) := fun k hk => by
        obtain ⟨b', off', e, -, hv⟩ := A k hk
        injection e with e
        injection e with e1 e2
        subst e1 e2
        exact hv
      have a1 := A' 1 (by omega)
      have a2 := A' 2 (by omega)
      have a3 := A' 3 (by omega)
      clear A A'
      go_upto_region 5 with fail
      obtain ⟨wx, hwx⟩ : ∃ wx, wx = wr.alloc (.cells #[.int .i64 (y (i * 4)), .int .i64 (y (i * 4 + 1)), .int .i64 (y (i * 4 + 2)), .int .i64 (y (i * 4 + 3))] 51) := ⟨_, rfl⟩
      have gX : Box4 wr.heap.size (.int .i64 (y (i * 4))) (.int .i64 (y (i * 4 + 1))) (.int .i64 (y (i * 4 + 2))) (.int .i64 (y (i * 4 + 3))) wx := by rw [hwx]; exact Box4.new _ _ _ _ _ _
      have hbx : Below wr.heap.size wr wx := by rw [hwx]; exact (Below.refl _ _).alloc (Nat.le_refl _) _
      have hbX := bjoin hbx hbw
      replace hown := owned_below hown hbx
      rw [← hwx]
      clear hwx a0 a1 a2 a3 hlt hbx hbw
      generalize wr.heap.size = X at *
      obtain ⟨lX, r0, r1, r2, r3, -⟩ := gX
      go_upto_region 6 with fail
      clear r0 r1 r2 r3 lX
      obtain ⟨xs, hxs, hk4⟩ : ∃ xs : Array Value, xs = #[.int .i64 (y (i * 4)), .int .i64 (y (i * 4 + 1)), .int .i64 (y (i * 4 + 2)), .int .i64 (y (i * 4 + 3))] ∧ ∀ k, k < 4 → xs[k]? = some (.int .i64 (y (i * 4 + k))) := ⟨_, rfl, fun k hk => by
        have : k = 0 ∨ k = 1 ∨ k = 2 ∨ k = 3 := by omega
        rcases this with rfl | rfl | rfl | rfl <;> rfl⟩
      have hxz : xs.size = 4 := by rw [hxs]; rfl
      rw [← hxs]
      clear hxs
      go_loopg [21] 4 (fun g kv wr => ∃ k : Nat, k ≤ 4 ∧ g = 4 - k ∧ kv = .int .i64 k ∧ (∀ j, j < i * 4 + k → metOk h y j) ∧ wr.ownsRow w0.heap.size 4 1 (.slice (some ⟨w0.heap.size, 0, none⟩) h.m h.m) h.m (metV h.m y (i * 4 + k)) ∧ Below w0.heap.size w0 wr)
      case atStart => exact ⟨0, by omega, by omega, rfl, hall, hown, hbX⟩
      case round =>
        clear hall hown hbX
        obtain ⟨k, kh, rfl, rfl, hall, hown, hbw⟩ := hrel
        by_cases hk : k < 4
        · have hx := index_four xs k _ hk (hk4 k hk)
          have hj : i * 4 + k < n * 4 := by omega
          have hnext : metOk h y (i * 4 + k) → ∀ j, j < i * 4 + (k + 1) → metOk h y j := fun ho j hj => by
            by_cases e : j = i * 4 + k
            · exact e ▸ ho
            · exact hall j (by omega)
          have hmod : ((((i * 4 + k) % 4 : Nat)) : Int) = (k : Int) := by omega
          clear hall
          by_cases hm1 : y (i * 4 + k) = -1
          · have hn1 := hnext (.inl hm1)
            have hsk := metV_skip (m := h.m) hm1
            have hown2 : wr.ownsRow w0.heap.size 4 1 (.slice (some ⟨w0.heap.size, 0, none⟩) h.m h.m) h.m (metV h.m y (i * 4 + (k + 1))) := by rw [← Nat.add_assoc, hsk]; exact hown
            rw [hm1] at hx
            clear hnext hsk hown hm1 hk4
            go_wp2
            go_roundg (4 - (k + 1))
            case measure => omega
            case rel => exact ⟨k + 1, by omega, rfl, by go_num, hn1, hown2, hbw⟩
          · have hO := fun W (hW : Below wr.heap.size wr W) => tisof_any p c q d h (y (i * 4 + k)) k W (hat.below (bjoin hW hbw))
            obtain ⟨l3, x0, x1, x2, -, -, -⟩ := g3.below hbw
            cases ho : isO h (y (i * 4 + k)) k
            case' false =>
              have hf0 : Hid (rightY h n y = false) := met_not hj hm1 (.inl (by rw [hmod]; exact ho))
              have d1 : (y (i * 4 + k) == -1) = false := by simp [hm1]
              rw [ho] at hO
              clear hnext hmod hown ho hm1 hk4
              generalize y (i * 4 + k) = x at *
              go_wp2_with (first
                | (go_at_call 26; refine Calls.mono (hO _ (by go_grown)) ?_; rintro e w7 ⟨rfl, hb7⟩)
              )
              go_returns
              exact ⟨by rw [hf0.out]; rfl, bjoin hb7 (bjoin hbw hbA)⟩
            case' true =>
              obtain ⟨g0, g1, -⟩ := isO_iff.1 ho
              have hcell := (hown.cellAt (y (i * 4 + k)).toNat (by omega)).trans (metV_get (y := y) (j := i * 4 + k) (show (y (i * 4 + k)).toNat < h.m by omega))
              rw [Int.toNat_of_nonneg g0] at hcell
              have hfz := hown.frozenAt (y (i * 4 + k)).toNat
              have hst := (hown.stored (y (i * 4 + k)).toNat (.bool true)).1
              rw [metV_set g0 g1] at hst
              have hlt0 := (hown.lt w0.heap.size rfl).2
              rw [ho] at hO
              cases hM : hasY y (y (i * 4 + k)) (i * 4 + k)
              case' true =>
                have hf0 : Hid (rightY h n y = false) := met_not hj hm1 (.inr hM)
                have d1 : (y (i * 4 + k) == -1) = false := by simp [hm1]
                rw [hM] at hcell
                clear hnext hmod ho hm1 hk4 hM hst hown
                generalize y (i * 4 + k) = x at *
                go_wp2_with (first
                  | (go_at_call 26; refine Calls.mono (hO _ (by go_grown)) ?_; rintro e w7 ⟨rfl, hb7⟩; obtain ⟨hc, hf, hb, hz⟩ := bstep hb7 (w := wr) (Below.refl _ _))
                )
                go_returns
                exact ⟨by rw [hf0.out]; rfl, bjoin hb7 (bjoin hbw hbA)⟩
              case' false =>
                have hn1 := hnext (.inr ⟨by rw [hmod]; exact ho, hM⟩)
                have d1 : (y (i * 4 + k) == -1) = false := by simp [hm1]
                rw [hM] at hcell
                have hown2 := hown
                clear hnext hmod ho hm1 hk4 hM hown hst
                go_upto_region 11 with (first
                  | (go_at_call 26; refine Calls.mono (hO _ (by go_grown)) ?_; rintro e w7 ⟨rfl, hb7⟩; obtain ⟨hc, hf, hb, hz⟩ := bstep hb7 (w := wr) (Below.refl _ _))
                )
                have hown3 := owned_below hown2 hb7
                have hst := (hown3.stored (y (i * 4 + k)).toNat (.bool true)).1
                rw [metV_set g0 g1, Nat.add_assoc] at hst
                have hbS := (bjoin hb7 hbw).setCell (p := ⟨w0.heap.size, (y (i * 4 + k)).toNat, none⟩) (Nat.le_refl w0.heap.size) (.bool true)
                clear hown2 hown3
                generalize y (i * 4 + k) = x at *
                go_wp2
                go_roundg (4 - (k + 1))
                case measure => omega
                case rel => exact ⟨k + 1, by omega, rfl, by go_num, hn1, hst, hbS⟩
        · obtain rfl : k = 4 := by omega
          clear hk4
          go_wp2
          go_roundg (n - (i + 1))
          case measure => omega
          case rel => exact ⟨i + 1, by omega, rfl, by go_num, by rw [show (i + 1) * 4 = i * 4 + 4 by omega]; exact hall, by rw [show (i + 1) * 4 = i * 4 + 4 by omega]; exact hown, hbw⟩
    · obtain rfl : n = i := by omega
      have hf0 : Hid (rightY h n y = true) := met_right hall
      clear hall hown
      go_wp2
      go_returns
      exact ⟨by rw [hf0.out]; rfl, bjoin hbw hbA⟩
end Go.Proofs.YtneanbagdkeoiaaDoor
