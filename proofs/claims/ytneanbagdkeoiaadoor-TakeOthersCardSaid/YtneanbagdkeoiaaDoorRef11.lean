/- Contracts of the reference's Kept, Same, Right and Page (chapter 11). -/
import Derived.Test.YtneanbagdkeoiaaDoorCacheFn
import Derived.Test.YtneanbagdkeoiaaDoorRef06
import Derived.Test.YtneanbagdkeoiaaDoorHeapFn
import Derived.ChangeKeysEq
namespace Go.Proofs.YtneanbagdkeoiaaDoor
set_option linter.unusedSimpArgs false
set_option linter.unusedVariables false
open Go.ChangeShapes Go.WideShapes Go.ChangeAt Go.RowKit Go.Joins

set_option maxHeartbeats 4000000 in
theorem rkept_any (p : Option Addr) (n c : Nat) (y : Nat → Int) (x : Int) (w : World) (hin : Ints .i64 w p (n * 4) y) (hn : n ≤ maxLen) :
    Calls Tryd.prog 14 #[.slice p n c, .int .i64 x] w fun e w' => e = .returned (.bool (keptY n y x)) ∧ Below w.heap.size w w' := by
  simp only [maxLen] at hn
  by_cases hx : 0 ≤ x
  · have hk : keptY n y x = hasY y x (n * 4) := by simp [keptY, hx]
    rw [hk]
    clear hk
    go_enter Tryd.func14, Tryd.ntmps14
    go_wp2
    go_loopg [5] n (fun g iv wr => ∃ i : Nat, i ≤ n ∧ g = n - i ∧ iv = .int .i64 i ∧ hasY y x (i * 4) = false ∧ Below w.heap.size w wr)
    case atStart => exact ⟨0, by omega, by omega, rfl, rfl, Below.refl _ _⟩
    case round =>
      obtain ⟨i, ih, rfl, rfl, hno, hbw⟩ := hrel
      by_cases hi : i < n
      · obtain ⟨⟨b, off, rfl, hlt, -⟩, -⟩ := hin (i * 4) (by omega)
        go_wp2
        go_loopg [6] 4 (fun g cv wr => ∃ k : Nat, k ≤ 4 ∧ g = 4 - k ∧ cv = .int .i64 k ∧ hasY y x (i * 4 + k) = false ∧ Below w.heap.size w wr)
        case atStart => exact ⟨0, by omega, by omega, rfl, hno, hbw⟩
        case round =>
          clear hno hbw
          obtain ⟨k, kh, rfl, rfl, hno, hbw⟩ := hrel
          by_cases hk : k < 4
          · obtain ⟨⟨b', off', e, hlt', hv⟩, -⟩ := (hin.below hbw) (i * 4 + k) (by omega)
            injection e with e
            injection e with e1 e2
            subst e1 e2
            rw [← Nat.add_assoc] at hv
            by_cases hy : y (i * 4 + k) = x
            · have hyes : hasY y x (n * 4) = true := hasY_hit hy (by omega)
              rw [hy] at hv
              go_wp2
              go_returns
              exact ⟨rfl, hbw⟩
            · have hno2 := hasY_miss hno hy
              clear hno
              generalize y (i * 4 + k) = yv at *
              go_wp2
              go_roundg (4 - (k + 1))
              case measure => omega
              case rel => exact ⟨k + 1, by omega, rfl, by go_num, hno2, hbw⟩
          · obtain rfl : k = 4 := by omega
            go_wp2
            go_roundg (n - (i + 1))
            case measure => omega
            case rel => exact ⟨i + 1, by omega, rfl, by go_num, by rw [show (i + 1) * 4 = i * 4 + 4 by omega]; exact hno, hbw⟩
      · obtain rfl : n = i := by omega
        go_wp2
        go_returns
        exact ⟨by rw [hno]; rfl, hbw⟩
  · have hk : keptY n y x = false := by simp [keptY, hx]
    rw [hk]
    go_enter Tryd.func14, Tryd.ntmps14
    go_wp2
    go_loopg [5] 0 (fun g iv wr => g = 0 ∧ iv = .int .i64 0 ∧ Below w.heap.size w wr)
    case atStart => exact ⟨rfl, rfl, Below.refl _ _⟩
    case round =>
      obtain ⟨rfl, rfl, hbw⟩ := hrel
      by_cases h0 : 0 < n
      · go_wp2
        go_returns
        exact ⟨rfl, hbw⟩
      · obtain rfl : n = 0 := by omega
        go_wp2
        go_returns
        exact ⟨rfl, hbw⟩
set_option maxHeartbeats 1000000 in
theorem ropen11_any (st cl fr : Int) (w : World) (hm : Mask fr) :
    Calls Tryd.prog 33 #[.agg #[.int .i64 st, .int .i64 cl, .int .u32 fr]] w fun e w' => e = .returned (.bool (decide (st = 1) && decide (0 < countW fr))) ∧ Below w.heap.size w w' := by
  by_cases h1 : st = 1
  · subst h1
    go_enter Tryd.func33, Tryd.ntmps33
    go_wp2_with (first
    | (go_at_call 46; refine Calls.mono (rfree_any _ _ _ _ hm) ?_; rintro e w' ⟨rfl, hb⟩; obtain ⟨hc, hf, hb, hz⟩ := bstep hb (w := w) (by go_grown); try simp only [World.size_alloc, World.size_setCell, World.size_drew] at hc hf hz)
    )
    go_returns
    exact ⟨ret_bool (by simp), by go_grown⟩
  · go_enter Tryd.func33, Tryd.ntmps33
    go_wp2
    go_returns
    exact ⟨ret_bool (by simp [h1]), by go_grown⟩
theorem int_info11 : (Tryd.prog.info? 3).map (fun i => (i.zero, i.size, i.bytes)) = some (some (.int .i64 0), 1, 8) := by kernel_rfl
theorem items_step (W : World) (xs ys : Array Value) (i : Nat) (is : List Nat) (a b : Int) (hx : xs[i]? = some (.int .i64 a)) (hy : ys[i]? = some (.int .i64 b)) :
    (Op.eqItems (9998 + 1) 3 1 xs ys (i :: is)).run Tryd.prog W = if a = b then (Op.eqItems (9998 + 1) 3 1 xs ys is).run Tryd.prog W else .ok false W := by
  have hP : Tryd.prog.plainKey 3 = true := by kernel_rfl
  have hI := run_equalIn_int (P := Tryd.prog) W 9998 3 .i64 .i64 a b Tryd.underlying3
  simp only [Op.eqItems, Sem.run_bind, Nat.mul_one]
  rw [run_part_plain W hP hx]
  simp only [Result.andThen_ok]
  rw [run_part_plain W hP hy]
  simp only [Result.andThen_ok, hI]
  by_cases h0 : a = b
  · simp [h0]
  · simp [h0]
/-- Two arrays of four numbers compared. -/
theorem eq_four (W : World) (a0 a1 a2 a3 b0 b1 b2 b3 : Int) : (Op.equalIn 10000 51 (.agg #[.int .i64 a0, .int .i64 a1, .int .i64 a2, .int .i64 a3]) (.agg #[.int .i64 b0, .int .i64 b1, .int .i64 b2, .int .i64 b3])).run Tryd.prog W = .ok (decide (a0 = b0 ∧ a1 = b1 ∧ a2 = b2 ∧ a3 = b3)) W := by
  obtain ⟨i0, hi, -⟩ := info_parts int_info11
  have hC : Tryd.prog.cellsOf 3 = 1 := by kernel_rfl
  rw [show (10000 : Nat) = 9998 + 1 + 1 from rfl, run_equalIn_array W (9998 + 1) _ _ Tryd.underlying51 hi, hC, show List.range 4 = [0, 1, 2, 3] from rfl, items_step W _ _ 0 _ a0 b0 rfl rfl, items_step W _ _ 1 _ a1 b1 rfl rfl, items_step W _ _ 2 _ a2 b2 rfl rfl, items_step W _ _ 3 _ a3 b3 rfl rfl]
  by_cases h0 : a0 = b0
  · by_cases h1 : a1 = b1
    · by_cases h2 : a2 = b2
      · by_cases h3 : a3 = b3
        · simp [h0, h1, h2, h3, Op.eqItems]
        · simp [h0, h1, h2, h3]
      · simp [h0, h1, h2]
    · simp [h0, h1]
  · simp [h0]
/-- The same, four by four. -/
theorem sameY_of {n : Nat} {y z : Nat → Int} (h : ∀ j, j < n * 4 → y j = z j) : sameY n y n z = true := by
  simp only [sameY, decide_true, Bool.true_and, List.all_eq_true, List.mem_range, decide_eq_true_eq]
  exact h
theorem sameY_not {n m : Nat} {y z : Nat → Int} {j : Nat} (hj : j < n * 4) (h : ¬ y j = z j) : sameY n y m z = false := by
  cases e : sameY n y m z
  · rfl
  · simp only [sameY, Bool.and_eq_true, List.all_eq_true, List.mem_range, decide_eq_true_eq] at e
    exact absurd (e.2 j hj) h
set_option maxHeartbeats 8000000 in
theorem rsame11_any (p : Option Addr) (n c : Nat) (y : Nat → Int) (q : Option Addr) (m d : Nat) (z : Nat → Int) (w : World) (hin : Ints .i64 w p (n * 4) y) (hin2 : Ints .i64 w q (m * 4) z) (hn : n ≤ maxLen) (hm : m ≤ maxLen) :
    Calls Tryd.prog 21 #[.slice p n c, .slice q m d] w fun e w' => e = .returned (.bool (sameY n y m z)) ∧ Below w.heap.size w w' := by
  simp only [maxLen] at hn hm
  by_cases e : n = m
  · subst e
    go_enter Tryd.func21, Tryd.ntmps21
    go_wp2
    go_loopg [5] n (fun g iv wr => ∃ i : Nat, i ≤ n ∧ g = n - i ∧ iv = .int .i64 i ∧ (∀ j, j < i * 4 → y j = z j) ∧ Below w.heap.size w wr)
    case atStart => exact ⟨0, by omega, by omega, rfl, fun j hj => by omega, Below.refl _ _⟩
    case round =>
      obtain ⟨i, ih, rfl, rfl, hs, hbw⟩ := hrel
      by_cases hi : i < n
      · have get : ∀ k, k < 4 → ∃ b off, p = some ⟨b, off, none⟩ ∧ b < wr.heap.size ∧ wr.cell? ⟨b, off + i * 4 + k, none⟩ = some (.int .i64 (y (i * 4 + k))) := fun k hk => by
          obtain ⟨⟨b', off', e, hlt', hv⟩, -⟩ := (hin.below hbw) (i * 4 + k) (by omega)
          exact ⟨b', off', e, hlt', by rw [Nat.add_assoc]; exact hv⟩
        have get2 : ∀ k, k < 4 → ∃ b off, q = some ⟨b, off, none⟩ ∧ b < wr.heap.size ∧ wr.cell? ⟨b, off + i * 4 + k, none⟩ = some (.int .i64 (z (i * 4 + k))) := fun k hk => by
          obtain ⟨⟨b', off', e, hlt', hv⟩, -⟩ := (hin2.below hbw) (i * 4 + k) (by omega)
          exact ⟨b', off', e, hlt', by rw [Nat.add_assoc]; exact hv⟩
        obtain ⟨b, off, rfl, hlt, a0⟩ := get 0 (by omega)
        obtain ⟨b2, off2, rfl, hlt2, b0⟩ := get2 0 (by omega)
        have A : ∀ k, k < 4 → wr.cell? ⟨b, off + i * 4 + k, none⟩ = some (.int .i64 (y (i * 4 + k))) := fun k hk => by
          obtain ⟨b', off', e, -, hv⟩ := get k hk
          injection e with e
          injection e with e1 e2
          subst e1 e2
          exact hv
        have B : ∀ k, k < 4 → wr.cell? ⟨b2, off2 + i * 4 + k, none⟩ = some (.int .i64 (z (i * 4 + k))) := fun k hk => by
          obtain ⟨b', off', e, -, hv⟩ := get2 k hk
          injection e with e
          injection e with e1 e2
          subst e1 e2
          exact hv
        have a1 := A 1 (by omega)
        have a2 := A 2 (by omega)
        have a3 := A 3 (by omega)
        have b1 := B 1 (by omega)
        have b2' := B 2 (by omega)
        have b3 := B 3 (by omega)
        simp only [Nat.add_zero] at a0 b0
        clear get get2 A B
        have hs2 : y (i * 4) = z (i * 4) → y (i * 4 + 1) = z (i * 4 + 1) → y (i * 4 + 2) = z (i * 4 + 2) → y (i * 4 + 3) = z (i * 4 + 3) → ∀ j, j < (i + 1) * 4 → y j = z j := fun h0 h1 h2 h3 j hj => by
          by_cases hj0 : j < i * 4
          · exact hs j hj0
          · have : j = i * 4 ∨ j = i * 4 + 1 ∨ j = i * 4 + 2 ∨ j = i * 4 + 3 := by omega
            rcases this with rfl | rfl | rfl | rfl <;> assumption
        have hno : ¬ (y (i * 4) = z (i * 4) ∧ y (i * 4 + 1) = z (i * 4 + 1) ∧ y (i * 4 + 2) = z (i * 4 + 2) ∧ y (i * 4 + 3) = z (i * 4 + 3)) → sameY n y n z = false := fun h => by
          by_cases h0 : y (i * 4) = z (i * 4)
          · by_cases h1 : y (i * 4 + 1) = z (i * 4 + 1)
            · by_cases h2 : y (i * 4 + 2) = z (i * 4 + 2)
              · exact sameY_not (by omega) (fun h3 => h ⟨h0, h1, h2, h3⟩)
              · exact sameY_not (by omega) h2
            · exact sameY_not (by omega) h1
          · exact sameY_not (by omega) h0
        clear hs
        by_cases heq : y (i * 4) = z (i * 4) ∧ y (i * 4 + 1) = z (i * 4 + 1) ∧ y (i * 4 + 2) = z (i * 4 + 2) ∧ y (i * 4 + 3) = z (i * 4 + 3)
        · obtain ⟨e0, e1, e2, e3⟩ := heq
          have hs3 := hs2 e0 e1 e2 e3
          rw [e0] at a0
          rw [e1] at a1
          rw [e2] at a2
          rw [e3] at a3
          clear hs2 hno e0 e1 e2 e3
          generalize z (i * 4) = z0 at *
          generalize z (i * 4 + 1) = z1 at *
          generalize z (i * 4 + 2) = z2 at *
          generalize z (i * 4 + 3) = z3 at *
          have hE := fun W => eq_four W z0 z1 z2 z3 z0 z1 z2 z3
          simp only [and_self, decide_true] at hE
          go_wp2
          go_region
          all_goals
            go_wp2
            go_roundg (n - (i + 1))
            case measure => omega
            case rel => exact ⟨i + 1, by omega, rfl, by go_num, hs3, hbw.drew⟩
        · have hn0 : Hid (sameY n y n z = false) := hno heq
          clear hs2 hno
          generalize z (i * 4) = z0 at *
          generalize z (i * 4 + 1) = z1 at *
          generalize z (i * 4 + 2) = z2 at *
          generalize z (i * 4 + 3) = z3 at *
          generalize y (i * 4) = y0 at *
          generalize y (i * 4 + 1) = y1 at *
          generalize y (i * 4 + 2) = y2 at *
          generalize y (i * 4 + 3) = y3 at *
          have hE : ∀ W, (Op.equalIn 10000 51 (.agg #[.int .i64 y0, .int .i64 y1, .int .i64 y2, .int .i64 y3]) (.agg #[.int .i64 z0, .int .i64 z1, .int .i64 z2, .int .i64 z3])).run Tryd.prog W = .ok false W := fun W => by rw [eq_four, decide_eq_false heq]
          clear heq
          go_wp2
          go_region
          all_goals
            go_wp2
            go_returns
            exact ⟨by rw [hn0.out]; rfl, hbw.drew⟩
      · obtain rfl : n = i := by omega
        have hn0 : Hid (sameY n y n z = true) := sameY_of hs
        clear hs
        go_wp2
        go_returns
        exact ⟨by rw [hn0.out]; rfl, hbw⟩
  · have hk : sameY n y m z = false := by simp [sameY, e]
    rw [hk]
    go_enter Tryd.func21, Tryd.ntmps21
    go_wp2
    go_returns
    exact ⟨rfl, by go_grown⟩
/-- Is the page at a place of the caches right? -/
def okY (h : Hp) (n : Nat) (y : Nat → Int) (j : Nat) : Prop := y j = -1 ∨ (0 ≤ y j ∧ y j < h.m ∧ ¬ (spH h (y j)).st = 0 ∧ (spH h (y j)).cl = (j % 4 : Nat) ∧ cntY y (y j) (n * 4) = 1)
instance (h : Hp) (n : Nat) (y : Nat → Int) (j : Nat) : Decidable (okY h n y j) := by unfold okY; infer_instance
/-- Are the caches right? -/
def rightY (h : Hp) (n : Nat) (y : Nat → Int) : Bool := (List.range (n * 4)).all fun j => decide (okY h n y j)
theorem rightY_iff {h : Hp} {n : Nat} {y : Nat → Int} : rightY h n y = true ↔ ∀ j, j < n * 4 → okY h n y j := by
  simp [rightY]
theorem rightY_not {h : Hp} {n : Nat} {y : Nat → Int} {j : Nat} (hj : j < n * 4) (ho : ¬ okY h n y j) : rightY h n y = false := by
  cases e : rightY h n y with
  | false => rfl
  | true => exact absurd (rightY_iff.1 e j hj) ho
set_option maxRecDepth 20000 in
set_option maxHeartbeats 16000000 in
theorem rright11_any (p : Option Addr) (c : Nat) (q : Option Addr) (d : Nat) (h : Hp) (pc : Option Addr) (n cc : Nat) (y : Nat → Int) (w : World) (hh : HpAt w p c q d h) (hin : Ints .i64 w pc (n * 4) y) (hn : n ≤ 1000) :
    Calls Tryd.prog 12 #[.agg #[.slice p h.n c, .slice q h.m d, .bool h.b], .slice pc n cc] w fun e w' => e = .returned (.bool (rightY h n y)) ∧ Below w.heap.size w w' := by
  have hmm := hh.mle
  simp only [maxLen] at hmm
  go_enter Tryd.func12, Tryd.ntmps12
  go_upto_region 1 with fail
  obtain ⟨w0, hw0⟩ : ∃ w0, w0 = w.alloc (.cells #[.slice p h.n c, .slice q h.m d, .bool h.b] 25) := ⟨_, rfl⟩
  have hbx : Box3 w.heap.size (.slice p h.n c) (.slice q h.m d) (.bool h.b) w0 := by rw [hw0]; exact Box3.new _ _ _ _ _
  have hbA : Below w.heap.size w w0 := by rw [hw0]; go_grown
  have hsp := hh.spans.below hbA
  have hy := hin.below hbA
  rw [← hw0]
  clear hw0 hh hin
  obtain ⟨hl, k0, k1, k2, -, -, -⟩ := hbx
  clear k0 k2
  go_wp2
  go_loopg [5] n (fun g iv wr => ∃ i : Nat, i ≤ n ∧ g = n - i ∧ iv = .int .i64 i ∧ (∀ j, j < i * 4 → okY h n y j) ∧ Below w0.heap.size w0 wr)
  case atStart => exact ⟨0, by omega, by omega, rfl, fun j hj => by omega, Below.refl _ _⟩
  case round =>
    obtain ⟨i, ih, rfl, rfl, hall, hbw⟩ := hrel
    by_cases hi : i < n
    · go_wp2
      go_loopg [6] 4 (fun g kv wr => ∃ k : Nat, k ≤ 4 ∧ g = 4 - k ∧ kv = .int .i64 k ∧ (∀ j, j < i * 4 + k → okY h n y j) ∧ Below w0.heap.size w0 wr)
      case atStart => exact ⟨0, by omega, by omega, rfl, hall, hbw⟩
      case round =>
        clear hall hbw
        obtain ⟨k, kh, rfl, rfl, hall, hbw⟩ := hrel
        by_cases hk : k < 4
        · obtain ⟨⟨b, off, rfl, hlt, hv⟩, -⟩ := (hy.below hbw) (i * 4 + k) (by omega)
          rw [← Nat.add_assoc] at hv
          have hnext : okY h n y (i * 4 + k) → ∀ j, j < i * 4 + (k + 1) → okY h n y j := fun ho j hj => by
            by_cases e : j = i * 4 + k
            · exact e ▸ ho
            · exact hall j (by omega)
          have hstop : ¬ okY h n y (i * 4 + k) → rightY h n y = false := fun ho => rightY_not (by omega) ho
          have hokd : okY h n y (i * 4 + k) ↔ (y (i * 4 + k) = -1 ∨ (0 ≤ y (i * 4 + k) ∧ y (i * 4 + k) < h.m ∧ ¬ (spH h (y (i * 4 + k))).st = 0 ∧ (spH h (y (i * 4 + k))).cl = k ∧ cntY y (y (i * 4 + k)) (n * 4) = 1)) := by
            unfold okY; rw [show (i * 4 + k) % 4 = k by omega]
          clear hall
          generalize y (i * 4 + k) = x at *
          generalize okY h n y (i * 4 + k) = O at *
          by_cases hm1 : x = -1
          · have hn1 := hnext (hokd.2 (.inl hm1))
            subst hm1
            clear hnext hstop hokd
            go_wp2
            go_roundg (4 - (k + 1))
            case measure => omega
            case rel => exact ⟨k + 1, by omega, rfl, by go_num, hn1, hbw⟩
          · by_cases hneg : x < 0
            · have hf0 : Hid (rightY h n y = false) := hstop fun ho => by rcases hokd.1 ho with h1 | h1 <;> omega
              clear hnext hstop hokd
              go_wp2
              go_returns
              exact ⟨by rw [hf0.out]; rfl, bjoin hbw hbA⟩
            · have k1' : wr.cell? ⟨w.heap.size, 1, none⟩ = some (.slice q h.m d) := (hbw.cell (p := ⟨w.heap.size, 1, none⟩) hl).trans k1
              have hl' : w.heap.size < wr.heap.size := Nat.lt_of_lt_of_le hl hbw.size
              by_cases hbig : (h.m : Int) ≤ x
              · have hf0 : Hid (rightY h n y = false) := hstop fun ho => by rcases hokd.1 ho with h1 | h1 <;> omega
                clear hnext hstop hokd
                go_wp2
                go_returns
                exact ⟨by rw [hf0.out]; rfl, bjoin hbw hbA⟩
              · obtain ⟨⟨bs, os, rfl, hls, s0, s1, -⟩, -⟩ := (hsp.below hbw) x.toNat (by omega)
                have hst : (spH h x).st = (h.s x.toNat).st := rfl
                have hcl : (spH h x).cl = (h.s x.toNat).cl := rfl
                rw [hst, hcl] at hokd
                clear hst hcl
                generalize (h.s x.toNat).st = st at *
                generalize (h.s x.toNat).cl = cl at *
                by_cases h0 : st = 0
                · have hf0 : Hid (rightY h n y = false) := hstop fun ho => by rcases hokd.1 ho with h1 | ⟨-, -, h1, -⟩; omega; exact h1 h0
                  subst h0
                  clear hnext hstop hokd
                  go_wp2
                  go_returns
                  exact ⟨by rw [hf0.out]; rfl, bjoin hbw hbA⟩
                · by_cases h1 : cl = k
                  · have hy0 : Ints .i64 wr (some ⟨b, off, none⟩) (n * 4) y := hy.below hbw
                    have hO : Hid (cntY y x (n * 4) = 1 → O) := fun e => hokd.2 (.inr ⟨by omega, by omega, h0, h1, e⟩)
                    have hO' : Hid (¬ cntY y x (n * 4) = 1 → ¬ O) := fun e ho => by rcases hokd.1 ho with h2 | ⟨-, -, -, -, h2⟩; omega; exact e h2
                    subst h1
                    clear hokd
                    go_upto_region 13 with fail
                    generalize hwr : wr = w1 at *
                    clear hwr
                    go_loopg [8, 9] n (fun g cv iv wr => ∃ i2 : Nat, i2 ≤ n ∧ g = n - i2 ∧ cv = .int .i64 (cntY y x (i2 * 4)) ∧ iv = .int .i64 i2 ∧ Below w1.heap.size w1 wr)
                    case atStart => exact ⟨0, by omega, by omega, rfl, rfl, Below.refl _ _⟩
                    case round =>
                      obtain ⟨i2, ih2, rfl, rfl, rfl, hbw1⟩ := hrel
                      by_cases hi2 : i2 < n
                      · go_wp2
                        go_loopg [8, 10] 4 (fun g cv kv wr => ∃ k2 : Nat, k2 ≤ 4 ∧ g = 4 - k2 ∧ cv = .int .i64 (cntY y x (i2 * 4 + k2)) ∧ kv = .int .i64 k2 ∧ Below w1.heap.size w1 wr)
                        case atStart => exact ⟨0, by omega, by omega, rfl, rfl, hbw1⟩
                        case round =>
                          clear hbw1
                          obtain ⟨k2, kh2, rfl, rfl, rfl, hbw1⟩ := hrel
                          by_cases hk2 : k2 < 4
                          · obtain ⟨⟨b', off', e, hlt', hv'⟩, -⟩ := (hy0.below hbw1) (i2 * 4 + k2) (by omega)
                            injection e with e
                            injection e with e1 e2
                            subst e1 e2
                            rw [← Nat.add_assoc] at hv'
                            have hcb := cntY_bound y x (i2 * 4 + k2)
                            have hcb1 := hcb.1
                            have hcb2 := hcb.2
                            have hcb3 : cntY y x (i2 * 4 + k2) ≤ 4000 := by omega
                            have hit : Hid (y (i2 * 4 + k2) = x → cntY y x (i2 * 4 + (k2 + 1)) = cntY y x (i2 * 4 + k2) + 1) := fun e => cntY_hit e
                            have hmiss : Hid (¬ y (i2 * 4 + k2) = x → cntY y x (i2 * 4 + (k2 + 1)) = cntY y x (i2 * 4 + k2)) := fun e => cntY_miss e
                            clear hcb hcb2
                            generalize cntY y x (i2 * 4 + k2) = C at *
                            generalize y (i2 * 4 + k2) = yv at *
                            by_cases hyx : yv = x
                            · have hC := hit.out hyx
                              have hC' : Hid (cntY y x (i2 * 4 + (k2 + 1)) = C + 1) := hC
                              clear hC hit hmiss
                              subst hyx
                              go_wp2
                              go_roundg (4 - (k2 + 1))
                              case measure => omega
                              case rel => exact ⟨k2 + 1, by omega, rfl, by rw [hC'.out], by go_num, hbw1⟩
                            · have hC' : Hid (cntY y x (i2 * 4 + (k2 + 1)) = C) := hmiss.out hyx
                              clear hit hmiss
                              go_wp2
                              go_roundg (4 - (k2 + 1))
                              case measure => omega
                              case rel => exact ⟨k2 + 1, by omega, rfl, by rw [hC'.out], by go_num, hbw1⟩
                          · obtain rfl : k2 = 4 := by omega
                            go_wp2
                            go_roundg (n - (i2 + 1))
                            case measure => omega
                            case rel => exact ⟨i2 + 1, by omega, rfl, by rw [show (i2 + 1) * 4 = i2 * 4 + 4 by omega], by go_num, hbw1⟩
                      · obtain rfl : n = i2 := by omega
                        by_cases hc1 : cntY y x (n * 4) = 1
                        · have hn1 := hnext (hO.out hc1)
                          rw [hc1]
                          clear hc1 hnext hstop hO hO'
                          go_wp2
                          go_roundg (4 - (k + 1))
                          case measure => omega
                          case rel => exact ⟨k + 1, by omega, rfl, by go_num, hn1, bjoin hbw1 hbw⟩
                        · have hf0 : Hid (rightY h n y = false) := hstop (hO'.out hc1)
                          have d1 : (cntY y x (n * 4) != 1) = true := by simp [hc1]
                          clear hnext hstop hO hO' hc1
                          generalize cntY y x (n * 4) = C at *
                          go_wp2
                          go_returns
                          exact ⟨by rw [hf0.out]; rfl, bjoin hbw1 (bjoin hbw hbA)⟩
                  · have hf0 : Hid (rightY h n y = false) := hstop fun ho => by rcases hokd.1 ho with h2 | ⟨-, -, -, h2, -⟩; omega; exact h1 h2
                    have d1 : (cl != (k : Int)) = true := by simp [h1]
                    clear hnext hstop hokd h1
                    go_wp2
                    go_returns
                    exact ⟨by rw [hf0.out]; rfl, bjoin hbw hbA⟩
        · obtain rfl : k = 4 := by omega
          go_wp2
          go_roundg (n - (i + 1))
          case measure => omega
          case rel => exact ⟨i + 1, by omega, rfl, by go_num, by rw [show (i + 1) * 4 = i * 4 + 4 by omega]; exact hall, hbw⟩
    · obtain rfl : n = i := by omega
      have hf0 : Hid (rightY h n y = true) := rightY_iff.2 hall
      clear hall
      go_wp2
      go_returns
      exact ⟨by rw [hf0.out]; rfl, bjoin hbw hbA⟩
/-- Has a page a block to take? -/
def openY (s : Sp) : Bool := decide (s.st = 1) && decide (0 < countW s.fr)
/-- The page that is found. -/
def roomY (h : Hp) (n : Nat) (y : Nat → Int) (c : Int) (p : Nat) : Bool := decide ((h.s p).cl = c) && openY (h.s p) && !keptY n y p
def pageY (h : Hp) (n : Nat) (y : Nat → Int) (m c : Nat) : Option Nat :=
  if 0 ≤ y (m * 4 + c) ∧ openY (spH h (y (m * 4 + c))) = true then some (y (m * 4 + c)).toNat
  else ((List.range h.m).find? (roomY h n y c)).or ((List.range h.m).find? fun p => decide ((h.s p).st = 0))
def pageV : Option Nat → Value
  | some p => .tuple #[.int .i64 p, .bool true]
  | none => .tuple #[.int .i64 0, .bool false]
theorem find_hit {f : Nat → Bool} {n i : Nat} (hi : i < n) (hb : ∀ j, j < i → f j = false) (h : f i = true) : (List.range n).find? f = some i := by
  rw [List.find?_range_eq_some]
  exact ⟨h, List.mem_range.2 hi, fun j hj => by simp [hb j hj]⟩
theorem find_miss {f : Nat → Bool} {n : Nat} (hb : ∀ j, j < n → f j = false) : (List.range n).find? f = none := by
  rw [List.find?_range_eq_none]
  exact fun j hj => by simp [hb j hj]
set_option maxRecDepth 20000 in
set_option maxHeartbeats 16000000 in
theorem rpage11_any (p : Option Addr) (c : Nat) (q : Option Addr) (d : Nat) (h : Hp) (pc : Option Addr) (n cc : Nat) (y : Nat → Int) (m cl : Nat) (w : World) (hh : HpAt w p c q d h) (hin : Ints .i64 w pc (n * 4) y) (hn : n ≤ 1000) (hm : m < n) (hc : cl < 4) (hy : y (m * 4 + cl) < h.m) :
    Calls Tryd.prog 17 #[.agg #[.slice p h.n c, .slice q h.m d, .bool h.b], .slice pc n cc, .int .i64 m, .int .i64 cl] w fun e w' => e = .returned (pageV (pageY h n y m cl)) ∧ Below w.heap.size w w' := by
  have hmm := hh.mle
  simp only [maxLen] at hmm
  go_enter Tryd.func17, Tryd.ntmps17
  go_upto_region 1 with fail
  obtain ⟨w0, hw0⟩ : ∃ w0, w0 = w.alloc (.cells #[.slice p h.n c, .slice q h.m d, .bool h.b] 25) := ⟨_, rfl⟩
  have hbx : Box3 w.heap.size (.slice p h.n c) (.slice q h.m d) (.bool h.b) w0 := by rw [hw0]; exact Box3.new _ _ _ _ _
  have hbA : Below w.heap.size w w0 := by rw [hw0]; go_grown
  have hsp := hh.spans.below hbA
  have hY := hin.below hbA
  rw [← hw0]
  clear hw0 hh hin
  obtain ⟨hl, k0, k1, k2, -, -, -⟩ := hbx
  clear k0 k2
  obtain ⟨⟨b, off, rfl, hlt, hv⟩, -⟩ := hY (m * 4 + cl) (by omega)
  rw [← Nat.add_assoc] at hv
  by_cases hown : 0 ≤ y (m * 4 + cl)
  case' pos =>
    obtain ⟨⟨bs, os, eq, hls, s0, s1, s2⟩, hw⟩ := hsp (y (m * 4 + cl)).toNat (by omega)
    have hO := fun W => ropen11_any (h.s (y (m * 4 + cl)).toNat).st (h.s (y (m * 4 + cl)).toNat).cl (h.s (y (m * 4 + cl)).toNat).fr W hw.2.2
    have hpg : openY (h.s (y (m * 4 + cl)).toNat) = true → pageY h n y m cl = some (y (m * 4 + cl)).toNat := fun e => by unfold pageY; rw [if_pos ⟨hown, e⟩]
    have hpn : ¬ openY (h.s (y (m * 4 + cl)).toNat) = true → pageY h n y m cl = ((List.range h.m).find? (roomY h n y cl)).or ((List.range h.m).find? fun p => decide ((h.s p).st = 0)) := fun e => by unfold pageY; rw [if_neg fun x => e x.2]
    rw [show openY (h.s (y (m * 4 + cl)).toNat) = (decide ((h.s (y (m * 4 + cl)).toNat).st = 1) && decide (0 < countW (h.s (y (m * 4 + cl)).toNat).fr)) from rfl] at hpg hpn
    generalize (h.s (y (m * 4 + cl)).toNat).st = st at *
    generalize (h.s (y (m * 4 + cl)).toNat).cl = sc at *
    generalize (h.s (y (m * 4 + cl)).toNat).fr = fr at *
    generalize (decide (st = 1) && decide (0 < countW fr)) = ob at *
    generalize y (m * 4 + cl) = x at *
    rw [eq] at k1
    refine wp_region_plus (by kernel_rfl) (by kernel_rfl) fun hpc => ?_
    repeat (first | go_big_quiet_step ((first | (go_at_call 33; exact quiet_plus (hO _)))) | quiet_step ((first | (go_at_call 33; exact quiet_plus (hO _)))))
    refine wpQuiet_nil ?_
    intro w' hbq
    clear hpc
    obtain ⟨hc, hf, hb, hz⟩ := bstep hbq (w := w0) (by go_grown)
    try simp only [World.size_alloc, World.size_setCell, World.size_drew] at hc hf hz
    rw [← eq] at k1
    cases ob
    case' true =>
      have hf0 := hpg rfl
      clear hpg hpn
      have v' : w'.cell? ⟨b, off + m * 4 + cl, none⟩ = some (.int .i64 x) := (hbq.cell (p := ⟨b, off + m * 4 + cl, none⟩) hlt).trans hv
      have ex : ((x.toNat : Nat) : Int) = x := by omega
      go_wp2
      go_returns
      exact ⟨by show Ending.returned (.tuple #[.int .i64 x, .bool true]) = _; rw [hf0]; simp only [pageV, ex], bjoin hbq hbA⟩
    case' false =>
      have hpg' : Hid (pageY h n y m cl = ((List.range h.m).find? (roomY h n y cl)).or ((List.range h.m).find? fun p => decide ((h.s p).st = 0))) := hpn (by simp)
      clear hpg hpn hO s0 s1 s2 hls hw eq hown
      go_upto_region 3 with fail
  case' neg =>
    have hpg' : Hid (pageY h n y m cl = ((List.range h.m).find? (roomY h n y cl)).or ((List.range h.m).find? fun p => decide ((h.s p).st = 0))) := by show pageY h n y m cl = _; unfold pageY; rw [if_neg fun x => hown x.1]
    generalize y (m * 4 + cl) = x at *
    refine wp_region_plus (by kernel_rfl) (by kernel_rfl) fun hpc => ?_
    repeat (first | go_big_quiet_step (fail) | quiet_step (fail))
    refine wpQuiet_nil ?_
    intro w' hbq
    clear hpc
    obtain ⟨hc, hf, hb, hz⟩ := bstep hbq (w := w0) (by go_grown)
    try simp only [World.size_alloc, World.size_setCell, World.size_drew] at hc hf hz
    clear hown
    go_upto_region 3 with fail
  all_goals
    clear hc hf hb hz hv
    have hB1 : Below w0.heap.size w0 w' := hbq
    clear hbq
    generalize w' = w1 at *
    have hk1 : w1.cell? ⟨w.heap.size, 1, none⟩ = some (.slice q h.m d) := (hB1.cell (p := ⟨w.heap.size, 1, none⟩) hl).trans k1
    have hl1 : w.heap.size < w1.heap.size := Nat.lt_of_lt_of_le hl hB1.size
    have hs1 := hsp.below hB1
    have hy1 := hY.below hB1
    have hB1W := bjoin hB1 hbA
    clear k1 hl hsp hY hB1 hbA
    go_wp2
    go_loopg [10] h.m (fun g iv wr => ∃ i : Nat, i ≤ h.m ∧ g = h.m - i ∧ iv = .int .i64 i ∧ (∀ j, j < i → roomY h n y cl j = false) ∧ Below w1.heap.size w1 wr)
    case atStart => exact ⟨0, by omega, by omega, rfl, fun j hj => by omega, Below.refl _ _⟩
    case round =>
      obtain ⟨i, ih, rfl, rfl, hno, hbw⟩ := hrel
      have k1' : wr.cell? ⟨w.heap.size, 1, none⟩ = some (.slice q h.m d) := (hbw.cell (p := ⟨w.heap.size, 1, none⟩) hl1).trans hk1
      have hl' : w.heap.size < wr.heap.size := Nat.lt_of_lt_of_le hl1 hbw.size
      by_cases hi : i < h.m
      · obtain ⟨⟨bs, os, eq, hls, s0, s1, s2⟩, hw⟩ := (hs1.below hbw) i (by omega)
        rw [eq] at k1'
        clear eq
        have hnext : roomY h n y cl i = false → ∀ j, j < i + 1 → roomY h n y cl j = false := fun e j hj => by
          by_cases e' : j = i
          · rw [e']; exact e
          · exact hno j (by omega)
        have hhit : roomY h n y cl i = true → pageY h n y m cl = some i := fun e => by rw [hpg'.out, find_hit hi hno e]; rfl
        have hroom : roomY h n y cl i = (decide ((h.s i).cl = cl) && (decide ((h.s i).st = 1) && decide (0 < countW (h.s i).fr)) && !keptY n y i) := rfl
        have hO := ropen11_any (h.s i).st (h.s i).cl (h.s i).fr wr hw.2.2
        have hK := fun W (hW : Below wr.heap.size wr W) => rkept_any (some ⟨b, off, none⟩) n cc y (i : Int) W ((hy1.below hbw).below hW) (by simp only [maxLen]; omega)
        clear hno
        generalize (h.s i).st = st at *
        generalize (h.s i).cl = sc at *
        generalize (h.s i).fr = fr at *
        generalize keptY n y i = kb at *
        generalize (decide (st = 1) && decide (0 < countW fr)) = ob at *
        by_cases h1 : sc = cl
        · cases ob
          case' false =>
            have hn2 := hnext (by rw [hroom]; simp)
            clear hnext hhit hroom
            subst h1
            go_wp2_with (first
              | (go_at_call 33; refine Calls.mono hO ?_; rintro e w7 ⟨rfl, hb7⟩)
            )
            go_roundg (h.m - (i + 1))
            case measure => omega
            case rel => exact ⟨i + 1, by omega, rfl, by go_num, hn2, bjoin hb7 hbw⟩
          case' true =>
            cases kb
            case' true =>
              have hn2 := hnext (by rw [hroom]; simp)
              clear hnext hhit hroom
              subst h1
              go_wp2_with (first
                | (go_at_call 33; refine Calls.mono hO ?_; rintro e w7 ⟨rfl, hb7⟩)
                | (go_at_call 14; refine Calls.mono (hK _ hb7) ?_; rintro e w8 ⟨rfl, hb8⟩)
              )
              go_roundg (h.m - (i + 1))
              case measure => omega
              case rel => exact ⟨i + 1, by omega, rfl, by go_num, hn2, bjoin hb8 (bjoin hb7 hbw)⟩
            case' false =>
              have hf0 : Hid (pageY h n y m cl = some i) := hhit (by rw [hroom]; simp [h1])
              clear hnext hhit hroom
              subst h1
              go_wp2_with (first
                | (go_at_call 33; refine Calls.mono hO ?_; rintro e w7 ⟨rfl, hb7⟩)
                | (go_at_call 14; refine Calls.mono (hK _ hb7) ?_; rintro e w8 ⟨rfl, hb8⟩)
              )
              go_returns
              exact ⟨by rw [hf0.out]; rfl, bjoin hb8 (bjoin hb7 (bjoin hbw hB1W))⟩
        · have hn2 := hnext (by rw [hroom]; simp [h1])
          clear hnext hhit hroom
          have d1 : (sc == (cl : Int)) = false := by simp [h1]
          clear h1
          go_wp2
          go_roundg (h.m - (i + 1))
          case measure => omega
          case rel => exact ⟨i + 1, by omega, rfl, by go_num, hn2, hbw⟩
      · obtain rfl : i = h.m := by omega
        have hpg2 : Hid (pageY h n y m cl = ((List.range h.m).find? fun p => decide ((h.s p).st = 0))) := by show pageY h n y m cl = _; rw [hpg'.out, find_miss hno]; rfl
        have hs2 := hs1.below hbw
        have hbwW := bjoin hbw hB1W
        clear hno hs1 hy1 hbw hB1W hpg' hl1 hk1 ih hi
        go_upto_region 9 with fail
        generalize wr = w2 at *
        go_loopg [11] h.m (fun g iv wr => ∃ i : Nat, i ≤ h.m ∧ g = h.m - i ∧ iv = .int .i64 i ∧ (∀ j, j < i → decide ((h.s j).st = 0) = false) ∧ Below w2.heap.size w2 wr)
        case atStart => exact ⟨0, by omega, by omega, rfl, fun j hj => by omega, Below.refl _ _⟩
        case round =>
          obtain ⟨i, ih, rfl, rfl, hno, hbw⟩ := hrel
          have k2' : wr.cell? ⟨w.heap.size, 1, none⟩ = some (.slice q h.m d) := (hbw.cell (p := ⟨w.heap.size, 1, none⟩) hl').trans k1'
          have hl2 : w.heap.size < wr.heap.size := Nat.lt_of_lt_of_le hl' hbw.size
          by_cases hi : i < h.m
          · obtain ⟨⟨bs, os, eq, hls, s0, s1, s2⟩, hw⟩ := (hs2.below hbw) i (by omega)
            rw [eq] at k2'
            clear eq
            have hnext : decide ((h.s i).st = 0) = false → ∀ j, j < i + 1 → decide ((h.s j).st = 0) = false := fun e j hj => by
              by_cases e' : j = i
              · rw [e']; exact e
              · exact hno j (by omega)
            have hhit : decide ((h.s i).st = 0) = true → pageY h n y m cl = some i := fun e => by rw [hpg2.out, find_hit hi hno e]
            clear hno
            generalize (h.s i).st = st at *
            by_cases h0 : st = 0
            · have hf0 : Hid (pageY h n y m cl = some i) := hhit (by simp [h0])
              subst h0
              clear hnext hhit
              go_wp2
              go_returns
              exact ⟨by rw [hf0.out]; rfl, bjoin hbw hbwW⟩
            · have hn2 := hnext (by simp [h0])
              clear hnext hhit
              go_wp2
              go_roundg (h.m - (i + 1))
              case measure => omega
              case rel => exact ⟨i + 1, by omega, rfl, by go_num, hn2, hbw⟩
          · obtain rfl : i = h.m := by omega
            have hf0 : Hid (pageY h n y m cl = none) := by show pageY h n y m cl = _; rw [hpg2.out, find_miss hno]
            clear hno
            go_wp2
            go_returns
            exact ⟨by rw [hf0.out]; rfl, bjoin hbw hbwW⟩
end Go.Proofs.YtneanbagdkeoiaaDoor
