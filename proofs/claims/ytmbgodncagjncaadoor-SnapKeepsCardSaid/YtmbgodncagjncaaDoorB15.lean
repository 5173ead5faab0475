/- Contracts of the reference's May, Put, Get of layer 2, for every header and word. -/
import Derived.Test.YtmbgodncagjncaaDoorB12
namespace Go.Proofs.YtmbgodncagjncaaDoor
set_option linter.unusedSimpArgs false
set_option linter.unusedVariables false
open Go.ChangeShapes Go.WideShapes Go.ChangeAt Go.RowKit

theorem fld_at (k : Int) (h0 : 0 ≤ k) (h1 : k < 4) : k = 0 ∧ fldV k = 1 ∨ k = 1 ∧ fldV k = 3 ∨ k = 2 ∧ fldV k = 7 ∨ k = 3 ∧ fldV k = 15 := by
  obtain rfl | rfl | rfl | rfl : k = 0 ∨ k = 1 ∨ k = 2 ∨ k = 3 := by omega
  all_goals simp [fldV]

set_option maxHeartbeats 1000000 in
theorem rhmay_any (u c : Bool) (k n : Int) (w : World) :
    Calls Tryd.prog 75 #[.agg #[.bool u, .bool c, .int .i64 k, .int .i64 n]] w fun e w' => e = .returned (.bool (hmayB u c k n)) ∧ Below w.heap.size w w' := by
  cases u with
  | false =>
    go_enter Tryd.func75, Tryd.ntmps75
    go_wp2
    all_goals
      go_returns
      exact ⟨ret_bool (by simp [hmayB]; simp_all), by go_grown⟩
  | true =>
    by_cases hk : 0 ≤ k ∧ k < 4 ∧ 0 ≤ n
    · obtain ⟨h0, h1, h2⟩ := hk
      obtain ⟨rfl, hf⟩ | ⟨rfl, hf⟩ | ⟨rfl, hf⟩ | ⟨rfl, hf⟩ := fld_at k h0 h1
      all_goals
        clear h0 h1
        go_enter Tryd.func75, Tryd.ntmps75
        go_wp2
        go_region
        go_wp2
        go_returns
        exact ⟨ret_bool (by simp_all [hmayB]), by go_grown⟩
    · go_enter Tryd.func75, Tryd.ntmps75
      go_wp2
      all_goals
        go_returns
        exact ⟨ret_bool (by simp [hmayB]; omega), by go_grown⟩

set_option maxHeartbeats 400000 in
theorem rhput_any (u c : Bool) (k n : Int) (w : World) (h : hmayB u c k n = true) :
    Calls Tryd.prog 64 #[.agg #[.bool u, .bool c, .int .i64 k, .int .i64 n]] w fun e w' => e = .returned (.int .u64 (hputW u c k n)) ∧ Below w.heap.size w w' := by
  cases u with
  | false =>
    obtain ⟨rfl, rfl, rfl⟩ := hmay_un h
    go_enter Tryd.func64, Tryd.ntmps64
    go_wp2
    go_returns
    exact ⟨rfl, by go_grown⟩
  | true =>
    have hk : 0 ≤ k ∧ k < 4 ∧ 0 ≤ n ∧ n < 16 := by have := hmay_cases h; omega
    obtain ⟨k0, k1, n0, n1⟩ := hk
    have hw := hputW_yes h
    cases c
    all_goals
      go_enter Tryd.func64, Tryd.ntmps64
      go_wp2
      go_returns
      exact ⟨ret_int (by (try simp [hw]); try omega), by go_grown⟩

/-! The search of the reference's Get: three loops in one another. -/
def at1 (x c : Int) : Prop := gU x = true → c ≤ x / 16 % 4
def at2 (x c n : Int) : Prop := gU x = true → c < x / 16 % 4 ∨ c = x / 16 % 4 ∧ n ≤ x % 16
def at3 (x c n k : Int) : Prop := gU x = true → c < x / 16 % 4 ∨ c = x / 16 % 4 ∧ (n < x % 16 ∨ n = x % 16 ∧ k ≤ x / 64 % 2)

theorem at_test (x c n k : Int) (kb : Bool) (hkb : kb = decide (k = 1)) (k0 : 0 ≤ k) (k1 : k < 2) (h : at3 x c n k) :
    (hmayB true kb c n = true ∧ hputW true kb c n = x ∧ gU x = true ∧ gC x = kb ∧ gK x = c ∧ gN x = n) ∨ ((hmayB true kb c n = false ∨ hmayB true kb c n = true ∧ ¬ hputW true kb c n = x) ∧ at3 x c n (k + 1)) := by
  by_cases ht : hmayB true kb c n = true ∧ hputW true kb c n = x
  · obtain ⟨hm, hp⟩ := ht
    obtain ⟨a, b, d, e⟩ := raw_of x kb c n hm hp
    refine .inl ⟨hm, hp, a, ?_, ?_, ?_⟩
    · simp [gC, a, b]
    · simp [gK, a, d]
    · simp [gN, a, e]
  · refine .inr ⟨?_, fun hg => ?_⟩
    · cases hm : hmayB true kb c n with
      | false => exact .inl rfl
      | true => exact .inr ⟨rfl, fun hp => ht ⟨hm, hp⟩⟩
    · obtain h | ⟨h, h' | ⟨h', h''⟩⟩ := h hg
      · exact .inl h
      · exact .inr ⟨h, .inl h'⟩
      · refine .inr ⟨h, .inr ⟨h', ?_⟩⟩
        by_cases e : k = x / 64 % 2
        · exfalso
          obtain ⟨-, -, -, hm, hp⟩ := raw_yes x hg
          rw [← h, ← h', ← e, ← hkb] at hm hp
          exact ht ⟨hm, hp⟩
        · omega

set_option maxHeartbeats 2000000 in
theorem rhget_any (x : Int) (w : World) (h0 : 0 ≤ x) (h1 : x < 18446744073709551616) :
    Calls Tryd.prog 57 #[.int .u64 x] w fun e w' => e = .returned (.tuple #[.agg #[.bool (gU x), .bool (gC x), .int .i64 (gK x), .int .i64 (gN x)], .bool (gU x || x == 0)]) ∧ Below w.heap.size w w' := by
  by_cases hx : x = 0
  · subst hx
    go_enter Tryd.func57, Tryd.ntmps57
    go_wp2
    go_returns
    exact ⟨rfl, by go_grown⟩
  · have hx' : (x == 0) = false := by simpa using hx
    go_enter Tryd.func57, Tryd.ntmps57
    go_wp2
    obtain ⟨w0, hw0⟩ : ∃ w0, w0 = w.alloc (.cells #[.bool false, .bool false, .int .i64 0, .int .i64 0] 77) := ⟨_, rfl⟩
    have hb0 : Below w.heap.size w w0 := by rw [hw0]; go_grown
    have c0 : w0.cell? ⟨w.heap.size, 0, none⟩ = some (.bool false) := by rw [hw0]; go_simp
    have c1 : w0.cell? ⟨w.heap.size, 1, none⟩ = some (.bool false) := by rw [hw0]; go_simp
    have c2 : w0.cell? ⟨w.heap.size, 2, none⟩ = some (.int .i64 0) := by rw [hw0]; go_simp
    have c3 : w0.cell? ⟨w.heap.size, 3, none⟩ = some (.int .i64 0) := by rw [hw0]; go_simp
    have f0 : w0.frozen? ⟨w.heap.size, 0, none⟩ = false := by rw [hw0]; go_simp
    have f1 : w0.frozen? ⟨w.heap.size, 1, none⟩ = false := by rw [hw0]; go_simp
    have f2 : w0.frozen? ⟨w.heap.size, 2, none⟩ = false := by rw [hw0]; go_simp
    have f3 : w0.frozen? ⟨w.heap.size, 3, none⟩ = false := by rw [hw0]; go_simp
    have z0 : w.heap.size + 1 ≤ w0.heap.size := by rw [hw0]; simp
    go_loopg [4] 4 (fun g cv wr => ∃ c : Int, 0 ≤ c ∧ c ≤ 4 ∧ g = (4 - c).toNat ∧ cv = .int .i64 c ∧ at1 x c ∧ Below w0.heap.size w0 wr)
    case atStart => exact ⟨0, by omega, by omega, rfl, rfl, fun _ => by omega, by rw [hw0]; exact Below.refl _ _⟩
    case round =>
      clear hw0
      obtain ⟨c, cl, ch, rfl, rfl, hat, hbw⟩ := hrel
      obtain ⟨hc, hf, hb, hz⟩ := bstep hbw (w := w0) (Below.refl _ _)
      by_cases hc4 : c < 4
      · go_wp2
        go_loopg [5] 16 (fun g nv wr => ∃ n : Int, 0 ≤ n ∧ n ≤ 16 ∧ g = (16 - n).toNat ∧ nv = .int .i64 n ∧ at2 x c n ∧ Below w0.heap.size w0 wr)
        case atStart => exact ⟨0, by omega, by omega, rfl, rfl, fun hg => by have := hat hg; omega, hb⟩
        case round =>
          clear hc hf hb hz hbw hat
          obtain ⟨n, nl, nh, rfl, rfl, hat, hbw⟩ := hrel
          obtain ⟨hc, hf, hb, hz⟩ := bstep hbw (w := w0) (Below.refl _ _)
          by_cases hn : n < 16
          · go_wp2
            go_loopg [6] 2 (fun g kv wr => ∃ k : Int, 0 ≤ k ∧ k ≤ 2 ∧ g = (2 - k).toNat ∧ kv = .int .i64 k ∧ at3 x c n k ∧ Below w0.heap.size w0 wr)
            case atStart => exact ⟨0, by omega, by omega, rfl, rfl, fun hg => by have := hat hg; omega, hb⟩
            case round =>
              clear hc hf hb hz hbw hat
              obtain ⟨k, kl, kh, rfl, rfl, hat, hbw⟩ := hrel
              obtain ⟨hc, hf, hb, hz⟩ := bstep hbw (w := w0) (Below.refl _ _)
              by_cases hk : k < 2
              · obtain rfl | rfl : k = 0 ∨ k = 1 := by omega
                · obtain ⟨hm, hp, g1, g2, g3, g4⟩ | ⟨hm | ⟨hm, hp⟩, hat⟩ := at_test x c n 0 false rfl (by omega) (by omega) hat
                  · go_wp2_with (first
    | (go_at_call 75; refine Calls.mono (rhmay_any _ _ _ _ _) ?_; rintro e w' ⟨rfl, hb⟩; obtain ⟨hc, hf, hb, hz⟩ := bstep hb (w := w0) (by go_grown); try simp only [World.size_alloc, World.size_setCell, World.size_drew] at hc hf hz)
    | (go_at_call 64; refine Calls.mono (rhput_any _ _ _ _ _ hm) ?_; rintro e w' ⟨rfl, hb⟩; obtain ⟨hc, hf, hb, hz⟩ := bstep hb (w := w0) (by go_grown); try simp only [World.size_alloc, World.size_setCell, World.size_drew] at hc hf hz)
                    )
                    refine bodyPost_ret (by simp [results, Tryd.results57, go_sem, *]; try rfl) rfl ?_
                    exact ⟨by simp [g1, g2, g3, g4], by go_grown; all_goals exact bjoin (by assumption) hb0⟩
                  · go_wp2_with (first
    | (go_at_call 75; refine Calls.mono (rhmay_any _ _ _ _ _) ?_; rintro e w' ⟨rfl, hb⟩; obtain ⟨hc, hf, hb, hz⟩ := bstep hb (w := w0) (by go_grown); try simp only [World.size_alloc, World.size_setCell, World.size_drew] at hc hf hz)
                    )
                    go_roundg 1
                    case measure => omega
                    case rel => exact ⟨1, by omega, by omega, rfl, rfl, hat, by go_grown⟩
                  · go_wp2_with (first
    | (go_at_call 75; refine Calls.mono (rhmay_any _ _ _ _ _) ?_; rintro e w' ⟨rfl, hb⟩; obtain ⟨hc, hf, hb, hz⟩ := bstep hb (w := w0) (by go_grown); try simp only [World.size_alloc, World.size_setCell, World.size_drew] at hc hf hz)
    | (go_at_call 64; refine Calls.mono (rhput_any _ _ _ _ _ hm) ?_; rintro e w' ⟨rfl, hb⟩; obtain ⟨hc, hf, hb, hz⟩ := bstep hb (w := w0) (by go_grown); try simp only [World.size_alloc, World.size_setCell, World.size_drew] at hc hf hz)
                    )
                    go_roundg 1
                    case measure => omega
                    case rel => exact ⟨1, by omega, by omega, rfl, rfl, hat, by go_grown⟩
                · obtain ⟨hm, hp, g1, g2, g3, g4⟩ | ⟨hm | ⟨hm, hp⟩, hat⟩ := at_test x c n 1 true rfl (by omega) (by omega) hat
                  · go_wp2_with (first
    | (go_at_call 75; refine Calls.mono (rhmay_any _ _ _ _ _) ?_; rintro e w' ⟨rfl, hb⟩; obtain ⟨hc, hf, hb, hz⟩ := bstep hb (w := w0) (by go_grown); try simp only [World.size_alloc, World.size_setCell, World.size_drew] at hc hf hz)
    | (go_at_call 64; refine Calls.mono (rhput_any _ _ _ _ _ hm) ?_; rintro e w' ⟨rfl, hb⟩; obtain ⟨hc, hf, hb, hz⟩ := bstep hb (w := w0) (by go_grown); try simp only [World.size_alloc, World.size_setCell, World.size_drew] at hc hf hz)
                    )
                    refine bodyPost_ret (by simp [results, Tryd.results57, go_sem, *]; try rfl) rfl ?_
                    exact ⟨by simp [g1, g2, g3, g4], by go_grown; all_goals exact bjoin (by assumption) hb0⟩
                  · go_wp2_with (first
    | (go_at_call 75; refine Calls.mono (rhmay_any _ _ _ _ _) ?_; rintro e w' ⟨rfl, hb⟩; obtain ⟨hc, hf, hb, hz⟩ := bstep hb (w := w0) (by go_grown); try simp only [World.size_alloc, World.size_setCell, World.size_drew] at hc hf hz)
                    )
                    go_roundg 0
                    case measure => omega
                    case rel => exact ⟨2, by omega, by omega, rfl, rfl, hat, by go_grown⟩
                  · go_wp2_with (first
    | (go_at_call 75; refine Calls.mono (rhmay_any _ _ _ _ _) ?_; rintro e w' ⟨rfl, hb⟩; obtain ⟨hc, hf, hb, hz⟩ := bstep hb (w := w0) (by go_grown); try simp only [World.size_alloc, World.size_setCell, World.size_drew] at hc hf hz)
    | (go_at_call 64; refine Calls.mono (rhput_any _ _ _ _ _ hm) ?_; rintro e w' ⟨rfl, hb⟩; obtain ⟨hc, hf, hb, hz⟩ := bstep hb (w := w0) (by go_grown); try simp only [World.size_alloc, World.size_setCell, World.size_drew] at hc hf hz)
                    )
                    go_roundg 0
                    case measure => omega
                    case rel => exact ⟨2, by omega, by omega, rfl, rfl, hat, by go_grown⟩
              · go_wp2
                go_roundg (16 - (n + 1)).toNat
                case measure => omega
                case rel => exact ⟨n + 1, by omega, by omega, rfl, rfl, fun hg => by have := hat hg; omega, hb⟩
          · go_wp2
            go_roundg (4 - (c + 1)).toNat
            case measure => omega
            case rel => exact ⟨c + 1, by omega, by omega, rfl, rfl, fun hg => by have := hat hg; omega, hb⟩
      · have hg : gU x = false := by
          cases hg : gU x with
          | false => rfl
          | true => have := hat hg; omega
        have e1 : gC x = false := by simp [gC, hg]
        have e2 : gK x = 0 := by simp [gK, hg]
        have e3 : gN x = 0 := by simp [gN, hg]
        go_wp2
        refine bodyPost_ret (by simp [results, Tryd.results57, go_sem, *]; try rfl) rfl ?_
        exact ⟨by simp [hg, e1, e2, e3, hx], by go_grown; all_goals exact bjoin (by assumption) hb0⟩

end Go.Proofs.YtmbgodncagjncaaDoor
