/- WordBack: each word is a value's that may be, and its word again; unlike values have unlike words. No condition. -/
import Derived.Test.YtloedddkldckbaaRows
import Derived.Test.YtloedddkldckbaaLaw
import Derived.Test.YtloedddkldckbaaAwake01
namespace Go.Proofs.Ytloedddkldckbaa
set_option linter.unusedSimpArgs false
set_option linter.unusedVariables false
open Go.ChangeShapes Go.WideShapes Go.ChangeAt Go.RowKit Go.Joins

theorem may_get (x : Int) (h0 : 0 ≤ x) (h1 : x < 18446744073709551616) : mayB (getK x) (getN x) = true := by
  unfold mayB getK getN
  by_cases a : x = 0
  · simp [a]
  · by_cases b : x % 2 = 1
    · simp [a, b]; omega
    · simp [a, b]; omega
theorem put_get (x : Int) (h0 : 0 ≤ x) (h1 : x < 18446744073709551616) : putW (getK x) (getN x) = x := by
  unfold putW
  rw [if_pos (may_get x h0 h1)]
  unfold putV getK getN
  by_cases a : x = 0
  · simp [a]
  · by_cases b : x % 2 = 1
    · simp [a, b]; omega
    · simp [a, b]; omega
theorem get_put {k n : Int} (h : mayB k n = true) : getK (putW k n) = k ∧ getN (putW k n) = n := by
  unfold putW
  rw [if_pos h]
  unfold putV getK getN
  rcases may_cases h with ⟨rfl, rfl⟩ | ⟨rfl, h0⟩ | ⟨rfl, h0, h1⟩
  · simp
  · have a : ¬ 2 * n + 1 = 0 := by omega
    have b : (2 * n + 1) % 2 = 1 := by omega
    simp [a, b]; omega
  · have a : ¬ 2 * (n + 1) = 0 := by omega
    have b : ¬ (2 * (n + 1)) % 2 = 1 := by omega
    simp [a]
theorem put_inj {k n k' n' : Int} (h : mayB k n = true) (h' : mayB k' n' = true) : (putW k n == putW k' n') = (k == k' && n == n') := by
  by_cases e : putW k n = putW k' n'
  · obtain ⟨a, b⟩ := get_put h
    obtain ⟨c, d⟩ := get_put h'
    rw [e] at a b
    obtain rfl := a.symm.trans c
    obtain rfl := b.symm.trans d
    simp
  · have : ¬ (k = k' ∧ n = n') := by rintro ⟨rfl, rfl⟩; exact e rfl
    rw [beq_eq_false_iff_ne.2 e]
    symm
    simpa using this

set_option maxHeartbeats 1000000 in
theorem back_walk (x k n k' n' : Int) (w : World) (h0 : 0 ≤ x) (h1 : x < 18446744073709551616) (hn : n ≤ 9223372036854775807) (hn' : n' ≤ 9223372036854775807) :
    Calls Try.prog 5 #[.int .u64 x, .agg #[.int .i64 k, .int .i64 n], .agg #[.int .i64 k', .int .i64 n']] w fun e w' => e = .returned (.bool true) ∧ Below w.heap.size w w' := by
  have p0 := put_get x h0 h1
  have m0 := may_get x h0 h1
  have gn : getN x ≤ 9223372036854775807 := by rcases may_cases m0 with ⟨_, a⟩ | ⟨_, a⟩ | ⟨_, a⟩ <;> simp only [getN] <;> split <;> (try split) <;> omega
  cases h : mayB k n with
  | false =>
    go_enter Try.func5, Try.ntmps5
    go_wp2_with (first
    | (go_at_call 7; refine (awake_any _).mono ?_; rintro e w' ⟨rfl, hb⟩; obtain ⟨hc, hf, hb, hz⟩ := bstep hb (w := w) (by go_grown); try simp only [World.size_alloc, World.size_setCell, World.size_drew] at hc hf hz)
    | (go_at_call 8; refine (put_any _ _ _ (by omega)).mono ?_; rintro e w' ⟨rfl, hb⟩; obtain ⟨hc, hf, hb, hz⟩ := bstep hb (w := w) (by go_grown); try simp only [World.size_alloc, World.size_setCell, World.size_drew] at hc hf hz)
    | (go_at_call 12; refine (get_any _ _ (by omega) (by omega)).mono ?_; rintro e w' ⟨rfl, hb⟩; obtain ⟨hc, hf, hb, hz⟩ := bstep hb (w := w) (by go_grown); try simp only [World.size_alloc, World.size_setCell, World.size_drew] at hc hf hz)
    )
    refine wp_region_plus (by kernel_rfl) (by kernel_rfl) fun hpc => ?_
    repeat (first | go_big_quiet_step ((first | (go_at_call 12; exact quiet_plus (get_any _ _ (by omega) (by omega))) | (go_at_call 10; exact quiet_plus (may_any _ _ _)))) | quiet_step ((first | (go_at_call 12; exact quiet_plus (get_any _ _ (by omega) (by omega))) | (go_at_call 10; exact quiet_plus (may_any _ _ _)))))
    refine wpQuiet_nil ?_
    intro w' hbq
    clear hpc
    obtain ⟨hc, hf, hb, hz⟩ := bstep hbq (w := w) (by go_grown)
    try simp only [World.size_alloc, World.size_setCell, World.size_drew] at hc hf hz
    go_wp2
    all_goals
      go_returns
      exact ⟨ret_bool (by simp), by go_grown⟩
  | true =>
    obtain ⟨g0, g1⟩ := get_put h
    obtain ⟨q0, q1⟩ := putW_lt k n hn
    cases h' : mayB k' n' with
    | false =>
      go_enter Try.func5, Try.ntmps5
      go_wp2_with (first
    | (go_at_call 7; refine (awake_any _).mono ?_; rintro e w' ⟨rfl, hb⟩; obtain ⟨hc, hf, hb, hz⟩ := bstep hb (w := w) (by go_grown); try simp only [World.size_alloc, World.size_setCell, World.size_drew] at hc hf hz)
    | (go_at_call 8; refine (put_any _ _ _ (by omega)).mono ?_; rintro e w' ⟨rfl, hb⟩; obtain ⟨hc, hf, hb, hz⟩ := bstep hb (w := w) (by go_grown); try simp only [World.size_alloc, World.size_setCell, World.size_drew] at hc hf hz)
    | (go_at_call 12; refine (get_any _ _ (by omega) (by omega)).mono ?_; rintro e w' ⟨rfl, hb⟩; obtain ⟨hc, hf, hb, hz⟩ := bstep hb (w := w) (by go_grown); try simp only [World.size_alloc, World.size_setCell, World.size_drew] at hc hf hz)
      )
      refine wp_region_plus (by kernel_rfl) (by kernel_rfl) fun hpc => ?_
      repeat (first | go_big_quiet_step ((first | (go_at_call 12; exact quiet_plus (get_any _ _ (by omega) (by omega))) | (go_at_call 10; exact quiet_plus (may_any _ _ _)))) | quiet_step ((first | (go_at_call 12; exact quiet_plus (get_any _ _ (by omega) (by omega))) | (go_at_call 10; exact quiet_plus (may_any _ _ _)))))
      refine wpQuiet_nil ?_
      intro w' hbq
      clear hpc
      obtain ⟨hc, hf, hb, hz⟩ := bstep hbq (w := w) (by go_grown)
      try simp only [World.size_alloc, World.size_setCell, World.size_drew] at hc hf hz
      go_wp2
      all_goals
        go_returns
        exact ⟨ret_bool (by simp), by go_grown⟩
    | true =>
      have inj := put_inj h h'
      obtain ⟨rfl, rfl⟩ | hne : (k = k' ∧ n = n') ∨ (k = k' → ¬ n = n') := by by_cases hk : k = k' <;> by_cases hm : n = n' <;> simp [hk, hm]
      · clear inj
        go_enter Try.func5, Try.ntmps5
        go_wp2_with (first
    | (go_at_call 7; refine (awake_any _).mono ?_; rintro e w' ⟨rfl, hb⟩; obtain ⟨hc, hf, hb, hz⟩ := bstep hb (w := w) (by go_grown); try simp only [World.size_alloc, World.size_setCell, World.size_drew] at hc hf hz)
    | (go_at_call 8; refine (put_any _ _ _ (by omega)).mono ?_; rintro e w' ⟨rfl, hb⟩; obtain ⟨hc, hf, hb, hz⟩ := bstep hb (w := w) (by go_grown); try simp only [World.size_alloc, World.size_setCell, World.size_drew] at hc hf hz)
    | (go_at_call 12; refine (get_any _ _ (by omega) (by omega)).mono ?_; rintro e w' ⟨rfl, hb⟩; obtain ⟨hc, hf, hb, hz⟩ := bstep hb (w := w) (by go_grown); try simp only [World.size_alloc, World.size_setCell, World.size_drew] at hc hf hz)
        )
        refine wp_region_plus (by kernel_rfl) (by kernel_rfl) fun hpc => ?_
        repeat (first | go_big_quiet_step ((first | (go_at_call 12; exact quiet_plus (get_any _ _ (by omega) (by omega))) | (go_at_call 10; exact quiet_plus (may_any _ _ _)))) | quiet_step ((first | (go_at_call 12; exact quiet_plus (get_any _ _ (by omega) (by omega))) | (go_at_call 10; exact quiet_plus (may_any _ _ _)))))
        refine wpQuiet_nil ?_
        intro w' hbq
        clear hpc
        obtain ⟨hc, hf, hb, hz⟩ := bstep hbq (w := w) (by go_grown)
        try simp only [World.size_alloc, World.size_setCell, World.size_drew] at hc hf hz
        go_wp2
        all_goals
          go_returns
          exact ⟨ret_bool (by simp), by go_grown⟩
      replace inj : (putW k n == putW k' n') = false := by rw [inj]; by_cases hk : k = k' <;> simp_all
      by_cases hk : k = k'
      all_goals try have hne' := hne hk
      all_goals try subst hk
      all_goals
        go_enter Try.func5, Try.ntmps5
        go_wp2_with (first
    | (go_at_call 7; refine (awake_any _).mono ?_; rintro e w' ⟨rfl, hb⟩; obtain ⟨hc, hf, hb, hz⟩ := bstep hb (w := w) (by go_grown); try simp only [World.size_alloc, World.size_setCell, World.size_drew] at hc hf hz)
    | (go_at_call 8; refine (put_any _ _ _ (by omega)).mono ?_; rintro e w' ⟨rfl, hb⟩; obtain ⟨hc, hf, hb, hz⟩ := bstep hb (w := w) (by go_grown); try simp only [World.size_alloc, World.size_setCell, World.size_drew] at hc hf hz)
    | (go_at_call 12; refine (get_any _ _ (by omega) (by omega)).mono ?_; rintro e w' ⟨rfl, hb⟩; obtain ⟨hc, hf, hb, hz⟩ := bstep hb (w := w) (by go_grown); try simp only [World.size_alloc, World.size_setCell, World.size_drew] at hc hf hz)
        )
        refine wp_region_plus (by kernel_rfl) (by kernel_rfl) fun hpc => ?_
        repeat (first | go_big_quiet_step ((first | (go_at_call 12; exact quiet_plus (get_any _ _ (by omega) (by omega))) | (go_at_call 10; exact quiet_plus (may_any _ _ _)))) | quiet_step ((first | (go_at_call 12; exact quiet_plus (get_any _ _ (by omega) (by omega))) | (go_at_call 10; exact quiet_plus (may_any _ _ _)))))
        refine wpQuiet_nil ?_
        intro w' hbq
        clear hpc
        obtain ⟨hc, hf, hb, hz⟩ := bstep hbq (w := w) (by go_grown)
        try simp only [World.size_alloc, World.size_setCell, World.size_drew] at hc hf hz
        go_wp2
        all_goals
          go_returns
          exact ⟨ret_bool (by simp), by go_grown⟩

namespace WordBack
theorem own : ownKnob Try.prog.godebug = none := by kernel_rfl
set_option maxRecDepth 100000 in
theorem lifted (os : Os) (started : os.Started) (H : Type) (enc : TypeId × Value → H) :
    ReturnsInHanded {} Try.checked os 5 .any (Rows.wordBackSpec.pre6 enc Try.prog Try.f5 Rows.wordBackRow.domain false) (Rows.wordBackSpec.post enc Try.prog Try.f5 false true false false) := by
  refine law_lifted (C := Try.checked) own started (by kernel_rfl) Try.func5 (by kernel_rfl) (of_decide_eq_true (by kernel_rfl)) rfl
    (fun ds hd => by have hd' : ds.length = 3 := hd; match ds, hd' with | [d0, d1, d2], _ => rfl) rfl Try.underlying4
    (ChangeSpec.witness6 (enc := enc) (C := Try.checked) false ⟨#[], #[.int .u64 0, .agg #[.int .i64 0, .int .i64 0], .agg #[.int .i64 0, .int .i64 0]], []⟩ 8 (by kernel_rfl) (by kernel_rfl) (by kernel_rfl) (by kernel_rfl)) ?_
  intro W base args ds p hval hA hlt
  rw [Try.params5] at hA hval
  obtain ⟨v0, v1, v2, d0, d1, d2, p0, p1, p2, rfl, rfl, rfl, h0, h1, h2⟩ := trodAll_three hA
  obtain ⟨a0, rfl, ha0⟩ := open_u64 Try.underlying25 (hval 0 25 v0 rfl rfl) h0
  obtain ⟨a1, b1, rfl, ha1, hb1⟩ := open_int2 Try.underlying23 (by kernel_rfl) (by kernel_rfl) (by kernel_rfl) (by kernel_rfl) (hval 1 23 v1 rfl rfl) h1
  obtain ⟨a2, b2, rfl, ha2, hb2⟩ := open_int2 Try.underlying23 (by kernel_rfl) (by kernel_rfl) (by kernel_rfl) (by kernel_rfl) (hval 2 23 v2 rfl rfl) h2
  exact back_walk a0 a1 b1 a2 b2 W ha0.1 ha0.2 hb1.2 hb2.2

/-- The statement. -/
theorem holds : Rows.WordBackSaid :=
  OpenClaim.holds_of_wide 5 Try.f5 rfl rfl rfl rfl rfl rfl rfl ⟨rfl, rfl, rfl, rfl, rfl⟩ rfl rfl rfl rfl rfl (by kernel_rfl) Try.func5 (by kernel_rfl)
    (of_decide_eq_true (by kernel_rfl)) (by unfold Func.isWrapper; first | (rw [if_pos (by decide +kernel)]; kernel_rfl) | (rw [if_neg (by decide +kernel)]; exact ⟨rfl, rfl⟩))
    (fun os started H enc _ => lifted os started H enc)
#print axioms holds
end WordBack
end Go.Proofs.Ytloedddkldckbaa
