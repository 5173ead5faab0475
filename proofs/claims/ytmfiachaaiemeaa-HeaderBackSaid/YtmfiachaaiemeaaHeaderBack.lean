/- HeaderBack: what is put is read as it was; what is read is put as it was; unlike headers have unlike words. No condition. -/
import Derived.Test.YtmfiachaaiemeaaRows
import Derived.Test.YtmfiachaaiemeaaLaw
import Derived.Test.YtmfiachaaiemeaaAwake02
namespace Go.Proofs.Ytmfiachaaiemeaa
set_option linter.unusedSimpArgs false
set_option linter.unusedVariables false
open Go.ChangeShapes Go.WideShapes Go.ChangeAt Go.RowKit Go.Joins

/-- Whether there is a header whose word is x. -/
def gOk (x : Int) : Bool := gU x || x == 0
theorem hget_ok (x : Int) (w : World) (h0 : 0 ≤ x) (h1 : x < 18446744073709551616) :
    Calls Try.prog 12 #[.int .u64 x] w fun e w' => e = .returned (.tuple #[.agg #[.bool (gU x), .bool (gC x), .int .i64 (gK x), .int .i64 (gN x)], .bool (gOk x)]) ∧ Below w.heap.size w w' := hget_any x w h0 h1
theorem hputW_lt {u c : Bool} {k n : Int} (h : hmayB u c k n = true) : 0 ≤ hputW u c k n ∧ hputW u c k n < 256 := by
  cases u with
  | false => rw [hputW_un]; omega
  | true =>
    rw [hputW_yes h]
    have := hmay_cases h
    split <;> omega
theorem get_put {u c : Bool} {k n : Int} (h : hmayB u c k n = true) : gU (hputW u c k n) = u ∧ gC (hputW u c k n) = c ∧ gK (hputW u c k n) = k ∧ gN (hputW u c k n) = n ∧ gOk (hputW u c k n) = true := by
  cases u with
  | false =>
    obtain ⟨rfl, rfl, rfl⟩ := hmay_un h
    exact ⟨rfl, rfl, rfl, rfl, rfl⟩
  | true =>
    obtain ⟨a, b, d, e⟩ := raw_of (hputW true c k n) c k n h rfl
    refine ⟨a, ?_, ?_, ?_, by simp [gOk, a]⟩
    · simp only [gC, a, Bool.true_and]; exact b.symm
    · simp only [gK, a, if_true]; exact d.symm
    · simp only [gN, a, if_true]; exact e.symm
theorem may_get (x : Int) : hmayB (gU x) (gC x) (gK x) (gN x) = true := by
  cases hg : gU x with
  | false => simp [gC, gK, gN, hg, hmayB]
  | true =>
    have := (raw_yes x hg).2.2.2.1
    simpa [gC, gK, gN, hg] using this
theorem put_get (x : Int) (h : (gU x || x == 0) = true) : hputW (gU x) (gC x) (gK x) (gN x) = x := by
  cases hg : gU x with
  | false =>
    rw [hputW_un]
    simp [hg] at h
    exact h.symm
  | true =>
    have := (raw_yes x hg).2.2.2.2
    simpa [gC, gK, gN, hg] using this
theorem put_inj {u c u' c' : Bool} {k n k' n' : Int} (h : hmayB u c k n = true) (h' : hmayB u' c' k' n' = true) (e : hputW u c k n = hputW u' c' k' n') : u = u' ∧ c = c' ∧ k = k' ∧ n = n' := by
  obtain ⟨a, b, d, f, -⟩ := get_put h
  obtain ⟨a', b', d', f', -⟩ := get_put h'
  rw [e] at a b d f
  exact ⟨a.symm.trans a', b.symm.trans b', d.symm.trans d', f.symm.trans f'⟩
/-- What is read, as a walk needs it: a header that may be; put, it is the word, or nothing was read. -/
theorem got_cases (x : Int) : (gOk x = true ∧ hputW (gU x) (gC x) (gK x) (gN x) = x) ∨ (gOk x = false ∧ gU x = false ∧ gC x = false ∧ gK x = 0 ∧ gN x = 0) := by
  cases h : gOk x with
  | true => exact .inl ⟨rfl, put_get x h⟩
  | false =>
    have hg : gU x = false := by cases hg : gU x <;> simp [gOk, hg] at h ⊢
    exact .inr ⟨rfl, hg, by simp [gC, hg], by simp [gK, hg], by simp [gN, hg]⟩

set_option maxHeartbeats 4000000 in
theorem back_walk (u c u' c' : Bool) (k n k' n' x : Int) (w : World) (h0 : 0 ≤ x) (h1 : x < 18446744073709551616) :
    Calls Try.prog 5 #[.agg #[.bool u, .bool c, .int .i64 k, .int .i64 n], .agg #[.bool u', .bool c', .int .i64 k', .int .i64 n'], .int .u64 x] w fun e w' => e = .returned (.bool true) ∧ Below w.heap.size w w' := by
  have mx := may_get x
  cases h : hmayB u c k n with
  | false =>
    obtain ⟨gx, px⟩ | ⟨gx, x1, x2, x3, x4⟩ := got_cases x
    all_goals
      go_enter Try.func5, Try.ntmps5
      go_wp2_with (first
    | (go_at_call 7; refine (awake_any _).mono ?_; rintro e w' ⟨rfl, hb⟩; obtain ⟨hc, hf, hb, hz⟩ := bstep hb (w := w) (by go_grown); try simp only [World.size_alloc, World.size_setCell, World.size_drew] at hc hf hz)
    | (go_at_call 8; refine (hput_any _ _ _ _ _).mono ?_; rintro e w' ⟨rfl, hb⟩; obtain ⟨hc, hf, hb, hz⟩ := bstep hb (w := w) (by go_grown); try simp only [World.size_alloc, World.size_setCell, World.size_drew] at hc hf hz)
    | (go_at_call 12; refine (hget_ok _ _ (by omega) (by omega)).mono ?_; rintro e w' ⟨rfl, hb⟩; obtain ⟨hc, hf, hb, hz⟩ := bstep hb (w := w) (by go_grown); try simp only [World.size_alloc, World.size_setCell, World.size_drew] at hc hf hz)
      )
      all_goals
        go_returns
        exact ⟨ret_bool (by simp), by go_grown⟩
  | true =>
    obtain ⟨q0, q1⟩ := hputW_lt h
    obtain ⟨g0, g1, g2, g3, g4⟩ := get_put h
    cases h' : hmayB u' c' k' n' with
    | false =>
      obtain ⟨gx, px⟩ | ⟨gx, x1, x2, x3, x4⟩ := got_cases x
      all_goals
        go_enter Try.func5, Try.ntmps5
        go_wp2_with (first
    | (go_at_call 7; refine (awake_any _).mono ?_; rintro e w' ⟨rfl, hb⟩; obtain ⟨hc, hf, hb, hz⟩ := bstep hb (w := w) (by go_grown); try simp only [World.size_alloc, World.size_setCell, World.size_drew] at hc hf hz)
    | (go_at_call 8; refine (hput_any _ _ _ _ _).mono ?_; rintro e w' ⟨rfl, hb⟩; obtain ⟨hc, hf, hb, hz⟩ := bstep hb (w := w) (by go_grown); try simp only [World.size_alloc, World.size_setCell, World.size_drew] at hc hf hz)
    | (go_at_call 12; refine (hget_ok _ _ (by omega) (by omega)).mono ?_; rintro e w' ⟨rfl, hb⟩; obtain ⟨hc, hf, hb, hz⟩ := bstep hb (w := w) (by go_grown); try simp only [World.size_alloc, World.size_setCell, World.size_drew] at hc hf hz)
        )
        all_goals
          go_returns
          exact ⟨ret_bool (by simp), by go_grown⟩
    | true =>
      by_cases e : u = u' ∧ c = c' ∧ k = k' ∧ n = n'
      · obtain ⟨rfl, rfl, rfl, rfl⟩ := e
        clear h'
        obtain ⟨gx, px⟩ | ⟨gx, x1, x2, x3, x4⟩ := got_cases x
        all_goals
          go_enter Try.func5, Try.ntmps5
          go_wp2_with (first
    | (go_at_call 7; refine (awake_any _).mono ?_; rintro e w' ⟨rfl, hb⟩; obtain ⟨hc, hf, hb, hz⟩ := bstep hb (w := w) (by go_grown); try simp only [World.size_alloc, World.size_setCell, World.size_drew] at hc hf hz)
    | (go_at_call 8; refine (hput_any _ _ _ _ _).mono ?_; rintro e w' ⟨rfl, hb⟩; obtain ⟨hc, hf, hb, hz⟩ := bstep hb (w := w) (by go_grown); try simp only [World.size_alloc, World.size_setCell, World.size_drew] at hc hf hz)
    | (go_at_call 12; refine (hget_ok _ _ (by omega) (by omega)).mono ?_; rintro e w' ⟨rfl, hb⟩; obtain ⟨hc, hf, hb, hz⟩ := bstep hb (w := w) (by go_grown); try simp only [World.size_alloc, World.size_setCell, World.size_drew] at hc hf hz)
          )
          all_goals
            go_returns
            exact ⟨ret_bool (by simp), by go_grown⟩
      · have ne : (hputW u c k n == hputW u' c' k' n') = false := by
          rw [beq_eq_false_iff_ne]
          exact fun he => e (put_inj h h' he)
        have E := Go.Lib.hid e
        clear e
        obtain ⟨gx, px⟩ | ⟨gx, x1, x2, x3, x4⟩ := got_cases x
        all_goals
          go_enter Try.func5, Try.ntmps5
          go_wp2_with (first
    | (go_at_call 7; refine (awake_any _).mono ?_; rintro e w' ⟨rfl, hb⟩; obtain ⟨hc, hf, hb, hz⟩ := bstep hb (w := w) (by go_grown); try simp only [World.size_alloc, World.size_setCell, World.size_drew] at hc hf hz)
    | (go_at_call 8; refine (hput_any _ _ _ _ _).mono ?_; rintro e w' ⟨rfl, hb⟩; obtain ⟨hc, hf, hb, hz⟩ := bstep hb (w := w) (by go_grown); try simp only [World.size_alloc, World.size_setCell, World.size_drew] at hc hf hz)
    | (go_at_call 12; refine (hget_ok _ _ (by omega) (by omega)).mono ?_; rintro e w' ⟨rfl, hb⟩; obtain ⟨hc, hf, hb, hz⟩ := bstep hb (w := w) (by go_grown); try simp only [World.size_alloc, World.size_setCell, World.size_drew] at hc hf hz)
          )
          all_goals first
            | (exact absurd ⟨by assumption, by assumption, by assumption, by assumption⟩ E.out)
            | (go_returns
               exact ⟨ret_bool (by simp), by go_grown⟩)

namespace HeaderBack
theorem own : ownKnob Try.prog.godebug = none := by kernel_rfl
set_option maxRecDepth 100000 in
theorem lifted (os : Os) (started : os.Started) (H : Type) (enc : TypeId × Value → H) :
    ReturnsInHanded {} Try.checked os 5 .any (Rows.headerBackSpec.pre6 enc Try.prog Try.f5 Rows.headerBackRow.domain false) (Rows.headerBackSpec.post enc Try.prog Try.f5 false true false false) := by
  refine law_lifted (C := Try.checked) own started (by kernel_rfl) Try.func5 (by kernel_rfl) (of_decide_eq_true (by kernel_rfl)) rfl
    (fun ds hd => by have hd' : ds.length = 3 := hd; match ds, hd' with | [d0, d1, d2], _ => rfl) rfl Try.underlying4
    (ChangeSpec.witness6 (enc := enc) (C := Try.checked) false ⟨#[], #[.agg #[.bool false, .bool false, .int .i64 0, .int .i64 0], .agg #[.bool false, .bool false, .int .i64 0, .int .i64 0], .int .u64 0], []⟩ 8 (by kernel_rfl) (by kernel_rfl) (by kernel_rfl) (by kernel_rfl)) ?_
  intro W base args ds p hval hA hlt
  rw [Try.params5] at hA hval
  obtain ⟨v0, v1, v2, d0, d1, d2, p0, p1, p2, rfl, rfl, rfl, h0, h1, h2⟩ := trodAll_three hA
  obtain ⟨u0, c0, a0, b0, rfl, ha0, hb0⟩ := open_hdr Try.underlying23 (by kernel_rfl) (by kernel_rfl) (by kernel_rfl) (by kernel_rfl) (by kernel_rfl) (by kernel_rfl) (hval 0 23 v0 rfl rfl) h0
  obtain ⟨u1, c1, a1, b1, rfl, ha1, hb1⟩ := open_hdr Try.underlying23 (by kernel_rfl) (by kernel_rfl) (by kernel_rfl) (by kernel_rfl) (by kernel_rfl) (by kernel_rfl) (hval 1 23 v1 rfl rfl) h1
  obtain ⟨a2, rfl, ha2⟩ := open_u64 Try.underlying25 (hval 2 25 v2 rfl rfl) h2
  exact back_walk u0 c0 u1 c1 a0 b0 a1 b1 a2 W ha2.1 ha2.2

/-- The statement. -/
theorem holds : Rows.HeaderBackSaid :=
  OpenClaim.holds_of_wide 5 Try.f5 rfl rfl rfl rfl rfl rfl rfl ⟨rfl, rfl, rfl, rfl, rfl⟩ rfl rfl rfl rfl rfl (by kernel_rfl) Try.func5 (by kernel_rfl)
    (of_decide_eq_true (by kernel_rfl)) (by unfold Func.isWrapper; first | (rw [if_pos (by decide +kernel)]; kernel_rfl) | (rw [if_neg (by decide +kernel)]; exact ⟨rfl, rfl⟩))
    (fun os started H enc _ => lifted os started H enc)
#print axioms holds
end HeaderBack
end Go.Proofs.Ytmfiachaaiemeaa
