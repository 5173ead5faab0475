/- slices.Grow of nil and slices.Concat of two rows, at values. -/
import Derived.Test.YtmbgodncagjncaaDoorB11
import Derived.Test.YtmbgodncagjncaaDoorB32
import Derived.Lib.AppendZerosOnto
import Derived.Laws.AppendOwnNone
namespace Go.Proofs.YtmbgodncagjncaaDoor
set_option linter.unusedSimpArgs false
set_option linter.unusedVariables false
open Go.ChangeShapes Go.WideShapes Go.ChangeAt Go.RowKit Go.Joins

set_option maxRecDepth 20000 in
theorem grow0_any (n : Nat) (w : World) (h1 : n ≤ 1000001) :
    Calls Tryd.prog 49 #[.slice none 0 0, .int .i64 n] w fun e w' => ∃ p' c', e = .returned (.slice p' 0 c') ∧ w'.ownsRow w.heap.size 46 2 (.slice p' 0 c') 0 [] ∧ Below w.heap.size w w' := by
  by_cases h0 : n = 0
  · subst h0
    go_enter Tryd.func49, Tryd.ntmps49
    go_wp2
    go_returns
    exact ⟨none, 0, rfl, World.ownsRow_nil _ _ _ _, Below.refl _ _⟩
  replace h0 : 1 ≤ n := by omega
  obtain ⟨i0, hi, hz0, hz1, hz2⟩ := info_parts val_info
  have hrz : ∀ ty, (Builtin.append_ #[35, 3] ty #[.slice none 0 0, .int .i64 n]).run Tryd.prog w = _ := fun ty =>
    Lib.run_append_nil_zeros w 35 3 ty 46 i0 (.agg #[.int .i64 0, .int .i64 0]) .i64 .i64 Tryd.underlying35 Tryd.underlying3 hi hz0 n h0 (by rw [hz1]; decide) (by omega) (by rw [hz2]; omega)
  have hG := grownCap_ge w n 0 46
  have hG2 := grownCap_le_maxLen w n 0 46 (by unfold maxLen; omega)
  generalize grownCap w n 0 46 = G at *
  obtain ⟨w2, hw2⟩ : ∃ w2, w2 = w.drew.alloc (.cells (Builtin.zeroCells (Value.agg #[.int .i64 0, .int .i64 0]).cells n ++ Builtin.zeroCells (Value.agg #[.int .i64 0, .int .i64 0]).cells (G - n)) 46) := ⟨_, rfl⟩
  have hsz : (Builtin.zeroCells (Value.agg #[.int .i64 0, .int .i64 0]).cells n ++ Builtin.zeroCells (Value.agg #[.int .i64 0, .int .i64 0]).cells (G - n)).size = G * 2 := by
    simp only [Array.size_append, Go.size_zeroCells]; show n * 2 + (G - n) * 2 = G * 2; omega
  have hown : w2.ownsRow w.heap.size 46 2 (.slice (some ⟨w.heap.size, 0, none⟩) 0 G) 0 [] := by
    rw [hw2]
    exact World.ownsRow_made w.drew _ G (Nat.le_refl _) hG2 hsz
  have hb : Below w.heap.size w w2 := by rw [hw2]; exact (show Below w.heap.size w w.drew from ⟨rfl, rfl, rfl, Nat.le_refl _, fun _ _ => rfl⟩).alloc (Nat.le_refl _) _
  rw [← hw2] at hrz
  simp only [maxLen] at hG2
  clear hw2 hsz
  go_enter Tryd.func49, Tryd.ntmps49
  go_wp2_with (at_builtin; refine Lib.wpList_append_run _ rfl _ _ _ _ rfl _ _ rfl rfl _ _ (hrz _) ?_)
  go_returns
  exact ⟨_, _, rfl, hown, hb⟩
set_option maxHeartbeats 1000000 in
set_option maxRecDepth 20000 in
theorem concat2_any (b : Nat) (p q : Option Addr) (n c m d : Nat) (z y : Nat → Vl) (w : World) (hlt : b < w.heap.size) (g0 : w.cell? ⟨b, 0, none⟩ = some (.slice p n c)) (g1 : w.cell? ⟨b, 1, none⟩ = some (.slice q m d))
    (hZ : VAt w p c n z) (hY : VAt w q d m y) (h1 : n + m ≤ 1000001) :
    Calls Tryd.prog 28 #[.slice (some ⟨b, 0, none⟩) 2 2] w fun e w' => ∃ p' c', e = .returned (.slice p' (n + m : Nat) c') ∧ w'.ownsRow w.heap.size 46 2 (.slice p' (n + m) c') (n + m) (vlVals n z ++ vlVals m y) ∧ Below w.heap.size w w' := by
  obtain ⟨i0, hi, hz0, hz1, hz2⟩ := info_parts val_info
  have hn := hZ.nle
  have hm := hY.nle
  obtain ⟨hc1, hc2⟩ := hZ.ncap
  obtain ⟨hd1, hd2⟩ := hY.ncap
  simp only [maxLen] at hn hm hc2 hd2
  go_enter Tryd.func28, Tryd.ntmps28
  go_wp2
  go_loopg [3, 11] 2 (fun g sv iv wr => (g = 2 ∧ iv = .int .i64 0 ∧ sv = .int .i64 0 ∨ g = 1 ∧ iv = .int .i64 1 ∧ sv = .int .i64 n ∨ g = 0 ∧ iv = .int .i64 2 ∧ sv = .int .i64 ((n : Int) + m)) ∧ Below w.heap.size w wr)
  case atStart => exact ⟨.inl ⟨rfl, rfl, rfl⟩, Below.refl _ _⟩
  case round =>
    obtain ⟨hcase, hbw⟩ := hrel
    have e0 := (hbw.cell (p := ⟨b, 0, none⟩) hlt).trans g0
    have e1 := (hbw.cell (p := ⟨b, 1, none⟩) hlt).trans g1
    rcases hcase with ⟨rfl, rfl, rfl⟩ | ⟨rfl, rfl, rfl⟩ | ⟨rfl, rfl, rfl⟩
    · go_wp2
      go_roundg 1
      case measure => omega
      case rel => exact ⟨.inr (.inl ⟨rfl, rfl, rfl⟩), hbw⟩
    · have hnn : ¬ (n : Int) + m < 0 := by omega
      go_wp2
      go_roundg 0
      case measure => omega
      case rel => exact ⟨.inr (.inr ⟨rfl, rfl, rfl⟩), hbw⟩
    · have hG := grow0_any (n + m) wr (by omega)
      rw [Int.natCast_add] at hG
      go_upto_region 10 with (first
    | (go_at_call 49; refine Calls.mono (hG) ?_; rintro e w' ⟨p9, c9, rfl, ho9, hb⟩; obtain ⟨hc, hf, hb, hz⟩ := bstep hb (w := wr) (by go_grown); try simp only [World.size_alloc, World.size_setCell, World.size_drew] at hc hf hz)
      )
      have hsz := hbw.size
      have hbx : Below w.heap.size w w' := hbw.trans (hb.mono hsz)
      have hox := owned_base ho9 hsz
      clear hb hc hf hbw ho9 e0 e1 hG
      generalize w' = w9 at *
      go_wp2
      go_loopg [6, 27] 2 (fun g ov iv wr => (g = 2 ∧ iv = .int .i64 0 ∧ wr.ownsRow w.heap.size 46 2 ov 0 [] ∨ g = 1 ∧ iv = .int .i64 1 ∧ wr.ownsRow w.heap.size 46 2 ov n (vlVals n z) ∨ g = 0 ∧ iv = .int .i64 2 ∧ wr.ownsRow w.heap.size 46 2 ov (n + m) (vlVals n z ++ vlVals m y)) ∧ Below w.heap.size w wr)
      case atStart => exact ⟨.inl ⟨rfl, rfl, hox⟩, hbx⟩
      case round =>
        obtain ⟨hcase, hbw⟩ := hrel
        have hsz := hbw.size
        have e0 := (hbw.cell (p := ⟨b, 0, none⟩) hlt).trans g0
        have e1 := (hbw.cell (p := ⟨b, 1, none⟩) hlt).trans g1
        rcases hcase with ⟨rfl, rfl, ho⟩ | ⟨rfl, rfl, ho⟩ | ⟨rfl, rfl, ho⟩
        · go_wp2_with (first
            | (at_builtin; refine wpList_append_row rfl (.tmp 31) (.tmp 32) 35 rfl w.heap.size 46 i0 (.agg #[.int .i64 0, .int .i64 0]) 2 16 Tryd.underlying35 hi hz0 hz1 hz2 rfl (by decide) _ _ _ rfl ho p n c (vlVals n z) rfl (vlVals_length _ _) ((hZ.below hbw).row.cells) (vlVals_one _ _) hZ.pnil (by simp only [maxLen]; omega) (by omega) hsz ?_; intro ov w1 ho1 hgrow)
          )
          have hb1 := hbw.grown hgrow hsz (fun k hk => (ho.lt k hk).1)
          rw [List.nil_append, Nat.zero_add] at ho1
          go_roundg 1
          case measure => omega
          case rel => exact ⟨.inr (.inl ⟨rfl, rfl, ho1⟩), hb1⟩
        · go_wp2_with (first
            | (at_builtin; refine wpList_append_row rfl (.tmp 31) (.tmp 32) 35 rfl w.heap.size 46 i0 (.agg #[.int .i64 0, .int .i64 0]) 2 16 Tryd.underlying35 hi hz0 hz1 hz2 rfl (by decide) _ _ _ rfl ho q m d (vlVals m y) rfl (vlVals_length _ _) ((hY.below hbw).row.cells) (vlVals_one _ _) hY.pnil (by simp only [maxLen]; omega) (by omega) hsz ?_; intro ov w1 ho1 hgrow)
          )
          have hb1 := hbw.grown hgrow hsz (fun k hk => (ho.lt k hk).1)
          go_roundg 0
          case measure => omega
          case rel => exact ⟨.inr (.inr ⟨rfl, rfl, ho1⟩), hb1⟩
        · obtain ⟨pp, cc, ff, -⟩ := owned_new ho
          rw [ff] at ho ⊢
          clear ff
          go_wp2
          go_returns
          exact ⟨pp, cc, rfl, ho, hbw⟩
end Go.Proofs.YtmbgodncagjncaaDoor
