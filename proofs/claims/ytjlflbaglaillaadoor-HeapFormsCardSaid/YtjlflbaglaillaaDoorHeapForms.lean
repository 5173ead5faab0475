/- HeapForms: for every heap, address and number of pages, heap.New, heap.Form, heap.Find and heap.Used answer as the document says. No condition; the tables that the code reads are tied to the program's text. -/
import Derived.Test.YtjlflbaglaillaaDoorRows
import Derived.Test.YtjlflbaglaillaaDoorCards
import Derived.Test.YtjlflbaglaillaaDoorTie
import Derived.Test.YtjlflbaglaillaaDoorTiedBits
import Derived.Test.YtjlflbaglaillaaDoorAwake07
import Derived.Test.YtjlflbaglaillaaDoorMade
import Derived.SevenTiedAt
namespace Go.Proofs.YtjlflbaglaillaaDoor
set_option linter.unusedSimpArgs false
set_option linter.unusedVariables false
open Go.ChangeShapes Go.WideShapes Go.ChangeAt Go.RowKit Go.Joins

set_option maxHeartbeats 16000000 in
set_option maxRecDepth 20000 in
theorem forms_walk {p : Option Addr} {n c : Nat} {q : Option Addr} {m d : Nat} {s : Bool} {h : Hp} (a k : Int) (w : World) (hh : HpIn w p n c q m d s h) (hS : Sz w) (hT : Tab w) :
    Calls Tryd.prog 3 #[.agg #[.slice p n c, .slice q m d, .bool s], .int .i64 a, .int .i64 k] w fun e w' => e = .returned (.bool true) ∧ Below w.heap.size w w' := by
  have hnm : n ≤ maxLen := by rw [hh.n_eq]; exact hh.at'.nle
  have hmm : m ≤ maxLen := by rw [hh.m_eq]; exact hh.at'.mle
  simp only [maxLen] at hnm hmm
  obtain ⟨w0, hw0⟩ : ∃ w0, w0 = w.alloc (.cells #[.slice p n c, .slice q m d, .bool s] 25) := ⟨_, rfl⟩
  have g3 : Box3 w.heap.size (.slice p n c) (.slice q m d) (.bool s) w0 := by rw [hw0]; exact Box3.new _ _ _ _ _
  have hB0 : Below w.heap.size w w0 := by rw [hw0]; exact (Below.refl _ _).alloc (Nat.le_refl _) _
  have hl0 : w.heap.size + 1 ≤ w0.heap.size := by rw [hw0]; simp
  have hh0 := hh.below hB0
  replace hS := hS.below hB0
  replace hT := hT.below hB0
  have k3 := g3
  obtain ⟨l3, x0, x1, x2, -, -, -⟩ := k3
  by_cases hs : n ≤ 600 ∧ m ≤ 20
  · obtain ⟨n6, m2⟩ := hs
    have d0 : decide (600 < (n : Int)) = false := by simp; omega
    have d1 : decide (20 < (m : Int)) = false := by simp; omega
    go_enter Tryd.func3, Tryd.ntmps3
    go_upto_region 1 with fail
    rw [← hw0]
    clear hw0
    go_upto_region 4 with (first
    | (go_at_call 9; refine Calls.mono (awake_any _ (hS.below (by go_grown)) (hT.below (by go_grown))) ?_; rintro e w' ⟨rfl, hb⟩; obtain ⟨hc, hf, hb, hz⟩ := bstep hb (w := w0) (by go_grown); try simp only [World.size_alloc, World.size_setCell, World.size_drew] at hc hf hz)
    | (go_at_call 10; refine Calls.mono (hnew_in k (hS.below (by go_grown)) (hT.below (by go_grown))) ?_; rintro e w' ⟨p1, n1, c1, q1, m1, d1', s1, rfl, hh1, -, -, hb⟩; obtain ⟨hc, hf, hb, hz⟩ := bstep hb (w := w0) (by go_grown); try simp only [World.size_alloc, World.size_setCell, World.size_drew] at hc hf hz)
    )
    have hBl : w0.heap.size ≤ w'.heap.size := hb.size
    obtain ⟨w4, hw4⟩ : ∃ w4, w4 = w'.alloc (.cells #[.slice p1 n1 c1, .slice q1 m1 d1', .bool s1] 25) := ⟨_, rfl⟩
    have hB4 : Below w'.heap.size w' w4 := by rw [hw4]; exact (Below.refl _ _).alloc (Nat.le_refl _) _
    have hl4 : w'.heap.size + 1 ≤ w4.heap.size := by rw [hw4]; simp
    have g7 : Box3 w'.heap.size (.slice p1 n1 c1) (.slice q1 m1 d1') (.bool s1) w4 := by rw [hw4]; exact Box3.new _ _ _ _ _
    replace hh1 := hh1.below hB4
    have hb4 := bjoin hB4 hb
    replace g3 := g3.below hb4
    rw [← hw4]
    clear hw4 hc hf hb hz hB4 x0 x1 x2 l3
    generalize w'.heap.size = B7 at *
    have k3 := g3
    obtain ⟨l3, x0, x1, x2, -, -, -⟩ := k3
    have k7 := g7
    obtain ⟨l7, y0, y1, y2, -, -, -⟩ := k7
    have hS4 := hS.below hb4
    have hT4 := hT.below hb4
    have hh4 := hh0.below hb4
    cases hk : nuB k with
    | false =>
      obtain ⟨e0, e1⟩ := nu_no hk
      have hk' : ¬ (1 ≤ k ∧ k ≤ 16) := by simpa [nuB] using hk
      have hN := nil_in w4
      have s1 : sameH (nuH k) ⟨0, fun _ => 0, 0, fun _ => ⟨0, 0, 0⟩, false⟩ = true := by rw [e0]; exact sameH_self _
      clear e0 hk
      go_upto_region 9 with (first
    | (go_at_call 11; refine Calls.mono (rsame_in (HpIn.below (by assumption) (by go_grown)) (HpIn.below (by assumption) (by go_grown))) ?_; rintro e w' ⟨rfl, hb⟩; obtain ⟨hc, hf, hb, hz⟩ := bstep hb (w := w4) (by go_grown); try simp only [World.size_alloc, World.size_setCell, World.size_drew] at hc hf hz)
      )
      all_goals
        have hb5 := bjoin hb hb4
        have hS5 := hS.below hb5
        have hT5 := hT.below hb5
        have hh5 := hh0.below hb5
        have g5 := g3.below hb
        clear hb hc hf hz x0 x1 x2 y0 y1 y2 hh1 l3 l7 g3 g7 hS4 hT4 hh4
        generalize w' = w5 at hb5 hS5 hT5 hh5 g5 ⊢
        have k5 := g5
        obtain ⟨l3, x0, x1, x2, -, -, -⟩ := k5
        have hbW := bjoin hb5 hB0
        cases hF : formB h with
        | false =>
          go_upto_region 9 with fail
          refine wp_region_plus (by kernel_rfl) (by kernel_rfl) fun hpc => ?_
          repeat (first | go_big_quiet_step ((first | (go_at_call 13; exact quiet_plus (hform_in (hS5.below (plus_below _ _)) (hT5.below (plus_below _ _)) (hh5.below (plus_below _ _)))) | (go_at_call 14; exact quiet_plus (rform_in (hh5.below (plus_below _ _)))))) | quiet_step ((first | (go_at_call 13; exact quiet_plus (hform_in (hS5.below (plus_below _ _)) (hT5.below (plus_below _ _)) (hh5.below (plus_below _ _)))) | (go_at_call 14; exact quiet_plus (rform_in (hh5.below (plus_below _ _)))))))
          refine wpQuiet_nil ?_
          intro w' hbq
          clear hpc
          obtain ⟨hc, hf, hb, hz⟩ := bstep hbq (w := w5) (by go_grown)
          try simp only [World.size_alloc, World.size_setCell, World.size_drew] at hc hf hz
          go_upto_region 10 with fail
          replace hS5 := hS5.below hb
          replace hT5 := hT5.below hb
          replace hh5 := hh5.below hb
          replace g5 := g5.below hb
          replace hbW := bjoin hb hbW
          clear hb hc hf hz x0 x1 x2 l3
          generalize w' = w6 at hbW hS5 hT5 hh5 g5 ⊢
          obtain ⟨l3, x0, x1, x2, -, -, -⟩ := g5
          refine wp_region_plus (by kernel_rfl) (by kernel_rfl) fun hpc => ?_
          repeat (first | go_big_quiet_step ((first | (go_at_call 13; exact quiet_plus (hform_in (hS5.below (plus_below _ _)) (hT5.below (plus_below _ _)) (hh5.below (plus_below _ _)))) | (go_at_call 14; exact quiet_plus (rform_in (hh5.below (plus_below _ _)))))) | quiet_step ((first | (go_at_call 13; exact quiet_plus (hform_in (hS5.below (plus_below _ _)) (hT5.below (plus_below _ _)) (hh5.below (plus_below _ _)))) | (go_at_call 14; exact quiet_plus (rform_in (hh5.below (plus_below _ _)))))))
          refine wpQuiet_nil ?_
          intro w' hbq
          clear hpc
          obtain ⟨hc, hf, hb, hz⟩ := bstep hbq (w := w6) (by go_grown)
          try simp only [World.size_alloc, World.size_setCell, World.size_drew] at hc hf hz
          go_wp2
          go_returns
          exact ⟨ret_bool (by simp), bjoin hb hbW⟩
        | true =>
          go_upto_region 9 with fail
          refine wp_region_plus (by kernel_rfl) (by kernel_rfl) fun hpc => ?_
          repeat (first | go_big_quiet_step ((first | (go_at_call 13; exact quiet_plus (hform_in (hS5.below (plus_below _ _)) (hT5.below (plus_below _ _)) (hh5.below (plus_below _ _)))) | (go_at_call 14; exact quiet_plus (rform_in (hh5.below (plus_below _ _)))))) | quiet_step ((first | (go_at_call 13; exact quiet_plus (hform_in (hS5.below (plus_below _ _)) (hT5.below (plus_below _ _)) (hh5.below (plus_below _ _)))) | (go_at_call 14; exact quiet_plus (rform_in (hh5.below (plus_below _ _)))))))
          refine wpQuiet_nil ?_
          intro w' hbq
          clear hpc
          obtain ⟨hc, hf, hb, hz⟩ := bstep hbq (w := w5) (by go_grown)
          try simp only [World.size_alloc, World.size_setCell, World.size_drew] at hc hf hz
          have hF' : Hid (formB h = true) := hF
          go_upto_region 13 with (first
    | (go_at_call 15; refine Calls.mono (hfind_in (hS5.below (by go_grown)) (hT5.below (by go_grown)) (hh5.below (by go_grown)) hF'.out) ?_; rintro e w' ⟨rfl, hb⟩; obtain ⟨hc, hf, hb, hz⟩ := bstep hb (w := w5) (by go_grown); try simp only [World.size_alloc, World.size_setCell, World.size_drew] at hc hf hz)
    | (go_at_call 16; refine Calls.mono (rfind_in (hh5.below (by go_grown)) hF'.out) ?_; rintro e w' ⟨rfl, hb⟩; obtain ⟨hc, hf, hb, hz⟩ := bstep hb (w := w5) (by go_grown); try simp only [World.size_alloc, World.size_setCell, World.size_drew] at hc hf hz)
          )
          replace hS5 := hS5.below hb
          replace hT5 := hT5.below hb
          replace hh5 := hh5.below hb
          replace g5 := g5.below hb
          replace hbW := bjoin hb hbW
          clear hb hc hf hz x0 x1 x2 l3
          generalize w' = w6 at hbW hS5 hT5 hh5 g5 ⊢
          obtain ⟨l3, x0, x1, x2, -, -, -⟩ := g5
          refine wp_region_plus (by kernel_rfl) (by kernel_rfl) fun hpc => ?_
          repeat (first | go_big_quiet_step ((first | (go_at_call 17; exact quiet_plus (hused_in (hS5.below (plus_below _ _)) (hT5.below (plus_below _ _)) (hh5.below (plus_below _ _)) hF'.out)) | (go_at_call 18; exact quiet_plus (rused_in (hh5.below (plus_below _ _)) hF'.out)))) | quiet_step ((first | (go_at_call 17; exact quiet_plus (hused_in (hS5.below (plus_below _ _)) (hT5.below (plus_below _ _)) (hh5.below (plus_below _ _)) hF'.out)) | (go_at_call 18; exact quiet_plus (rused_in (hh5.below (plus_below _ _)) hF'.out)))))
          refine wpQuiet_nil ?_
          intro w' hbq
          clear hpc
          obtain ⟨hc, hf, hb, hz⟩ := bstep hbq (w := w6) (by go_grown)
          try simp only [World.size_alloc, World.size_setCell, World.size_drew] at hc hf hz
          go_wp2
          go_returns
          exact ⟨ret_bool (by simp), bjoin hb hbW⟩
    | true =>
      obtain ⟨e0, e1, k0, k1⟩ := nu_yes hk
      have s1 : sameH (nuH k) (newH k.toNat) = true := by rw [e0]; exact sameH_self _
      clear e0 hk
      go_upto_region 7 with fail
      go_region_with (first
    | (go_at_call 12; refine Calls.mono (rmade_nil k _ k0 k1) ?_; rintro e w' ⟨p2, c2, q2, d2, rfl, hh2, hb⟩; obtain ⟨hc, hf, hb, hz⟩ := bstep hb (w := w4) (by go_grown); try simp only [World.size_alloc, World.size_setCell, World.size_drew] at hc hf hz)
    | (go_at_call 11; refine Calls.mono (rsame_in (HpIn.below (by assumption) (by go_grown)) (HpIn.below (by assumption) (by go_grown))) ?_; rintro e w' ⟨rfl, hb⟩; obtain ⟨hc, hf, hb, hz⟩ := bstep hb (w := w4) (by go_grown); try simp only [World.size_alloc, World.size_setCell, World.size_drew] at hc hf hz)
      )
      all_goals
        have hb5 := bjoin hb hb4
        have hS5 := hS.below hb5
        have hT5 := hT.below hb5
        have hh5 := hh0.below hb5
        have g5 := g3.below hb
        clear hb hc hf hz x0 x1 x2 y0 y1 y2 hh1 l3 l7 g3 g7 hS4 hT4 hh4
        generalize w' = w5 at hb5 hS5 hT5 hh5 g5 ⊢
        have k5 := g5
        obtain ⟨l3, x0, x1, x2, -, -, -⟩ := k5
        have hbW := bjoin hb5 hB0
        cases hF : formB h with
        | false =>
          go_upto_region 9 with fail
          refine wp_region_plus (by kernel_rfl) (by kernel_rfl) fun hpc => ?_
          repeat (first | go_big_quiet_step ((first | (go_at_call 13; exact quiet_plus (hform_in (hS5.below (plus_below _ _)) (hT5.below (plus_below _ _)) (hh5.below (plus_below _ _)))) | (go_at_call 14; exact quiet_plus (rform_in (hh5.below (plus_below _ _)))))) | quiet_step ((first | (go_at_call 13; exact quiet_plus (hform_in (hS5.below (plus_below _ _)) (hT5.below (plus_below _ _)) (hh5.below (plus_below _ _)))) | (go_at_call 14; exact quiet_plus (rform_in (hh5.below (plus_below _ _)))))))
          refine wpQuiet_nil ?_
          intro w' hbq
          clear hpc
          obtain ⟨hc, hf, hb, hz⟩ := bstep hbq (w := w5) (by go_grown)
          try simp only [World.size_alloc, World.size_setCell, World.size_drew] at hc hf hz
          go_upto_region 10 with fail
          replace hS5 := hS5.below hb
          replace hT5 := hT5.below hb
          replace hh5 := hh5.below hb
          replace g5 := g5.below hb
          replace hbW := bjoin hb hbW
          clear hb hc hf hz x0 x1 x2 l3
          generalize w' = w6 at hbW hS5 hT5 hh5 g5 ⊢
          obtain ⟨l3, x0, x1, x2, -, -, -⟩ := g5
          refine wp_region_plus (by kernel_rfl) (by kernel_rfl) fun hpc => ?_
          repeat (first | go_big_quiet_step ((first | (go_at_call 13; exact quiet_plus (hform_in (hS5.below (plus_below _ _)) (hT5.below (plus_below _ _)) (hh5.below (plus_below _ _)))) | (go_at_call 14; exact quiet_plus (rform_in (hh5.below (plus_below _ _)))))) | quiet_step ((first | (go_at_call 13; exact quiet_plus (hform_in (hS5.below (plus_below _ _)) (hT5.below (plus_below _ _)) (hh5.below (plus_below _ _)))) | (go_at_call 14; exact quiet_plus (rform_in (hh5.below (plus_below _ _)))))))
          refine wpQuiet_nil ?_
          intro w' hbq
          clear hpc
          obtain ⟨hc, hf, hb, hz⟩ := bstep hbq (w := w6) (by go_grown)
          try simp only [World.size_alloc, World.size_setCell, World.size_drew] at hc hf hz
          go_wp2
          go_returns
          exact ⟨ret_bool (by simp), bjoin hb hbW⟩
        | true =>
          go_upto_region 9 with fail
          refine wp_region_plus (by kernel_rfl) (by kernel_rfl) fun hpc => ?_
          repeat (first | go_big_quiet_step ((first | (go_at_call 13; exact quiet_plus (hform_in (hS5.below (plus_below _ _)) (hT5.below (plus_below _ _)) (hh5.below (plus_below _ _)))) | (go_at_call 14; exact quiet_plus (rform_in (hh5.below (plus_below _ _)))))) | quiet_step ((first | (go_at_call 13; exact quiet_plus (hform_in (hS5.below (plus_below _ _)) (hT5.below (plus_below _ _)) (hh5.below (plus_below _ _)))) | (go_at_call 14; exact quiet_plus (rform_in (hh5.below (plus_below _ _)))))))
          refine wpQuiet_nil ?_
          intro w' hbq
          clear hpc
          obtain ⟨hc, hf, hb, hz⟩ := bstep hbq (w := w5) (by go_grown)
          try simp only [World.size_alloc, World.size_setCell, World.size_drew] at hc hf hz
          have hF' : Hid (formB h = true) := hF
          go_upto_region 13 with (first
    | (go_at_call 15; refine Calls.mono (hfind_in (hS5.below (by go_grown)) (hT5.below (by go_grown)) (hh5.below (by go_grown)) hF'.out) ?_; rintro e w' ⟨rfl, hb⟩; obtain ⟨hc, hf, hb, hz⟩ := bstep hb (w := w5) (by go_grown); try simp only [World.size_alloc, World.size_setCell, World.size_drew] at hc hf hz)
    | (go_at_call 16; refine Calls.mono (rfind_in (hh5.below (by go_grown)) hF'.out) ?_; rintro e w' ⟨rfl, hb⟩; obtain ⟨hc, hf, hb, hz⟩ := bstep hb (w := w5) (by go_grown); try simp only [World.size_alloc, World.size_setCell, World.size_drew] at hc hf hz)
          )
          replace hS5 := hS5.below hb
          replace hT5 := hT5.below hb
          replace hh5 := hh5.below hb
          replace g5 := g5.below hb
          replace hbW := bjoin hb hbW
          clear hb hc hf hz x0 x1 x2 l3
          generalize w' = w6 at hbW hS5 hT5 hh5 g5 ⊢
          obtain ⟨l3, x0, x1, x2, -, -, -⟩ := g5
          refine wp_region_plus (by kernel_rfl) (by kernel_rfl) fun hpc => ?_
          repeat (first | go_big_quiet_step ((first | (go_at_call 17; exact quiet_plus (hused_in (hS5.below (plus_below _ _)) (hT5.below (plus_below _ _)) (hh5.below (plus_below _ _)) hF'.out)) | (go_at_call 18; exact quiet_plus (rused_in (hh5.below (plus_below _ _)) hF'.out)))) | quiet_step ((first | (go_at_call 17; exact quiet_plus (hused_in (hS5.below (plus_below _ _)) (hT5.below (plus_below _ _)) (hh5.below (plus_below _ _)) hF'.out)) | (go_at_call 18; exact quiet_plus (rused_in (hh5.below (plus_below _ _)) hF'.out)))))
          refine wpQuiet_nil ?_
          intro w' hbq
          clear hpc
          obtain ⟨hc, hf, hb, hz⟩ := bstep hbq (w := w6) (by go_grown)
          try simp only [World.size_alloc, World.size_setCell, World.size_drew] at hc hf hz
          go_wp2
          go_returns
          exact ⟨ret_bool (by simp), bjoin hb hbW⟩
  · have hd : decide (600 < (n : Int)) = true ∨ decide (600 < (n : Int)) = false ∧ decide (20 < (m : Int)) = true := by
      by_cases h6 : n ≤ 600
      · exact .inr ⟨by simp; omega, by simp; omega⟩
      · exact .inl (by simp; omega)
    rcases hd with d0 | ⟨d0, d1⟩
    all_goals
      go_enter Tryd.func3, Tryd.ntmps3
      go_upto_region 1 with fail
      rw [← hw0]
      clear hw0
      go_wp2_with (first
    | (go_at_call 9; refine Calls.mono (awake_any _ (hS.below (by go_grown)) (hT.below (by go_grown))) ?_; rintro e w' ⟨rfl, hb⟩; obtain ⟨hc, hf, hb, hz⟩ := bstep hb (w := w0) (by go_grown); try simp only [World.size_alloc, World.size_setCell, World.size_drew] at hc hf hz)
      )
      go_returns
      exact ⟨rfl, bjoin hb hB0⟩
namespace HeapForms
/-- What the row lists. -/
def lists : List (String × DataW Unit) := [("flotsam/class.sizes", Rows.laid_flotsam_class_sizes), ("math/bits.deBruijn32tab", Rows.laid_math_bits_deBruijn32tab)]
set_option maxRecDepth 100000 in
theorem lifted (os : Os) (started : os.Started) (H : Type) (enc : TypeId × Value → H) :
    ReturnsInHanded {} Tryd.checked os 3 .any (fun w args => (Rows.heapFormsSpec.pre enc Tryd.prog Tryd.f3 Rows.heapFormsRow.domain false w args ∧ laidMetH Tryd.prog lists w) ∧ sizedMet enc Tryd.prog Tryd.f3 (OpenSpec.ofChange Rows.heapFormsSpec) false w args) (Rows.heapFormsSpec.post enc Tryd.prog Tryd.f3 false true false false) := by
  refine law_lifted_laid (C := Tryd.checked) seat_own started (by kernel_rfl) Tryd.func3 (by kernel_rfl) (of_decide_eq_true (by kernel_rfl)) rfl
    (fun ds hd => by have hd' : ds.length = 3 := hd; match ds, hd' with | [d0, d1, d2], _ => rfl) rfl Tryd.underlying4
    (ChangeSpec.witness_shaped (enc := enc) (C := Tryd.checked) (os := os) (X := fun w _ => laidMetH Tryd.prog lists w) false (World.laidAll Tryd.prog os lists) #[.agg #[.slice none 0 0, .slice none 0 0, .bool false], .int .i64 0, .int .i64 0] 8 (World.laidAll_os _ _ _)
      (World.shaped_of_ZipB (by kernel_rfl) (by kernel_rfl)) (by kernel_rfl) (by kernel_rfl) (by kernel_rfl)
      (by rw [MakeChecks.laidMetH_plain _ _ _ (by kernel_rfl)]; exact laidMet_laidAll _ (by kernel_rfl) (by kernel_rfl))) ?_
  intro W base args ds p hval hA hlt hL
  have hS : Sz W := sizes_of hL (by kernel_rfl) rfl
  have hT : Tab W := tab_of hL (by kernel_rfl) rfl
  rw [Tryd.params3] at hA hval
  obtain ⟨v0, v1, v2, d0, d1, d2, p0, p1, p2, rfl, rfl, rfl, h0, h1, h2⟩ := trodAll_three hA
  obtain ⟨x0, q0, c0, s0, e0, rfl, hh0⟩ := open_heap Tryd.underlying25 (by kernel_rfl) (by kernel_rfl) Tryd.underlying22 (by kernel_rfl) (by kernel_rfl) Tryd.underlying23 Tryd.underlying49 (by kernel_rfl) (by kernel_rfl) (by kernel_rfl) (by kernel_rfl) (by kernel_rfl) (by kernel_rfl) (hval 0 25 v0 rfl rfl) h0
  obtain ⟨a1, rfl, ha1⟩ := open_i64 Tryd.underlying3 (hval 1 3 v1 rfl rfl) h1
  obtain ⟨a2, rfl, ha2⟩ := open_i64 Tryd.underlying3 (hval 2 3 v2 rfl rfl) h2
  exact forms_walk a1 a2 W hh0.in hS hT

theorem row_holds : Rows.HeapFormsSaid :=
  OpenClaim.holds_of_wide 3 Tryd.f3 rfl rfl rfl rfl rfl rfl rfl ⟨rfl, rfl, rfl, rfl, rfl⟩ rfl rfl rfl rfl rfl (by kernel_rfl) Tryd.func3 (by kernel_rfl)
    (of_decide_eq_true (by kernel_rfl)) (by unfold Func.isWrapper; first | (rw [if_pos (by decide +kernel)]; kernel_rfl) | (rw [if_neg (by decide +kernel)]; exact ⟨rfl, rfl⟩))
    (fun os started H enc _ => lifted os started H enc)
/-- The tied card. -/
theorem holds : Rows.HeapFormsCardSaid :=
  Claim7.holds_tied_plain_at .later [] [.data, .data] true (true, "4319912ea4b27ca89517975b0d81ad0153941401844a695d32a61ba51c2bf89d") false row_holds (fun _ h => by cases h) (by kernel_rfl) (fun _ h => by cases h) heapForms_row_tie rfl ⟨rfl, rfl⟩ (by kernel_rfl) rfl
    (fun f fn hf hfn => by
      obtain rfl : f = 3 := Option.some.inj ((show Tryd.prog.funcNamed "flotsam/flotsamlaw07.HeapForms" = some 3 by kernel_rfl).symm.trans hf) |>.symm
      obtain rfl : fn = Tryd.f3 := (Option.some.inj (Tryd.func3.symm.trans hfn)).symm
      exact ⟨by kernel_rfl, fun j t ht => by
        rw [Tryd.params3] at ht
        have hm : t ∈ [25, 3, 3] := by simpa using Array.mem_of_getElem? ht
        have hall : ([25, 3, 3].all fun u => !Tryd.prog.wantsStandIn u) = true := by kernel_rfl
        exact (show Tryd.prog.wantsStandIn t = false by simpa using List.all_eq_true.1 hall t hm)⟩)
    (by kernel_rfl)
#print axioms holds
end HeapForms
end Go.Proofs.YtjlflbaglaillaaDoor
