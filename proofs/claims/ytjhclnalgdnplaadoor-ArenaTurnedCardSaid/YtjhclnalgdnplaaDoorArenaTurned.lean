/- ArenaTurned: for every list of words, two places and two words, storing at both in either order makes the same words but where the places are one and the words unlike, and storing again what was there makes what was. No condition; the code's own table is tied to the program's text. -/
import Derived.Test.YtjhclnalgdnplaaDoorRows
import Derived.Test.YtjhclnalgdnplaaDoorCards
import Derived.Test.YtjhclnalgdnplaaDoorTie
import Derived.Test.YtjhclnalgdnplaaDoorAwake05
import Derived.SevenTiedAt
namespace Go.Proofs.YtjhclnalgdnplaaDoor
set_option linter.unusedSimpArgs false
set_option linter.unusedVariables false
open Go.ChangeShapes Go.WideShapes Go.ChangeAt Go.RowKit Go.Joins

theorem turned_back {n : Nat} {z : Nat → Int} {i : Int} (v : Int) (h : 0 ≤ i) : sameZ n (putZ (putZ z i v) i (z i.toNat)) n z = true := by
  simp only [sameZ, decide_eq_true_eq]
  refine ⟨trivial, fun j hj => ?_⟩
  unfold putZ
  by_cases e : (j : Int) = i
  · rw [if_pos e]; congr 1; omega
  · rw [if_neg e, if_neg e]
theorem turned_yes {n : Nat} {z : Nat → Int} {i k v x : Int} (h : i = k → v = x) : sameZ n (putZ (putZ z i v) k x) n (putZ (putZ z k x) i v) = true := by
  simp only [sameZ, decide_eq_true_eq]
  refine ⟨trivial, fun j hj => ?_⟩
  unfold putZ
  by_cases e : (j : Int) = i
  · by_cases e' : (j : Int) = k
    · rw [if_pos e', if_pos e]; exact (h (e.symm.trans e')).symm
    · rw [if_neg e', if_pos e, if_pos e]
  · by_cases e' : (j : Int) = k
    · rw [if_pos e', if_neg e, if_pos e']
    · rw [if_neg e', if_neg e, if_neg e, if_neg e']
theorem turned_no {n : Nat} {z : Nat → Int} {i v x : Int} (h0 : 0 ≤ i) (h1 : i < n) (h : ¬ v = x) : sameZ n (putZ (putZ z i v) i x) n (putZ (putZ z i x) i v) = false := by
  simp only [sameZ, decide_eq_false_iff_not]
  intro hh
  have := hh.2 i.toNat (by omega)
  unfold putZ at this
  rw [if_pos (by omega), if_pos (by omega)] at this
  exact h this.symm
set_option maxHeartbeats 2000000 in
theorem turned_walk (p : Option Addr) (n cap : Nat) (z : Nat → Int) (a b v x : Int) (w : World) (hin : Ints .u64 w p n z) (hn : n ≤ maxLen) (a0 : 0 ≤ a) (a1 : a < 65536) (b0 : 0 ≤ b) (b1 : b < 65536)
    (v0 : 0 ≤ v) (v1 : v < 18446744073709551616) (x0 : 0 ≤ x) (x1 : x < 18446744073709551616) (hS : Sz w) :
    Calls Tryd.prog 8 #[.slice p n cap, .int .u16 a, .int .u16 b, .int .u64 v, .int .u64 x] w fun e w' => e = .returned (.bool true) ∧ Below w.heap.size w w' := by
  simp only [maxLen] at hn
  by_cases hs : n ≤ 600 ∧ 1 ≤ n
  · obtain ⟨s0, s1⟩ := hs
    have d0 : decide (600 < (n : Int)) = false := by simp; omega
    have d1 : ((n : Int) == 0) = false := by simp; omega
    have t1 : (n : Int) ≤ 600 := by omega
    have t2 : (1 : Int) ≤ n := by omega
    have hHv : Hid ((Lit.int .u64 v).wf = true) := WalkArith.wf_u64 (by omega)
    have hHx : Hid ((Lit.int .u64 x).wf = true) := WalkArith.wf_u64 (by omega)
    have hle : n ≤ maxLen := by simp only [maxLen]; omega
    have hle' : n ≤ 17592186043904 := by omega
    have i0 : 0 ≤ a % (n : Int) := Int.emod_nonneg _ (by omega)
    have i1 : a % (n : Int) < n := Int.emod_lt_of_pos _ (by omega)
    have k0 : 0 ≤ b % (n : Int) := Int.emod_nonneg _ (by omega)
    have k1 : b % (n : Int) < n := Int.emod_lt_of_pos _ (by omega)
    go_enter Tryd.func8, Tryd.ntmps8
    go_upto_region 5 with (first
    | (go_at_call 9; refine (awake_any _ hS).mono ?_; rintro e w' ⟨rfl, hb⟩; (try replace hS := hS.below hb); (try replace hin := hin.below hb); (try replace h1 := h1.below hb); (try replace h2 := h2.below hb); (try replace h3 := h3.below hb); (try replace h4 := h4.below hb); (try replace h5 := h5.below hb); obtain ⟨hc, hf, hb, hz⟩ := bstep hb (w := w) (by go_grown); try simp only [World.size_alloc, World.size_setCell, World.size_drew] at hc hf hz)
    )
    generalize a % (n : Int) = i at i0 i1 ⊢
    generalize b % (n : Int) = k at k0 k1 ⊢
    have hI := inI_yes i0 i1
    have hK := inI_yes k0 k1
    go_upto_region 6 with (first
    | (go_at_call 13; refine (astore_any _ _ _ _ _ _ _ hin hle' hHv.out).mono ?_; rintro e w' ⟨q1, c1, rfl, h1, -, hb⟩; (try replace hS := hS.below hb); (try replace hin := hin.below hb); (try replace h1 := h1.below hb); (try replace h2 := h2.below hb); (try replace h3 := h3.below hb); (try replace h4 := h4.below hb); (try replace h5 := h5.below hb); obtain ⟨hc, hf, hb, hz⟩ := bstep hb (w := w) (by go_grown); try simp only [World.size_alloc, World.size_setCell, World.size_drew] at hc hf hz)
    )
    go_upto_region 7 with (first
    | (go_at_call 13; refine (astore_any _ _ _ _ _ _ _ h1 hle' hHx.out).mono ?_; rintro e w' ⟨q2, c2, rfl, h2, -, hb⟩; (try replace hS := hS.below hb); (try replace hin := hin.below hb); (try replace h1 := h1.below hb); (try replace h2 := h2.below hb); (try replace h3 := h3.below hb); (try replace h4 := h4.below hb); (try replace h5 := h5.below hb); obtain ⟨hc, hf, hb, hz⟩ := bstep hb (w := w) (by go_grown); try simp only [World.size_alloc, World.size_setCell, World.size_drew] at hc hf hz)
    )
    go_upto_region 8 with (first
    | (go_at_call 13; refine (astore_any _ _ _ _ _ _ _ hin hle' hHx.out).mono ?_; rintro e w' ⟨q3, c3, rfl, h3, -, hb⟩; (try replace hS := hS.below hb); (try replace hin := hin.below hb); (try replace h1 := h1.below hb); (try replace h2 := h2.below hb); (try replace h3 := h3.below hb); (try replace h4 := h4.below hb); (try replace h5 := h5.below hb); obtain ⟨hc, hf, hb, hz⟩ := bstep hb (w := w) (by go_grown); try simp only [World.size_alloc, World.size_setCell, World.size_drew] at hc hf hz)
    )
    go_upto_region 9 with (first
    | (go_at_call 13; refine (astore_any _ _ _ _ _ _ _ h3 hle' hHv.out).mono ?_; rintro e w' ⟨q4, c4, rfl, h4, -, hb⟩; (try replace hS := hS.below hb); (try replace hin := hin.below hb); (try replace h1 := h1.below hb); (try replace h2 := h2.below hb); (try replace h3 := h3.below hb); (try replace h4 := h4.below hb); (try replace h5 := h5.below hb); obtain ⟨hc, hf, hb, hz⟩ := bstep hb (w := w) (by go_grown); try simp only [World.size_alloc, World.size_setCell, World.size_drew] at hc hf hz)
    )
    obtain ⟨⟨bb, off, rfl, hlt, hcell⟩, hwf⟩ := hin i.toNat (by omega)
    obtain ⟨y0, y1⟩ := wf_u64 hwf
    have hHy : Hid ((Lit.int .u64 (z i.toNat)).wf = true) := hwf
    have hback := turned_back (n := n) (z := z) v i0
    clear hwf
    go_upto_region 10 with (first
    | (go_at_call 13; refine (astore_any _ _ _ _ _ _ _ h1 hle' hHy.out).mono ?_; rintro e w' ⟨q5, c5, rfl, h5, -, hb⟩; (try replace hS := hS.below hb); (try replace hin := hin.below hb); (try replace h1 := h1.below hb); (try replace h2 := h2.below hb); (try replace h3 := h3.below hb); (try replace h4 := h4.below hb); (try replace h5 := h5.below hb); obtain ⟨hc, hf, hb, hz⟩ := bstep hb (w := w) (by go_grown); try simp only [World.size_alloc, World.size_setCell, World.size_drew] at hc hf hz)
    )
    go_upto_region 12 with (first
    | (go_at_call 15; refine (same_any _ _ _ _ _ _ _ _ _ h5 hin hle hle).mono ?_; rintro e w' ⟨rfl, hb⟩; (try replace hS := hS.below hb); (try replace hin := hin.below hb); (try replace h1 := h1.below hb); (try replace h2 := h2.below hb); (try replace h3 := h3.below hb); (try replace h4 := h4.below hb); (try replace h5 := h5.below hb); obtain ⟨hc, hf, hb, hz⟩ := bstep hb (w := w) (by go_grown); try simp only [World.size_alloc, World.size_setCell, World.size_drew] at hc hf hz)
    )
    by_cases e : i = k
    · subst e
      by_cases e : v = x
      · have e1 := turned_yes (n := n) (z := z) (i := i) (k := i) (fun _ => e)
        subst e
        go_wp2_with (first
    | (go_at_call 15; refine (same_any _ _ _ _ _ _ _ _ _ h2 h4 hle hle).mono ?_; rintro e w' ⟨rfl, hb⟩; (try replace hS := hS.below hb); (try replace hin := hin.below hb); (try replace h1 := h1.below hb); (try replace h2 := h2.below hb); (try replace h3 := h3.below hb); (try replace h4 := h4.below hb); (try replace h5 := h5.below hb); obtain ⟨hc, hf, hb, hz⟩ := bstep hb (w := w) (by go_grown); try simp only [World.size_alloc, World.size_setCell, World.size_drew] at hc hf hz)
        )
        go_returns
        exact ⟨ret_bool (by simp [e1]), by go_grown⟩
      · have e1 := turned_no (n := n) (z := z) i0 i1 e
        go_wp2_with (first
    | (go_at_call 15; refine (same_any _ _ _ _ _ _ _ _ _ h2 h4 hle hle).mono ?_; rintro e w' ⟨rfl, hb⟩; (try replace hS := hS.below hb); (try replace hin := hin.below hb); (try replace h1 := h1.below hb); (try replace h2 := h2.below hb); (try replace h3 := h3.below hb); (try replace h4 := h4.below hb); (try replace h5 := h5.below hb); obtain ⟨hc, hf, hb, hz⟩ := bstep hb (w := w) (by go_grown); try simp only [World.size_alloc, World.size_setCell, World.size_drew] at hc hf hz)
        )
        go_returns
        exact ⟨ret_bool (by simp [e1, e]), by go_grown⟩
    · have e1 := turned_yes (n := n) (z := z) (v := v) (x := x) (fun h => absurd h e)
      go_wp2_with (first
    | (go_at_call 15; refine (same_any _ _ _ _ _ _ _ _ _ h2 h4 hle hle).mono ?_; rintro e w' ⟨rfl, hb⟩; (try replace hS := hS.below hb); (try replace hin := hin.below hb); (try replace h1 := h1.below hb); (try replace h2 := h2.below hb); (try replace h3 := h3.below hb); (try replace h4 := h4.below hb); (try replace h5 := h5.below hb); obtain ⟨hc, hf, hb, hz⟩ := bstep hb (w := w) (by go_grown); try simp only [World.size_alloc, World.size_setCell, World.size_drew] at hc hf hz)
      )
      go_returns
      exact ⟨ret_bool (by simp [e1]), by go_grown⟩
  · go_enter Tryd.func8, Tryd.ntmps8
    go_wp2_with (first
    | (go_at_call 9; refine (awake_any _ hS).mono ?_; rintro e w' ⟨rfl, hb⟩; (try replace hS := hS.below hb); obtain ⟨hc, hf, hb, hz⟩ := bstep hb (w := w) (by go_grown); try simp only [World.size_alloc, World.size_setCell, World.size_drew] at hc hf hz)
    )
    all_goals
      first
      | omega
      | (go_returns
         exact ⟨rfl, by go_grown⟩)

namespace ArenaTurned
/-- What the row lists. -/
def lists : List (String × DataW Unit) := [("flotsam/class.sizes", Rows.laid_flotsam_class_sizes)]
set_option maxRecDepth 100000 in
theorem lifted (os : Os) (started : os.Started) (H : Type) (enc : TypeId × Value → H) :
    ReturnsInHanded {} Tryd.checked os 8 .any (fun w args => (Rows.arenaTurnedSpec.pre enc Tryd.prog Tryd.f8 Rows.arenaTurnedRow.domain false w args ∧ laidMetH Tryd.prog lists w) ∧ sizedMet enc Tryd.prog Tryd.f8 (OpenSpec.ofChange Rows.arenaTurnedSpec) false w args) (Rows.arenaTurnedSpec.post enc Tryd.prog Tryd.f8 false true false false) := by
  refine law_lifted_laid (C := Tryd.checked) seat_own started (by kernel_rfl) Tryd.func8 (by kernel_rfl) (of_decide_eq_true (by kernel_rfl)) rfl
    (fun ds hd => by have hd' : ds.length = 5 := hd; match ds, hd' with | [d0, d1, d2, d3, d4], _ => rfl) rfl Tryd.underlying4
    (ChangeSpec.witness_shaped (enc := enc) (C := Tryd.checked) (os := os) (X := fun w _ => laidMetH Tryd.prog lists w) false (World.laidAll Tryd.prog os lists) #[.slice none 0 0, .int .u16 0, .int .u16 0, .int .u64 0, .int .u64 0] 8 (World.laidAll_os _ _ _)
      (World.shaped_of_ZipB (by kernel_rfl) (by kernel_rfl)) (by kernel_rfl) (by kernel_rfl) (by kernel_rfl)
      (by rw [MakeChecks.laidMetH_plain _ _ _ (by kernel_rfl)]; exact laidMet_laidAll _ (by kernel_rfl) (by kernel_rfl))) ?_
  intro W base args ds p hval hA hlt hL
  have hS : Sz W := sizes_of hL (by kernel_rfl) rfl
  rw [Tryd.params8] at hA hval
  obtain ⟨rest⟩ := args
  dsimp only at hA
  obtain ⟨v0, vs0, d0, ds0, p0, q0, rfl, rfl, rfl, h0, hA0⟩ := trodAll_cons hA
  obtain ⟨v1, vs1, d1, ds1, p1, q1, rfl, rfl, rfl, h1, hA1⟩ := trodAll_cons hA0
  obtain ⟨v2, vs2, d2, ds2, p2, q2, rfl, rfl, rfl, h2, hA2⟩ := trodAll_cons hA1
  obtain ⟨v3, vs3, d3, ds3, p3, q3, rfl, rfl, rfl, h3, hA3⟩ := trodAll_cons hA2
  obtain ⟨v4, vs4, d4, ds4, p4, q4, rfl, rfl, rfl, h4, hA4⟩ := trodAll_cons hA3
  obtain ⟨rfl, rfl, rfl⟩ := trodAll_nil hA4
  obtain ⟨q0, n0, cap0, z0, rfl, hn0, hz0, hq0⟩ := open_slice_ints Tryd.underlying23 Tryd.underlying27 (by kernel_rfl) (hval 0 23 v0 rfl rfl) h0
  obtain ⟨a1, rfl, ha1⟩ := open_u16 Tryd.underlying40 (hval 1 40 v1 rfl rfl) h1
  obtain ⟨a2, rfl, ha2⟩ := open_u16 Tryd.underlying40 (hval 2 40 v2 rfl rfl) h2
  obtain ⟨a3, rfl, ha3⟩ := open_u64 Tryd.underlying27 (hval 3 27 v3 rfl rfl) h3
  obtain ⟨a4, rfl, ha4⟩ := open_u64 Tryd.underlying27 (hval 4 27 v4 rfl rfl) h4
  exact turned_walk _ _ _ _ a1 a2 a3 a4 W hz0 hn0 ha1.1 ha1.2 ha2.1 ha2.2 ha3.1 ha3.2 ha4.1 ha4.2 hS

theorem row_holds : Rows.ArenaTurnedSaid :=
  OpenClaim.holds_of_wide 8 Tryd.f8 rfl rfl rfl rfl rfl rfl rfl ⟨rfl, rfl, rfl, rfl, rfl⟩ rfl rfl rfl rfl rfl (by kernel_rfl) Tryd.func8 (by kernel_rfl)
    (of_decide_eq_true (by kernel_rfl)) (by unfold Func.isWrapper; first | (rw [if_pos (by decide +kernel)]; kernel_rfl) | (rw [if_neg (by decide +kernel)]; exact ⟨rfl, rfl⟩))
    (fun os started H enc _ => lifted os started H enc)
/-- The tied card. -/
theorem holds : Rows.ArenaTurnedCardSaid :=
  Claim7.holds_tied_plain_at .later [] [.data] true (true, "b116c2bd7adc539d1c7f5f977b3b1b7f2f58d7a588b2d7501eed8c8848a22661") false row_holds (fun _ h => by cases h) (by kernel_rfl) (fun _ h => by cases h) arenaTurned_row_tie rfl ⟨rfl, rfl⟩ (by kernel_rfl) rfl
    (fun f fn hf hfn => by
      obtain rfl : f = 8 := Option.some.inj ((show Tryd.prog.funcNamed "flotsam/flotsamlaw05.ArenaTurned" = some 8 by kernel_rfl).symm.trans hf) |>.symm
      obtain rfl : fn = Tryd.f8 := (Option.some.inj (Tryd.func8.symm.trans hfn)).symm
      exact ⟨by kernel_rfl, fun j t ht => by
        rw [Tryd.params8] at ht
        have hm : t ∈ [23, 40, 40, 27, 27] := by simpa using Array.mem_of_getElem? ht
        have hall : ([23, 40, 40, 27, 27].all fun u => !Tryd.prog.wantsStandIn u) = true := by kernel_rfl
        exact (show Tryd.prog.wantsStandIn t = false by simpa using List.all_eq_true.1 hall t hm)⟩)
    (by kernel_rfl)
#print axioms holds
end ArenaTurned
end Go.Proofs.YtjhclnalgdnplaaDoor
