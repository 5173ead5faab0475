/- ArenaKeeps: for every list of words, place and word, arena.Store leaves what it is handed as it was, and what it answers, where it stored, is other memory. No condition; the code's own table is tied to the program's text. -/
import Derived.Test.YtjhclnalgdnplaaDoorRows
import Derived.Test.YtjhclnalgdnplaaDoorCards
import Derived.Test.YtjhclnalgdnplaaDoorTie
import Derived.Test.YtjhclnalgdnplaaDoorAwake05
import Derived.SevenTiedAt
namespace Go.Proofs.YtjhclnalgdnplaaDoor
set_option linter.unusedSimpArgs false
set_option linter.unusedVariables false
open Go.ChangeShapes Go.WideShapes Go.ChangeAt Go.RowKit Go.Joins

set_option maxHeartbeats 2000000 in
theorem keeps_walk (p : Option Addr) (n cap : Nat) (z : Nat → Int) (i v : Int) (w : World) (hin : Ints .u64 w p n z) (hn : n ≤ maxLen) (hq : p = none → n = 0 ∧ cap = 0) (v0 : 0 ≤ v) (v1 : v < 18446744073709551616) (hS : Sz w) :
    Calls Tryd.prog 7 #[.slice p n cap, .int .i64 i, .int .u64 v] w fun e w' => e = .returned (.bool true) ∧ Below w.heap.size w w' := by
  simp only [maxLen] at hn
  by_cases hs : n ≤ 600
  · have d0 : decide (600 < (n : Int)) = false := by simp; omega
    have t1 : (n : Int) ≤ 600 := by omega
    have hHv : Hid ((Lit.int .u64 v).wf = true) := WalkArith.wf_u64 (by omega)
    have hle : n ≤ maxLen := by simp only [maxLen]; omega
    have hle' : n ≤ 17592186043904 := by omega
    have hinI := hin
    go_enter Tryd.func7, Tryd.ntmps7
    go_upto_region 3 with (first
    | (go_at_call 9; refine (awake_any _ hS).mono ?_; rintro e w' ⟨rfl, hb⟩; (try replace hS := hS.below hb); (try replace hin := hin.below hb); obtain ⟨hc, hf, hb, hz⟩ := bstep hb (w := w) (by go_grown); try simp only [World.size_alloc, World.size_setCell, World.size_drew] at hc hf hz)
    )
    obtain ⟨i0, hi, hz0, hz1, hz2⟩ := info_parts infoW
    go_upto_region 4 with (first
      | (at_builtin; refine wpList_append_ints rfl (.tmp 21) (.tmp 22) 23 rfl w.heap.size 27 i0 (.int .u64 0) 8 Tryd.underlying23 hi hz0 hz1 hz2 rfl (.slice (some ⟨w'.heap.size, 0, none⟩) 0 0) 0 [] rfl (World.ownsRow_lit w' #[] 0 hz (by simp only [maxLen]; omega) rfl) .u64 _ _ _ z rfl (hin.below (by go_grown)) hq (by simp only [maxLen]; omega) (by omega) (by simp; omega) ?_; intro ov w1 hown1 hgrow1)
    )
    have hB1 : Below w.heap.size w w1 := (hb.alloc hz _).grown hgrow1 (by simp; omega) (by intro k hk; simp [Value.ownBlock] at hk; omega)
    have hB2 : Below w'.heap.size w' w1 := ((Below.refl _ w').alloc (Nat.le_refl _) _).grown hgrow1 (by simp) (by intro k hk; simp [Value.ownBlock] at hk; omega)
    replace hS := hS.below hB2
    replace hin := hin.below hB2
    rw [Nat.zero_add, List.nil_append] at hown1
    obtain ⟨q, c, rfl, -⟩ := owned_new hown1
    have ho := ints_owned hown1 hin.wf
    have hlt : ∀ k, (Value.slice q n c).ownBlock = some k → k < w1.heap.size := fun k hk => (hown1.lt k hk).2
    have hsame : sameZ n z n z = true := by simp [sameZ]
    clear hc hf hb hz hgrow1 hB2
    go_upto_region 5 with (first
    | (go_at_call 13; refine (astore_any _ _ _ _ _ _ _ ho hle' hHv.out).mono ?_; rintro e w' ⟨q2, c2, rfl, hx, hfr, hb⟩; (try replace hS := hS.below hb); (try replace hin := hin.below hb); (try replace ho := ho.below hb); (try replace hx := hx.below hb); obtain ⟨hc, hf, hb, hz⟩ := bstep hb (w := w) (by go_grown); try simp only [World.size_alloc, World.size_setCell, World.size_drew] at hc hf hz)
    )
    have hown2 := owned_below hown1 (w' := w') (by assumption)
    obtain ⟨w2, hw2⟩ : ∃ w2, w2 = w' := ⟨_, rfl⟩
    rw [← hw2] at hb hS hin ho hx hown2 ⊢
    have hB2 := hb
    clear hw2 hc hf hb hz hown1
    go_upto_region 7 with (first
    | (go_at_call 15; refine (same_any _ _ _ _ _ _ _ _ _ ho hin hle hle).mono ?_; rintro e w' ⟨rfl, hb⟩; (try replace hS := hS.below hb); (try replace hin := hin.below hb); (try replace ho := ho.below hb); (try replace hx := hx.below hb); obtain ⟨hc, hf, hb, hz⟩ := bstep hb (w := w) (by go_grown); try simp only [World.size_alloc, World.size_setCell, World.size_drew] at hc hf hz)
    )
    have hown3 := owned_below hown2 (w' := w') (by assumption)
    obtain ⟨w3, hw3⟩ : ∃ w3, w3 = w' := ⟨_, rfl⟩
    rw [← hw3] at hb hS hin ho hx hown3 ⊢
    have hB3 := hb
    clear hw3 hc hf hb hz hown2 hB2 ho
    go_wp2
    go_loopg [10] n (fun m jv wr => ∃ j : Nat, j ≤ n ∧ m = n - j ∧ jv = .int .i64 j ∧ (∃ xs, wr.ownsRow w.heap.size 27 1 (.slice q n c) n xs) ∧ (inI n i = true → Ints .u64 wr q2 n (putZ z i v)) ∧ Below w.heap.size w wr)
    case atStart => exact ⟨0, by omega, by omega, rfl, ⟨_, hown3⟩, fun _ => hx, hB3⟩
    case round =>
      obtain ⟨j, jh, rfl, rfl, ⟨xs, hown⟩, hxx, hbw⟩ := hrel
      by_cases hj : j < n
      · rcases hown.2 with ⟨-, h0⟩ | ⟨g, cap', cur, hv, hbg, -⟩
        · omega
        injection hv with hv1 hv2 hv3
        subst hv1 hv3
        have hg1 : g < w1.heap.size := hlt g rfl
        have hxl : xs.length = n := by have := hown.1; omega
        obtain ⟨u, hu⟩ : ∃ u, xs[j]? = some u := ⟨xs[j]'(by omega), List.getElem?_eq_getElem _⟩
        have hcell := (hown.cellAt j (by omega)).trans hu
        have hfz := hown.frozenAt j
        have hst := (hown.stored j (.int .u64 99)).1
        have hxs : inI n i = true → Ints .u64 (wr.setCell ⟨g, j, none⟩ (.int .u64 99)) q2 n (putZ z i v) := fun h => (hxx h).setCell (fun b off e => by have := hfr h b off none e; omega) j _
        have hb4 : Below w.heap.size w (wr.setCell ⟨g, j, none⟩ (.int .u64 99)) := hbw.setCell hbg _
        clear hu hown hxx hbw hxl
        go_wp2
        go_roundg (n - (j + 1))
        case measure => omega
        case rel => exact ⟨j + 1, by omega, rfl, by go_num, ⟨_, hst⟩, hxs, hb4⟩
      · have hin' := hinI.below hbw
        clear hin hx hS hown3 hB3 hown hb
        cases h : inI n i with
        | true =>
          have hx := hxx h
          rw [h] at *
          have hs2 : sameZ n (putZ z i v) n (putZ z i v) = true := by simp [sameZ]
          go_wp2_with (first
    | (go_at_call 14; refine (rstore_any _ _ _ _ _ _ _ hin' hle' hHv.out).mono ?_; rintro e w' ⟨q3, c3, rfl, hy, hb⟩; (try replace hin' := hin'.below hb); (try replace hx := hx.below hb); (try replace hy := hy.below hb); obtain ⟨hc, hf, hb, hz⟩ := bstep hb (w := wr) (by go_grown); try simp only [World.size_alloc, World.size_setCell, World.size_drew] at hc hf hz)
    | (go_at_call 15; refine (same_any _ _ _ _ _ _ _ _ _ hx hy hle hle).mono ?_; rintro e w' ⟨rfl, hb⟩; (try replace hin' := hin'.below hb); (try replace hx := hx.below hb); (try replace hy := hy.below hb); obtain ⟨hc, hf, hb, hz⟩ := bstep hb (w := wr) (by go_grown); try simp only [World.size_alloc, World.size_setCell, World.size_drew] at hc hf hz)
          )
          go_returns
          exact ⟨ret_bool (by simp), bjoin hb hbw⟩
        | false =>
          go_wp2_with (first
    | (go_at_call 14; refine (rstore_any _ _ _ _ _ _ _ hin' hle' hHv.out).mono ?_; rintro e w' ⟨q3, c3, rfl, hy, hb⟩; obtain ⟨hc, hf, hb, hz⟩ := bstep hb (w := wr) (by go_grown); try simp only [World.size_alloc, World.size_setCell, World.size_drew] at hc hf hz)
          )
          go_returns
          exact ⟨ret_bool (by simp), bjoin hb hbw⟩
  · go_enter Tryd.func7, Tryd.ntmps7
    go_wp2_with (first
    | (go_at_call 9; refine (awake_any _ hS).mono ?_; rintro e w' ⟨rfl, hb⟩; (try replace hS := hS.below hb); obtain ⟨hc, hf, hb, hz⟩ := bstep hb (w := w) (by go_grown); try simp only [World.size_alloc, World.size_setCell, World.size_drew] at hc hf hz)
    )
    all_goals
      first
      | omega
      | (go_returns
         exact ⟨rfl, by go_grown⟩)

namespace ArenaKeeps
/-- What the row lists. -/
def lists : List (String × DataW Unit) := [("flotsam/class.sizes", Rows.laid_flotsam_class_sizes)]
set_option maxRecDepth 100000 in
theorem lifted (os : Os) (started : os.Started) (H : Type) (enc : TypeId × Value → H) :
    ReturnsInHanded {} Tryd.checked os 7 .any (fun w args => (Rows.arenaKeepsSpec.pre enc Tryd.prog Tryd.f7 Rows.arenaKeepsRow.domain false w args ∧ laidMetH Tryd.prog lists w) ∧ sizedMet enc Tryd.prog Tryd.f7 (OpenSpec.ofChange Rows.arenaKeepsSpec) false w args) (Rows.arenaKeepsSpec.post enc Tryd.prog Tryd.f7 false true false false) := by
  refine law_lifted_laid (C := Tryd.checked) seat_own started (by kernel_rfl) Tryd.func7 (by kernel_rfl) (of_decide_eq_true (by kernel_rfl)) rfl
    (fun ds hd => by have hd' : ds.length = 3 := hd; match ds, hd' with | [d0, d1, d2], _ => rfl) rfl Tryd.underlying4
    (ChangeSpec.witness_shaped (enc := enc) (C := Tryd.checked) (os := os) (X := fun w _ => laidMetH Tryd.prog lists w) false (World.laidAll Tryd.prog os lists) #[.slice none 0 0, .int .i64 0, .int .u64 0] 8 (World.laidAll_os _ _ _)
      (World.shaped_of_ZipB (by kernel_rfl) (by kernel_rfl)) (by kernel_rfl) (by kernel_rfl) (by kernel_rfl)
      (by rw [MakeChecks.laidMetH_plain _ _ _ (by kernel_rfl)]; exact laidMet_laidAll _ (by kernel_rfl) (by kernel_rfl))) ?_
  intro W base args ds p hval hA hlt hL
  have hS : Sz W := sizes_of hL (by kernel_rfl) rfl
  rw [Tryd.params7] at hA hval
  obtain ⟨v0, v1, v2, d0, d1, d2, p0, p1, p2, rfl, rfl, rfl, h0, h1, h2⟩ := trodAll_three hA
  obtain ⟨q0, n0, cap0, z0, rfl, hn0, hz0, hq0⟩ := open_slice_ints Tryd.underlying23 Tryd.underlying27 (by kernel_rfl) (hval 0 23 v0 rfl rfl) h0
  obtain ⟨a1, rfl, ha1⟩ := open_i64 Tryd.underlying3 (hval 1 3 v1 rfl rfl) h1
  obtain ⟨a2, rfl, ha2⟩ := open_u64 Tryd.underlying27 (hval 2 27 v2 rfl rfl) h2
  exact keeps_walk _ _ _ _ a1 a2 W hz0 hn0 hq0 ha2.1 ha2.2 hS

theorem row_holds : Rows.ArenaKeepsSaid :=
  OpenClaim.holds_of_wide 7 Tryd.f7 rfl rfl rfl rfl rfl rfl rfl ⟨rfl, rfl, rfl, rfl, rfl⟩ rfl rfl rfl rfl rfl (by kernel_rfl) Tryd.func7 (by kernel_rfl)
    (of_decide_eq_true (by kernel_rfl)) (by unfold Func.isWrapper; first | (rw [if_pos (by decide +kernel)]; kernel_rfl) | (rw [if_neg (by decide +kernel)]; exact ⟨rfl, rfl⟩))
    (fun os started H enc _ => lifted os started H enc)
/-- The tied card. -/
theorem holds : Rows.ArenaKeepsCardSaid :=
  Claim7.holds_tied_plain_at .later [] [.data] true (true, "b116c2bd7adc539d1c7f5f977b3b1b7f2f58d7a588b2d7501eed8c8848a22661") false row_holds (fun _ h => by cases h) (by kernel_rfl) (fun _ h => by cases h) arenaKeeps_row_tie rfl ⟨rfl, rfl⟩ (by kernel_rfl) rfl
    (fun f fn hf hfn => by
      obtain rfl : f = 7 := Option.some.inj ((show Tryd.prog.funcNamed "flotsam/flotsamlaw05.ArenaKeeps" = some 7 by kernel_rfl).symm.trans hf) |>.symm
      obtain rfl : fn = Tryd.f7 := (Option.some.inj (Tryd.func7.symm.trans hfn)).symm
      exact ⟨by kernel_rfl, fun j t ht => by
        rw [Tryd.params7] at ht
        have hm : t ∈ [23, 3, 27] := by simpa using Array.mem_of_getElem? ht
        have hall : ([23, 3, 27].all fun u => !Tryd.prog.wantsStandIn u) = true := by kernel_rfl
        exact (show Tryd.prog.wantsStandIn t = false by simpa using List.all_eq_true.1 hall t hm)⟩)
    (by kernel_rfl)
#print axioms holds
end ArenaKeeps
end Go.Proofs.YtjhclnalgdnplaaDoor
