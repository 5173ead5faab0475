/- ArenaStores: for every list of words, place and word, arena.Load and arena.Store answer as the document says. No condition; the code's own table is tied to the program's text. -/
import Derived.Test.YtjhclnalgdnplaaDoorRows
import Derived.Test.YtjhclnalgdnplaaDoorCards
import Derived.Test.YtjhclnalgdnplaaDoorTie
import Derived.Test.YtjhclnalgdnplaaDoorAwake05
import Derived.SevenTiedAt
namespace Go.Proofs.YtjhclnalgdnplaaDoor
set_option linter.unusedSimpArgs false
set_option linter.unusedVariables false
open Go.ChangeShapes Go.WideShapes Go.ChangeAt Go.RowKit Go.Joins

theorem same_self (n : Nat) (z : Nat → Int) : sameZ n z n z = true := by simp [sameZ]
set_option maxHeartbeats 1000000 in
theorem stores_walk (p : Option Addr) (n cap : Nat) (z : Nat → Int) (i v : Int) (w : World) (hin : Ints .u64 w p n z) (hn : n ≤ maxLen) (v0 : 0 ≤ v) (v1 : v < 18446744073709551616) (hS : Sz w) :
    Calls Tryd.prog 4 #[.slice p n cap, .int .i64 i, .int .u64 v] w fun e w' => e = .returned (.bool true) ∧ Below w.heap.size w w' := by
  simp only [maxLen] at hn
  by_cases hs : n ≤ 600
  · have d0 : decide (600 < (n : Int)) = false := by simp; omega
    have hv : (Lit.int .u64 v).wf = true := WalkArith.wf_u64 (by omega)
    have hle : n ≤ maxLen := by simp only [maxLen]; omega
    have hle' : n ≤ 17592186043904 := by omega
    have hsame := same_self n (putZ z i v)
    have hHv : Hid ((Lit.int .u64 v).wf = true) := hv
    clear hv
    go_enter Tryd.func4, Tryd.ntmps4
    go_wp2_with (first
    | (go_at_call 9; refine (awake_any _ hS).mono ?_; rintro e w' ⟨rfl, hb⟩; (try replace hS := hS.below hb); (try replace hin := hin.below hb); (try replace hx := hx.below hb); (try replace hy := hy.below hb); obtain ⟨hc, hf, hb, hz⟩ := bstep hb (w := w) (by go_grown); try simp only [World.size_alloc, World.size_setCell, World.size_drew] at hc hf hz)
    | (go_at_call 11; refine (aload_any _ _ _ _ _ _ hin).mono ?_; rintro e w' ⟨rfl, hb⟩; (try replace hS := hS.below hb); (try replace hin := hin.below hb); (try replace hx := hx.below hb); (try replace hy := hy.below hb); obtain ⟨hc, hf, hb, hz⟩ := bstep hb (w := w) (by go_grown); try simp only [World.size_alloc, World.size_setCell, World.size_drew] at hc hf hz)
    | (go_at_call 12; refine (rload_any _ _ _ _ _ _ hin hle).mono ?_; rintro e w' ⟨rfl, hb⟩; (try replace hS := hS.below hb); (try replace hin := hin.below hb); (try replace hx := hx.below hb); (try replace hy := hy.below hb); obtain ⟨hc, hf, hb, hz⟩ := bstep hb (w := w) (by go_grown); try simp only [World.size_alloc, World.size_setCell, World.size_drew] at hc hf hz)
    | (go_at_call 13; refine (astore_any _ _ _ _ _ _ _ hin hle' hHv.out).mono ?_; rintro e w' ⟨q0, k0, rfl, hx, -, hb⟩; (try replace hS := hS.below hb); (try replace hin := hin.below hb); (try replace hx := hx.below hb); (try replace hy := hy.below hb); obtain ⟨hc, hf, hb, hz⟩ := bstep hb (w := w) (by go_grown); try simp only [World.size_alloc, World.size_setCell, World.size_drew] at hc hf hz)
    | (go_at_call 14; refine (rstore_any _ _ _ _ _ _ _ hin hle' hHv.out).mono ?_; rintro e w' ⟨q1, k1, rfl, hy, hb⟩; (try replace hS := hS.below hb); (try replace hin := hin.below hb); (try replace hx := hx.below hb); (try replace hy := hy.below hb); obtain ⟨hc, hf, hb, hz⟩ := bstep hb (w := w) (by go_grown); try simp only [World.size_alloc, World.size_setCell, World.size_drew] at hc hf hz)
    | (go_at_call 15; refine (same_any _ _ _ _ _ _ _ _ _ hx hy hle hle).mono ?_; rintro e w' ⟨rfl, hb⟩; (try replace hS := hS.below hb); (try replace hin := hin.below hb); (try replace hx := hx.below hb); (try replace hy := hy.below hb); obtain ⟨hc, hf, hb, hz⟩ := bstep hb (w := w) (by go_grown); try simp only [World.size_alloc, World.size_setCell, World.size_drew] at hc hf hz)
    )
    all_goals
      go_returns
      exact ⟨ret_bool (by simp), by go_grown⟩
  · go_enter Tryd.func4, Tryd.ntmps4
    go_wp2_with (first
    | (go_at_call 9; refine (awake_any _ hS).mono ?_; rintro e w' ⟨rfl, hb⟩; (try replace hS := hS.below hb); obtain ⟨hc, hf, hb, hz⟩ := bstep hb (w := w) (by go_grown); try simp only [World.size_alloc, World.size_setCell, World.size_drew] at hc hf hz)
    )
    all_goals
      go_returns
      exact ⟨rfl, by go_grown⟩

namespace ArenaStores
/-- What the row lists. -/
def lists : List (String × DataW Unit) := [("flotsam/class.sizes", Rows.laid_flotsam_class_sizes)]
set_option maxRecDepth 100000 in
theorem lifted (os : Os) (started : os.Started) (H : Type) (enc : TypeId × Value → H) :
    ReturnsInHanded {} Tryd.checked os 4 .any (fun w args => (Rows.arenaStoresSpec.pre enc Tryd.prog Tryd.f4 Rows.arenaStoresRow.domain false w args ∧ laidMetH Tryd.prog lists w) ∧ sizedMet enc Tryd.prog Tryd.f4 (OpenSpec.ofChange Rows.arenaStoresSpec) false w args) (Rows.arenaStoresSpec.post enc Tryd.prog Tryd.f4 false true false false) := by
  refine law_lifted_laid (C := Tryd.checked) seat_own started (by kernel_rfl) Tryd.func4 (by kernel_rfl) (of_decide_eq_true (by kernel_rfl)) rfl
    (fun ds hd => by have hd' : ds.length = 3 := hd; match ds, hd' with | [d0, d1, d2], _ => rfl) rfl Tryd.underlying4
    (ChangeSpec.witness_shaped (enc := enc) (C := Tryd.checked) (os := os) (X := fun w _ => laidMetH Tryd.prog lists w) false (World.laidAll Tryd.prog os lists) #[.slice none 0 0, .int .i64 0, .int .u64 0] 8 (World.laidAll_os _ _ _)
      (World.shaped_of_ZipB (by kernel_rfl) (by kernel_rfl)) (by kernel_rfl) (by kernel_rfl) (by kernel_rfl)
      (by rw [MakeChecks.laidMetH_plain _ _ _ (by kernel_rfl)]; exact laidMet_laidAll _ (by kernel_rfl) (by kernel_rfl))) ?_
  intro W base args ds p hval hA hlt hL
  have hS : Sz W := sizes_of hL (by kernel_rfl) rfl
  rw [Tryd.params4] at hA hval
  obtain ⟨v0, v1, v2, d0, d1, d2, p0, p1, p2, rfl, rfl, rfl, h0, h1, h2⟩ := trodAll_three hA
  obtain ⟨q0, n0, cap0, z0, rfl, hn0, hz0, hq0⟩ := open_slice_ints Tryd.underlying23 Tryd.underlying27 (by kernel_rfl) (hval 0 23 v0 rfl rfl) h0
  obtain ⟨a1, rfl, ha1⟩ := open_i64 Tryd.underlying3 (hval 1 3 v1 rfl rfl) h1
  obtain ⟨a2, rfl, ha2⟩ := open_u64 Tryd.underlying27 (hval 2 27 v2 rfl rfl) h2
  exact stores_walk _ _ _ _ a1 a2 W hz0 hn0 ha2.1 ha2.2 hS

theorem row_holds : Rows.ArenaStoresSaid :=
  OpenClaim.holds_of_wide 4 Tryd.f4 rfl rfl rfl rfl rfl rfl rfl ⟨rfl, rfl, rfl, rfl, rfl⟩ rfl rfl rfl rfl rfl (by kernel_rfl) Tryd.func4 (by kernel_rfl)
    (of_decide_eq_true (by kernel_rfl)) (by unfold Func.isWrapper; first | (rw [if_pos (by decide +kernel)]; kernel_rfl) | (rw [if_neg (by decide +kernel)]; exact ⟨rfl, rfl⟩))
    (fun os started H enc _ => lifted os started H enc)
/-- The tied card. -/
theorem holds : Rows.ArenaStoresCardSaid :=
  Claim7.holds_tied_plain_at .later [] [.data] true (true, "b116c2bd7adc539d1c7f5f977b3b1b7f2f58d7a588b2d7501eed8c8848a22661") false row_holds (fun _ h => by cases h) (by kernel_rfl) (fun _ h => by cases h) arenaStores_row_tie rfl ⟨rfl, rfl⟩ (by kernel_rfl) rfl
    (fun f fn hf hfn => by
      obtain rfl : f = 4 := Option.some.inj ((show Tryd.prog.funcNamed "flotsam/flotsamlaw05.ArenaStores" = some 4 by kernel_rfl).symm.trans hf) |>.symm
      obtain rfl : fn = Tryd.f4 := (Option.some.inj (Tryd.func4.symm.trans hfn)).symm
      exact ⟨by kernel_rfl, fun j t ht => by
        rw [Tryd.params4] at ht
        have hm : t ∈ [23, 3, 27] := by simpa using Array.mem_of_getElem? ht
        have hall : ([23, 3, 27].all fun u => !Tryd.prog.wantsStandIn u) = true := by kernel_rfl
        exact (show Tryd.prog.wantsStandIn t = false by simpa using List.all_eq_true.1 hall t hm)⟩)
    (by kernel_rfl)
#print axioms holds
end ArenaStores
end Go.Proofs.YtjhclnalgdnplaaDoor
