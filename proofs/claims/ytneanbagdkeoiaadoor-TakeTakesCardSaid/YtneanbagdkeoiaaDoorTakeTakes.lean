/- TakeTakes: of every heap that has its form, right caches (of at most ten mutators), a mutator of them and a number of fields, take.Take answers as the document says. No condition; the tables that the code reads are tied to the program's text. -/
import Derived.Test.YtneanbagdkeoiaaDoorRows
import Derived.Test.YtneanbagdkeoiaaDoorCards
import Derived.Test.YtneanbagdkeoiaaDoorTie
import Derived.Test.YtneanbagdkeoiaaDoorTiedBits
import Derived.Test.YtneanbagdkeoiaaDoorAwake11
import Derived.SevenTiedAt
namespace Go.Proofs.YtneanbagdkeoiaaDoor
set_option linter.unusedSimpArgs false
set_option linter.unusedVariables false
open Go.ChangeShapes Go.WideShapes Go.ChangeAt Go.RowKit Go.Joins

set_option maxHeartbeats 16000000 in
set_option maxRecDepth 20000 in
theorem takes_walk {p : Option Addr} {n c : Nat} {q : Option Addr} {m d : Nat} {s : Bool} {h : Hp} {pc : Option Addr} {k cc : Nat} {y : Nat → Int} (mm f : Int) (w : World) (hh : HpIn w p n c q m d s h) (hin : Ints .i64 w pc (k * 4) y) (hk : k ≤ maxLen) (hpc : pc = none → k = 0 ∧ cc = 0) (hS : Sz w) (hT : Tab w) :
    Calls Tryd.prog 5 #[.agg #[.slice p n c, .slice q m d, .bool s], .slice pc k cc, .int .i64 mm, .int .i64 f] w fun e w' => e = .returned (.bool true) ∧ Below w.heap.size w w' := by
  obtain ⟨w0, hw0⟩ : ∃ w0, w0 = w.alloc (.cells #[.slice p n c, .slice q m d, .bool s] 25) := ⟨_, rfl⟩
  have g3 : Box3 w.heap.size (.slice p n c) (.slice q m d) (.bool s) w0 := by rw [hw0]; exact Box3.new _ _ _ _ _
  have hB0 : Below w.heap.size w w0 := by rw [hw0]; exact (Below.refl _ _).alloc (Nat.le_refl _) _
  have hh0 := hh.below hB0
  have hin0 := hin.below hB0
  replace hS := hS.below hB0
  replace hT := hT.below hB0
  obtain ⟨l3, x0, x1, x2, -, -, -⟩ := id g3
  have rM := fun W (hW : Below w0.heap.size w0 W) => lright_in (cc := cc) (mm := mm) (hh0.below hW) (hin0.below hW) hk
  cases hM : rightM h k y mm with
  | false =>
    rw [hM] at rM
    go_enter Tryd.func5, Tryd.ntmps5
    go_upto_region 1 with fail
    rw [← hw0]
    clear hw0
    go_wp2_with (first
    | (go_at_call 9; refine Calls.mono (awake11_any _ (hS.below (by go_grown)) (hT.below (by go_grown))) ?_; rintro e w' ⟨rfl, hb⟩; obtain ⟨hc, hf, hb, hz⟩ := bstep hb (w := w0) (by go_grown); try simp only [World.size_alloc, World.size_setCell, World.size_drew] at hc hf hz)
    | (go_at_call 15; refine Calls.mono (rM _ (by go_grown)) ?_; rintro e w' ⟨rfl, hb⟩; obtain ⟨hc, hf, hb, hz⟩ := bstep hb (w := w0) (by go_grown); try simp only [World.size_alloc, World.size_setCell, World.size_drew] at hc hf hz)
    )
    go_returns
    exact ⟨rfl, bjoin hb hB0⟩
  | true =>
    rw [hM] at rM
    obtain ⟨hF, hk10, hr, m0, m1⟩ := rightM_iff.1 hM
    obtain ⟨mn, rfl⟩ : ∃ mn : Nat, mm = mn := ⟨mm.toNat, by omega⟩
    have hF' : Hid (formB h = true) := hF
    have hr' : Hid (rightY h k y = true) := hr
    have hmn : Hid (mn < k) := (by omega : mn < k)
    clear hM hF hr m0 m1
    have hP := fun W (hW : Below w0.heap.size w0 W) => ttake_in (cc := cc) (mm := mn) (f := f) (hS.below hW) (hT.below hW) (hh0.below hW) hF'.out (hin0.below hW) hpc (by omega) hmn.out hr'.out
    have hQ := fun W (hW : Below w0.heap.size w0 W) => rtake_in (cc := cc) (mm := mn) (f := f) (hh0.below hW) hF'.out (hin0.below hW) hpc (by omega) hmn.out hr'.out
    have hsH := sameH_self (takeH h k y mn f)
    have hsY : sameY k (takeY h k y mn f) k (takeY h k y mn f) = true := sameY_of fun _ _ => rfl
    generalize takeA h k y mn f = A at *
    generalize (takeP h k y mn f).isSome = B at *
    go_enter Tryd.func5, Tryd.ntmps5
    go_upto_region 1 with fail
    rw [← hw0]
    clear hw0
    go_upto_region 4 with (first
    | (go_at_call 9; refine Calls.mono (awake11_any _ (hS.below (by go_grown)) (hT.below (by go_grown))) ?_; rintro e w' ⟨rfl, hb⟩; obtain ⟨hc, hf, hb, hz⟩ := bstep hb (w := w0) (by go_grown); try simp only [World.size_alloc, World.size_setCell, World.size_drew] at hc hf hz)
    | (go_at_call 15; refine Calls.mono (rM _ (by go_grown)) ?_; rintro e w' ⟨rfl, hb⟩; obtain ⟨hc, hf, hb, hz⟩ := bstep hb (w := w0) (by go_grown); try simp only [World.size_alloc, World.size_setCell, World.size_drew] at hc hf hz)
    | (go_at_call 18; refine Calls.mono (hP _ (by go_grown)) ?_; rintro e w' ⟨p1, c1, q1, d1, pc1, cc1, rfl, t1, hb⟩; obtain ⟨hc, hf, hb, hz⟩ := bstep hb (w := w0) (by go_grown); try simp only [World.size_alloc, World.size_setCell, World.size_drew] at hc hf hz)
    )
    obtain ⟨w4, hw4⟩ : ∃ W, W = w'.alloc (.cells #[.slice p1 n c1, .slice q1 m d1, .bool s] 25) := ⟨_, rfl⟩
    have hB4 : Below w'.heap.size w' w4 := by rw [hw4]; exact (Below.refl _ _).alloc (Nat.le_refl _) _
    have g9 : Box3 w'.heap.size (.slice p1 n c1) (.slice q1 m d1) (.bool s) w4 := by rw [hw4]; exact Box3.new _ _ _ _ _
    have hb4 := bjoin hB4 hb
    have hh1 := t1.heap.below hB4
    have hi1 := t1.caches.below hB4
    have hbW := bjoin hb4 hB0
    replace hQ := fun W (hW : Below w4.heap.size w4 W) => hQ W (bjoin hW hb4)
    replace g3 := g3.below hb4
    rw [← hw4]
    clear hw4 hB4 hb hc hf hz x0 x1 x2 l3 t1 hb4 hB0 hP rM hS hT hh0 hin0
    generalize w'.heap.size = B9 at *
    obtain ⟨l3, x0, x1, x2, -, -, -⟩ := id g3
    go_upto_region 5 with (first
    | (go_at_call 19; refine Calls.mono (hQ _ (by go_grown)) ?_; rintro e w' ⟨p2, c2, q2, d2, pc2, cc2, rfl, t2, hb⟩; obtain ⟨hc, hf, hb, hz⟩ := bstep hb (w := w4) (by go_grown); try simp only [World.size_alloc, World.size_setCell, World.size_drew] at hc hf hz)
    )
    obtain ⟨w5, hw5⟩ : ∃ W, W = w'.alloc (.cells #[.slice p2 n c2, .slice q2 m d2, .bool s] 25) := ⟨_, rfl⟩
    have hB5 : Below w'.heap.size w' w5 := by rw [hw5]; exact (Below.refl _ _).alloc (Nat.le_refl _) _
    have g13 : Box3 w'.heap.size (.slice p2 n c2) (.slice q2 m d2) (.bool s) w5 := by rw [hw5]; exact Box3.new _ _ _ _ _
    have hb5 := bjoin hB5 hb
    have hh2 := t2.heap.below hB5
    have hi2 := t2.caches.below hB5
    replace hbW := bjoin hb5 hbW
    replace hh1 := hh1.below hb5
    replace hi1 := hi1.below hb5
    replace g9 := g9.below hb5
    rw [← hw5]
    clear hw5 hB5 hb hc hf hz x0 x1 x2 l3 t2 hb5 hQ g3
    generalize w'.heap.size = B13 at *
    obtain ⟨l9, x0, x1, x2, -, -, -⟩ := id g9
    obtain ⟨l13, z0, z1, z2, -, -, -⟩ := id g13
    have r1 := fun W (hW : Below w5.heap.size w5 W) => rsame_in (hh1.below hW) (hh2.below hW)
    have r2 := fun W (hW : Below w5.heap.size w5 W) => rsame11_any pc1 k cc1 _ pc2 k cc2 _ W (hi1.below hW) (hi2.below hW) hk hk
    rw [hsH] at r1
    rw [hsY] at r2
    go_wp2_with (first
    | (go_at_call 20; refine Calls.mono (r1 _ (by go_grown)) ?_; rintro e w' ⟨rfl, hb⟩; obtain ⟨hc, hf, hb, hz⟩ := bstep hb (w := w5) (by go_grown); try simp only [World.size_alloc, World.size_setCell, World.size_drew] at hc hf hz)
    | (go_at_call 21; refine Calls.mono (r2 _ (by go_grown)) ?_; rintro e w' ⟨rfl, hb⟩; obtain ⟨hc, hf, hb, hz⟩ := bstep hb (w := w5) (by go_grown); try simp only [World.size_alloc, World.size_setCell, World.size_drew] at hc hf hz)
    )
    go_returns
    exact ⟨ret_bool (by simp), bjoin hb hbW⟩

namespace TakeTakes
/-- What the row lists. -/
def lists : List (String × DataW Unit) := [("flotsam/class.sizes", Rows.laid_flotsam_class_sizes), ("math/bits.deBruijn32tab", Rows.laid_math_bits_deBruijn32tab)]
set_option maxRecDepth 100000 in
theorem lifted (os : Os) (started : os.Started) (H : Type) (enc : TypeId × Value → H) :
    ReturnsInHanded {} Tryd.checked os 5 .any (fun w args => (Rows.takeTakesSpec.pre enc Tryd.prog Tryd.f5 Rows.takeTakesRow.domain false w args ∧ laidMetH Tryd.prog lists w) ∧ sizedMet enc Tryd.prog Tryd.f5 (OpenSpec.ofChange Rows.takeTakesSpec) false w args) (Rows.takeTakesSpec.post enc Tryd.prog Tryd.f5 false true false false) := by
  refine law_lifted_laid (C := Tryd.checked) seat_own started (by kernel_rfl) Tryd.func5 (by kernel_rfl) (of_decide_eq_true (by kernel_rfl)) rfl
    (fun ds hd => by have hd' : ds.length = 4 := hd; match ds, hd' with | [d0, d1, d2, d3], _ => rfl) rfl Tryd.underlying4
    (ChangeSpec.witness_shaped (enc := enc) (C := Tryd.checked) (os := os) (X := fun w _ => laidMetH Tryd.prog lists w) false (World.laidAll Tryd.prog os lists) #[.agg #[.slice none 0 0, .slice none 0 0, .bool false], .slice none 0 0, .int .i64 0, .int .i64 0] 8 (World.laidAll_os _ _ _)
      (World.shaped_of_ZipB (by kernel_rfl) (by kernel_rfl)) (by kernel_rfl) (by kernel_rfl) (by kernel_rfl)
      (by rw [MakeChecks.laidMetH_plain _ _ _ (by kernel_rfl)]; exact laidMet_laidAll _ (by kernel_rfl) (by kernel_rfl))) ?_
  intro W base args ds p hval hA hlt hL
  have hS : Sz W := sizes_of hL (by kernel_rfl) rfl
  have hT : Tab W := tab_of hL (by kernel_rfl) rfl
  rw [Tryd.params5] at hA hval
  obtain ⟨v0, v1, v2, v3, d0, d1, d2, d3, p0, p1, p2, p3, rfl, rfl, rfl, h0, h1, h2, h3⟩ := trodAll_four hA
  obtain ⟨x0, q0, c0, s0, e0, rfl, hh0⟩ := open_heap Tryd.underlying25 (by kernel_rfl) (by kernel_rfl) Tryd.underlying22 (by kernel_rfl) (by kernel_rfl) Tryd.underlying23 Tryd.underlying58 (by kernel_rfl) (by kernel_rfl) (by kernel_rfl) (by kernel_rfl) (by kernel_rfl) (by kernel_rfl) (hval 0 25 v0 rfl rfl) h0
  obtain ⟨q1, n1, cap1, z1, rfl, hn1, hz1, hq1⟩ := open_caches Tryd.underlying26 Tryd.underlying51 (by kernel_rfl) (by kernel_rfl) Tryd.underlying3 (hval 1 26 v1 rfl rfl) h1
  obtain ⟨a2, rfl, ha2⟩ := open_i64 Tryd.underlying3 (hval 2 3 v2 rfl rfl) h2
  obtain ⟨a3, rfl, ha3⟩ := open_i64 Tryd.underlying3 (hval 3 3 v3 rfl rfl) h3
  exact takes_walk a2 a3 W hh0.in hz1 hn1 hq1 hS hT

theorem row_holds : Rows.TakeTakesSaid :=
  OpenClaim.holds_of_wide 5 Tryd.f5 rfl rfl rfl rfl rfl rfl rfl ⟨rfl, rfl, rfl, rfl, rfl⟩ rfl rfl rfl rfl rfl (by kernel_rfl) Tryd.func5 (by kernel_rfl)
    (of_decide_eq_true (by kernel_rfl)) (by unfold Func.isWrapper; first | (rw [if_pos (by decide +kernel)]; kernel_rfl) | (rw [if_neg (by decide +kernel)]; exact ⟨rfl, rfl⟩))
    (fun os started H enc _ => lifted os started H enc)
/-- The tied card. -/
theorem holds : Rows.TakeTakesCardSaid :=
  Claim7.holds_tied_plain_at .later [] [.data, .data] true (true, "90ecb932aa180f2768b6f7eeb0d14302187bc6bdcc666950daeb3c04fa096778") true row_holds (fun _ h => by cases h) (by kernel_rfl) (fun _ h => by cases h) takeTakes_row_tie rfl ⟨rfl, rfl⟩ (by kernel_rfl) rfl
    (fun f fn hf hfn => by
      obtain rfl : f = 5 := Option.some.inj ((show Tryd.prog.funcNamed "flotsam/flotsamlaw11.TakeTakes" = some 5 by kernel_rfl).symm.trans hf) |>.symm
      obtain rfl : fn = Tryd.f5 := (Option.some.inj (Tryd.func5.symm.trans hfn)).symm
      exact ⟨by kernel_rfl, fun j t ht => by
        rw [Tryd.params5] at ht
        have hm : t ∈ [25, 26, 3, 3] := by simpa using Array.mem_of_getElem? ht
        have hall : ([25, 26, 3, 3].all fun u => !Tryd.prog.wantsStandIn u) = true := by kernel_rfl
        exact (show Tryd.prog.wantsStandIn t = false by simpa using List.all_eq_true.1 hall t hm)⟩)
    (by kernel_rfl)
#print axioms holds
end TakeTakes
end Go.Proofs.YtneanbagdkeoiaaDoor
