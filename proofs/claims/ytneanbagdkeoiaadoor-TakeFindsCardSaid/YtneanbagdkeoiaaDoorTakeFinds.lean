/- TakeFinds: of every heap that has its form, right caches (of at most ten mutators), a mutator of them and a class, take.Page answers the page that the document names. No condition; the tables that the code reads are tied to the program's text. -/
import Derived.Test.YtneanbagdkeoiaaDoorRows
import Derived.Test.YtneanbagdkeoiaaDoorCards
import Derived.Test.YtneanbagdkeoiaaDoorTie
import Derived.Test.YtneanbagdkeoiaaDoorTiedBits
import Derived.Test.YtneanbagdkeoiaaDoorAwake11
import Derived.SevenTiedAt
namespace Go.Proofs.YtneanbagdkeoiaaDoor
set_option linter.unusedSimpArgs false
set_option linter.unusedVariables false
open Go.ChangeShapes Go.WideShapes Go.ChangeAt Go.RowKit Go.Joins

set_option maxHeartbeats 8000000 in
theorem finds_walk {p : Option Addr} {n c : Nat} {q : Option Addr} {m d : Nat} {s : Bool} {h : Hp} {pc : Option Addr} {k cc : Nat} {y : Nat → Int} (mm cl : Int) (w : World) (hh : HpIn w p n c q m d s h) (hin : Ints .i64 w pc (k * 4) y) (hk : k ≤ maxLen) (hS : Sz w) (hT : Tab w) (c0 : 0 ≤ cl) (c1 : cl < 256) :
    Calls Tryd.prog 4 #[.agg #[.slice p n c, .slice q m d, .bool s], .slice pc k cc, .int .i64 mm, .int .u8 cl] w fun e w' => e = .returned (.bool true) ∧ Below w.heap.size w w' := by
  obtain ⟨w0, hw0⟩ : ∃ w0, w0 = w.alloc (.cells #[.slice p n c, .slice q m d, .bool s] 25) := ⟨_, rfl⟩
  have g3 : Box3 w.heap.size (.slice p n c) (.slice q m d) (.bool s) w0 := by rw [hw0]; exact Box3.new _ _ _ _ _
  have hB0 : Below w.heap.size w w0 := by rw [hw0]; exact (Below.refl _ _).alloc (Nat.le_refl _) _
  have hh0 := hh.below hB0
  have hin0 := hin.below hB0
  replace hS := hS.below hB0
  replace hT := hT.below hB0
  obtain ⟨l3, x0, x1, x2, -, -, -⟩ := id g3
  have rM := fun W (hW : Below w0.heap.size w0 W) => lright_in (cc := cc) (mm := mm) (hh0.below hW) (hin0.below hW) hk
  cases hM : rightM h k y mm with
  | false =>
    rw [hM] at rM
    go_enter Tryd.func4, Tryd.ntmps4
    go_upto_region 1 with fail
    rw [← hw0]
    clear hw0
    go_wp2_with (first
    | (go_at_call 9; refine Calls.mono (awake11_any _ (hS.below (by go_grown)) (hT.below (by go_grown))) ?_; rintro e w' ⟨rfl, hb⟩; obtain ⟨hc, hf, hb, hz⟩ := bstep hb (w := w0) (by go_grown); try simp only [World.size_alloc, World.size_setCell, World.size_drew] at hc hf hz)
    | (go_at_call 15; refine Calls.mono (rM _ (by go_grown)) ?_; rintro e w' ⟨rfl, hb⟩; obtain ⟨hc, hf, hb, hz⟩ := bstep hb (w := w0) (by go_grown); try simp only [World.size_alloc, World.size_setCell, World.size_drew] at hc hf hz)
    )
    go_returns
    exact ⟨rfl, bjoin hb hB0⟩
  | true =>
    rw [hM] at rM
    obtain ⟨hF, hk10, hr, m0, m1⟩ := rightM_iff.1 hM
    obtain ⟨mn, rfl⟩ : ∃ mn : Nat, mm = mn := ⟨mm.toNat, by omega⟩
    have hF' : Hid (formB h = true) := hF
    have hr' : Hid (rightY h k y = true) := hr
    clear hM hF hr
    obtain ⟨cn, hcn⟩ : ∃ cn : Nat, cl % 4 = cn := ⟨(cl % 4).toNat, by omega⟩
    have hc4 : cn < 4 := by omega
    have w8 : IntKind.u8.wrap (cl % 4) = cl % 4 := by rw [IntKind.wrap_u8]; omega
    obtain ⟨pi, pb, hpv⟩ := pageV_is (pageY h k y mn cn)
    have hP := fun W (hW : Below w0.heap.size w0 W) => tpage_in (cc := cc) (mm := mn) (cl := cn) (hS.below hW) (hT.below hW) (hh0.below hW) hF'.out (hin0.below hW) (by omega) (by omega) hc4 hr'.out
    have hQ := fun W (hW : Below w0.heap.size w0 W) => rpage_in (cc := cc) (mm := mn) (cl := cn) (hh0.below hW) (hin0.below hW) (by omega) (by omega) hc4 hr'.out
    rw [hpv, ← hcn] at hP hQ
    go_enter Tryd.func4, Tryd.ntmps4
    go_upto_region 1 with fail
    rw [← hw0]
    clear hw0 hpv hcn hc4 m0 m1
    go_wp2_with (first
    | (go_at_call 9; refine Calls.mono (awake11_any _ (hS.below (by go_grown)) (hT.below (by go_grown))) ?_; rintro e w' ⟨rfl, hb⟩; obtain ⟨hc, hf, hb, hz⟩ := bstep hb (w := w0) (by go_grown); try simp only [World.size_alloc, World.size_setCell, World.size_drew] at hc hf hz)
    | (go_at_call 15; refine Calls.mono (rM _ (by go_grown)) ?_; rintro e w' ⟨rfl, hb⟩; obtain ⟨hc, hf, hb, hz⟩ := bstep hb (w := w0) (by go_grown); try simp only [World.size_alloc, World.size_setCell, World.size_drew] at hc hf hz)
    | (go_at_call 16; refine Calls.mono (hP _ (by go_grown)) ?_; rintro e w' ⟨rfl, hb⟩; obtain ⟨hc, hf, hb, hz⟩ := bstep hb (w := w0) (by go_grown); try simp only [World.size_alloc, World.size_setCell, World.size_drew] at hc hf hz)
    | (go_at_call 17; refine Calls.mono (hQ _ (by go_grown)) ?_; rintro e w' ⟨rfl, hb⟩; obtain ⟨hc, hf, hb, hz⟩ := bstep hb (w := w0) (by go_grown); try simp only [World.size_alloc, World.size_setCell, World.size_drew] at hc hf hz)
    )
    go_returns
    exact ⟨ret_bool (by simp), bjoin hb hB0⟩

namespace TakeFinds
/-- What the row lists. -/
def lists : List (String × DataW Unit) := [("flotsam/class.sizes", Rows.laid_flotsam_class_sizes), ("math/bits.deBruijn32tab", Rows.laid_math_bits_deBruijn32tab)]
set_option maxRecDepth 100000 in
theorem lifted (os : Os) (started : os.Started) (H : Type) (enc : TypeId × Value → H) :
    ReturnsInHanded {} Tryd.checked os 4 .any (fun w args => (Rows.takeFindsSpec.pre enc Tryd.prog Tryd.f4 Rows.takeFindsRow.domain false w args ∧ laidMetH Tryd.prog lists w) ∧ sizedMet enc Tryd.prog Tryd.f4 (OpenSpec.ofChange Rows.takeFindsSpec) false w args) (Rows.takeFindsSpec.post enc Tryd.prog Tryd.f4 false true false false) := by
  refine law_lifted_laid (C := Tryd.checked) seat_own started (by kernel_rfl) Tryd.func4 (by kernel_rfl) (of_decide_eq_true (by kernel_rfl)) rfl
    (fun ds hd => by have hd' : ds.length = 4 := hd; match ds, hd' with | [d0, d1, d2, d3], _ => rfl) rfl Tryd.underlying4
    (ChangeSpec.witness_shaped (enc := enc) (C := Tryd.checked) (os := os) (X := fun w _ => laidMetH Tryd.prog lists w) false (World.laidAll Tryd.prog os lists) #[.agg #[.slice none 0 0, .slice none 0 0, .bool false], .slice none 0 0, .int .i64 0, .int .u8 0] 8 (World.laidAll_os _ _ _)
      (World.shaped_of_ZipB (by kernel_rfl) (by kernel_rfl)) (by kernel_rfl) (by kernel_rfl) (by kernel_rfl)
      (by rw [MakeChecks.laidMetH_plain _ _ _ (by kernel_rfl)]; exact laidMet_laidAll _ (by kernel_rfl) (by kernel_rfl))) ?_
  intro W base args ds p hval hA hlt hL
  have hS : Sz W := sizes_of hL (by kernel_rfl) rfl
  have hT : Tab W := tab_of hL (by kernel_rfl) rfl
  rw [Tryd.params4] at hA hval
  obtain ⟨v0, v1, v2, v3, d0, d1, d2, d3, p0, p1, p2, p3, rfl, rfl, rfl, h0, h1, h2, h3⟩ := trodAll_four hA
  obtain ⟨x0, q0, c0, s0, e0, rfl, hh0⟩ := open_heap Tryd.underlying25 (by kernel_rfl) (by kernel_rfl) Tryd.underlying22 (by kernel_rfl) (by kernel_rfl) Tryd.underlying23 Tryd.underlying58 (by kernel_rfl) (by kernel_rfl) (by kernel_rfl) (by kernel_rfl) (by kernel_rfl) (by kernel_rfl) (hval 0 25 v0 rfl rfl) h0
  obtain ⟨q1, n1, cap1, z1, rfl, hn1, hz1, hq1⟩ := open_caches Tryd.underlying26 Tryd.underlying51 (by kernel_rfl) (by kernel_rfl) Tryd.underlying3 (hval 1 26 v1 rfl rfl) h1
  obtain ⟨a2, rfl, ha2⟩ := open_i64 Tryd.underlying3 (hval 2 3 v2 rfl rfl) h2
  obtain ⟨a3, rfl, ha3⟩ := open_u8 Tryd.underlying5 (hval 3 5 v3 rfl rfl) h3
  exact finds_walk a2 a3 W hh0.in hz1 hn1 hS hT ha3.1 ha3.2

theorem row_holds : Rows.TakeFindsSaid :=
  OpenClaim.holds_of_wide 4 Tryd.f4 rfl rfl rfl rfl rfl rfl rfl ⟨rfl, rfl, rfl, rfl, rfl⟩ rfl rfl rfl rfl rfl (by kernel_rfl) Tryd.func4 (by kernel_rfl)
    (of_decide_eq_true (by kernel_rfl)) (by unfold Func.isWrapper; first | (rw [if_pos (by decide +kernel)]; kernel_rfl) | (rw [if_neg (by decide +kernel)]; exact ⟨rfl, rfl⟩))
    (fun os started H enc _ => lifted os started H enc)
/-- The tied card. -/
theorem holds : Rows.TakeFindsCardSaid :=
  Claim7.holds_tied_plain_at .later [] [.data, .data] true (true, "90ecb932aa180f2768b6f7eeb0d14302187bc6bdcc666950daeb3c04fa096778") true row_holds (fun _ h => by cases h) (by kernel_rfl) (fun _ h => by cases h) takeFinds_row_tie rfl ⟨rfl, rfl⟩ (by kernel_rfl) rfl
    (fun f fn hf hfn => by
      obtain rfl : f = 4 := Option.some.inj ((show Tryd.prog.funcNamed "flotsam/flotsamlaw11.TakeFinds" = some 4 by kernel_rfl).symm.trans hf) |>.symm
      obtain rfl : fn = Tryd.f4 := (Option.some.inj (Tryd.func4.symm.trans hfn)).symm
      exact ⟨by kernel_rfl, fun j t ht => by
        rw [Tryd.params4] at ht
        have hm : t ∈ [25, 26, 3, 5] := by simpa using Array.mem_of_getElem? ht
        have hall : ([25, 26, 3, 5].all fun u => !Tryd.prog.wantsStandIn u) = true := by kernel_rfl
        exact (show Tryd.prog.wantsStandIn t = false by simpa using List.all_eq_true.1 hall t hm)⟩)
    (by kernel_rfl)
#print axioms holds
end TakeFinds
end Go.Proofs.YtneanbagdkeoiaaDoor
