/- CycleKeeps: what is handed in stays, as the marker and the sweeper have turns and a report is told. No condition; the table that the code reads is tied to the program's text. -/
import Derived.Test.YtkehankfnkjnlaaGreatDoorV47
import Derived.Test.YtkehankfnkjnlaaGreatDoorCards
import Derived.Test.YtkehankfnkjnlaaGreatDoorTie
import Derived.SevenTiedAt
namespace Go.Proofs.YtkehankfnkjnlaaGreatDoor
set_option linter.unusedSimpArgs false
set_option linter.unusedVariables false
set_option maxHeartbeats 16000000
set_option maxRecDepth 20000
open Go.ChangeAt Go.ChangeShapes Go.Joins Go.RowKit Go.WideShapes
variable {h : Hp} {w w' W W' : World} {p q : Option Addr} {n g : Nat} {a : Int} {v : Value}
theorem zki (Z : Wd) (q : Wp) (w : World) (hv : WdIn w Z q) (hS : Sz w) :
  Calls Tryz.prog 5 #[.agg (Z.cells q).toArray] w fun e w' => e = .returned (.bool true) ∧ Below w.heap.size w w' := by
 obtain ⟨w0, hw0⟩ : ∃ w0, w0 = w.alloc (.cells (Z.cells q).toArray 38) := ⟨_, rfl⟩
 have gW : TBox 38 w.heap.size (Z.cells q).toArray w0 := by rw [hw0]; exact TBox.new _ _ _
 have hst : Below w.heap.size w w0 := by rw [hw0]; exact zr.alloc (Nat.le_refl _) _
 have hAw := fun W (hW : Below w.heap.size w W) => zer W (hS.below hW)
 have hFi := fun W (hW : Below w.heap.size w W) => ze1 Z q W (hv.below hW)
 by_cases hgo : fewW Z = true ∧ FormW Z
 case pos =>
  obtain ⟨hfew, F⟩ := hgo
  rw [hfew, zby.2 F] at hFi
  have hCo := fun W (hW : Below w.heap.size w W) => zi1 Z q W (hv.below hW) F.hF hfew
  have hB : BdW Z := by
   obtain ⟨-, -, -, h5, h6⟩ := zhj hfew
   have := (zex h5).2.2.2
   exact ⟨by omega, by omega⟩
  have hMk : ∀ (q' : Wp) (W : World), Below w.heap.size w W → WdIn W Z q' → _ := fun q' W hW h => zgh Z q' W (hS.below hW) h F hB
  have hSw : ∀ (q' : Wp) (W : World), Below w.heap.size w W → WdIn W Z q' → _ := fun q' W hW h => zfe Z q' W (hS.below hW) h F hB
  have hTe : ∀ (q' : Wp) (W : World), Below w.heap.size w W → WdIn W Z q' → _ := fun q' W hW h => zkr Z q' W (hS.below hW) h F
  generalize tuM Z = TU at *
  generalize suM Z = SU at *
  generalize teW Z = TE at *
  go_enter Tryz.func5, Tryz.ntmps5
  go_upto_region 1 with fail
  rw [← hw0]
  clear hw0
  go_upto_region 3 with (first
  | (with_reducible refine zbx (gW.below hb) (by simp [Region.wanted, yielded, Act.put]; done) (by with_unfolding_all rfl) ?_)
  | (go_at_call 7; refine zm (hAw _ (bjoin (by go_grown) hst)) ?_; rintro e w' ⟨rfl, hb⟩; obtain ⟨hc, hf, hb, hz⟩ := bstep hb (w := w0) (by go_grown); try simp only [za, zb, zd] at hc hf hz)
  | (go_at_call 8; refine zm (hFi _ (bjoin (by go_grown) hst)) ?_; rintro e w' ⟨rfl, hb⟩; obtain ⟨hc, hf, hb, hz⟩ := bstep hb (w := w0) (by go_grown); try simp only [za, zb, zd] at hc hf hz)
  )
  have hbW := bjoin hb hst
  replace gW := gW.below hb
  have hv1 := hv.below hbW
  clear hb hc hf hz hAw hFi hst
  try clear hc hf hz
  generalize w' = wA at *
  go_upto_region 4 with (first
  | (with_reducible refine ld_w gW (by with_unfolding_all rfl) ?_)
  | (with_reducible refine nw_w (v := Z) (q := qa) (by intro p; with_unfolding_all rfl) (by intro p; with_unfolding_all rfl) ?_; intro wB gA hbB)
  | (go_at_call 17; refine zm (hCo _ hbW) ?_; rintro e w1 ⟨qa, rfl, hvA, hb1⟩)
  )
  have hb2 := bjoin hbB hb1
  replace hvA := hvA.below hbB
  replace gW := gW.below hb2
  replace hv1 := hv1.below hb2
  replace hbW := bjoin hb2 hbW
  clear hCo hbB hb1 hb2
  generalize w1.heap.size = NA at *
  go_upto_region 5 with (first
  | (with_reducible refine ld_w gA (by with_unfolding_all rfl) ?_)
  | (go_at_call 11; refine zm (hMk _ _ hbW hvA) ?_; rintro e w2 ⟨qb, rfl, -, hb2⟩)
  )
  replace gA := gA.below hb2
  replace hvA := hvA.below hb2
  replace gW := gW.below hb2
  replace hv1 := hv1.below hb2
  replace hbW := bjoin hb2 hbW
  clear hMk hb2
  go_upto_region 6 with (first
  | (with_reducible refine ld_w gA (by with_unfolding_all rfl) ?_)
  | (go_at_call 16; refine zm (hSw _ _ hbW hvA) ?_; rintro e w3 ⟨qc, rfl, -, hb3⟩)
  )
  replace gA := gA.below hb3
  replace hvA := hvA.below hb3
  replace gW := gW.below hb3
  replace hv1 := hv1.below hb3
  replace hbW := bjoin hb3 hbW
  clear hSw hb3
  go_upto_region 7 with (first
  | (with_reducible refine ld_w gA (by with_unfolding_all rfl) ?_)
  | (go_at_call 14; refine zm (hTe _ _ hbW hvA) ?_; rintro e w4 ⟨rfl, hb4⟩)
  )
  replace gA := gA.below hb4
  replace hvA := hvA.below hb4
  replace gW := gW.below hb4
  replace hv1 := hv1.below hb4
  replace hbW := bjoin hb4 hbW
  clear hTe hb4
  go_wp2_with (first
  | (with_reducible refine ld_w gA (by with_unfolding_all rfl) ?_)
  | (with_reducible refine ld_w gW (by with_unfolding_all rfl) ?_)
  | (go_at_call 18; refine zm (zdt Z qa q _ hvA hv1) ?_; rintro e w5 ⟨rfl, hb5⟩)
  )
  go_returns
  exact ⟨rfl, bjoin hb5 hbW⟩
 case neg =>
  have hF : (fewW Z && fmW Z) = false := by
   by_cases h1 : (fewW Z && fmW Z) = true
   ·rw [Bool.and_eq_true] at h1
    exact absurd ⟨h1.1, zby.1 h1.2⟩ hgo
   ·simpa using h1
  rw [hF] at hFi
  clear hgo hF
  go_enter Tryz.func5, Tryz.ntmps5
  go_upto_region 1 with fail
  rw [← hw0]
  clear hw0
  go_wp2_with (first
  | (with_reducible refine zbx (gW.below hb) (by simp [Region.wanted, yielded, Act.put]; done) (by with_unfolding_all rfl) ?_)
  | (go_at_call 7; refine zm (hAw _ (bjoin (by go_grown) hst)) ?_; rintro e w' ⟨rfl, hb⟩; obtain ⟨hc, hf, hb, hz⟩ := bstep hb (w := w0) (by go_grown); try simp only [za, zb, zd] at hc hf hz)
  | (go_at_call 8; refine zm (hFi _ (bjoin (by go_grown) hst)) ?_; rintro e w' ⟨rfl, hb⟩; obtain ⟨hc, hf, hb, hz⟩ := bstep hb (w := w0) (by go_grown); try simp only [za, zb, zd] at hc hf hz)
  )
  go_returns
  exact ⟨rfl, bjoin (by go_grown) hst⟩
namespace CycleKeeps
def lists : List (String × DataW Unit) := [("flotsam/class.sizes", Rows.laid_flotsam_class_sizes)]
set_option maxRecDepth 100000 in
theorem lifted (os : Os) (started : os.Started) (H : Type) (enc : TypeId × Value → H) :
  ReturnsInHanded {} Tryz.checked os 5 .any (fun w args => (Rows.cycleKeepsSpec.pre enc Tryz.prog Tryz.f5 Rows.cycleKeepsRow.domain false w args ∧ laidMetH Tryz.prog lists w) ∧ sizedMet enc Tryz.prog Tryz.f5 (OpenSpec.ofChange Rows.cycleKeepsSpec) false w args) (Rows.cycleKeepsSpec.post enc Tryz.prog Tryz.f5 false true false false) := by
 refine zcn (C := Tryz.checked) zjf started (by kernel_rfl) Tryz.func5 (by kernel_rfl) (of_decide_eq_true (by kernel_rfl)) rfl
  (fun ds hd => by have hd' : ds.length = 1 := hd; match ds, hd' with | [d0], _ => rfl) rfl Tryz.underlying4
  (ChangeSpec.witness_shaped (enc := enc) (C := Tryz.checked) (os := os) (X := fun w _ => laidMetH Tryz.prog lists w) false (World.laidAll Tryz.prog os lists) #[.agg #[.int .i64 0, .int .i64 0, .int .i64 0, .int .i64 0, .int .i64 0, .slice none 0 0, .slice none 0 0, .bool false, .slice none 0 0, .int .i64 0, .slice none 0 0, .slice none 0 0, .slice none 0 0, .int .i64 0, .int .i64 0, .int .i64 0, .bool false, .int .i64 0, .bool false, .int .i64 0, .slice none 0 0]] 8 (World.laidAll_os _ _ _)
   (World.shaped_of_ZipB (by kernel_rfl) (by kernel_rfl)) (by kernel_rfl) (by kernel_rfl) (by kernel_rfl)
   (by rw [MakeChecks.laidMetH_plain _ _ _ (by kernel_rfl)]; exact laidMet_laidAll _ (by kernel_rfl) (by kernel_rfl))) ?_
 intro W base args ds p hval hA hlt hL
 have hS : Sz W := zim hL (by kernel_rfl) rfl
 rw [Tryz.params5] at hA hval
 obtain ⟨v0, d0, rfl, rfl, h0⟩ := trodAll_one hA
 obtain ⟨W0, Q0, rfl, hW0⟩ := zfs (hval 0 38 v0 rfl rfl) h0
 exact zki W0 Q0 W hW0 hS
theorem zdq : Rows.CycleKeepsSaid :=
 OpenClaim.holds_of_wide 5 Tryz.f5 rfl rfl rfl rfl rfl rfl rfl ⟨rfl, rfl, rfl, rfl, rfl⟩ rfl rfl rfl rfl rfl (by kernel_rfl) Tryz.func5 (by kernel_rfl)
  (of_decide_eq_true (by kernel_rfl)) (by unfold Func.isWrapper; first | (rw [if_pos (by decide +kernel)]; kernel_rfl) | (rw [if_neg (by decide +kernel)]; exact ⟨rfl, rfl⟩))
  (fun os started H enc _ => lifted os started H enc)
theorem holds : Rows.CycleKeepsCardSaid :=
 Claim7.holds_tied_plain_at .later [] [.data] true (true, "77e10e6948e1cb6b76057977a1652a8dc83c1e52771500d7a90269e55426328f") false zdq (fun _ h => by cases h) (by kernel_rfl) (fun _ h => by cases h) cycleKeeps_row_tie rfl ⟨rfl, rfl⟩ (by kernel_rfl) rfl
  (fun f fn hf hfn => by
   obtain rfl : f = 5 := Option.some.inj ((show Tryz.prog.funcNamed "flotsam/flotsamlaw20.CycleKeeps" = some 5 by kernel_rfl).symm.trans hf) |>.symm
   obtain rfl : fn = Tryz.f5 := (Option.some.inj (Tryz.func5.symm.trans hfn)).symm
   exact ⟨by kernel_rfl, fun j t ht => by
    rw [Tryz.params5] at ht
    have hm : t ∈ [38] := by simpa using Array.mem_of_getElem? ht
    have hall : ([38].all fun u => !Tryz.prog.wantsStandIn u) = true := by kernel_rfl
    exact (show Tryz.prog.wantsStandIn t = false by simpa using List.all_eq_true.1 hall t hm)⟩)
  (by kernel_rfl)
#print axioms holds
end CycleKeeps
end Go.Proofs.YtkehankfnkjnlaaGreatDoor
