/- BitsRise: of every mask the least number, taken out again and again, tells all its numbers, rising; put in again they make it. No condition; the library's table is tied to the program's text. -/
import Derived.Test.YtcipmmpkfpjmfaaDoorRows
import Derived.Test.YtcipmmpkfpjmfaaDoorCards
import Derived.Test.YtcipmmpkfpjmfaaDoorTie
import Derived.Test.YtcipmmpkfpjmfaaDoorTied
import Derived.Test.YtcipmmpkfpjmfaaDoorAwake03
import Derived.SevenTiedAt
namespace Go.Proofs.YtcipmmpkfpjmfaaDoor
set_option linter.unusedSimpArgs false
set_option linter.unusedVariables false
open Go.ChangeShapes Go.WideShapes Go.ChangeAt Go.RowKit Go.Joins

/-- The numbers of m from i on: what is left behind those below. -/
def restF (m i j : Int) : Bool := if j < i then false else hasB m j
def backF (m i j : Int) : Bool := if j < i then hasB m j else false

/-- k rounds have told the numbers below 'last + 1': the rest has those of m from there on, what was put back those below, and they are k. -/
def riseAt (m last rest back k : Int) : Prop := Mask rest ∧ Mask back ∧ (∀ j, hasB rest j = restF m (last + 1) j) ∧ (∀ j, hasB back j = backF m (last + 1) j) ∧ cntTo (hasB m) (last + 1).toNat = k ∧ -1 ≤ last ∧ last < 32

theorem cntTo_skip (f : Int → Bool) : ∀ (d a : Nat), (∀ i : Nat, a ≤ i → i < a + d → f i = false) → cntTo f (a + d) = cntTo f a
  | 0, a, _ => rfl
  | d + 1, a, h => by
    rw [show a + (d + 1) = (a + d) + 1 by omega]
    simp only [cntTo]
    rw [cntTo_skip f d a fun i h0 h1 => h i h0 (by omega), h (a + d) (by omega) (by omega)]
    simp

theorem rise_start (m : Int) (h : Mask m) : riseAt m (-1) m 0 0 := by
  refine ⟨h, ⟨by decide, by decide⟩, fun j => ?_, fun j => ?_, rfl, by omega, by omega⟩
  · unfold restF
    split
    · exact has_out (by omega)
    · rfl
  · unfold backF
    rw [has_zero]
    split
    · exact (has_out (by omega)).symm
    · rfl
theorem rise_next {m last rest back k : Int} (h : Mask m) (hr : riseAt m last rest back k) (h0 : rest ≠ 0) :
    last < leastW rest ∧ leastW rest ≤ 31 ∧ 0 ≤ leastW rest ∧ hasB m (leastW rest) = true ∧ riseAt m (leastW rest) (woutW rest (leastW rest)) (withW back (leastW rest)) (k + 1) := by
  obtain ⟨r0, b0, hrest, hback, hcnt, l0, l1⟩ := hr
  obtain ⟨n0, n1, hn, hno⟩ := least_spec r0 h0
  generalize leastW rest = n at n0 n1 hn hno
  have hn' := hn
  rw [hrest n] at hn'
  unfold restF at hn'
  have hln : last < n := by
    by_cases e : n < last + 1
    · rw [if_pos e] at hn'; cases hn'
    · omega
  rw [if_neg (by omega)] at hn'
  have hgap : ∀ j, last + 1 ≤ j → j < n → hasB m j = false := fun j a b => by
    have := hno j b
    rw [hrest j] at this
    unfold restF at this
    rwa [if_neg (by omega)] at this
  refine ⟨hln, by omega, n0, hn', mask_wout _ _, mask_with b0, fun j => ?_, fun j => ?_, ?_, by omega, by omega⟩
  · rw [has_wout n j r0, hrest j, inB_yes n0 n1]
    unfold restF
    by_cases e : j = n
    · subst e
      rw [if_pos (show j < j + 1 by omega)]
      simp
    · simp only [e, decide_false, Bool.and_false, Bool.not_false, Bool.and_true]
      by_cases e1 : j < last + 1
      · rw [if_pos e1, if_pos (by omega)]
      · rw [if_neg e1]
        by_cases e2 : j < n + 1
        · rw [if_pos e2]; exact hgap j (by omega) (by omega)
        · rw [if_neg e2]
  · rw [has_with, hback j, inB_yes n0 n1]
    unfold backF
    by_cases e : j = n
    · subst e
      rw [if_pos (show j < j + 1 by omega)]
      simp [hn']
    · simp only [e, decide_false, Bool.and_false, Bool.or_false]
      by_cases e1 : j < last + 1
      · rw [if_pos e1, if_pos (by omega)]
      · rw [if_neg e1]
        by_cases e2 : j < n + 1
        · rw [if_pos e2]; exact (hgap j (by omega) (by omega)).symm
        · rw [if_neg e2]
  · rw [cntTo_next _ n0, hn']
    have := cntTo_skip (hasB m) (n - (last + 1)).toNat (last + 1).toNat fun i a b => hgap i (by omega) (by omega)
    rw [show (last + 1).toNat + (n - (last + 1)).toNat = n.toNat by omega] at this
    rw [this, hcnt]
    simp
theorem rise_end {m last back k : Int} (h : Mask m) (hr : riseAt m last 0 back k) : back = m ∧ k = countW m := by
  obtain ⟨r0, b0, hrest, hback, hcnt, l0, l1⟩ := hr
  have hno : ∀ j, last + 1 ≤ j → hasB m j = false := fun j a => by
    have := hrest j
    rw [has_zero] at this
    unfold restF at this
    rw [if_neg (by omega)] at this
    exact this.symm
  constructor
  · refine mask_ext b0 h fun i _ _ => ?_
    rw [hback i]
    unfold backF
    split
    · rfl
    · exact (hno i (by omega)).symm
  · have := cntTo_skip (hasB m) (32 - (last + 1)).toNat (last + 1).toNat fun i a b => hno i (by omega)
    rw [show (last + 1).toNat + (32 - (last + 1)).toNat = 32 by omega] at this
    rw [← hcnt, ← this]
    rfl
theorem rise_few {m last rest back k : Int} (hr : riseAt m last rest back k) : 0 ≤ k ∧ k ≤ last + 1 := by
  obtain ⟨-, -, -, -, hcnt, l0, -⟩ := hr
  have := cntTo_bound (hasB m) (last + 1).toNat
  omega

set_option maxHeartbeats 1000000 in
theorem rise_walk (m : Int) (w : World) (h : Mask m) (hT : Tab w) :
    Calls Tryd.prog 6 #[.int .u32 m] w fun e w' => e = .returned (.bool true) ∧ Below w.heap.size w w' := by
  go_enter Tryd.func6, Tryd.ntmps6
  go_wp2_with (first
    | (go_at_call 7; refine (awake_any _ hT).mono ?_; rintro e w' ⟨rfl, hb⟩; obtain ⟨hc, hf, hb, hz⟩ := bstep hb (w := w) (by go_grown); try simp only [World.size_alloc, World.size_setCell, World.size_drew] at hc hf hz)
    )
  obtain ⟨w0, hw0⟩ : ∃ w0, w0 = w' := ⟨_, rfl⟩
  rw [← hw0] at hb ⊢
  have hT0 : Tab w0 := hT.below hb
  have hbA := hb
  clear hc hf hz hw0 hb
  go_loopg [3, 4, 5, 6] 33 (fun g rv bv lv iv wr => ∃ last rest back k : Int, riseAt m last rest back k ∧ g = (32 - last).toNat ∧ rv = .int .u32 rest ∧ bv = .int .u32 back ∧ lv = .int .i64 last ∧ iv = .int .i64 k ∧ Below w0.heap.size w0 wr)
  case atStart => exact ⟨-1, m, 0, 0, rise_start m h, rfl, rfl, rfl, rfl, rfl, Below.refl _ _⟩
  case round =>
    obtain ⟨last, rest, back, k, hr, rfl, rfl, rfl, rfl, rfl, hbw⟩ := hrel
    obtain ⟨hc, hf, hb1, hz⟩ := bstep hbw (w := w0) (Below.refl _ _)
    have hfew := rise_few hr
    have hl1 := hr.2.2.2.2.2.2
    by_cases h0 : rest = 0
    · subst h0
      obtain ⟨rfl, rfl⟩ := rise_end h hr
      have e0 : leastB 0 = false := rfl
      clear hr
      go_wp2_with (first
    | (go_at_call 14; refine (least_any _ _ ⟨by decide, by decide⟩ ((hT0.below hb1).below (by go_grown))).mono ?_; rintro e w' ⟨rfl, hb⟩; obtain ⟨hc, hf, hb, hz⟩ := bstep hb (w := w0) (by go_grown); try simp only [World.size_alloc, World.size_setCell, World.size_drew] at hc hf hz)
    | (go_at_call 16; refine (count_any _ _ h).mono ?_; rintro e w' ⟨rfl, hb⟩; obtain ⟨hc, hf, hb, hz⟩ := bstep hb (w := w0) (by go_grown); try simp only [World.size_alloc, World.size_setCell, World.size_drew] at hc hf hz)
      )
      go_returns
      exact ⟨ret_bool (by simp), by go_grown; all_goals exact bjoin (by assumption) hbA⟩
    · have e0 : leastB rest = true := by simp [leastB, h0]
      obtain ⟨n1, n2, n3, n4, hr'⟩ := rise_next h hr h0
      have hm := hr.1
      have hm' := hr.2.1
      have hll : hasB m (leastW rest) = true := n4
      go_wp2_with (first
    | (go_at_call 14; refine (least_any _ _ hm ((hT0.below hb1).below (by go_grown))).mono ?_; rintro e w' ⟨rfl, hb⟩; obtain ⟨hc, hf, hb, hz⟩ := bstep hb (w := w0) (by go_grown); try simp only [World.size_alloc, World.size_setCell, World.size_drew] at hc hf hz)
    | (go_at_call 8; refine (has_any _ _ _ h).mono ?_; rintro e w' ⟨rfl, hb⟩; obtain ⟨hc, hf, hb, hz⟩ := bstep hb (w := w0) (by go_grown); try simp only [World.size_alloc, World.size_setCell, World.size_drew] at hc hf hz)
    | (go_at_call 12; refine (without_any _ _ _ hm).mono ?_; rintro e w' ⟨rfl, hb⟩; obtain ⟨hc, hf, hb, hz⟩ := bstep hb (w := w0) (by go_grown); try simp only [World.size_alloc, World.size_setCell, World.size_drew] at hc hf hz)
    | (go_at_call 10; refine (with_any _ _ _ hm').mono ?_; rintro e w' ⟨rfl, hb⟩; obtain ⟨hc, hf, hb, hz⟩ := bstep hb (w := w0) (by go_grown); try simp only [World.size_alloc, World.size_setCell, World.size_drew] at hc hf hz)
      )
      go_roundg (32 - leastW rest).toNat
      case measure => omega
      case rel => exact ⟨leastW rest, _, _, k + 1, hr', rfl, rfl, rfl, rfl, rfl, by go_grown⟩


namespace BitsRise
set_option maxRecDepth 100000 in
theorem lifted (os : Os) (started : os.Started) (H : Type) (enc : TypeId × Value → H) :
    ReturnsInHanded {} Tryd.checked os 6 .any (fun w args => (Rows.bitsRiseSpec.pre enc Tryd.prog Tryd.f6 Rows.bitsRiseRow.domain false w args ∧ laidMetH Tryd.prog lists w) ∧ sizedMet enc Tryd.prog Tryd.f6 (OpenSpec.ofChange Rows.bitsRiseSpec) false w args) (Rows.bitsRiseSpec.post enc Tryd.prog Tryd.f6 false true false false) := by
  refine law_lifted_laid (C := Tryd.checked) seat_own started (by kernel_rfl) Tryd.func6 (by kernel_rfl) (of_decide_eq_true (by kernel_rfl)) rfl
    (fun ds hd => by have hd' : ds.length = 1 := hd; match ds, hd' with | [d0], _ => rfl) rfl Tryd.underlying4
    (ChangeSpec.witness_shaped (enc := enc) (C := Tryd.checked) (os := os) (X := fun w _ => laidMetH Tryd.prog lists w) false (World.laidAll Tryd.prog os lists) #[.int .u32 0] 8 (World.laidAll_os _ _ _)
      (World.shaped_of_ZipB (by kernel_rfl) (by kernel_rfl)) (by kernel_rfl) (by kernel_rfl) (by kernel_rfl)
      (by rw [MakeChecks.laidMetH_plain _ _ _ (by kernel_rfl)]; exact laidMet_laidAll _ (by kernel_rfl) (by kernel_rfl))) ?_
  intro W base args ds p hval hA hlt hL
  have hT : Tab W := tab_of hL
  rw [Tryd.params6] at hA hval
  obtain ⟨v0, d0, rfl, rfl, h0⟩ := trodAll_one hA
  obtain ⟨a0, rfl, ha0⟩ := open_u32 Tryd.underlying22 (hval 0 22 v0 rfl rfl) h0
  exact rise_walk a0 W ha0 hT

theorem row_holds : Rows.BitsRiseSaid :=
  OpenClaim.holds_of_wide 6 Tryd.f6 rfl rfl rfl rfl rfl rfl rfl ⟨rfl, rfl, rfl, rfl, rfl⟩ rfl rfl rfl rfl rfl (by kernel_rfl) Tryd.func6 (by kernel_rfl)
    (of_decide_eq_true (by kernel_rfl)) (by unfold Func.isWrapper; first | (rw [if_pos (by decide +kernel)]; kernel_rfl) | (rw [if_neg (by decide +kernel)]; exact ⟨rfl, rfl⟩))
    (fun os started H enc _ => lifted os started H enc)
/-- The tied card. -/
theorem holds : Rows.BitsRiseCardSaid :=
  Claim7.holds_tied_plain_at .later [] [.data] true (true, "d9148e9f82c587394272f2ea1a3d02d964fa50b9d87af87730fc55b11599172e") false row_holds (fun _ h => by cases h) (by kernel_rfl) (fun _ h => by cases h) bitsRise_row_tie rfl ⟨rfl, rfl⟩ (by kernel_rfl) rfl
    (fun f fn hf hfn => by
      obtain rfl : f = 6 := Option.some.inj ((show Tryd.prog.funcNamed "flotsam/flotsamlaw03.BitsRise" = some 6 by kernel_rfl).symm.trans hf) |>.symm
      obtain rfl : fn = Tryd.f6 := (Option.some.inj (Tryd.func6.symm.trans hfn)).symm
      exact ⟨by kernel_rfl, fun j t ht => by
        rw [Tryd.params6] at ht
        have hm : t ∈ [22] := by simpa using Array.mem_of_getElem? ht
        have hall : ([22].all fun u => !Tryd.prog.wantsStandIn u) = true := by kernel_rfl
        exact (show Tryd.prog.wantsStandIn t = false by simpa using List.all_eq_true.1 hall t hm)⟩)
    (by kernel_rfl)
#print axioms holds
end BitsRise
end Go.Proofs.YtcipmmpkfpjmfaaDoor
