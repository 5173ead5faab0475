/- ObjectLists: of every heap that has its form, object.List answers addresses that rise; at each there is an object, and at no other one; each refers to as many addresses as it has fields, at most. No condition; the table that the code reads is tied to the program's text. -/
import Derived.Test.YtkjbefaaejlknaaDoorRows
import Derived.Test.YtkjbefaaejlknaaDoorCards
import Derived.Test.YtkjbefaaejlknaaDoorTie
import Derived.Test.YtkjbefaaejlknaaDoorAwake08
import Derived.Test.YtkjbefaaejlknaaDoorObjRead
import Derived.SevenTiedAt
namespace Go.Proofs.YtkjbefaaejlknaaDoor
set_option linter.unusedSimpArgs false
set_option linter.unusedVariables false
open Go.ChangeShapes Go.WideShapes Go.ChangeAt Go.RowKit Go.Joins

theorem list_facts {h : Hp} (hF : formB h = true) (a : Int) : ∃ (M : Nat) (z : Nat → Int), (obL h h.n).length = M ∧ (fun i => (obL h h.n)[i]?.getD 0) = z ∧ M ≤ 512 ∧ (∀ t : Nat, t < M → obB h (z t) = true) ∧ (∀ t : Nat, 0 < t → t < M → z (t - 1) < z t) ∧ inZ M z a = obB h a := by
  have hl := obL_len h h.n
  have hn : h.n ≤ 512 := by have := form_iff.1 hF; omega
  have hz : ∀ t (ht : t < (obL h h.n).length), (obL h h.n)[t]?.getD 0 = (obL h h.n)[t] := fun t ht => by simp [ht]
  refine ⟨_, _, rfl, rfl, by omega, fun t ht => ?_, fun t t0 ht => ?_, ?_⟩
  · show obB h ((obL h h.n)[t]?.getD 0) = true
    rw [hz t ht]
    exact ((obL_mem h _ _).1 (List.getElem_mem ht)).2.2
  · show (obL h h.n)[t - 1]?.getD 0 < (obL h h.n)[t]?.getD 0
    rw [hz t ht, hz (t - 1) (by omega)]
    exact List.pairwise_iff_getElem.1 (obL_rise h h.n) (t - 1) t (by omega) ht (by omega)
  · rw [Bool.eq_iff_iff, inZ_iff]
    constructor
    · rintro ⟨t, ht, e⟩
      have e' : (obL h h.n)[t]?.getD 0 = a := e
      rw [hz t ht] at e'
      rw [← e']
      exact ((obL_mem h _ _).1 (List.getElem_mem ht)).2.2
    · intro e
      obtain ⟨-, -, a0, a1, -⟩ := ob_spec hF e
      obtain ⟨t, ht, e'⟩ := List.getElem_of_mem ((obL_mem h a h.n).2 ⟨a0, a1, e⟩)
      exact ⟨t, ht, by show (obL h h.n)[t]?.getD 0 = a; rw [hz t ht]; exact e'⟩
theorem rf_le {h : Hp} (hF : formB h = true) (a : Int) : ((rfH h a).length : Int) ≤ obN h a ∧ obN h a ≤ 15 := by
  unfold rfH
  have := rfL_len h a (obN h a).toNat
  have hb : 0 ≤ obN h a ∧ obN h a ≤ 15 := by
    cases ho : obB h a with
    | false => rw [(ob_no ho).2.2]; omega
    | true => have := gN_bound (X := woH h a); rw [(ob_spec hF ho).2.2.2.2.2.2.2.2.1]; exact this
  omega
set_option maxHeartbeats 32000000 in
set_option maxRecDepth 20000 in
theorem lists_walk {p : Option Addr} {c : Nat} {q : Option Addr} {d : Nat} {h : Hp} (a : Int) (w : World) (hat : HpAt w p c q d h) (hS : Sz w) :
    Calls Tryd.prog 4 #[.agg #[.slice p h.n c, .slice q h.m d, .bool h.b], .int .i64 a] w fun e w' => e = .returned (.bool true) ∧ Below w.heap.size w w' := by
  obtain ⟨w0, hw0⟩ : ∃ w0, w0 = w.alloc (.cells #[.slice p h.n c, .slice q h.m d, .bool h.b] 25) := ⟨_, rfl⟩
  have g3 : Box3 w.heap.size (.slice p h.n c) (.slice q h.m d) (.bool h.b) w0 := by rw [hw0]; exact Box3.new _ _ _ _ _
  have hB0 : Below w.heap.size w w0 := by rw [hw0]; exact (Below.refl _ _).alloc (Nat.le_refl _) _
  have hh := hat.in.below hB0
  replace hS := hS.below hB0
  obtain ⟨l3, x0, x1, x2, -, -, -⟩ := id g3
  cases hF : formB h with
  | false =>
    go_enter Tryd.func4, Tryd.ntmps4
    go_upto_region 1 with fail
    rw [← hw0]
    clear hw0
    go_wp2_with (first
    | (go_at_call 5; refine Calls.mono (awake8_any _ (hS.below (by go_grown))) ?_; rintro e w' ⟨rfl, hb⟩; obtain ⟨hc, hf, hb, hz⟩ := bstep hb (w := w0) (by go_grown); try simp only [World.size_alloc, World.size_setCell, World.size_drew] at hc hf hz)
    | (go_at_call 6; refine Calls.mono (rform_in (hh.below (by go_grown))) ?_; rintro e w' ⟨rfl, hb⟩; obtain ⟨hc, hf, hb, hz⟩ := bstep hb (w := w0) (by go_grown); try simp only [World.size_alloc, World.size_setCell, World.size_drew] at hc hf hz)
    )
    go_returns
    exact ⟨rfl, bjoin hb hB0⟩
  | true =>
    have hF' : Hid (formB h = true) := hF
    obtain ⟨M, z, eM, ez, hM, hob, hri, hin⟩ := list_facts hF a
    have hLi : ∀ W p c q d, Sz W → HpIn W p h.n c q h.m d h.b h → Calls Tryd.prog 12 #[.agg #[.slice p h.n c, .slice q h.m d, .bool h.b]] W fun e w' => ∃ pl cl, e = .returned (.slice pl M cl) ∧ Ints .i64 w' pl M z ∧ Below W.heap.size W w' := fun W p c q d s k => by
      refine Calls.mono (olist_in s k hF'.out) ?_
      rintro e w' ⟨pl, cl, rfl, hr, hb⟩
      have hi := hr.ints
      rw [eM, ez] at hi
      rw [eM]
      exact ⟨pl, cl, rfl, hi, hb⟩
    clear eM ez hat
    go_enter Tryd.func4, Tryd.ntmps4
    go_upto_region 1 with fail
    rw [← hw0]
    clear hw0
    go_upto_region 4 with (first
    | (go_at_call 5; refine Calls.mono (awake8_any _ (hS.below (by go_grown))) ?_; rintro e w' ⟨rfl, hb⟩; obtain ⟨hc, hf, hb, hz⟩ := bstep hb (w := w0) (by go_grown); try simp only [World.size_alloc, World.size_setCell, World.size_drew] at hc hf hz)
    | (go_at_call 6; refine Calls.mono (rform_in (hh.below (by go_grown))) ?_; rintro e w' ⟨rfl, hb⟩; obtain ⟨hc, hf, hb, hz⟩ := bstep hb (w := w0) (by go_grown); try simp only [World.size_alloc, World.size_setCell, World.size_drew] at hc hf hz)
    | (go_at_call 12; refine Calls.mono (hLi _ _ _ _ _ (hS.below (by go_grown)) (hh.below (by go_grown))) ?_; rintro e w' ⟨pl, cl, rfl, hI, hb⟩; obtain ⟨hc, hf, hb, hz⟩ := bstep hb (w := w0) (by go_grown); try simp only [World.size_alloc, World.size_setCell, World.size_drew] at hc hf hz)
    )
    have hbW := bjoin hb hB0
    replace hh := hh.below hb
    replace hS := hS.below hb
    replace g3 := g3.below hb
    clear hb hc hf hz x0 x1 x2 l3 hB0 hLi
    generalize w' = w4 at hbW hh hS g3 hI ⊢
    obtain ⟨l3, x0, x1, x2, -, -, -⟩ := id g3
    go_wp2
    go_loopg [6] M (fun gg iv wr => ∃ t : Int, 0 ≤ t ∧ t ≤ M ∧ gg = (M - t).toNat ∧ iv = .int .i64 t ∧ Below w4.heap.size w4 wr)
    case atStart => exact ⟨0, by omega, by omega, by omega, rfl, Below.refl _ _⟩
    case round =>
      obtain ⟨t, t0, t1, rfl, rfl, hbw⟩ := hrel
      by_cases hi : t < M
      · have hg3 := g3.below hbw
        have hSr := hS.below hbw
        have hhr := hh.below hbw
        have hbr := bjoin hbw hbW
        have ho := hob t.toNat (by omega)
        have hrf := rf_le hF'.out (z t.toNat)
        obtain ⟨⟨bl, off, rfl, hlt, v0⟩, -⟩ := (hI.below hbw) t.toNat (by omega)
        have hG : ∀ W, Sz W → HpIn W p h.n c q h.m d h.b h → Calls Tryd.prog 13 #[.agg #[.slice p h.n c, .slice q h.m d, .bool h.b], .int .i64 (z t.toNat)] W fun e w' => e = .returned (.tuple #[.agg #[.bool true, .bool (obC h (z t.toNat)), .int .i64 (obK h (z t.toNat)), .int .i64 (obN h (z t.toNat))], .bool true]) ∧ Below W.heap.size W w' := fun W s k => by
          have := oget_in (a := z t.toNat) s k hF'.out
          rw [ho] at this
          exact this
        have hR : ∀ W, Sz W → HpIn W p h.n c q h.m d h.b h → Calls Tryd.prog 14 #[.agg #[.slice p h.n c, .slice q h.m d, .bool h.b], .int .i64 (z t.toNat)] W fun e w' => ∃ pm cm, e = .returned (.slice pm (rfH h (z t.toNat)).length cm) ∧ Below W.heap.size W w' := fun W s k => by
          refine Calls.mono (orefs_in (a := z t.toNat) s k hF'.out) ?_
          rintro e w' ⟨pm, cm, rfl, -, hb⟩
          exact ⟨pm, cm, rfl, hb⟩
        generalize rfH h (z t.toNat) = R at *
        generalize obC h (z t.toNat) = C at *
        generalize obK h (z t.toNat) = K at *
        generalize obN h (z t.toNat) = N at *
        obtain ⟨l3', x0', x1', x2', -, -, -⟩ := id hg3
        have hG' := fun W' (hb : Below wr.heap.size wr W') => hG W' (hSr.below hb) (hhr.below hb)
        have d1 : decide (N < (R.length : Int)) = false := by simp; omega
        have hRl : R.length ≤ 15 := by omega
        clear hF hG hrf
        go_upto_region 7 with fail
        refine wp_got (s := 28) (r := 27) (d0 := 7) (d1 := 8) (hb := 2) (lb := 5) (ib := 6) (pos := "law.go:104") (by kernel_rfl) (by simp) (by decide) (by decide) (by decide) (by decide) (by decide) (by decide) (by decide) (by decide) (by decide) (by decide) (by decide) (by decide) (by decide) (by decide) (by decide) (by decide) (by decide) (by decide) hg3 t0 hi hM v0 hlt hG' rfl rfl rfl ?_
        intro y0 y1 y2 y3 y4 y5 y6 y7 y8 g w7 hg gX hb7
        simp only [puts, Act.put, Nat.reduceAdd, List.setIfInBounds_toArray, List.set_cons_succ, List.set_cons_zero]
        have hb9 := bjoin hb7 hbw
        have v0' : w7.cell? ⟨bl, off + t.toNat, none⟩ = some (.int .i64 (z t.toNat)) := (hb7.cell (p := ⟨bl, off + t.toNat, none⟩) hlt).trans v0
        have v1' : 0 < t → w7.cell? ⟨bl, off + (t.toNat - 1), none⟩ = some (.int .i64 (z (t.toNat - 1))) := fun h0 => by
          obtain ⟨⟨b', off', e, hlt', v1⟩, -⟩ := (hI.below hbw) (t.toNat - 1) (by omega)
          injection e with e
          injection e with e1 e2
          subst e1 e2
          exact (hb7.cell (p := ⟨bl, off + (t.toNat - 1), none⟩) hlt').trans v1
        have hri' : 0 < t → decide (z t.toNat ≤ z (t.toNat - 1)) = false := fun h0 => by have := hri t.toNat (by omega) (by omega); simp; omega
        have lbl : bl < w7.heap.size := Nat.lt_of_lt_of_le hlt hb7.size
        replace hg3 := hg3.below hb7
        replace hSr := hSr.below hb7
        replace hhr := hhr.below hb7
        have hbz : Below w.heap.size w w7 := bjoin hb9 hbW
        clear hlt hG' v0 x0' x1' x2' l3' hob hri hin hbr hb7 hg
        generalize z t.toNat = X1 at *
        generalize z (t.toNat - 1) = X0 at *
        go_upto_region 8 with fail
        have H := fun (A : Act) (Q : Exit → Act → World → Prop) (id : Nat) (e2 : A.tmps.getD 2 undef = .pointer (some ⟨w.heap.size, 0, none⟩)) (hA : 65 < A.tmps.size) => wp_rd (cl := cl) (id := id) (A := A) (Q := Q) (G := decide (0 < t)) (by kernel_rfl) hA hg3 t0 hi hM rfl v0' (fun e => v1' (of_decide_eq_true e)) lbl (fun e => hri' (of_decide_eq_true e)) gX.c3 gX.lt d1 hRl (fun W' hb => hR W' (hSr.below hb) (hhr.below hb)) e2
        refine H _ _ _ ?_ ?_ ?_ ?_ ?_ ?_ ?_
        case refine_1 => rfl
        case refine_2 => simp
        case refine_3 => rfl
        case refine_4 => rfl
        case refine_5 => rfl
        case refine_6 => rfl
        clear H
        intro r0 r1 r2 r3 r4 r5 r6 r7 r8 r9 r10 r11 r12 r13 r14 r15 r16 r17 r18 r19 r20 r21 r22 r23 r24 r25 r26 r27 r28 w8 hb8
        simp only [puts, Act.put, Nat.reduceAdd, List.setIfInBounds_toArray, List.set_cons_succ, List.set_cons_zero]
        have hbY := bjoin hb8 hb9
        clear hg3 gX v0' v1' hri' hSr hhr hR hb8 hb9 hbz d1 lbl
        go_wp2
        go_roundg ((M : Int) - (t + 1)).toNat
        case measure => omega
        case rel => exact ⟨t + 1, by omega, by omega, rfl, rfl, hbY⟩
      · obtain rfl : t = (M : Int) := by omega
        have hg3 := g3.below hbw
        have hSr := hS.below hbw
        have hhr := hh.below hbw
        have hbr := bjoin hbw hbW
        have hIr := hI.below hbw
        have hMl : M ≤ maxLen := by simp only [maxLen]; omega
        obtain ⟨l3', x0', x1', x2', -, -, -⟩ := id hg3
        clear hF hob hri
        go_wp2_with (first
    | (go_at_call 13; refine Calls.mono (oget_in (hSr.below (by go_grown)) (hhr.below (by go_grown)) hF'.out) ?_; rintro e w' ⟨rfl, hb⟩; obtain ⟨hc, hf, hb, hz⟩ := bstep hb (w := wr) (by go_grown); try simp only [World.size_alloc, World.size_setCell, World.size_drew] at hc hf hz)
    | (go_at_call 15; refine Calls.mono (rin8_any _ _ _ _ _ _ (hIr.below (by go_grown)) hMl) ?_; rintro e w' ⟨rfl, hb⟩; obtain ⟨hc, hf, hb, hz⟩ := bstep hb (w := wr) (by go_grown); try simp only [World.size_alloc, World.size_setCell, World.size_drew] at hc hf hz)
        )
        go_returns
        exact ⟨ret_bool (by simp [hin]), bjoin hb hbr⟩

namespace ObjectLists
/-- What the row lists. -/
def lists : List (String × DataW Unit) := [("flotsam/class.sizes", Rows.laid_flotsam_class_sizes)]
set_option maxRecDepth 100000 in
theorem lifted (os : Os) (started : os.Started) (H : Type) (enc : TypeId × Value → H) :
    ReturnsInHanded {} Tryd.checked os 4 .any (fun w args => (Rows.objectListsSpec.pre enc Tryd.prog Tryd.f4 Rows.objectListsRow.domain false w args ∧ laidMetH Tryd.prog lists w) ∧ sizedMet enc Tryd.prog Tryd.f4 (OpenSpec.ofChange Rows.objectListsSpec) false w args) (Rows.objectListsSpec.post enc Tryd.prog Tryd.f4 false true false false) := by
  refine law_lifted_laid (C := Tryd.checked) seat_own started (by kernel_rfl) Tryd.func4 (by kernel_rfl) (of_decide_eq_true (by kernel_rfl)) rfl
    (fun ds hd => by have hd' : ds.length = 2 := hd; match ds, hd' with | [d0, d1], _ => rfl) rfl Tryd.underlying4
    (ChangeSpec.witness_shaped (enc := enc) (C := Tryd.checked) (os := os) (X := fun w _ => laidMetH Tryd.prog lists w) false (World.laidAll Tryd.prog os lists) #[.agg #[.slice none 0 0, .slice none 0 0, .bool false], .int .i64 0] 8 (World.laidAll_os _ _ _)
      (World.shaped_of_ZipB (by kernel_rfl) (by kernel_rfl)) (by kernel_rfl) (by kernel_rfl) (by kernel_rfl)
      (by rw [MakeChecks.laidMetH_plain _ _ _ (by kernel_rfl)]; exact laidMet_laidAll _ (by kernel_rfl) (by kernel_rfl))) ?_
  intro W base args ds p hval hA hlt hL
  have hS : Sz W := sizes_of hL (by kernel_rfl) rfl
  rw [Tryd.params4] at hA hval
  obtain ⟨v0, v1, d0, d1, p0, p1, rfl, rfl, rfl, h0, h1⟩ := trodAll_two hA
  obtain ⟨x0, q0, c0, s0, e0, rfl, hh0⟩ := open_heap Tryd.underlying25 (by kernel_rfl) (by kernel_rfl) Tryd.underlying22 (by kernel_rfl) (by kernel_rfl) Tryd.underlying23 Tryd.underlying39 (by kernel_rfl) (by kernel_rfl) (by kernel_rfl) (by kernel_rfl) (by kernel_rfl) (by kernel_rfl) (hval 0 25 v0 rfl rfl) h0
  obtain ⟨a1, rfl, ha1⟩ := open_i64 Tryd.underlying3 (hval 1 3 v1 rfl rfl) h1
  exact lists_walk a1 W hh0 hS

theorem row_holds : Rows.ObjectListsSaid :=
  OpenClaim.holds_of_wide 4 Tryd.f4 rfl rfl rfl rfl rfl rfl rfl ⟨rfl, rfl, rfl, rfl, rfl⟩ rfl rfl rfl rfl rfl (by kernel_rfl) Tryd.func4 (by kernel_rfl)
    (of_decide_eq_true (by kernel_rfl)) (by unfold Func.isWrapper; first | (rw [if_pos (by decide +kernel)]; kernel_rfl) | (rw [if_neg (by decide +kernel)]; exact ⟨rfl, rfl⟩))
    (fun os started H enc _ => lifted os started H enc)
/-- The tied card. -/
theorem holds : Rows.ObjectListsCardSaid :=
  Claim7.holds_tied_plain_at .later [] [.data] true (true, "823ae93ce94718880ec8de15e427cf71d573217c2b1f3b552164061b4a176e2d") false row_holds (fun _ h => by cases h) (by kernel_rfl) (fun _ h => by cases h) objectLists_row_tie rfl ⟨rfl, rfl⟩ (by kernel_rfl) rfl
    (fun f fn hf hfn => by
      obtain rfl : f = 4 := Option.some.inj ((show Tryd.prog.funcNamed "flotsam/flotsamlaw08.ObjectLists" = some 4 by kernel_rfl).symm.trans hf) |>.symm
      obtain rfl : fn = Tryd.f4 := (Option.some.inj (Tryd.func4.symm.trans hfn)).symm
      exact ⟨by kernel_rfl, fun j t ht => by
        rw [Tryd.params4] at ht
        have hm : t ∈ [25, 3] := by simpa using Array.mem_of_getElem? ht
        have hall : ([25, 3].all fun u => !Tryd.prog.wantsStandIn u) = true := by kernel_rfl
        exact (show Tryd.prog.wantsStandIn t = false by simpa using List.all_eq_true.1 hall t hm)⟩)
    (by kernel_rfl)
#print axioms holds
end ObjectLists
end Go.Proofs.YtkjbefaaejlknaaDoor
