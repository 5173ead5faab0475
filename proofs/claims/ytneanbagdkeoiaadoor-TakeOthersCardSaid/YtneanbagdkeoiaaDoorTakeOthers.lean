/- TakeOthers: of every heap that has its form, right caches (of at most ten mutators), a mutator of them and a number of fields, take.Take leaves the other mutators' caches and all words but the new object's as they were, counts what it took, and where it finds no room it finds none the next time either. No condition; the tables that the code reads are tied to the program's text. -/
import Derived.Test.YtneanbagdkeoiaaDoorRows
import Derived.Test.YtneanbagdkeoiaaDoorCards
import Derived.Test.YtneanbagdkeoiaaDoorTie
import Derived.Test.YtneanbagdkeoiaaDoorTiedBits
import Derived.Test.YtneanbagdkeoiaaDoorAwake11
import Derived.Test.YtneanbagdkeoiaaDoorTakeGot
import Derived.SevenTiedAt
namespace Go.Proofs.YtneanbagdkeoiaaDoor
set_option linter.unusedSimpArgs false
set_option linter.unusedVariables false
open Go.ChangeShapes Go.WideShapes Go.ChangeAt Go.RowKit Go.Joins

set_option maxHeartbeats 32000000 in
set_option maxRecDepth 20000 in
theorem others_walk {p : Option Addr} {c : Nat} {q : Option Addr} {d : Nat} {h : Hp} {pc : Option Addr} {k cc : Nat} {y : Nat → Int} (mm f : Int) (w : World) (hat : HpAt w p c q d h) (hin : Ints .i64 w pc (k * 4) y) (hk : k ≤ maxLen) (hpc : pc = none → k = 0 ∧ cc = 0) (hS : Sz w) (hT : Tab w) :
    Calls Tryd.prog 8 #[.agg #[.slice p h.n c, .slice q h.m d, .bool h.b], .slice pc k cc, .int .i64 mm, .int .i64 f] w fun e w' => e = .returned (.bool true) ∧ Below w.heap.size w w' := by
  obtain ⟨w0, hw0⟩ : ∃ w0, w0 = w.alloc (.cells #[.slice p h.n c, .slice q h.m d, .bool h.b] 25) := ⟨_, rfl⟩
  have g3 : Box3 w.heap.size (.slice p h.n c) (.slice q h.m d) (.bool h.b) w0 := by rw [hw0]; exact Box3.new _ _ _ _ _
  have hB0 : Below w.heap.size w w0 := by rw [hw0]; exact (Below.refl _ _).alloc (Nat.le_refl _) _
  have hh0 := hat.in.below hB0
  have hin0 := hin.below hB0
  replace hS := hS.below hB0
  replace hT := hT.below hB0
  obtain ⟨l3, x0, x1, x2, -, -, -⟩ := id g3
  have rM := fun W (hW : Below w0.heap.size w0 W) => lright_in (cc := cc) (mm := mm) (hh0.below hW) (hin0.below hW) hk
  cases hM : rightM h k y mm with
  | false =>
    rw [hM] at rM
    go_enter Tryd.func8, Tryd.ntmps8
    go_upto_region 1 with fail
    rw [← hw0]
    clear hw0
    go_wp2_with (first
    | (go_at_call 9; refine Calls.mono (awake11_any _ (hS.below (by go_grown)) (hT.below (by go_grown))) ?_; rintro e w' ⟨rfl, hb⟩; obtain ⟨hc, hf, hb, hz⟩ := bstep hb (w := w0) (by go_grown); try simp only [World.size_alloc, World.size_setCell, World.size_drew] at hc hf hz)
    | (go_at_call 15; refine Calls.mono (rM _ (by go_grown)) ?_; rintro e w' ⟨rfl, hb⟩; obtain ⟨hc, hf, hb, hz⟩ := bstep hb (w := w0) (by go_grown); try simp only [World.size_alloc, World.size_setCell, World.size_drew] at hc hf hz)
    )
    go_returns
    exact ⟨rfl, bjoin hb hB0⟩
  | true =>
    rw [hM] at rM
    obtain ⟨hF, hk10, hr, m0, m1⟩ := rightM_iff.1 hM
    obtain ⟨mn, rfl⟩ : ∃ mn : Nat, mm = mn := ⟨mm.toNat, by omega⟩
    have hF' : Hid (formB h = true) := hF
    have hr' : Hid (rightY h k y = true) := hr
    have hmn : Hid (mn < k) := (by omega : mn < k)
    obtain ⟨bc, oc, rfl, lbc⟩ := hin.lower (by omega)
    have hwf : Hid h.wf := hat.wf
    clear hM hF hr m0 m1 hpc
    have hP := fun W (hW : Below w0.heap.size w0 W) => ttake_in (cc := cc) (mm := mn) (f := f) (hS.below hW) (hT.below hW) (hh0.below hW) hF'.out (hin0.below hW) (fun e => by cases e) (by omega) hmn.out hr'.out
    have hkey : ∀ J, J < k * 4 → ¬ takeY h k y mn f J = y J → (takeP h k y mn f).isSome = true ∧ J / 4 = mn ∧ takeY h k y mn f J = takeA h k y mn f / 32 ∧ 0 ≤ takeA h k y mn f ∧ takeA h k y mn f ≤ 512 := fun J hJ hne => by
      cases e : takeP h k y mn f with
      | none => exact absurd (congrFun (takeP_no e).2.2 J) hne
      | some g =>
        have hg := take_got hF'.out hwf.out hr'.out hmn.out e
        have ht := (takeP_yes e).2.2
        rw [ht] at hne ⊢
        have hsz := sz_bound (ofC f)
        have hin' := hg.inn
        have hn' := form_iff.1 hF'.out
        obtain ⟨c0, c1⟩ := ofC_at f
        by_cases hJ2 : J = mn * 4 + (ofC f).toNat
        · refine ⟨rfl, by omega, ?_, hg.at1, by omega⟩
          rw [hg.at2]
          exact if_pos hJ2
        · exact absurd (if_neg hJ2) hne
    generalize hA : takeA h k y mn f = A at *
    generalize hB : (takeP h k y mn f).isSome = B at *
    generalize hH : takeH h k y mn f = H at *
    generalize hY : takeY h k y mn f = Y at *
    go_enter Tryd.func8, Tryd.ntmps8
    go_upto_region 1 with fail
    rw [← hw0]
    clear hw0
    go_upto_region 4 with (first
    | (go_at_call 9; refine Calls.mono (awake11_any _ (hS.below (by go_grown)) (hT.below (by go_grown))) ?_; rintro e w' ⟨rfl, hb⟩; obtain ⟨hc, hf, hb, hz⟩ := bstep hb (w := w0) (by go_grown); try simp only [World.size_alloc, World.size_setCell, World.size_drew] at hc hf hz)
    | (go_at_call 15; refine Calls.mono (rM _ (by go_grown)) ?_; rintro e w' ⟨rfl, hb⟩; obtain ⟨hc, hf, hb, hz⟩ := bstep hb (w := w0) (by go_grown); try simp only [World.size_alloc, World.size_setCell, World.size_drew] at hc hf hz)
    | (go_at_call 18; refine Calls.mono (hP _ (by go_grown)) ?_; rintro e w' ⟨p1, c1, q1, d1, pc1, cc1, rfl, t1, hb⟩; obtain ⟨hc, hf, hb, hz⟩ := bstep hb (w := w0) (by go_grown); try simp only [World.size_alloc, World.size_setCell, World.size_drew] at hc hf hz)
    )
    obtain ⟨w4, hw4⟩ : ∃ W, W = w'.alloc (.cells #[.slice p1 h.n c1, .slice q1 h.m d1, .bool h.b] 25) := ⟨_, rfl⟩
    have hB4 : Below w'.heap.size w' w4 := by rw [hw4]; exact (Below.refl _ _).alloc (Nat.le_refl _) _
    have g9 : Box3 w'.heap.size (.slice p1 h.n c1) (.slice q1 h.m d1) (.bool h.b) w4 := by rw [hw4]; exact Box3.new _ _ _ _ _
    have hb4 := bjoin hB4 hb
    have hh1 := t1.heap.below hB4
    have hi1 := t1.caches.below hB4
    have hbW := bjoin hb4 hB0
    have hh4 := hh0.below hb4
    have hin4 := hin0.below hb4
    replace hS := hS.below hb4
    replace hT := hT.below hb4
    replace g3 := g3.below hb4
    rw [← hw4]
    clear hw4 hB4 hb hc hf hz x0 x1 x2 l3 t1 hb4 hB0 hP rM hh0 hin0 hat hin
    generalize w'.heap.size = B9 at *
    obtain ⟨b1, o1, rfl, lb1⟩ := hi1.lower (by have := hmn.out; omega)
    have hA' : Hid (takeA h k y mn f = A) := hA
    have hH' : Hid (takeH h k y mn f = H) := hH
    have hB' : Hid ((takeP h k y mn f).isSome = B) := hB
    have hY' : Hid (takeY h k y mn f = Y) := hY
    clear hA hH hB hY
    go_upto_region 7 with fail
    go_loopg [13, 14] k (fun gg iv jv wr => ∃ i : Nat, i ≤ k ∧ gg = k - i ∧ iv = .int .i64 i ∧ Below w4.heap.size w4 wr)
    case atStart => exact ⟨0, by omega, by omega, rfl, Below.refl _ _⟩
    case round =>
      obtain ⟨i, ih, rfl, rfl, hbw⟩ := hrel
      by_cases hi : i < k
      · go_upto_region 10 with fail
        go_loopg [14] 4 (fun gg jv wq => ∃ j : Nat, j ≤ 4 ∧ gg = 4 - j ∧ jv = .int .i64 j ∧ Below w4.heap.size w4 wq)
        case atStart => exact ⟨0, by omega, by omega, rfl, hbw⟩
        case round =>
          clear hbw
          obtain ⟨j, jh, rfl, rfl, hbw⟩ := hrel
          by_cases hj : j < 4
          · have v1 := caches_cell (hi1.below hbw) hi hj
            have v2 := caches_cell (hin4.below hbw) hi hj
            have hk3 := hkey (i * 4 + j) (by omega)
            generalize Y (i * 4 + j) = u at v1 hk3
            generalize y (i * 4 + j) = v at v2 hk3
            by_cases hu : u = v
            · subst hu
              have d0 : (u != u) = false := by simp
              clear hk3
              go_upto_region 12 with fail
              go_region
              all_goals
                go_wp2
                go_roundg (4 - (j + 1))
                case measure => omega
                case rel => exact ⟨j + 1, by omega, rfl, by go_num, hbw.trans ((Below.refl _ _).drew.mono hbw.size)⟩
            · have d0 : (u != v) = true := by simp [hu]
              obtain ⟨rfl, e2, e3, a0, a1⟩ := hk3 hu
              obtain rfl : i = mn := by omega
              subst e3
              clear hk3 hu e2
              have d1 : ((i : Int) != (i : Int)) = false := by simp
              have d2 : (A / 32 != A / 32) = false := by simp
              have d3 : IntKind.i64.wrap (A.tdiv 32) = A / 32 := by rw [Int.tdiv_eq_ediv_of_nonneg a0, IntKind.wrap_i64]; omega
              go_upto_region 12 with fail
              go_region
              all_goals
                go_wp2
                go_roundg (4 - (j + 1))
                case measure => omega
                case rel => exact ⟨j + 1, by omega, rfl, by go_num, hbw.trans ((Below.refl _ _).drew.mono hbw.size)⟩
          · go_wp2
            go_roundg (k - (i + 1))
            case measure => omega
            case rel => exact ⟨i + 1, by omega, rfl, by go_num, hbw⟩
      · obtain rfl : k = i := by omega
        have hh1b := hh1.below hbw
        have hi1b := hi1.below hbw
        have hh4b := hh4.below hbw
        have hSb := hS.below hbw
        have hTb := hT.below hbw
        have g3b := g3.below hbw
        have g9b := g9.below hbw
        have hbWb := bjoin hbw hbW
        clear hh1 hi1 hh4 hS hT g3 g9 hbW hbw hin4 ih hi
        go_upto_region 14 with fail
        generalize wr = w5 at *
        obtain ⟨l3, x0, x1, x2, -, -, -⟩ := id g3b
        obtain ⟨l9, z0, z1, z2, -, -, -⟩ := id g9b
        have hus : Hid (0 ≤ usH h ∧ usH h ≤ 512) := by
          have hF := hF'.out
          have h1 := usT_bound (s := h.s) (k := h.m) fun j hj => ⟨(form_iff.1 hF).2.2.2 j hj, hwf.out.2 j hj⟩
          have h2 := (form_iff.1 hF).2.1
          exact (show 0 ≤ usT h.s h.m ∧ usT h.s h.m ≤ 512 by omega)
        cases e : takeP h k y mn f with
        | none =>
          obtain ⟨e1, e2, e3⟩ := takeP_no e
          have eB := hB'.out
          have eH := hH'.out
          have eY := hY'.out
          rw [e1] at eH
          rw [e3] at eY
          rw [e] at eB
          obtain rfl : B = false := eB.symm
          subst eH eY
          have hs0 := sameH_self h
          have hP := fun W (hW : Below w5.heap.size w5 W) => ttake_in (cc := cc1) (mm := mn) (f := f) (hSb.below hW) (hTb.below hW) (hh1b.below hW) hF'.out (hi1b.below hW) (fun e => by cases e) (by omega) hmn.out hr'.out
          rw [e] at hP
          have hP' : ∀ W, Below w5.heap.size w5 W → Calls Tryd.prog 18 #[.agg #[.slice p1 h.n c1, .slice q1 h.m d1, .bool h.b], .slice (some ⟨b1, o1, none⟩) k cc1, .int .i64 mn, .int .i64 f] W fun e w' => ∃ p' c' q' d' pc' cc' A, e = .returned (.tuple #[.agg #[.slice p' h.n c', .slice q' h.m d', .bool h.b], .slice pc' k cc', .int .i64 A, .bool false]) ∧ Below W.heap.size W w' := fun W hW => Calls.mono (hP W hW) (by rintro e w' ⟨p', c', q', d', pc', cc', rfl, -, hb⟩; exact ⟨p', c', q', d', pc', cc', _, rfl, hb⟩)
          clear hP e e1 e2 e3 hkey eB
          generalize usH h = U at *
          go_upto_region 17 with (first
    | (go_at_call 24; refine Calls.mono (rused_in (hh4b.below (by go_grown)) hF'.out) ?_; rintro e w' ⟨rfl, hb⟩; obtain ⟨hc, hf, hb, hz⟩ := bstep hb (w := w5) (by go_grown); try simp only [World.size_alloc, World.size_setCell, World.size_drew] at hc hf hz)
    | (go_at_call 18; refine Calls.mono (hP' _ (by go_grown)) ?_; rintro e w' ⟨p2, c2, q2, d2, pc2, cc2, A2, rfl, hb⟩; obtain ⟨hc, hf, hb, hz⟩ := bstep hb (w := w5) (by go_grown); try simp only [World.size_alloc, World.size_setCell, World.size_drew] at hc hf hz)
          )
          have hh1c := hh1b.below hb
          have hh4c := hh4b.below hb
          have g3c := g3b.below hb
          have g9c := g9b.below hb
          have hbWc := bjoin hb hbWb
          clear hb hc hf hz x0 x1 x2 l3 z0 z1 z2 l9 hh1b hh4b g3b g9b hP' hSb hTb hbWb hi1b
          generalize w' = w6 at *
          obtain ⟨w7, hw7⟩ : ∃ W, W = w6.alloc (.cells #[.slice p2 h.n c2, .slice q2 h.m d2, .bool h.b] 25) := ⟨_, rfl⟩
          have hB7 : Below w6.heap.size w6 w7 := by rw [hw7]; exact (Below.refl _ _).alloc (Nat.le_refl _) _
          rw [← hw7]
          clear hw7
          replace hh1c := hh1c.below hB7
          replace hh4c := hh4c.below hB7
          replace g3c := g3c.below hB7
          replace g9c := g9c.below hB7
          replace hbWc := bjoin hB7 hbWc
          clear hB7
          generalize w6.heap.size = B16 at *
          obtain ⟨l3, x0, x1, x2, -, -, -⟩ := id g3c
          obtain ⟨l9, z0, z1, z2, -, -, -⟩ := id g9c
          have r1 := fun W (hW : Below w7.heap.size w7 W) => rsame_in (hh1c.below hW) (hh4c.below hW)
          rw [hs0] at r1
          go_wp2_with (first
    | (go_at_call 20; refine Calls.mono (r1 _ (by go_grown)) ?_; rintro e w' ⟨rfl, hb⟩; obtain ⟨hc, hf, hb, hz⟩ := bstep hb (w := w7) (by go_grown); try simp only [World.size_alloc, World.size_setCell, World.size_drew] at hc hf hz)
          )
          go_returns
          exact ⟨ret_bool (by simp), bjoin hb hbWc⟩
        | some g =>
          have hg := take_got hF'.out hwf.out hr'.out hmn.out e
          have eB := hB'.out
          rw [e] at eB
          obtain rfl : B = true := eB.symm
          have hsz := sz_bound (ofC f)
          have h2 : 2 ≤ szW (ofC f) := by
            obtain ⟨c0, c1⟩ := ofC_at f
            have := cl_cases (ofC f)
            omega
          have hFH : formB H = true := by rw [← hH'.out]; exact hg.form
          have husH : usH H = usH h + szW (ofC f) := by rw [← hH'.out]; exact hg.used
          have hzH : ∀ i : Nat, ¬ (takeA h k y mn f ≤ i ∧ (i : Int) < takeA h k y mn f + 16) → H.z i = h.z i := fun i hi => by
            rw [← hH'.out, hg.words]
            unfold putZ zerZ
            rw [if_neg (by omega), if_neg (by omega)]
          have hA0 := hg.at1
          have hA1 : takeA h k y mn f ≤ 512 := by
            have := hg.inn
            have := form_iff.1 hF'.out
            omega
          have hn512 : h.n ≤ 512 := by have := form_iff.1 hF'.out; omega
          rw [hA'.out] at hzH hA0 hA1
          have hFH' : Hid (formB H = true) := hFH
          have hus2 : Hid (usH H = usH h + szW (ofC f) ∧ 2 ≤ szW (ofC f) ∧ szW (ofC f) ≤ 16) := ⟨husH, h2, by omega⟩
          have hwH : ∀ i, i < h.n → (Lit.int .u64 (H.z i)).wf = true := fun i hi => hh1b.at'.wf.1 i (by have := hh1b.n_eq; omega)
          clear hg eB e hkey hsz h2 hFH husH hB' hY' hi1b hSb hTb
          go_upto_region 19 with (first
    | (go_at_call 24; refine Calls.mono (rused_in (hh4b.below (by go_grown)) hF'.out) ?_; rintro e w' ⟨rfl, hb⟩; obtain ⟨hc, hf, hb, hz⟩ := bstep hb (w := w5) (by go_grown); try simp only [World.size_alloc, World.size_setCell, World.size_drew] at hc hf hz)
          )
          replace hh1b := hh1b.below hb
          replace hh4b := hh4b.below hb
          replace g3b := g3b.below hb
          replace g9b := g9b.below hb
          replace hbWb := bjoin hb hbWb
          clear hb hc hf hz x0 x1 x2 l3 z0 z1 z2 l9
          generalize w' = w6 at *
          go_loopg [20] h.n (fun gg iv wr => ∃ i : Nat, i ≤ h.n ∧ gg = h.n - i ∧ iv = .int .i64 i ∧ Below w6.heap.size w6 wr)
          case atStart => exact ⟨0, by omega, by omega, rfl, Below.refl _ _⟩
          case round =>
            obtain ⟨i, ih, rfl, rfl, hbw⟩ := hrel
            obtain ⟨l3, x0, x1, x2, -, -, -⟩ := g3b.below hbw
            obtain ⟨l9, z0, z1, z2, -, -, -⟩ := g9b.below hbw
            by_cases hi : i < h.n
            · obtain ⟨gp, op, rfl, lp, vp⟩ := (hh4b.below hbw).word (by omega)
              obtain ⟨gq, oq, rfl, lq, vq⟩ := (hh1b.below hbw).word (by omega)
              have v1 := vp i (by omega) (by omega)
              have v2 := vq i (by omega) (by omega)
              rw [Int.toNat_natCast] at v1 v2
              have hz := hzH i
              clear vp vq
              generalize h.z i = u at v1 hz
              generalize H.z i = v at v2 hz
              by_cases hu : u = v
              · subst hu
                have d0 : (u != u) = false := by simp
                clear hz
                go_upto_region 21 with fail
                go_region
                all_goals
                  go_wp2
                  go_roundg (h.n - (i + 1))
                  case measure => omega
                  case rel => exact ⟨i + 1, by omega, rfl, by go_num, hbw.trans ((Below.refl _ _).drew.mono hbw.size)⟩
              · have d0 : (u != v) = true := by simp [hu]
                have hAi : A ≤ i ∧ (i : Int) < A + 16 := Decidable.of_not_not fun hn => hu (hz hn).symm
                have d1 : decide ((i : Int) < A) = false := by simp; omega
                have d2 : decide (A + 16 ≤ (i : Int)) = false := by simp; omega
                clear hz hu
                go_upto_region 21 with fail
                go_region
                all_goals
                  go_wp2
                  go_roundg (h.n - (i + 1))
                  case measure => omega
                  case rel => exact ⟨i + 1, by omega, rfl, by go_num, hbw.trans ((Below.refl _ _).drew.mono hbw.size)⟩
            · obtain rfl : i = h.n := by omega
              have hh1d := hh1b.below hbw
              have hbWd := bjoin hbw hbWb
              have hU := fun W (hW : Below wr.heap.size wr W) => rused_in (hh1d.below hW) hFH'.out
              have hus' := hus.out
              obtain ⟨hu1, hu2, hu3⟩ := hus2.out
              rw [hu1] at hU
              have d1 : decide (usH h < usH h + szW (ofC f)) = true := by simp; omega
              have d2 : decide (usH h + szW (ofC f) ≤ usH h + 16) = true := by simp; omega
              clear hus hus2 hu1 hh1b hh4b g3b g9b hbWb hzH hwH
              generalize usH h = U at *
              generalize szW (ofC f) = s at *
              go_wp2_with (first
    | (go_at_call 24; refine Calls.mono (hU _ (by go_grown)) ?_; rintro e w' ⟨rfl, hb⟩; obtain ⟨hc, hf, hb, hz⟩ := bstep hb (w := wr) (by go_grown); try simp only [World.size_alloc, World.size_setCell, World.size_drew] at hc hf hz)
              )
              go_returns
              exact ⟨ret_bool (by simp), bjoin hb hbWd⟩

namespace TakeOthers
/-- What the row lists. -/
def lists : List (String × DataW Unit) := [("flotsam/class.sizes", Rows.laid_flotsam_class_sizes), ("math/bits.deBruijn32tab", Rows.laid_math_bits_deBruijn32tab)]
set_option maxRecDepth 100000 in
theorem lifted (os : Os) (started : os.Started) (H : Type) (enc : TypeId × Value → H) :
    ReturnsInHanded {} Tryd.checked os 8 .any (fun w args => (Rows.takeOthersSpec.pre enc Tryd.prog Tryd.f8 Rows.takeOthersRow.domain false w args ∧ laidMetH Tryd.prog lists w) ∧ sizedMet enc Tryd.prog Tryd.f8 (OpenSpec.ofChange Rows.takeOthersSpec) false w args) (Rows.takeOthersSpec.post enc Tryd.prog Tryd.f8 false true false false) := by
  refine law_lifted_laid (C := Tryd.checked) seat_own started (by kernel_rfl) Tryd.func8 (by kernel_rfl) (of_decide_eq_true (by kernel_rfl)) rfl
    (fun ds hd => by have hd' : ds.length = 4 := hd; match ds, hd' with | [d0, d1, d2, d3], _ => rfl) rfl Tryd.underlying4
    (ChangeSpec.witness_shaped (enc := enc) (C := Tryd.checked) (os := os) (X := fun w _ => laidMetH Tryd.prog lists w) false (World.laidAll Tryd.prog os lists) #[.agg #[.slice none 0 0, .slice none 0 0, .bool false], .slice none 0 0, .int .i64 0, .int .i64 0] 8 (World.laidAll_os _ _ _)
      (World.shaped_of_ZipB (by kernel_rfl) (by kernel_rfl)) (by kernel_rfl) (by kernel_rfl) (by kernel_rfl)
      (by rw [MakeChecks.laidMetH_plain _ _ _ (by kernel_rfl)]; exact laidMet_laidAll _ (by kernel_rfl) (by kernel_rfl))) ?_
  intro W base args ds p hval hA hlt hL
  have hS : Sz W := sizes_of hL (by kernel_rfl) rfl
  have hT : Tab W := tab_of hL (by kernel_rfl) rfl
  rw [Tryd.params8] at hA hval
  obtain ⟨v0, v1, v2, v3, d0, d1, d2, d3, p0, p1, p2, p3, rfl, rfl, rfl, h0, h1, h2, h3⟩ := trodAll_four hA
  obtain ⟨x0, q0, c0, s0, e0, rfl, hh0⟩ := open_heap Tryd.underlying25 (by kernel_rfl) (by kernel_rfl) Tryd.underlying22 (by kernel_rfl) (by kernel_rfl) Tryd.underlying23 Tryd.underlying58 (by kernel_rfl) (by kernel_rfl) (by kernel_rfl) (by kernel_rfl) (by kernel_rfl) (by kernel_rfl) (hval 0 25 v0 rfl rfl) h0
  obtain ⟨q1, n1, cap1, z1, rfl, hn1, hz1, hq1⟩ := open_caches Tryd.underlying26 Tryd.underlying51 (by kernel_rfl) (by kernel_rfl) Tryd.underlying3 (hval 1 26 v1 rfl rfl) h1
  obtain ⟨a2, rfl, ha2⟩ := open_i64 Tryd.underlying3 (hval 2 3 v2 rfl rfl) h2
  obtain ⟨a3, rfl, ha3⟩ := open_i64 Tryd.underlying3 (hval 3 3 v3 rfl rfl) h3
  exact others_walk a2 a3 W hh0 hz1 hn1 hq1 hS hT

theorem row_holds : Rows.TakeOthersSaid :=
  OpenClaim.holds_of_wide 8 Tryd.f8 rfl rfl rfl rfl rfl rfl rfl ⟨rfl, rfl, rfl, rfl, rfl⟩ rfl rfl rfl rfl rfl (by kernel_rfl) Tryd.func8 (by kernel_rfl)
    (of_decide_eq_true (by kernel_rfl)) (by unfold Func.isWrapper; first | (rw [if_pos (by decide +kernel)]; kernel_rfl) | (rw [if_neg (by decide +kernel)]; exact ⟨rfl, rfl⟩))
    (fun os started H enc _ => lifted os started H enc)
/-- The tied card. -/
theorem holds : Rows.TakeOthersCardSaid :=
  Claim7.holds_tied_plain_at .later [] [.data, .data] true (true, "90ecb932aa180f2768b6f7eeb0d14302187bc6bdcc666950daeb3c04fa096778") true row_holds (fun _ h => by cases h) (by kernel_rfl) (fun _ h => by cases h) takeOthers_row_tie rfl ⟨rfl, rfl⟩ (by kernel_rfl) rfl
    (fun f fn hf hfn => by
      obtain rfl : f = 8 := Option.some.inj ((show Tryd.prog.funcNamed "flotsam/flotsamlaw11.TakeOthers" = some 8 by kernel_rfl).symm.trans hf) |>.symm
      obtain rfl : fn = Tryd.f8 := (Option.some.inj (Tryd.func8.symm.trans hfn)).symm
      exact ⟨by kernel_rfl, fun j t ht => by
        rw [Tryd.params8] at ht
        have hm : t ∈ [25, 26, 3, 3] := by simpa using Array.mem_of_getElem? ht
        have hall : ([25, 26, 3, 3].all fun u => !Tryd.prog.wantsStandIn u) = true := by kernel_rfl
        exact (show Tryd.prog.wantsStandIn t = false by simpa using List.all_eq_true.1 hall t hm)⟩)
    (by kernel_rfl)
#print axioms holds
end TakeOthers
end Go.Proofs.YtneanbagdkeoiaaDoor
