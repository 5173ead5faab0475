/- Contracts of the reference's Form, Find, Used, Same, with, Open, Close, Lay, Free (chapter 7). -/
import Derived.Test.YtjlflbaglaillaaDoorHeapFn
import Derived.Test.YtjlflbaglaillaaDoorRef06
import Derived.Test.YtjlflbaglaillaaDoorRef02
namespace Go.Proofs.YtjlflbaglaillaaDoor
set_option linter.unusedSimpArgs false
set_option linter.unusedVariables false
open Go.ChangeShapes Go.WideShapes Go.ChangeAt Go.RowKit

theorem HpAt.wf {W : World} {p : Option Addr} {c : Nat} {q : Option Addr} {d : Nat} {h : Hp} (hh : HpAt W p c q d h) : h.wf := ⟨hh.ints.wf, hh.spans.wf⟩
set_option maxHeartbeats 1000000 in
theorem rform_any (p : Option Addr) (c : Nat) (q : Option Addr) (d : Nat) (h : Hp) (w : World) (hh : HpAt w p c q d h) :
    Calls Tryd.prog 14 #[.agg #[.slice p h.n c, .slice q h.m d, .bool h.b]] w fun e w' => e = .returned (.bool (formB h)) ∧ Below w.heap.size w w' := by
  have hn := hh.nle
  have hmm := hh.mle
  simp only [maxLen] at hn hmm
  have eF := @form_iff h
  by_cases hs : 1 ≤ h.m ∧ h.m ≤ 16 ∧ h.n = 32 * h.m
  · obtain ⟨s0, s1, hl⟩ := hs
    have d0 : decide ((h.m : Int) < 1) = false := by simp; omega
    have d1 : decide (16 < (h.m : Int)) = false := by simp; omega
    have d2 : ((h.n : Int) != 32 * (h.m : Int)) = false := by simp; omega
    have hH : Hid (h.n = 32 * h.m) := hl
    have hE : Hid (formB h = true ↔ 1 ≤ h.m ∧ h.m ≤ 16 ∧ h.n = 32 * h.m ∧ ∀ i, i < h.m → (h.s i).right = true) := eF
    clear hl eF
    go_enter Tryd.func14, Tryd.ntmps14
    go_upto_region 1 with fail
    obtain ⟨w0, hw0⟩ : ∃ w0, w0 = w.alloc (.cells #[.slice p h.n c, .slice q h.m d, .bool h.b] 25) := ⟨_, rfl⟩
    have hbx : Box3 w.heap.size (.slice p h.n c) (.slice q h.m d) (.bool h.b) w0 := by rw [hw0]; exact Box3.new _ _ _ _ _
    have hbA : Below w.heap.size w w0 := by rw [hw0]; go_grown
    have hsp := hh.spans.below hbA
    rw [← hw0]
    clear hw0 hh
    obtain ⟨hl, k0, k1, k2, -, -, -⟩ := hbx
    go_wp2
    go_loopg [3] h.m (fun g iv wr => ∃ i : Int, 0 ≤ i ∧ i ≤ h.m ∧ g = (h.m - i).toNat ∧ iv = .int .i64 i ∧ (∀ j : Nat, (j : Int) < i → (h.s j).right = true) ∧ Below w0.heap.size w0 wr)
    case atStart => exact ⟨0, by omega, by omega, by omega, rfl, fun j hj => by omega, Below.refl _ _⟩
    case round =>
      obtain ⟨i, il, ih, rfl, rfl, hall, hbw⟩ := hrel
      obtain ⟨hc, hf, hb, hz⟩ := bstep hbw (w := w0) (Below.refl _ _)
      by_cases hi : i < h.m
      · obtain ⟨⟨b, off, rfl, hlt, s0, s1, s2⟩, hw⟩ := (hsp.below hbw) i.toNat (by omega)
        have hm : Mask (h.s i.toNat).fr := hw.2.2
        cases hr : rightB (h.s i.toNat).st (h.s i.toNat).cl (h.s i.toNat).fr with
        | true =>
          go_wp2_with (first
    | (go_at_call 32; refine Calls.mono (rright_any _ _ _ _ hm) ?_; rintro e w' ⟨rfl, hb⟩; obtain ⟨hc, hf, hb, hz⟩ := bstep hb (w := w0) (by go_grown); try simp only [World.size_alloc, World.size_setCell, World.size_drew] at hc hf hz)
          )
          go_roundg ((h.m : Int) - (i + 1)).toNat
          case measure => omega
          case rel => exact ⟨i + 1, by omega, by omega, rfl, rfl, fun j hj => by
            by_cases e : (j : Int) = i
            · rw [show j = i.toNat by omega]; exact hr
            · exact hall j (by omega), hb⟩
        | false =>
          have e : formB h = false := by
            cases e : formB h with
            | false => rfl
            | true => have := (hE.out.1 e).2.2.2 i.toNat (by omega); unfold Sp.right at this; rw [hr] at this; cases this
          go_wp2_with (first
    | (go_at_call 32; refine Calls.mono (rright_any _ _ _ _ hm) ?_; rintro e w' ⟨rfl, hb⟩; obtain ⟨hc, hf, hb, hz⟩ := bstep hb (w := w0) (by go_grown); try simp only [World.size_alloc, World.size_setCell, World.size_drew] at hc hf hz)
          )
          go_returns
          exact ⟨ret_bool (by simp [e]), bjoin hb hbA⟩
      · have e : formB h = true := hE.out.2 ⟨by omega, by omega, hH.out, fun j hj => hall j (by omega)⟩
        go_wp2
        go_returns
        exact ⟨ret_bool (by simp [e]), bjoin hb hbA⟩
  · have e : formB h = false := by
      cases e : formB h with
      | false => rfl
      | true => have := eF.1 e; exact absurd ⟨this.1, this.2.1, this.2.2.1⟩ hs
    rw [e]
    clear e eF
    by_cases h1 : 1 ≤ h.m ∧ h.m ≤ 16
    · have d2 : ((h.n : Int) != 32 * (h.m : Int)) = true := by simp; omega
      obtain ⟨s0, s1⟩ := h1
      have d0 : decide ((h.m : Int) < 1) = false := by simp; omega
      have d1 : decide (16 < (h.m : Int)) = false := by simp; omega
      go_enter Tryd.func14, Tryd.ntmps14
      go_wp2
      go_returns
      exact ⟨rfl, by go_grown⟩
    · go_enter Tryd.func14, Tryd.ntmps14
      go_wp2
      all_goals
        first
        | omega
        | (go_returns
           exact ⟨rfl, by go_grown⟩)

theorem sz_bound (c : Int) : 0 ≤ szW c ∧ szW c ≤ 16 := by have := cl_cases c; omega
theorem bl_sz (c : Int) : blW c * szW c ≤ 32 := by
  rcases cl_cases c with ⟨-, h0, h1, -⟩ | ⟨-, h0, h1, -⟩ | ⟨-, h0, h1, -⟩ | ⟨-, h0, h1, -⟩ | ⟨-, h0, h1, -⟩
  all_goals rw [h0, h1]; decide
/-- A right span's used words: at most a page's. -/
theorem usS_bound {s : Sp} (hr : s.right = true) (hw : s.wf) : 0 ≤ usS s ∧ usS s ≤ 32 := by
  unfold usS usedN
  split
  · rename_i hu
    rcases right_iff.1 hr with ⟨h0, -⟩ | ⟨-, c0, c1, hs⟩
    · rw [h0] at hu; cases hu
    · obtain ⟨a, b⟩ := count_le hw.2.2 hs
      rcases cl_cases s.cl with ⟨-, h0, h1, -⟩ | ⟨-, h0, h1, -⟩ | ⟨-, h0, h1, -⟩ | ⟨-, h0, h1, -⟩ | ⟨-, h0, h1, -⟩
      all_goals rw [h1] at b ⊢; rw [h0]; omega
  · simp
theorem usT_bound {s : Nat → Sp} : ∀ {k : Nat}, (∀ i, i < k → (s i).right = true ∧ (s i).wf) → 0 ≤ usT s k ∧ usT s k ≤ 32 * k
  | 0, _ => by simp [usT]
  | k + 1, h => by
    have := usT_bound (k := k) fun i hi => h i (by omega)
    have := usS_bound (h k (by omega)).1 (h k (by omega)).2
    simp only [usT]
    omega
theorem usT_next (s : Nat → Sp) {i : Int} (h : 0 ≤ i) : usT s (i + 1).toNat = usT s i.toNat + usS (s i.toNat) := by
  rw [show (i + 1).toNat = i.toNat + 1 by omega]; rfl
def usI (s : Nat → Sp) (i : Int) : Int := usT s i.toNat

set_option maxHeartbeats 1000000 in
theorem rused_any (p : Option Addr) (c : Nat) (q : Option Addr) (d : Nat) (h : Hp) (w : World) (hh : HpAt w p c q d h) (hF : formB h = true) :
    Calls Tryd.prog 18 #[.agg #[.slice p h.n c, .slice q h.m d, .bool h.b]] w fun e w' => e = .returned (.int .i64 (usH h)) ∧ Below w.heap.size w w' := by
  have hm16 := (form_iff.1 hF).2.1
  have hwf := hh.wf
  have hF' : Hid (formB h = true) := hF
  clear hF
  go_enter Tryd.func18, Tryd.ntmps18
  go_upto_region 1 with fail
  obtain ⟨w0, hw0⟩ : ∃ w0, w0 = w.alloc (.cells #[.slice p h.n c, .slice q h.m d, .bool h.b] 25) := ⟨_, rfl⟩
  have hbx : Box3 w.heap.size (.slice p h.n c) (.slice q h.m d) (.bool h.b) w0 := by rw [hw0]; exact Box3.new _ _ _ _ _
  have hbA : Below w.heap.size w w0 := by rw [hw0]; go_grown
  have hsp := hh.spans.below hbA
  rw [← hw0]
  clear hw0 hh
  obtain ⟨hl, k0, k1, k2, -, -, -⟩ := hbx
  go_wp2
  go_loopg [3, 4] h.m (fun g nv iv wr => ∃ i : Int, 0 ≤ i ∧ i ≤ h.m ∧ g = (h.m - i).toNat ∧ nv = .int .i64 (usI h.s i) ∧ iv = .int .i64 i ∧ Below w0.heap.size w0 wr)
  case atStart => exact ⟨0, by omega, by omega, by omega, rfl, rfl, Below.refl _ _⟩
  case round =>
    obtain ⟨i, il, ih, rfl, rfl, rfl, hbw⟩ := hrel
    obtain ⟨hc, hf, hb, hz⟩ := bstep hbw (w := w0) (Below.refl _ _)
    by_cases hi : i < h.m
    · obtain ⟨⟨b, off, rfl, hlt, s0, s1, s2⟩, hw⟩ := (hsp.below hbw) i.toNat (by omega)
      have hm : Mask (h.s i.toNat).fr := hw.2.2
      have hbd : 0 ≤ usI h.s i ∧ usI h.s i ≤ 32 * i := by
        have := usT_bound (s := h.s) (k := i.toNat) fun j hj => ⟨(form_iff.1 hF'.out).2.2.2 j (by omega), hwf.2 j (by omega)⟩
        unfold usI; omega
      have hnx : usI h.s (i + 1) = usI h.s i + usS (h.s i.toNat) := usT_next h.s il
      have hrr : (h.s i.toNat).right = true := (form_iff.1 hF'.out).2.2.2 i.toNat (by omega)
      have hus := usS_bound hrr hw
      rcases right_iff.1 hrr with ⟨h0, -⟩ | ⟨hst, cl0, cl1, hsm⟩
      · have e : usS (h.s i.toNat) = 0 := by simp [usS, usedN, h0, useB]
        rw [e] at hnx
        clear hrr
        obtain ⟨n0, n1⟩ := hbd
        go_wp2
        go_roundg ((h.m : Int) - (i + 1)).toNat
        case measure => omega
        case rel => exact ⟨i + 1, by omega, by omega, rfl, by simp [hnx], rfl, by go_grown⟩
      · have hu := (use_iff _).2 hst
        obtain ⟨n0, n1⟩ := hbd
        have hne : ((h.s i.toNat).st != 0) = true := by simp; omega
        obtain ⟨q0, q1⟩ := count_le hm hsm
        have eus : usS (h.s i.toNat) = (blW (h.s i.toNat).cl - countW (h.s i.toNat).fr) * szW (h.s i.toNat).cl := by simp [usS, usedN, hu]
        rw [eus] at hnx
        clear hrr hus eus hsm hu
        rcases cl_cases (h.s i.toNat).cl with ⟨-, e0, e1, -⟩ | ⟨-, e0, e1, -⟩ | ⟨-, e0, e1, -⟩ | ⟨-, e0, e1, -⟩ | ⟨e, -⟩
        case inr.inr.inr.inr => omega
        all_goals
          rw [e0, e1] at hnx
          rw [e1] at q1
          go_wp2_with fail
          refine wp_region_plus (by kernel_rfl) (by kernel_rfl) fun hpc => ?_
          repeat (first | go_big_quiet_step ((first | (go_at_call 34; exact quiet_plus (rcblocks_any _ _)) | (go_at_call 38; exact quiet_plus (rfree_any _ _ _ _ hm)) | (go_at_call 35; exact quiet_plus (rcwords_any _ _)))) | quiet_step ((first | (go_at_call 34; exact quiet_plus (rcblocks_any _ _)) | (go_at_call 38; exact quiet_plus (rfree_any _ _ _ _ hm)) | (go_at_call 35; exact quiet_plus (rcwords_any _ _)))))
          refine wpQuiet_nil ?_
          intro w' hbq
          clear hpc
          obtain ⟨hc, hf, hb, hz⟩ := bstep hbq (w := wr) (by go_grown)
          try simp only [World.size_alloc, World.size_setCell, World.size_drew] at hc hf hz
          go_wp2
          go_roundg ((h.m : Int) - (i + 1)).toNat
          case measure => omega
          case rel => exact ⟨i + 1, by omega, by omega, rfl, by simp [hnx], rfl, bjoin hb hbw⟩
    · obtain rfl : i = h.m := by omega
      go_wp2
      go_returns
      exact ⟨rfl, bjoin hb hbA⟩

theorem boxes {w : World} {v0 v1 v2 u0 u1 u2 : Value} {t : TypeId} : ∃ w0, w0 = (w.alloc (.cells #[v0, v1, v2] t)).alloc (.cells #[u0, u1, u2] t) ∧ Box3 w.heap.size v0 v1 v2 w0 ∧ Box3 (w.heap.size + 1) u0 u1 u2 w0 ∧ Below w.heap.size w w0 := by
  refine ⟨_, rfl, (Box3.new w _ _ _ _).below ((Below.refl _ _).alloc (Nat.le_refl _) _), ?_, ?_⟩
  · have := Box3.new (w.alloc (.cells #[v0, v1, v2] t)) u0 u1 u2 t
    simpa using this
  · exact ((Below.refl _ _).alloc (Nat.le_refl _) _).alloc (by simp) _
set_option maxHeartbeats 2000000 in
theorem rsameH_any (p p' : Option Addr) (c c' : Nat) (q q' : Option Addr) (d d' : Nat) (h k : Hp) (w : World) (hh : HpAt w p c q d h) (hk : HpAt w p' c' q' d' k) :
    Calls Tryd.prog 11 #[.agg #[.slice p h.n c, .slice q h.m d, .bool h.b], .agg #[.slice p' k.n c', .slice q' k.m d', .bool k.b]] w fun e w' => e = .returned (.bool (sameH h k)) ∧ Below w.heap.size w w' := by
  have hn := hh.nle
  have hmm := hh.mle
  have kn := hk.nle
  have kmm := hk.mle
  simp only [maxLen] at hmm kmm
  obtain ⟨w0, hw0, hbx, hbk, hbA⟩ := boxes (w := w) (v0 := .slice p h.n c) (v1 := .slice q h.m d) (v2 := .bool h.b) (u0 := .slice p' k.n c') (u1 := .slice q' k.m d') (u2 := .bool k.b) (t := 25)
  have hi1 := hh.ints.below hbA
  have hi2 := hk.ints.below hbA
  have hs1 := hh.spans.below hbA
  have hs2 := hk.spans.below hbA
  clear hh hk
  obtain ⟨hl, k0, k1, k2, -, -, -⟩ := hbx
  obtain ⟨hl', j0, j1, j2, -, -, -⟩ := hbk
  go_enter Tryd.func11, Tryd.ntmps11
  go_upto_region 1 with fail
  rw [← hw0]
  clear hw0
  have hdef : Hid (sameH h k = ((h.b == k.b) && (decide (h.m = k.m) && (sameZ h.n h.z k.n k.z && sameS h.m h.s k.s)))) := rfl
  by_cases eb : h.b = k.b
  · by_cases em : h.m = k.m
    · have d0 : (h.b == k.b) = true := by simp [eb]
      have d1 : ((h.m : Int) != (k.m : Int)) = false := by simp [em]
      have eH : Hid (sameH h k = (sameZ h.n h.z k.n k.z && sameS h.m h.s k.s)) := by
        show sameH h k = _
        rw [hdef.out]; simp [eb, em]
      have em' : Hid (h.m = k.m) := em
      clear eb em
      cases ez : sameZ h.n h.z k.n k.z with
      | false =>
        rw [ez] at eH
        go_wp2_with (first
    | (go_at_call 30; refine Calls.mono (same_any _ _ _ _ _ _ _ _ _ hi1 hi2 hn kn) ?_; rintro e w' ⟨rfl, hb⟩; obtain ⟨hc, hf, hb, hz⟩ := bstep hb (w := w0) (by go_grown); try simp only [World.size_alloc, World.size_setCell, World.size_drew] at hc hf hz)
        )
        go_returns
        exact ⟨ret_bool (by rw [eH.out]; rfl), bjoin hb hbA⟩
      | true =>
        rw [ez] at eH
        go_upto_region 3 with (first
    | (go_at_call 30; refine Calls.mono (same_any _ _ _ _ _ _ _ _ _ hi1 hi2 hn kn) ?_; rintro e w' ⟨rfl, hb⟩; obtain ⟨hc, hf, hb, hz⟩ := bstep hb (w := w0) (by go_grown); try simp only [World.size_alloc, World.size_setCell, World.size_drew] at hc hf hz)
        )
        have hs1' := hs1.below hb
        have hs2' := hs2.below hb
        have hbB := hb
        go_wp2
        go_loopg [5] h.m (fun g iv wr => ∃ i : Int, 0 ≤ i ∧ i ≤ h.m ∧ g = (h.m - i).toNat ∧ iv = .int .i64 i ∧ (∀ j : Nat, (j : Int) < i → h.s j = k.s j) ∧ Below w'.heap.size w' wr)
        case atStart => exact ⟨0, by omega, by omega, by omega, rfl, fun j hj => by omega, Below.refl _ _⟩
        case round =>
          obtain ⟨i, il, ih, rfl, rfl, hall, hbw⟩ := hrel
          have hbW := bjoin hbw (bjoin hbB hbA)
          obtain ⟨hc, hf, hb, hz⟩ := bstep hbw (w := w') (Below.refl _ _)
          by_cases hi : i < h.m
          · have hik : i < k.m := by have := em'.out; omega
            obtain ⟨⟨b, off, rfl, hlt, s0, s1, s2⟩, hw⟩ := (hs1'.below hbw) i.toNat (by omega)
            obtain ⟨⟨b', off', rfl, hlt', r0, r1, r2⟩, hw'⟩ := (hs2'.below hbw) i.toNat (by omega)
            by_cases e : h.s i.toNat = k.s i.toNat
            · rw [e] at s0 s1 s2
              go_wp2
              go_region
              all_goals
                go_wp2
                go_roundg ((h.m : Int) - (i + 1)).toNat
                case measure => omega
                case rel => exact ⟨i + 1, by omega, by omega, rfl, rfl, fun j hj => by
                  by_cases ej : (j : Int) = i
                  · rw [show j = i.toNat by omega]; exact e
                  · exact hall j (by omega), hb.drew⟩
            · have eS : sameH h k = false := by
                rw [eH.out, Bool.true_and]
                cases es : sameS h.m h.s k.s with
                | false => rfl
                | true => exact absurd (sameS_iff.1 es i.toNat (by omega)) e
              have ef : ¬ ((h.s i.toNat).st = (k.s i.toNat).st ∧ (h.s i.toNat).cl = (k.s i.toNat).cl ∧ (h.s i.toNat).fr = (k.s i.toNat).fr) := fun x => e (spEq_iff.1 (by simp [spEq, x]))
              generalize h.s i.toNat = a at s0 s1 s2 ef
              generalize k.s i.toNat = a' at r0 r1 r2 ef
              obtain ⟨st, cl, fr⟩ := a
              obtain ⟨st', cl', fr'⟩ := a'
              simp only [] at s0 s1 s2 r0 r1 r2 ef
              clear e hall hw hw'
              by_cases f0 : st = st'
              · by_cases f1 : cl = cl'
                · have f2 : ¬ fr = fr' := fun x => ef ⟨f0, f1, x⟩
                  subst f0 f1
                  clear ef
                  go_wp2
                  go_region
                  all_goals
                    go_wp2
                    go_returns
                    exact ⟨ret_bool (by simp [eS]), hbW.drew⟩
                · subst f0
                  clear ef
                  go_wp2
                  go_region
                  all_goals
                    go_wp2
                    go_returns
                    exact ⟨ret_bool (by simp [eS]), hbW.drew⟩
              · clear ef
                go_wp2
                go_region
                all_goals
                  go_wp2
                  go_returns
                  exact ⟨ret_bool (by simp [eS]), hbW.drew⟩
          · have e : sameH h k = true := by
              rw [eH.out]
              exact sameS_iff.2 fun j hj => hall j (by omega)
            go_wp2
            go_returns
            exact ⟨ret_bool (by simp [e]), hbW⟩
    · have d0 : (h.b == k.b) = true := by simp [eb]
      have d1 : ((h.m : Int) != (k.m : Int)) = true := by simp; omega
      have e : sameH h k = false := by rw [hdef.out]; simp [em]
      clear eb em
      go_wp2
      go_returns
      exact ⟨ret_bool (by simp [e]), hbA⟩
  · have d0 : (h.b == k.b) = false := by simp [eb]
    have e : sameH h k = false := by rw [hdef.out]; simp [eb]
    clear eb
    go_wp2
    go_returns
    exact ⟨ret_bool (by simp [e]), hbA⟩

/-- The block that begins at a lies from page p, index i on. -/
def fiAt (h : Hp) (a p i : Int) : Prop := fiB h a = true → p < a / 32 ∨ p = a / 32 ∧ i ≤ plI (spH h (a / 32)).cl a
theorem fi_no {h : Hp} {a : Int} (e : ¬ fiB h a = true) : fiB h a = false ∧ fiP h a = 0 ∧ fiI h a = 0 := by
  refine ⟨by simpa using e, ?_, ?_⟩
  · unfold fiP; rw [if_neg e]
  · unfold fiI; rw [if_neg e]
set_option maxHeartbeats 2000000 in
theorem rfind_any (p : Option Addr) (c : Nat) (q : Option Addr) (d : Nat) (h : Hp) (a : Int) (w : World) (hh : HpAt w p c q d h) (hF : formB h = true) :
    Calls Tryd.prog 16 #[.agg #[.slice p h.n c, .slice q h.m d, .bool h.b], .int .i64 a] w fun e w' => e = .returned (.tuple #[.int .i64 (fiP h a), .int .i64 (fiI h a), .bool (fiB h a)]) ∧ Below w.heap.size w w' := by
  have hm16 := (form_iff.1 hF).2.1
  have hF' : Hid (formB h = true) := hF
  clear hF
  go_enter Tryd.func16, Tryd.ntmps16
  go_upto_region 1 with fail
  obtain ⟨w0, hw0⟩ : ∃ w0, w0 = w.alloc (.cells #[.slice p h.n c, .slice q h.m d, .bool h.b] 25) := ⟨_, rfl⟩
  have hbx : Box3 w.heap.size (.slice p h.n c) (.slice q h.m d) (.bool h.b) w0 := by rw [hw0]; exact Box3.new _ _ _ _ _
  have hbA : Below w.heap.size w w0 := by rw [hw0]; go_grown
  have hsp := hh.spans.below hbA
  rw [← hw0]
  clear hw0 hh
  obtain ⟨hl, k0, k1, k2, -, -, -⟩ := hbx
  go_wp2
  go_loopg [7] h.m (fun g jv wr => ∃ j : Int, 0 ≤ j ∧ j ≤ h.m ∧ g = (h.m - j).toNat ∧ jv = .int .i64 j ∧ fiAt h a j 0 ∧ Below w0.heap.size w0 wr)
  case atStart => exact ⟨0, by omega, by omega, by omega, rfl, fun e => by have := fi_spec hF'.out e; omega, Below.refl _ _⟩
  case round =>
    obtain ⟨j, jl, jh, rfl, rfl, hat, hbw⟩ := hrel
    obtain ⟨hc, hf, hb, hz⟩ := bstep hbw (w := w0) (Below.refl _ _)
    by_cases hj : j < h.m
    · obtain ⟨⟨b, off, rfl, hlt, s0, s1, s2⟩, hw⟩ := (hsp.below hbw) j.toNat (by omega)
      have hrr := form_at hF'.out jl hj
      have hspj : spH h j = h.s j.toNat := rfl
      rw [hspj] at hrr
      rcases right_iff.1 hrr with ⟨h0, -⟩ | ⟨hst, cl0, cl1, hsm⟩
      · have hat' : fiAt h a (j + 1) 0 := fun e => by
          have h1 := fi_spec hF'.out e
          rcases hat e with h2 | ⟨h2, -⟩
          · omega
          · rw [← h2, hspj, h0] at h1; omega
        have d0 : ((h.s j.toNat).st == 0) = true := by simp [h0]
        clear hat hrr h0
        go_wp2
        go_roundg ((h.m : Int) - (j + 1)).toNat
        case measure => omega
        case rel => exact ⟨j + 1, by omega, by omega, rfl, rfl, hat', hb⟩
      · have d0 : ((h.s j.toNat).st == 0) = false := by simp; omega
        have hne : Hid (¬ (spH h j).st = 0) := by show ¬ (h.s j.toNat).st = 0; omega
        have hb0 := bl_bound (h.s j.toNat).cl
        obtain ⟨b0, b1⟩ := hb0
        clear hrr hsm hc hf hb hz
        obtain ⟨w1, hw1⟩ : ∃ w1, w1 = wr := ⟨_, rfl⟩
        rw [← hw1] at hbw s0 s1 s2 hlt ⊢
        have k1' : w1.cell? ⟨w.heap.size, 1, none⟩ = some (.slice (some ⟨b, off, none⟩) h.m d) := by rw [hbw.cell (p := ⟨w.heap.size, 1, none⟩) hl]; exact k1
        have hl1 : w.heap.size < w1.heap.size := Nat.lt_of_lt_of_le hl hbw.size
        clear hw1
        go_wp2
        go_loopg [8] 16 (fun g iv wr => ∃ i : Int, 0 ≤ i ∧ i ≤ blW (h.s j.toNat).cl ∧ g = (16 - i).toNat ∧ iv = .int .i64 i ∧ fiAt h a j i ∧ Below w1.heap.size w1 wr)
        case atStart => exact ⟨0, by omega, by omega, rfl, rfl, hat, Below.refl _ _⟩
        case round =>
          clear hat
          obtain ⟨i, il, ih, rfl, rfl, hat, hbv⟩ := hrel
          have hbV := bjoin hbv (bjoin hbw hbA)
          obtain ⟨hc, hf, hb, hz⟩ := bstep hbv (w := w1) (Below.refl _ _)
          by_cases hi : i < blW (h.s j.toNat).cl
          · obtain ⟨f0, f1, f2⟩ := fi_of hF'.out (p := j) (i := i) jl hj hne.out il hi
            rw [hspj] at f0 f1 f2
            by_cases he : 32 * j + i * szW (h.s j.toNat).cl = a
            · rw [he] at f0 f1 f2
              have E : Hid (fiB h a = true ∧ fiP h a = j ∧ fiI h a = i) := ⟨f0, by unfold fiP; rw [if_pos f0, f1], by unfold fiI; rw [if_pos f0, f1]; exact f2⟩
              clear f0 f1 f2 hat
              rcases cl_cases (h.s j.toNat).cl with ⟨-, e0, e1, -⟩ | ⟨-, e0, e1, -⟩ | ⟨-, e0, e1, -⟩ | ⟨-, e0, e1, -⟩ | ⟨e, -⟩
              case inr.inr.inr.inr => omega
              all_goals
                rw [e0] at he
                rw [e1] at hi
                go_wp2_with (first
    | (go_at_call 34; refine Calls.mono (rcblocks_any _ _) ?_; rintro e w' ⟨rfl, hb⟩; obtain ⟨hc, hf, hb, hz⟩ := bstep hb (w := w1) (by go_grown); try simp only [World.size_alloc, World.size_setCell, World.size_drew] at hc hf hz)
    | (go_at_call 35; refine Calls.mono (rcwords_any _ _) ?_; rintro e w' ⟨rfl, hb⟩; obtain ⟨hc, hf, hb, hz⟩ := bstep hb (w := w1) (by go_grown); try simp only [World.size_alloc, World.size_setCell, World.size_drew] at hc hf hz)
                )
                go_returns
                exact ⟨by rw [E.out.1, E.out.2.1, E.out.2.2]; rfl, bjoin hb (bjoin hbw hbA)⟩
            · have hat' : fiAt h a j (i + 1) := fun e => by
                rcases hat e with h2 | ⟨h2, h3⟩
                · exact .inl h2
                · refine .inr ⟨h2, ?_⟩
                  have h4 := (fi_spec hF'.out e).2.2.2.2.2.2.2
                  rw [← h2, hspj] at h4 h3 ⊢
                  by_cases e3 : i = plI (h.s j.toNat).cl a
                  · rw [← e3] at h4; exact absurd h4 he
                  · omega
              have he' : Hid (¬ 32 * j + i * szW (h.s j.toNat).cl = a) := he
              clear f0 f1 f2 hat he
              rcases cl_cases (h.s j.toNat).cl with ⟨-, e0, e1, -⟩ | ⟨-, e0, e1, -⟩ | ⟨-, e0, e1, -⟩ | ⟨-, e0, e1, -⟩ | ⟨e, -⟩
              case inr.inr.inr.inr => omega
              all_goals
                have he := he'.out
                rw [e0] at he
                rw [e1] at hi
                go_wp2_with (first
    | (go_at_call 34; refine Calls.mono (rcblocks_any _ _) ?_; rintro e w' ⟨rfl, hb⟩; obtain ⟨hc, hf, hb, hz⟩ := bstep hb (w := w1) (by go_grown); try simp only [World.size_alloc, World.size_setCell, World.size_drew] at hc hf hz)
    | (go_at_call 35; refine Calls.mono (rcwords_any _ _) ?_; rintro e w' ⟨rfl, hb⟩; obtain ⟨hc, hf, hb, hz⟩ := bstep hb (w := w1) (by go_grown); try simp only [World.size_alloc, World.size_setCell, World.size_drew] at hc hf hz)
                )
                go_roundg (16 - (i + 1)).toNat
                case measure => omega
                case rel => exact ⟨i + 1, by omega, by omega, rfl, rfl, hat', hb⟩
          · have hat' : fiAt h a (j + 1) 0 := fun e => by
              have h4 := (fi_spec hF'.out e).2.2.2.2.2.2.1
              have h5 := (fi_spec hF'.out e).2.2.2.2.2.1
              rcases hat e with h2 | ⟨h2, h3⟩
              · by_cases h6 : j + 1 < a / 32
                · exact .inl h6
                · exact .inr ⟨by omega, h5⟩
              · rw [← h2, hspj] at h4 h3; omega
            clear hat
            go_wp2_with (first
    | (go_at_call 34; refine Calls.mono (rcblocks_any _ _) ?_; rintro e w' ⟨rfl, hb⟩; obtain ⟨hc, hf, hb, hz⟩ := bstep hb (w := w1) (by go_grown); try simp only [World.size_alloc, World.size_setCell, World.size_drew] at hc hf hz)
            )
            go_roundg ((h.m : Int) - (j + 1)).toNat
            case measure => omega
            case rel => exact ⟨j + 1, by omega, by omega, rfl, rfl, hat', bjoin hb hbw⟩
    · have e : ¬ fiB h a = true := fun e => by
        have h1 := fi_spec hF'.out e
        rcases hat e with h2 | ⟨h2, -⟩ <;> omega
      obtain ⟨q0, q1, q2⟩ := fi_no e
      have E : Hid (fiB h a = false ∧ fiP h a = 0 ∧ fiI h a = 0) := ⟨q0, q1, q2⟩
      clear q0 q1 q2 e hat
      go_wp2
      go_returns
      exact ⟨by rw [E.out.1, E.out.2.1, E.out.2.2]; rfl, bjoin hb hbA⟩
end Go.Proofs.YtjlflbaglaillaaDoor
