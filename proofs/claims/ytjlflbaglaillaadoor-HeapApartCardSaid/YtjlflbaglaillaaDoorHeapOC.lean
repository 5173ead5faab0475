/- Contracts of the code's heap.Open and heap.Close (chapter 7). -/
import Derived.Test.YtjlflbaglaillaaDoorHeapChg
namespace Go.Proofs.YtjlflbaglaillaaDoor
set_option linter.unusedSimpArgs false
set_option linter.unusedVariables false
open Go.ChangeShapes Go.WideShapes Go.ChangeAt Go.RowKit Go.Joins

/-- What Open's closure answers. -/
def opX (s : Sp) (k : Int) : Sp := if s.st = 0 then ⟨nwS k, nwC k, nwF k⟩ else s
theorem open1_any (st cl fr k : Int) (b : Nat) (w : World) (hS : Sz w) (hb : Box1 b (.int .i64 k) w) :
    Calls Tryd.prog 40 #[.agg #[.int .i64 st, .int .i64 cl, .int .u32 fr], .pointer (some ⟨b, 0, none⟩)] w fun e w' =>
      e = .returned (.tuple #[.agg #[.int .i64 (opX ⟨st, cl, fr⟩ k).st, .int .i64 (opX ⟨st, cl, fr⟩ k).cl, .int .u32 (opX ⟨st, cl, fr⟩ k).fr], .bool (st == 0 && clB k)]) ∧ Below w.heap.size w w' := by
  obtain ⟨l, c0, -⟩ := hb
  by_cases h : st = 0
  · have e : opX ⟨st, cl, fr⟩ k = ⟨nwS k, nwC k, nwF k⟩ := by unfold opX; rw [if_pos h]
    have d0 : (st != 0) = false := by simp [h]
    have d1 : (st == 0) = true := by simp [h]
    rw [e, d1]
    clear e h d1
    simp only [Bool.true_and]
    go_enter Tryd.func40, Tryd.ntmps40
    go_wp2_with (first
    | (go_at_call 41; refine Calls.mono (snew_any _ _ (hS.below (by go_grown))) ?_; rintro e w' ⟨rfl, hb⟩; (first | replace hS := hS.below hb | replace hS := (hS.below (by go_grown)).below hb | skip); obtain ⟨hc, hf, hb, hz⟩ := bstep hb (w := w) (by go_grown); try simp only [World.size_alloc, World.size_setCell, World.size_drew] at hc hf hz)
    )
    refine bodyPost_ret (by simp [results, Tryd.results40, go_sem, *]; try rfl) rfl ?_
    exact ⟨rfl, by go_grown⟩
  · have e : opX ⟨st, cl, fr⟩ k = ⟨st, cl, fr⟩ := by unfold opX; rw [if_neg h]
    have d0 : (st != 0) = true := by simp [h]
    have d1 : (st == 0) = false := by simp [h]
    rw [e, d1]
    clear e h d1
    go_enter Tryd.func40, Tryd.ntmps40
    go_wp2
    refine bodyPost_ret (by simp [results, Tryd.results40, go_sem, *]; try rfl) rfl ?_
    exact ⟨rfl, by go_grown⟩
theorem enters_open1 : ∀ args w, (callFunc 40 args).run Tryd.prog w = .ok (.enter 40 args) w := enters_of Tryd.func40 (by kernel_rfl) rfl
theorem close1_any (st cl fr : Int) (w : World) (hk : OkS st) (hS : Sz w) :
    Calls Tryd.prog 44 #[.agg #[.int .i64 st, .int .i64 cl, .int .u32 fr]] w fun e w' =>
      e = .returned (.tuple #[.agg #[.int .i64 0, .int .i64 0, .int .u32 0], .bool (emptyB st cl fr)]) ∧ Below w.heap.size w w' := by
  go_enter Tryd.func44, Tryd.ntmps44
  go_wp2_with (first
    | (go_at_call 45; refine Calls.mono (sempty_any _ _ _ _ hk (hS.below (by go_grown))) ?_; rintro e w' ⟨rfl, hb⟩; (first | replace hS := hS.below hb | replace hS := (hS.below (by go_grown)).below hb | skip); obtain ⟨hc, hf, hb, hz⟩ := bstep hb (w := w) (by go_grown); try simp only [World.size_alloc, World.size_setCell, World.size_drew] at hc hf hz)
  )
  refine bodyPost_ret (by simp [results, Tryd.results44, go_sem, *]; try rfl) rfl ?_
  exact ⟨rfl, by go_grown⟩
theorem enters_close1 : ∀ args w, (callFunc 44 args).run Tryd.prog w = .ok (.enter 44 args) w := enters_of Tryd.func44 (by kernel_rfl) rfl
theorem opX_wf {s : Sp} {k : Int} (h0 : s.st = 0) (hk : clB k = true) : opX s k = ⟨1, k, wholeW (blW k)⟩ ∧ (opX s k).wf := by
  have e : opX s k = ⟨1, k, wholeW (blW k)⟩ := by
    obtain ⟨a, b, c⟩ := nw_yes hk
    unfold opX; rw [if_pos h0, a, b, c]
  rw [e]
  have : 0 ≤ k ∧ k < 4 := by simpa [clB] using hk
  exact ⟨rfl, ⟨by show (-9223372036854775808 : Int) ≤ 1; decide, by show (1 : Int) ≤ 9223372036854775807; decide⟩, ⟨by show -9223372036854775808 ≤ k; omega, by show k ≤ 9223372036854775807; omega⟩, mask_whole _⟩
set_option maxHeartbeats 2000000 in
theorem hopen_any (p : Option Addr) (c : Nat) (q : Option Addr) (d : Nat) (h : Hp) (g k : Int) (w : World) (hS : Sz w) (hh : HpAt w p c q d h) (hF : formB h = true) :
    Calls Tryd.prog 19 #[.agg #[.slice p h.n c, .slice q h.m d, .bool h.b], .int .i64 g, .int .i64 k] w fun e w' => ∃ p' c' q' d', e = .returned (.tuple #[.agg #[.slice p' h.n c', .slice q' h.m d', .bool h.b], .bool (opB h g k)]) ∧
      HpAt w' p' c' q' d' (opH h g k) ∧ Src w.heap.size (opB h g k) h.n h.m p c q d p' c' q' d' ∧ Below w.heap.size w w' := by
  obtain ⟨w0, hw0⟩ : ∃ w0, w0 = ((w.alloc (.cells #[.slice p h.n c, .slice q h.m d, .bool h.b] 25)).alloc (.cells #[.int .i64 k] 3)).alloc (.cells #[.slice none 0 0, .slice none 0 0, .bool false] 25) := ⟨_, rfl⟩
  have a0 := Box3.new w (.slice p h.n c) (.slice q h.m d) (.bool h.b) 25
  have a1 := Box1.new (w.alloc (.cells #[.slice p h.n c, .slice q h.m d, .bool h.b] 25)) (.int .i64 k) 3
  have a2 := Box3.new ((w.alloc (.cells #[.slice p h.n c, .slice q h.m d, .bool h.b] 25)).alloc (.cells #[.int .i64 k] 3)) (.slice none 0 0) (.slice none 0 0) (.bool false) 25
  have st : ∀ (W : World) (o : Obj), Below W.heap.size W (W.alloc o) := fun W o => (Below.refl _ _).alloc (Nat.le_refl _) _
  replace a0 := (a0.below (st _ (.cells #[.int .i64 k] 3))).below (st _ (.cells #[.slice none 0 0, .slice none 0 0, .bool false] 25))
  replace a1 := a1.below (st _ (.cells #[.slice none 0 0, .slice none 0 0, .bool false] 25))
  have hst : Below w.heap.size w w0 := by rw [hw0]; go_grown
  rw [← hw0] at a0 a1 a2
  simp only [World.size_alloc] at a1 a2
  clear st
  have hat := hh.below hst
  have hS0 := hS.below hst
  have hF' : Hid (formB h = true) := hF
  by_cases hg : 0 ≤ g ∧ g < h.m
  · obtain ⟨p0, p1⟩ := hg
    have eO : opB h g k = ((spH h g).st == 0 && clB k) := by unfold opB; rw [inI_yes p0 p1, Bool.true_and, Bool.and_comm]
    have hC := change_in (k := 40) (caps := #[.pointer (some ⟨w.heap.size + 1, 0, none⟩)]) (x := opX (spH h g) k) (ok := (spH h g).st == 0 && clB k) (T := fun _ => False) (R := fun _ _ => True) enters_open1 hat hF
      (fun e => by simp only [Bool.and_eq_true, beq_iff_eq] at e; exact (opX_wf e.1 e.2).2) (fun t ht => ht.elim) p0 p1
      (fun W1 hb1 => Calls.mono (open1_any (spH h g).st (spH h g).cl (spH h g).fr k (w.heap.size + 1) W1 (hS0.below hb1) (a1.below hb1)) fun e W2 ⟨e1, e2⟩ => ⟨e1, Aside.of e2, trivial⟩)
    rw [← eO] at hC
    obtain ⟨l0, x0, x1, x2, -, -, -⟩ := a0
    obtain ⟨l2, y0, y1, y2, f0, f1, f2⟩ := a2
    have hOX : opB h g k = true → opH h g k = withS h g (opX (spH h g) k) := fun e => by
      rw [eO] at e
      simp only [Bool.and_eq_true, beq_iff_eq] at e
      rw [(opX_wf e.1 e.2).1]
      unfold opH
      rw [if_pos (by rw [eO]; simp [e])]
    have hON : opB h g k = false → opH h g k = h := fun e => by unfold opH; rw [if_neg (by simp [e])]
    generalize opX (spH h g) k = X at *
    generalize opB h g k = ok at *
    clear eO a1 hF p0 p1
    go_enter Tryd.func19, Tryd.ntmps19
    go_upto_region 1 with fail
    rw [← hw0]
    clear hw0
    go_wp2_with (first
      | (go_at_call 39; refine Calls.mono hC ?_; rintro e w' ⟨p', c', q', d', rfl, hnew, hold, W1, W2, hb1, hA, -, hb2⟩; have hb := (hb1.trans (hA.pure.mono hb1.size)).trans hb2; obtain ⟨hc, hf, hb, hz⟩ := bstep hb (w := w0) (by go_grown))
    )
    refine bodyPost_ret (by simp [results, Tryd.results19, go_sem, *]; try rfl) rfl ?_
    cases ok with
    | true =>
      have ho := hnew rfl
      rw [hOX rfl]
      have hz := (((ho.under (g := w.heap.size + 1 + 1) (by omega) 0 (.slice p' h.n c')).under (g := w.heap.size + 1 + 1) (by omega) 1 (.slice q' h.m d')).under (g := w.heap.size + 1 + 1) (by omega) 2 (.bool h.b)).lower (show w.heap.size ≤ w0.heap.size by omega)
      exact ⟨p', c', q', d', rfl, hz.at, ⟨fun _ => ⟨hz.newW, hz.newS⟩, fun h => (by cases h)⟩, (((bjoin hb hst).setCell (by show w.heap.size ≤ w.heap.size + 1 + 1; omega) _).setCell (by show w.heap.size ≤ w.heap.size + 1 + 1; omega) _).setCell (by show w.heap.size ≤ w.heap.size + 1 + 1; omega) _⟩
    | false =>
      obtain ⟨rfl, rfl, rfl, rfl⟩ := hold rfl
      rw [hON rfl]
      have hbb := (((bjoin hb hst).setCell (p := ⟨w.heap.size + 1 + 1, 0, none⟩) (by show w.heap.size ≤ w.heap.size + 1 + 1; omega) (.slice p' h.n c')).setCell (p := ⟨w.heap.size + 1 + 1, 1, none⟩) (by show w.heap.size ≤ w.heap.size + 1 + 1; omega) (.slice q' h.m d')).setCell (p := ⟨w.heap.size + 1 + 1, 2, none⟩) (by show w.heap.size ≤ w.heap.size + 1 + 1; omega) (.bool h.b)
      exact ⟨p', c', q', d', rfl, hh.below hbb, ⟨fun h => (by cases h), fun _ => ⟨rfl, rfl, rfl, rfl⟩⟩, hbb⟩
  · have eO : opB h g k = false := by unfold opB; rw [inI_no hg]; rfl
    have hON : opH h g k = h := by unfold opH; rw [if_neg (by simp [eO])]
    rw [hON, eO]
    have hC := change_out (v := .func (.func 40) #[] #[.pointer (some ⟨w.heap.size + 1, 0, none⟩)]) hat (form_iff.1 hF).2.1 hg
    obtain ⟨l0, x0, x1, x2, -, -, -⟩ := a0
    obtain ⟨l2, y0, y1, y2, f0, f1, f2⟩ := a2
    clear eO hON hF a1
    go_enter Tryd.func19, Tryd.ntmps19
    go_upto_region 1 with fail
    rw [← hw0]
    clear hw0
    go_wp2_with (first
      | (go_at_call 39; refine Calls.mono hC ?_; rintro e w' ⟨rfl, hb⟩; obtain ⟨hc, hf, hb, hz⟩ := bstep hb (w := w0) (by go_grown))
    )
    refine bodyPost_ret (by simp [results, Tryd.results19, go_sem, *]; try rfl) rfl ?_
    have hbb := (((bjoin hb hst).setCell (p := ⟨w.heap.size + 1 + 1, 0, none⟩) (by show w.heap.size ≤ w.heap.size + 1 + 1; omega) (.slice p h.n c)).setCell (p := ⟨w.heap.size + 1 + 1, 1, none⟩) (by show w.heap.size ≤ w.heap.size + 1 + 1; omega) (.slice q h.m d)).setCell (p := ⟨w.heap.size + 1 + 1, 2, none⟩) (by show w.heap.size ≤ w.heap.size + 1 + 1; omega) (.bool h.b)
    exact ⟨p, c, q, d, rfl, hh.below hbb, ⟨fun h => (by cases h), fun _ => ⟨rfl, rfl, rfl, rfl⟩⟩, hbb⟩
theorem zero_wf : (⟨0, 0, 0⟩ : Sp).wf := ⟨⟨by show (-9223372036854775808 : Int) ≤ 0; decide, by show (0 : Int) ≤ 9223372036854775807; decide⟩, ⟨by show (-9223372036854775808 : Int) ≤ 0; decide, by show (0 : Int) ≤ 9223372036854775807; decide⟩, ⟨by show (0 : Int) ≤ 0; decide, by show (0 : Int) < 4294967296; decide⟩⟩
theorem empty_lo {st cl fr : Int} (hr : rightB st cl fr = true) (hm : Mask fr) : emptyB st cl fr = (!(st == 0) && countW fr == blW cl) := by
  unfold emptyB
  rcases right_iff.1 hr with ⟨h0, -⟩ | ⟨h0, c0, c1, hs⟩
  · have : useB st = false := by rw [h0]; rfl
    rw [this, h0]; rfl
  · rw [(use_iff st).2 h0, show (st == 0) = false by simp; omega]
    simp only [Bool.true_and, Bool.not_false]
    rw [Bool.eq_iff_iff, beq_iff_eq, beq_iff_eq]
    exact (count_whole hm hs).symm
set_option maxHeartbeats 2000000 in
theorem hclose_any (p : Option Addr) (c : Nat) (q : Option Addr) (d : Nat) (h : Hp) (g : Int) (w : World) (hS : Sz w) (hh : HpAt w p c q d h) (hF : formB h = true) :
    Calls Tryd.prog 21 #[.agg #[.slice p h.n c, .slice q h.m d, .bool h.b], .int .i64 g] w fun e w' => ∃ p' c' q' d', e = .returned (.tuple #[.agg #[.slice p' h.n c', .slice q' h.m d', .bool h.b], .bool (loB h g)]) ∧
      HpAt w' p' c' q' d' (loH h g) ∧ Src w.heap.size (loB h g) h.n h.m p c q d p' c' q' d' ∧ Below w.heap.size w w' := by
  obtain ⟨w0, hw0, a0, a2, hst⟩ := boxed2 (w := w) (v0 := .slice p h.n c) (v1 := .slice q h.m d) (v2 := .bool h.b) (u0 := .slice none 0 0) (u1 := .slice none 0 0) (u2 := .bool false) (t := 25)
  have hat := hh.below hst
  have hS0 := hS.below hst
  have hF' : Hid (formB h = true) := hF
  by_cases hg : 0 ≤ g ∧ g < h.m
  · obtain ⟨p0, p1⟩ := hg
    have eO : loB h g = emptyB (spH h g).st (spH h g).cl (spH h g).fr := by
      rw [empty_lo (form_at hF p0 p1) (wf_mask hh.wf p0 p1)]
      unfold loB; rw [inI_yes p0 p1, Bool.true_and]
    have hC := change_in (k := 44) (caps := #[]) (x := ⟨0, 0, 0⟩) (ok := emptyB (spH h g).st (spH h g).cl (spH h g).fr) (T := fun _ => False) (R := fun _ _ => True) enters_close1 hat hF
      (fun _ => zero_wf) (fun t ht => ht.elim) p0 p1
      (fun W1 hb1 => Calls.mono (close1_any (spH h g).st (spH h g).cl (spH h g).fr W1 (right_ok (form_at hF p0 p1)) (hS0.below hb1)) fun e W2 ⟨e1, e2⟩ => ⟨e1, Aside.of e2, trivial⟩)
    rw [← eO] at hC
    obtain ⟨l0, x0, x1, x2, -, -, -⟩ := a0
    obtain ⟨l2, y0, y1, y2, f0, f1, f2⟩ := a2
    have hOX : loB h g = true → loH h g = withS h g ⟨0, 0, 0⟩ := fun e => by unfold loH; rw [if_pos e]
    have hON : loB h g = false → loH h g = h := fun e => by unfold loH; rw [if_neg (by simp [e])]
    generalize loB h g = ok at *
    clear eO hF p0 p1
    go_enter Tryd.func21, Tryd.ntmps21
    go_upto_region 1 with fail
    rw [← hw0]
    clear hw0
    go_wp2_with (first
      | (go_at_call 39; refine Calls.mono hC ?_; rintro e w' ⟨p', c', q', d', rfl, hnew, hold, W1, W2, hb1, hA, -, hb2⟩; have hb := (hb1.trans (hA.pure.mono hb1.size)).trans hb2; obtain ⟨hc, hf, hb, hz⟩ := bstep hb (w := w0) (by go_grown))
    )
    refine bodyPost_ret (by simp [results, Tryd.results21, go_sem, *]; try rfl) rfl ?_
    cases ok with
    | true =>
      have ho := hnew rfl
      rw [hOX rfl]
      have hz := (((ho.under (g := w.heap.size + 1) (by omega) 0 (.slice p' h.n c')).under (g := w.heap.size + 1) (by omega) 1 (.slice q' h.m d')).under (g := w.heap.size + 1) (by omega) 2 (.bool h.b)).lower (show w.heap.size ≤ w0.heap.size by omega)
      exact ⟨p', c', q', d', rfl, hz.at, ⟨fun _ => ⟨hz.newW, hz.newS⟩, fun h => (by cases h)⟩, (((bjoin hb hst).setCell (by show w.heap.size ≤ w.heap.size + 1; omega) _).setCell (by show w.heap.size ≤ w.heap.size + 1; omega) _).setCell (by show w.heap.size ≤ w.heap.size + 1; omega) _⟩
    | false =>
      obtain ⟨rfl, rfl, rfl, rfl⟩ := hold rfl
      rw [hON rfl]
      have hbb := (((bjoin hb hst).setCell (p := ⟨w.heap.size + 1, 0, none⟩) (by show w.heap.size ≤ w.heap.size + 1; omega) (.slice p' h.n c')).setCell (p := ⟨w.heap.size + 1, 1, none⟩) (by show w.heap.size ≤ w.heap.size + 1; omega) (.slice q' h.m d')).setCell (p := ⟨w.heap.size + 1, 2, none⟩) (by show w.heap.size ≤ w.heap.size + 1; omega) (.bool h.b)
      exact ⟨p', c', q', d', rfl, hh.below hbb, ⟨fun h => (by cases h), fun _ => ⟨rfl, rfl, rfl, rfl⟩⟩, hbb⟩
  · have eO : loB h g = false := by unfold loB; rw [inI_no hg]; rfl
    have hON : loH h g = h := by unfold loH; rw [if_neg (by simp [eO])]
    rw [hON, eO]
    have hC := change_out (v := .func (.func 44) #[] #[]) hat (form_iff.1 hF).2.1 hg
    obtain ⟨l0, x0, x1, x2, -, -, -⟩ := a0
    obtain ⟨l2, y0, y1, y2, f0, f1, f2⟩ := a2
    clear eO hON hF
    go_enter Tryd.func21, Tryd.ntmps21
    go_upto_region 1 with fail
    rw [← hw0]
    clear hw0
    go_wp2_with (first
      | (go_at_call 39; refine Calls.mono hC ?_; rintro e w' ⟨rfl, hb⟩; obtain ⟨hc, hf, hb, hz⟩ := bstep hb (w := w0) (by go_grown))
    )
    refine bodyPost_ret (by simp [results, Tryd.results21, go_sem, *]; try rfl) rfl ?_
    have hbb := (((bjoin hb hst).setCell (p := ⟨w.heap.size + 1, 0, none⟩) (by show w.heap.size ≤ w.heap.size + 1; omega) (.slice p h.n c)).setCell (p := ⟨w.heap.size + 1, 1, none⟩) (by show w.heap.size ≤ w.heap.size + 1; omega) (.slice q h.m d)).setCell (p := ⟨w.heap.size + 1, 2, none⟩) (by show w.heap.size ≤ w.heap.size + 1; omega) (.bool h.b)
    exact ⟨p, c, q, d, rfl, hh.below hbb, ⟨fun h => (by cases h), fun _ => ⟨rfl, rfl, rfl, rfl⟩⟩, hbb⟩
