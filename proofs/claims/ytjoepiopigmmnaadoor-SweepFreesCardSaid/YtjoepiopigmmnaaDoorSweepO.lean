/- Contracts of the code's sweep (chapter 12): One, All; all by a heap's three cells. -/
import Derived.Test.YtjoepiopigmmnaaDoorSweep
namespace Go.Proofs.YtjoepiopigmmnaaDoor
set_option linter.unusedSimpArgs false
set_option linter.unusedVariables false
open Go.ChangeShapes Go.WideShapes Go.ChangeAt Go.RowKit Go.Joins

/-- The page once its span is clean, and closed. -/
theorem with_with (h : Hp) (p : Int) (x y : Sp) : withS (withS h p x) p y = withS h p y := by
  unfold withS
  congr 1
  funext j
  unfold setS
  split
  · rfl
  · rename_i hn; exact if_neg hn
theorem clS_no {s : Sp} {k : Bool} (e : emptyB 1 s.cl s.fr = false ∨ k = true) (hr : rightB 1 s.cl s.fr = true) (hm : Mask s.fr) : clS k s = ⟨1, s.cl, s.fr⟩ := by
  unfold clS
  rw [if_neg]
  rintro ⟨h1, h2⟩
  rcases e with e | e
  · rw [empty_lo hr hm] at e
    simp [h1] at e
  · rw [h2] at e; cases e
theorem clS_yes {s : Sp} (e : emptyB 1 s.cl s.fr = true) (hr : rightB 1 s.cl s.fr = true) (hm : Mask s.fr) : clS false s = ⟨0, 0, 0⟩ := by
  unfold clS
  rw [empty_lo hr hm] at e
  rw [if_pos ⟨by simpa using e, rfl⟩]
theorem sclose_in {w : World} {p : Option Addr} {n c : Nat} {q : Option Addr} {m d : Nat} {b : Bool} {h : Hp} {g : Int} (hS : Sz w) (hh : HpIn w p n c q m d b h) (hF : formB h = true) :
    Calls Tryd.prog 41 #[.agg #[.slice p n c, .slice q m d, .bool b], .int .i64 g] w fun e w' => ∃ p' c' q' d', e = .returned (.tuple #[.agg #[.slice p' n c', .slice q' m d', .bool b], .bool (loB h g)]) ∧
      HpIn w' p' n c' q' m d' b (loH h g) ∧ Src w.heap.size (loB h g) n m p c q d p' c' q' d' ∧ Below w.heap.size w w' := by
  obtain ⟨rfl, rfl, rfl, hh⟩ := hh
  refine Calls.mono (hclose_any _ _ _ _ _ g _ hS hh hF) ?_
  rintro e w' ⟨p', c', q', d', rfl, h1, h2, h3⟩
  obtain ⟨a1, a2, a3⟩ := lo_n h g
  exact ⟨p', c', q', d', rfl, ⟨a1.symm, a2.symm, a3.symm, h1⟩, h2, h3⟩
set_option maxRecDepth 20000 in
set_option maxHeartbeats 4000000 in
theorem sone_any (p : Option Addr) (c : Nat) (q : Option Addr) (d : Nat) (h : Hp) (pc : Option Addr) (k cc : Nat) (y : Nat → Int) (w : World) (hS : Sz w) (hh : HpAt w p c q d h) (hF : formB h = true) (hin : Ints .i64 w pc (k * 4) y) (hk : k ≤ 1000) :
    Calls Tryd.prog 19 #[.agg #[.slice p h.n c, .slice q h.m d, .bool h.b], .slice pc k cc] w fun e w' => ∃ p' c' q' d', e = .returned (.tuple #[.agg #[.slice p' h.n c', .slice q' h.m d', .bool h.b], .int .i64 ((onP h).getD 0 : Nat), .int .i64 (onW h), .bool (onP h).isSome]) ∧
      HpIn w' p' h.n c' q' h.m d' h.b (onH h k y) ∧ Src w.heap.size (onP h).isSome h.n h.m p c q d p' c' q' d' ∧ Below w.heap.size w w' := by
  have hm16 : h.m ≤ 16 := (form_iff.1 hF).2.1
  have hb0 : 0 < h.n ∧ h.n ≤ 512 ∧ 0 < h.m := by have := form_iff.1 hF; omega
  obtain ⟨w0, hw0, hB0, hR, hst0⟩ := boxed2 (w := w) (v0 := .slice p h.n c) (v1 := .slice q h.m d) (v2 := .bool h.b) (u0 := .slice none 0 0) (u1 := .slice none 0 0) (u2 := .bool false) (t := 25)
  have hat := hh.below hst0
  have hS0 := hS.below hst0
  have hY := hin.below hst0
  have hl0 : w.heap.size + 2 ≤ w0.heap.size := hR.1
  have hwf := hh.wf
  have hI : ∀ W, Below w0.heap.size w0 W → Calls Tryd.prog 36 #[.slice q h.m d, .func (.func 37) #[] #[]] W fun e w' => e = .returned (.int .i64 (ixI (onP h))) ∧ Below W.heap.size W w' := fun W hW => sidxf_any q h.m d h.s W (hat.spans.below hW) hm16
  cases e : onP h with
  | none =>
    obtain ⟨eH, eW⟩ := on_stay e k y
    rw [eH, eW]
    simp only [e, ixI] at hI
    obtain ⟨l0, x0, x1, x2, -, -, -⟩ := id hB0
    obtain ⟨l1, y0, y1, y2, f0, f1, f2⟩ := id hR
    clear hF e eH eW
    go_enter Tryd.func19, Tryd.ntmps19
    go_upto_region 1 with fail
    rw [← hw0]
    clear hw0
    go_wp2_with (first
      | (go_at_call 36; refine Calls.mono (hI _ (Below.refl _ _)) ?_; rintro e w1 ⟨rfl, hb⟩; obtain ⟨hc, hf, hb, hz⟩ := bstep hb (w := w0) (by go_grown))
    )
    refine bodyPost_ret (by simp [results, Tryd.results19, go_sem, *]; try rfl) rfl ?_
    have hbb := below_stores (bjoin hb hst0) (g := w.heap.size + 1) (Nat.le_succ _) (.slice p h.n c) (.slice q h.m d) (.bool h.b)
    exact ⟨p, c, q, d, rfl, hh.in.below hbb, ⟨fun h => (by cases h), fun _ => ⟨rfl, rfl, rfl, rfl⟩⟩, hbb⟩
  | some g =>
    obtain ⟨hg, hst, -⟩ := on_some e
    obtain ⟨R, eR⟩ : ∃ R, R = swA h g 32 := ⟨_, rfl⟩
    have S := swp hF hwf hg 32 (Nat.le_refl _)
    have eH : onH h k y = withS R.1 g (clS (keptY k y g) (spH R.1 g)) := by unfold onH; rw [e, eR]
    have eW : onW h = R.2 := by unfold onW; rw [e, eR]
    rw [eH, eW]
    rw [← eR] at S
    have hFW := fun W (hW : Below w0.heap.size w0 W) => sfreew_any p c q d h g W (hS0.below hW) (hat.below hW) hF hg hst R eR.symm
    simp only [e, ixI] at hI
    obtain ⟨mm1, mm2, mm3⟩ : R.1.n = h.n ∧ R.1.m = h.m ∧ R.1.b = h.b := ⟨S.nn, S.mm, S.bb⟩
    have hr2 : rightB 2 (R.1.s g).cl (R.1.s g).fr = true := by
      have h1 := form_at S.form (p := (g : Int)) (by omega) (by omega)
      have h2 := S.st (g : Int) (by omega)
      rw [spH_nat] at h1 h2
      rw [spH_nat] at h2
      rw [h2, hst] at h1
      exact h1
    have hr1 : rightB 1 (R.1.s g).cl (R.1.s g).fr = true := by
      rcases right_iff.1 hr2 with ⟨h0, -⟩ | ⟨-, c0, c1, h2⟩
      · omega
      · exact right_iff.2 (.inr ⟨.inl rfl, c0, c1, h2⟩)
    have hmask : Mask (R.1.s g).fr := by
      have := wf_mask S.wf (p := (g : Int)) (by omega) (by omega)
      rwa [spH_nat] at this
    have hF2 : formB (withS R.1 g ⟨1, (R.1.s g).cl, (R.1.s g).fr⟩) = true := form_with S.form hr1
    have hcn := fun hc => clS_no (s := R.1.s g) (k := keptY k y g) hc hr1 hmask
    have hcy := fun hc => clS_yes (s := R.1.s g) hc hr1 hmask
    have hlo : emptyB 1 (R.1.s g).cl (R.1.s g).fr = true → loB (withS R.1 g ⟨1, (R.1.s g).cl, (R.1.s g).fr⟩) g = true := fun he => by
      rw [empty_lo hr1 hmask] at he
      unfold loB
      rw [spH_with _ _ (by omega), show (withS R.1 g ⟨1, (R.1.s g).cl, (R.1.s g).fr⟩).m = R.1.m from rfl, inI_yes (by omega) (by omega), Bool.true_and]
      exact he
    rw [spH_nat]
    obtain ⟨X, eX⟩ : ∃ X, clS (keptY k y g) (R.1.s g) = X := ⟨_, rfl⟩
    rw [eX]
    have hEm := fun W (hW : Below w0.heap.size w0 W) => sempty_any 1 (R.1.s g).cl (R.1.s g).fr W (right_ok hr1) (hS0.below hW)
    have hKp := fun W (hW : Below w0.heap.size w0 W) => tkept_any pc k cc y g W (hY.below hW) hk
    have hF' : Hid (formB h = true) := hF
    obtain ⟨n0, n1, m0⟩ := hb0
    clear hr2 hr1 hmask S hst e eH eW eR hF hwf
    obtain ⟨l0, x0, x1, x2, -, -, -⟩ := id hB0
    go_enter Tryd.func19, Tryd.ntmps19
    go_upto_region 1 with fail
    rw [← hw0]
    clear hw0
    go_upto_region 4 with (first
      | (go_at_call 36; refine Calls.mono (hI _ (Below.refl _ _)) ?_; rintro e w1 ⟨rfl, hb1⟩)
    )
    have x01 := (hb1.cell (p := ⟨w.heap.size, 0, none⟩) l0).trans x0
    have x11 := (hb1.cell (p := ⟨w.heap.size, 1, none⟩) l0).trans x1
    have x21 := (hb1.cell (p := ⟨w.heap.size, 2, none⟩) l0).trans x2
    go_upto_region 5 with (first
      | (go_at_call 38; refine Calls.mono (hFW _ hb1) ?_; rintro e w2 ⟨p1, c1, q1, d1, rfl, hO, hb2⟩)
    )
    obtain ⟨w3, hw3⟩ : ∃ W, W = w2.alloc (.cells #[.slice p1 h.n c1, .slice q1 h.m d1, .bool h.b] 25) := ⟨_, rfl⟩
    have gG : Box3 w2.heap.size (.slice p1 h.n c1) (.slice q1 h.m d1) (.bool h.b) w3 := by rw [hw3]; exact Box3.new _ _ _ _ _
    have hB3 : Below w2.heap.size w2 w3 := by rw [hw3]; exact (Below.refl _ _).alloc (Nat.le_refl _) _
    have hb3 : Below w0.heap.size w0 w3 := bjoin hB3 (bjoin hb2 hb1)
    have hoff := hO.offNew ⟨n0, m0⟩ (g := w2.heap.size) (Nat.le_refl _)
    have hO3 := (hO.below hB3).lower (show w0.heap.size ≤ w1.heap.size from hb1.size)
    have hR3 := hR.below hb3
    have hG0 : w0.heap.size ≤ w2.heap.size := (bjoin hb2 hb1).size
    rw [← hw3]
    clear hw3 hB3 hb1 hb2 x0 x1 x2 x01 x11 x21 l0 hI hFW hO hB0 hR
    generalize w2.heap.size = G at *
    have hown := hO3.own
    have hgm : g < R.1.m := by omega
    have e1 : Hid (h.n = R.1.n) := mm1.symm
    have e2 : Hid (h.m = R.1.m) := mm2.symm
    have e3 : Hid (h.b = R.1.b) := mm3.symm
    clear mm1 mm2 mm3 hO3
    obtain ⟨gs, rfl, lgs, lgs'⟩ := hown.span (by omega)
    have hGg : ¬ G = gs := fun ee => hoff.2 (by rw [ee]; rfl)
    obtain ⟨u0, v0, hown'⟩ := hown.state (i := g) hgm (x := 1) (by decide)
    obtain ⟨⟨b', off, eq, hlt, s0, s1, s2⟩, -⟩ := hown.at.spans g hgm
    injection eq with eq
    injection eq with eb eo
    subst eb eo
    rw [Nat.zero_add] at s0 s1 s2
    have hown2 : HpOwn (w3.setCell ⟨gs, g * 3, none⟩ (.int .i64 1)) w0.heap.size p1 c1 (some ⟨gs, 0, none⟩) d1 (withS R.1 g ⟨1, (R.1.s g).cl, (R.1.s g).fr⟩) := hown'
    clear hown' hown s0
    obtain ⟨lG, z0, z1, z2, -, -, -⟩ := id gG
    go_upto_region 6 with fail
    obtain ⟨w4, hw4⟩ : ∃ W, W = w3.setCell ⟨gs, g * 3, none⟩ (.int .i64 1) := ⟨_, rfl⟩
    have gG4 : Box3 G (.slice p1 h.n c1) (.slice (some ⟨gs, 0, none⟩) h.m d1) (.bool h.b) w4 := by rw [hw4]; exact gG.other (fun ee => hGg ee.symm) _ _
    have hR4 : Box3 (w.heap.size + 1) (.slice none 0 0) (.slice none 0 0) (.bool false) w4 := by rw [hw4]; exact hR3.other (by omega) _ _
    have hb4 : Below w0.heap.size w0 w4 := by rw [hw4]; exact hb3.setCell (by show w0.heap.size ≤ gs; omega) _
    rw [← hw4] at hown2 ⊢
    clear hw4 z0 z1 z2 lG gG hR3 hb3 s1 s2 u0 v0 hlt lgs'
    have hO4 : OwnIn w4 w0.heap.size p1 h.n c1 (some ⟨gs, 0, none⟩) h.m d1 h.b (withS R.1 g ⟨1, (R.1.s g).cl, (R.1.s g).fr⟩) := ⟨e1.out, e2.out, e3.out, hown2⟩
    obtain ⟨⟨b', off, eq, hlt, s0, s1, s2⟩, -⟩ := hown2.at.spans g hgm
    injection eq with eq
    injection eq with eb eo
    subst eb eo
    have esp : (withS R.1 g ⟨1, (R.1.s g).cl, (R.1.s g).fr⟩).s g = ⟨1, (R.1.s g).cl, (R.1.s g).fr⟩ := by rw [← spH_nat]; exact spH_with _ _ (by omega)
    rw [Nat.zero_add, esp] at s0 s1 s2
    simp only [] at s0 s1 s2
    obtain ⟨lG, z0, z1, z2, fz0, fz1, fz2⟩ := id gG4
    obtain ⟨lR, y0, y1, y2, f0, f1, f2⟩ := id hR4
    clear hown2 esp
    replace hF2 : Hid (formB _ = true) := hF2
    have hKs : Hid (keptY k y g = keptY k y g) := rfl
    cases eE : emptyB 1 (R.1.s g).cl (R.1.s g).fr with
    | false =>
      have hC : Hid (X = _) := eX.symm.trans (hcn (.inl eE))
      simp only [eE] at hEm
      clear hcn hcy hlo eX
      generalize (R.1.s g).cl = cl at *
      generalize (R.1.s g).fr = fr at *
      go_wp2_with (first
        | (go_at_call 39; refine Calls.mono (hEm _ hb4) ?_; rintro e w5 ⟨rfl, hb⟩; obtain ⟨hc, hf, hb, hz⟩ := bstep hb (w := w4) (by go_grown))
      )
      refine bodyPost_ret (by simp [results, Tryd.results19, go_sem, *]; try rfl) rfl ?_
      have hz5 := ((hO4.below hb).stores (hO4.off (g := w.heap.size + 1) (by omega)) (.slice p1 h.n c1) (.slice (some ⟨gs, 0, none⟩) h.m d1) (.bool h.b)).lower (show w.heap.size ≤ w0.heap.size by omega)
      exact ⟨p1, c1, _, d1, rfl, by rw [hC.out]; exact hz5.in, ⟨fun _ => ⟨hz5.newW, hz5.newS⟩, fun h => (by cases h)⟩, below_stores (bjoin hb (bjoin hb4 hst0)) (Nat.le_succ _) _ _ _⟩
    | true =>
      simp only [eE] at hEm
      cases eK : keptY k y g with
      | true =>
        have hC : Hid (X = _) := eX.symm.trans (hcn (.inr eK))
        simp only [eK] at hKp
        clear hcn hcy hlo eX eE
        generalize (R.1.s g).cl = cl at *
        generalize (R.1.s g).fr = fr at *
        go_wp2_with (first
          | (go_at_call 39; refine Calls.mono (hEm _ hb4) ?_; rintro e w5 ⟨rfl, hb5⟩)
          | (go_at_call 40; refine Calls.mono (hKp _ (bjoin hb5 hb4)) ?_; rintro e w6 ⟨rfl, hb6⟩; obtain ⟨hc, hf, hb, hz⟩ := bstep (bjoin hb6 hb5) (w := w4) (Below.refl _ _))
        )
        refine bodyPost_ret (by simp [results, Tryd.results19, go_sem, *]; try rfl) rfl ?_
        have hz5 := ((hO4.below hb).stores (hO4.off (g := w.heap.size + 1) (by omega)) (.slice p1 h.n c1) (.slice (some ⟨gs, 0, none⟩) h.m d1) (.bool h.b)).lower (show w.heap.size ≤ w0.heap.size by omega)
        exact ⟨p1, c1, _, d1, rfl, by rw [hC.out]; exact hz5.in, ⟨fun _ => ⟨hz5.newW, hz5.newS⟩, fun h => (by cases h)⟩, below_stores (bjoin hb (bjoin hb4 hst0)) (Nat.le_succ _) _ _ _⟩
      | false =>
        rw [eK] at eX
        have hC : Hid (X = _) := eX.symm.trans (hcy eE)
        simp only [eK] at hKp
        have hL := hlo eE
        have hCl := fun W (hW : Below w4.heap.size w4 W) => sclose_in (g := (g : Int)) (hS0.below (bjoin hW hb4)) ((hO4.below hW).in) hF2.out
        have eLo : loH (withS R.1 g ⟨1, (R.1.s g).cl, (R.1.s g).fr⟩) g = withS R.1 g ⟨0, 0, 0⟩ := by unfold loH; rw [if_pos hL, with_with]
        simp only [hL, eLo] at hCl
        clear hcn hcy hlo eX eE hL eLo
        generalize (R.1.s g).cl = cl at *
        generalize (R.1.s g).fr = fr at *
        go_upto_region 7 with (first
          | (go_at_call 39; refine Calls.mono (hEm _ hb4) ?_; rintro e w5 ⟨rfl, hb5⟩)
          | (go_at_call 40; refine Calls.mono (hKp _ (bjoin hb5 hb4)) ?_; rintro e w6 ⟨rfl, hb6⟩; obtain ⟨hc, hf, hb, hz⟩ := bstep (bjoin hb6 hb5) (w := w4) (Below.refl _ _))
        )
        replace hCl := hCl _ hb
        replace gG4 := gG4.below hb
        replace hR4 := hR4.below hb
        replace hb4 := bjoin hb hb4
        clear hc hf hz hb5 hb6 hb z0 z1 z2 fz0 fz1 fz2 lG lR y0 y1 y2 f0 f1 f2 s0 s1 s2 hlt hKp hEm hO4
        obtain ⟨lG, z0, z1, z2, fz0, fz1, fz2⟩ := id gG4
        obtain ⟨lR, y0, y1, y2, f0, f1, f2⟩ := id hR4
        go_wp2_with (first
          | (go_at_call 41; refine Calls.mono hCl ?_; rintro e w7 ⟨p2, c2, q2, d2, rfl, hin7, hsrc7, hb7⟩; obtain ⟨hc, hf, hb, hz⟩ := bstep hb7 (w := w6) (Below.refl _ _))
        )
        refine bodyPost_ret (by simp [results, Tryd.results19, go_sem, *]; try rfl) rfl ?_
        obtain ⟨nv1, nv2⟩ := hsrc7.new rfl
        have hcl : ∀ x, x < w6.heap.size → Clear x p2 q2 := fun x hx => ⟨fun b off sp ee => by have := nv1 b (by rw [ee]; rfl); omega, fun b off sp ee => by have := nv2 b (by rw [ee]; rfl); omega⟩
        have hz7 := (hin7.stores (hcl G (by omega)) (.slice p2 h.n c2) (.slice q2 h.m d2) (.bool h.b)).stores (hcl (w.heap.size + 1) (by omega)) (.slice p2 h.n c2) (.slice q2 h.m d2) (.bool h.b)
        have hlw : w.heap.size ≤ w6.heap.size := by omega
        exact ⟨p2, c2, q2, d2, rfl, by rw [hC.out]; exact hz7, ⟨fun _ => ⟨fun b hb => Nat.le_trans hlw (nv1 b hb), fun b hb => Nat.le_trans hlw (nv2 b hb)⟩, fun h => (by cases h)⟩, below_stores (below_stores (bjoin hb (bjoin hb4 hst0)) (by omega) _ _ _) (Nat.le_succ _) _ _ _⟩
set_option maxHeartbeats 4000000 in
theorem sallR_any (p : Option Addr) (c : Nat) (q : Option Addr) (d : Nat) (h : Hp) (pc : Option Addr) (k cc : Nat) (y : Nat → Int) (w : World) (hS : Sz w) (hh : HpAt w p c q d h) (hF : formB h = true) (hin : Ints .i64 w pc (k * 4) y) (hk : k ≤ 1000) (R : Hp × Int) (eR : alA h k y 17 = R) :
    Calls Tryd.prog 10 #[.agg #[.slice p h.n c, .slice q h.m d, .bool h.b], .slice pc k cc] w fun e w' => ∃ p' c' q' d', e = .returned (.tuple #[.agg #[.slice p' h.n c', .slice q' h.m d', .bool h.b], .int .i64 R.2]) ∧
      HpIn w' p' h.n c' q' h.m d' h.b R.1 ∧ Below w.heap.size w w' := by
  have hwf := hh.wf
  have hb0 : 0 < h.n ∧ h.n ≤ 512 ∧ 0 < h.m ∧ h.m ≤ 16 := by have := form_iff.1 hF; omega
  obtain ⟨n0, n1, m0, m1⟩ := hb0
  obtain ⟨w0, hw0, hB0, hB1, hst0⟩ := boxed2 (w := w) (v0 := .slice p h.n c) (v1 := .slice q h.m d) (v2 := .bool h.b) (u0 := .slice none 0 0) (u1 := .slice none 0 0) (u2 := .bool false) (t := 25)
  have hl0 : w.heap.size + 2 ≤ w0.heap.size := hB1.1
  have hat := hh.below hst0
  have hC := scopy_any p c q d h w0 hat hF
  have hno : Hid (∀ i : Nat, onP (alA h k y i).1 = none → i ≤ drH h → alA h k y i = R) := fun i e hi => ((st_no hF hwf e hi).2.symm.trans eR)
  have hyes : Hid (∀ i x : Nat, onP (alA h k y i).1 = some x → x < h.m ∧ i + 1 ≤ drH h ∧ 0 ≤ (alA h k y i).2 ∧ (alA h k y i).2 ≤ 512 ∧ 0 ≤ (alA h k y i).2 + onW (alA h k y i).1 ∧ (alA h k y i).2 + onW (alA h k y i).1 ≤ 512 ∧ 0 ≤ onW (alA h k y i).1) := fun i x e => by
    have Y := st_yes hF hwf e
    exact ⟨Y.lt, Y.next, Y.pos.1, Y.pos.2, Y.pos1.1, Y.pos1.2, Y.w0⟩
  have hone : Hid (∀ i : Nat, alA h k y (i + 1) = (onH (alA h k y i).1 k y, (alA h k y i).2 + onW (alA h k y i).1)) := fun i => al_one h k y i
  have hfm : Hid (∀ i : Nat, formB (alA h k y i).1 = true ∧ (alA h k y i).1.n = h.n ∧ (alA h k y i).1.m = h.m ∧ (alA h k y i).1.b = h.b) := fun i => by
    obtain ⟨a1, -, a3, a4, a5, -⟩ := al_form hF hwf k y i
    exact ⟨a1, a3, a4, a5⟩
  have h00 : alA h k y 0 = (h, 0) := rfl
  clear eR hwf hF
  go_enter Tryd.func10, Tryd.ntmps10
  go_upto_region 1 with fail
  rw [← hw0]
  clear hw0
  obtain ⟨l0, x0, x1, x2, -, -, -⟩ := id hB0
  go_upto_region 2 with (first
    | (go_at_call 30; refine Calls.mono hC ?_; rintro e w1 ⟨p1, c1, q1, d1, rfl, hO, hb⟩)
  )
  obtain ⟨w2, hw2⟩ : ∃ W, W = w1.alloc (.cells #[.slice p1 h.n c1, .slice q1 h.m d1, .bool h.b] 25) := ⟨_, rfl⟩
  have hB2 : Below w1.heap.size w1 w2 := by rw [hw2]; exact (Below.refl _ _).alloc (Nat.le_refl _) _
  have gG : Box3 w1.heap.size (.slice p1 h.n c1) (.slice q1 h.m d1) (.bool h.b) w2 := by rw [hw2]; exact Box3.new _ _ _ _ _
  have hO1 : OwnIn w1 w0.heap.size p1 h.n c1 q1 h.m d1 h.b h := ⟨rfl, rfl, rfl, hO⟩
  have clr : ∀ g, Off g p1 h.n c1 q1 h.m d1 → Clear g p1 q1 := fun g ho => ⟨fun b off sp e eb => ho.1 (by rw [e, eb]; rfl), fun b off sp e eb => ho.2 (by rw [e, eb]; rfl)⟩
  have hoff := clr _ (hO1.offNew ⟨n0, m0⟩ (g := w1.heap.size) (Nat.le_refl _))
  have hoffR := clr _ (hO1.off (g := w.heap.size + 1) (by omega))
  have hs0 := (hO1.below hB2).in
  have hb2 := bjoin hB2 hb
  have hR2 := hB1.below hb2
  have hbW := bjoin hb2 hst0
  have hG0 : w.heap.size + 1 < w1.heap.size := by have := hb.size; omega
  rw [← hw2]
  clear hw2 hB2 hb hst0 x0 x1 x2 l0 hC hO hO1 hb2 hat hh hB1 hB0 clr
  generalize w1.heap.size = G at *
  go_loopg [7] (drH h + 1) (fun gg tv wr => ∃ (i : Nat) (p' : Option Addr) (c' : Nat) (q' : Option Addr) (d' : Nat), i ≤ drH h ∧ gg = drH h + 1 - i ∧ tv = .int .i64 (alA h k y i).2 ∧ HpIn wr p' h.n c' q' h.m d' h.b (alA h k y i).1 ∧ Clear G p' q' ∧ Clear (w.heap.size + 1) p' q' ∧ Box3 G (.slice p' h.n c') (.slice q' h.m d') (.bool h.b) wr ∧ Box3 (w.heap.size + 1) (.slice none 0 0) (.slice none 0 0) (.bool false) wr ∧ Below w.heap.size w wr)
  case atStart => exact ⟨0, p1, c1, q1, d1, Nat.zero_le _, by omega, by rw [h00], by rw [h00]; exact hs0, hoff, hoffR, gG, hR2, hbW⟩
  case round =>
    clear hs0 hoff hoffR gG hR2 hbW h00
    obtain ⟨i, p', c', q', d', ih, rfl, rfl, hI, hcG, hcR, gG, hR, hbw⟩ := hrel
    have hN := hno.out i
    have hY := hyes.out i
    have hnx := hone.out i
    obtain ⟨hFr, e1, e2, e3⟩ := hfm.out i
    have hSr := hS.below hbw
    have hinr := hin.below hbw
    generalize alA h k y i = r at *
    have hOn := sone_any p' c' q' d' r.1 pc k cc y wr hSr hI.at' hFr hinr hk
    rw [e1, e2, e3] at hOn
    obtain ⟨lG, z0, z1, z2, f0, f1, f2⟩ := id gG
    obtain ⟨lR, y0, y1, y2, g0, g1, g2⟩ := id hR
    clear e1 e2 e3 hFr
    cases e : onP r.1 with
    | none =>
      have hr : Hid (r = R) := hN e ih
      rw [e] at hOn
      simp only [Option.getD_none, Option.isSome_none] at hOn
      clear hN hY hnx e
      go_upto_region 3 with (first
        | (go_at_call 19; refine Calls.mono hOn ?_; rintro e w4 ⟨p2, c2, q2, d2, rfl, -, -, hb4⟩)
      )
      obtain ⟨w5, hw5⟩ : ∃ W, W = w4.alloc (.cells #[.slice p2 h.n c2, .slice q2 h.m d2, .bool h.b] 25) := ⟨_, rfl⟩
      have hb5 : Below wr.heap.size wr w5 := by rw [hw5]; exact bjoin ((Below.refl w4.heap.size w4).alloc (Nat.le_refl _) _) hb4
      rw [← hw5]
      replace gG := gG.below hb5
      replace hR := hR.below hb5
      replace hI := hI.below hb5
      replace hbw := bjoin hb5 hbw
      clear hw5 hb4 hb5 hOn lG z0 z1 z2 f0 f1 f2 lR y0 y1 y2 g0 g1 g2
      obtain ⟨lG, z0, z1, z2, f0, f1, f2⟩ := id gG
      obtain ⟨lR, y0, y1, y2, g0, g1, g2⟩ := id hR
      go_wp2
      refine bodyPost_ret (by simp [results, Tryd.results10, go_sem, *]; try rfl) rfl ?_
      have hz4 := hI.stores hcR (.slice p' h.n c') (.slice q' h.m d') (.bool h.b)
      exact ⟨p', c', q', d', by rw [hr.out], by rw [← hr.out]; exact hz4, below_stores hbw (Nat.le_succ _) _ _ _⟩
    | some x =>
      obtain ⟨hx, hi1, t0, t1, t2, t3, t4⟩ := hY x e
      rw [e] at hOn
      simp only [Option.getD_some, Option.isSome_some] at hOn
      replace hnx : Hid (_ = _) := hnx
      have hfst : Hid ((alA h k y (i + 1)).1 = onH r.1 k y) := by show (alA h k y (i + 1)).1 = _; rw [hnx.out]
      have hsnd : Hid ((alA h k y (i + 1)).2 = r.2 + onW r.1) := by show (alA h k y (i + 1)).2 = _; rw [hnx.out]
      clear hN hY e hnx
      generalize onW r.1 = W1 at *
      go_upto_region 3 with (first
        | (go_at_call 19; refine Calls.mono hOn ?_; rintro e w4 ⟨p2, c2, q2, d2, rfl, hI4, hsrc4, hb4⟩)
      )
      obtain ⟨w5, hw5⟩ : ∃ W, W = w4.alloc (.cells #[.slice p2 h.n c2, .slice q2 h.m d2, .bool h.b] 25) := ⟨_, rfl⟩
      have gK : Box3 w4.heap.size (.slice p2 h.n c2) (.slice q2 h.m d2) (.bool h.b) w5 := by rw [hw5]; exact Box3.new _ _ _ _ _
      have hb45 : Below w4.heap.size w4 w5 := by rw [hw5]; exact (Below.refl w4.heap.size w4).alloc (Nat.le_refl _) _
      have hb5 : Below wr.heap.size wr w5 := bjoin hb45 hb4
      rw [← hw5]
      have hI5 := hI4.below hb45
      obtain ⟨nv1, nv2⟩ := hsrc4.new rfl
      have hcl : ∀ u, u < wr.heap.size → Clear u p2 q2 := fun u hu => ⟨fun b off sp ee => by have := nv1 b (by rw [ee]; rfl); omega, fun b off sp ee => by have := nv2 b (by rw [ee]; rfl); omega⟩
      have hcG2 := hcl G lG
      have hcR2 := hcl (w.heap.size + 1) lR
      replace gG := gG.below hb5
      replace hR := hR.below hb5
      replace hbw := bjoin hb5 hbw
      clear hw5 hb4 hb5 hb45 hOn lG z0 z1 z2 f0 f1 f2 lR y0 y1 y2 g0 g1 g2 hI hI4 hsrc4 nv1 nv2 hcl hcG hcR
      generalize w4.heap.size = K at *
      obtain ⟨lG, z0, z1, z2, f0, f1, f2⟩ := id gG
      obtain ⟨lK, k0, k1, k2, -, -, -⟩ := id gK
      go_wp2
      go_roundg (drH h + 1 - (i + 1))
      case measure => omega
      case rel => exact ⟨i + 1, p2, c2, q2, d2, by omega, rfl, by rw [hsnd.out], by rw [hfst.out]; exact hI5.stores hcG2 _ _ _, hcG2, hcR2, gG.stores _ _ _, hR.others (by omega) _ _ _, below_stores hbw (by omega) _ _ _⟩
section
variable {w : World} {p : Option Addr} {n c : Nat} {q : Option Addr} {m d : Nat} {b : Bool} {h : Hp} {pc : Option Addr} {k cc : Nat} {y : Nat → Int}
theorem sbegin_in (hS : Sz w) (hT : Tab w) (hh : HpIn w p n c q m d b h) (hF : formB h = true) :
    Calls Tryd.prog 21 #[.agg #[.slice p n c, .slice q m d, .bool b]] w fun e w' => ∃ p' c' q' d', e = .returned (.agg #[.slice p' n c', .slice q' m d', .bool b]) ∧ HpIn w' p' n c' q' m d' b (bgH h) ∧ NewV w.heap.size (.slice p' n c') ∧ NewV w.heap.size (.slice q' m d') ∧ Below w.heap.size w w' := by
  obtain ⟨rfl, rfl, rfl, hh⟩ := hh
  refine Calls.mono (sbegin_any p c q d h w hh hF) ?_
  rintro e w' ⟨p', c', q', d', rfl, ho, hb⟩
  have ho2 : HpOwn w' w.heap.size p' c' q' d' (bgH h) := ho.congr (z := h.z) (s := fun i => bgS (h.s i)) (b := h.b) (fun _ _ => rfl) (fun i hi => bgTo_is h.s h.m i hi)
  exact ⟨p', c', q', d', rfl, ho2.at.in, ho2.newW, ho2.newS, hb⟩
theorem sdirty_in (hS : Sz w) (hT : Tab w) (hh : HpIn w p n c q m d b h) (hF : formB h = true) :
    Calls Tryd.prog 23 #[.agg #[.slice p n c, .slice q m d, .bool b]] w fun e w' => e = .returned (.int .i64 (drH h : Nat)) ∧ Below w.heap.size w w' := by
  obtain ⟨rfl, rfl, rfl, hh⟩ := hh
  exact sdirty_any p c q d h w hh (form_iff.1 hF).2.1
theorem sone_in (hS : Sz w) (hT : Tab w) (hh : HpIn w p n c q m d b h) (hF : formB h = true) (hin : Ints .i64 w pc (k * 4) y) (hk : k ≤ 1000) :
    Calls Tryd.prog 19 #[.agg #[.slice p n c, .slice q m d, .bool b], .slice pc k cc] w fun e w' => ∃ p' c' q' d', e = .returned (.tuple #[.agg #[.slice p' n c', .slice q' m d', .bool b], .int .i64 ((onP h).getD 0 : Nat), .int .i64 (onW h), .bool (onP h).isSome]) ∧
      HpIn w' p' n c' q' m d' b (onH h k y) ∧ Src w.heap.size (onP h).isSome n m p c q d p' c' q' d' ∧ Below w.heap.size w w' := by
  obtain ⟨rfl, rfl, rfl, hh⟩ := hh
  exact sone_any p c q d h pc k cc y w hS hh hF hin hk
theorem sall_in (hS : Sz w) (hT : Tab w) (hh : HpIn w p n c q m d b h) (hF : formB h = true) (hin : Ints .i64 w pc (k * 4) y) (hk : k ≤ 1000) :
    Calls Tryd.prog 10 #[.agg #[.slice p n c, .slice q m d, .bool b], .slice pc k cc] w fun e w' => ∃ p' c' q' d', e = .returned (.tuple #[.agg #[.slice p' n c', .slice q' m d', .bool b], .int .i64 (alA h k y 17).2]) ∧
      HpIn w' p' n c' q' m d' b (alA h k y 17).1 ∧ Below w.heap.size w w' := by
  obtain ⟨rfl, rfl, rfl, hh⟩ := hh
  obtain ⟨R, eR⟩ : ∃ R, alA h k y 17 = R := ⟨_, rfl⟩
  rw [eR]
  exact sallR_any p c q d h pc k cc y w hS hh hF hin hk R eR
end
end Go.Proofs.YtjoepiopigmmnaaDoor
