import Derived.Test.YtkehankfnkjnlaaGreatDoorV27
namespace Go.Proofs.YtkehankfnkjnlaaGreatDoor
set_option linter.unusedSimpArgs false
set_option linter.unusedVariables false
set_option maxHeartbeats 16000000
set_option maxRecDepth 20000
open Go.ChangeAt Go.ChangeShapes Go.Joins Go.RowKit Go.WideShapes
variable {h : Hp} {w w' W W' : World} {p q : Option Addr} {n g : Nat} {a : Int} {v : Value}
theorem zrr (h : Hp) (p : Int) (x y : Sp) : withS (withS h p x) p y = withS h p y := by
 unfold withS
 congr 1
 funext j
 unfold setS
 split
 ·rfl
 ·rename_i hn; exact if_neg hn
theorem clS_no {s : Sp} {k : Bool} (e : emptyB 1 s.cl s.fr = false ∨ k = true) (hr : rightB 1 s.cl s.fr = true) (hm : Mask s.fr) : clS k s = ⟨1, s.cl, s.fr⟩ := by
 unfold clS
 rw [if_neg]
 rintro ⟨h1, h2⟩
 rcases e with e | e
 ·rw [zf8 hr hm] at e
  simp [h1] at e
 ·rw [h2] at e; cases e
theorem zw0 {s : Sp} (e : emptyB 1 s.cl s.fr = true) (hr : rightB 1 s.cl s.fr = true) (hm : Mask s.fr) : clS false s = ⟨0, 0, 0⟩ := by
 unfold clS
 rw [zf8 hr hm] at e
 rw [if_pos ⟨by simpa using e, rfl⟩]
theorem zua {n c : Nat} {m d : Nat} {b : Bool} {g : Int} (hS : Sz w) (hh : HpIn w p n c q m d b h) (hF : formB h = true) :
  Calls Tryz.prog 114 #[.agg #[.slice p n c, .slice q m d, .bool b], .int .i64 g] w fun e w' => ∃ p' c' q' d', e = .returned (.tuple #[.agg #[.slice p' n c', .slice q' m d', .bool b], .bool (loB h g)]) ∧
   HpIn w' p' n c' q' m d' b (loH h g) ∧ Src w.heap.size (loB h g) n m p c q d p' c' q' d' ∧ Below w.heap.size w w' := by
 obtain ⟨rfl, rfl, rfl, hh⟩ := hh
 refine zm (zox _ _ _ _ _ g _ hS hh hF) ?_
 rintro e w' ⟨p', c', q', d', rfl, h1, h2, h3⟩
 obtain ⟨a1, a2, a3⟩ := lo_n h g
 exact ⟨p', c', q', d', rfl, ⟨a1.symm, a2.symm, a3.symm, h1⟩, h2, h3⟩
theorem zv7 (p : Option Addr) (c : Nat) (q : Option Addr) (d : Nat) (h : Hp) (pc : Option Addr) (k cc : Nat) (y : Nat → Int) (w : World) (hS : Sz w) (hh : HpAt w p c q d h) (hF : formB h = true) (hin : Ints .i64 w pc (k * 4) y) (hk : k ≤ 1000) :
  Calls Tryz.prog 78 #[.agg #[.slice p h.n c, .slice q h.m d, .bool h.b], .slice pc k cc] w fun e w' => ∃ p' c' q' d', e = .returned (.tuple #[.agg #[.slice p' h.n c', .slice q' h.m d', .bool h.b], .int .i64 ((onP h).getD 0 : Nat), .int .i64 (onW h), .bool (onP h).isSome]) ∧
   HpIn w' p' h.n c' q' h.m d' h.b (onH h k y) ∧ Src w.heap.size (onP h).isSome h.n h.m p c q d p' c' q' d' ∧ Below w.heap.size w w' := by
 have hm16 : h.m ≤ 16 := (zad.1 hF).2.1
 have hb0 : 0 < h.n ∧ h.n ≤ 512 ∧ 0 < h.m := by have := zad.1 hF; omega
 obtain ⟨w0, hw0, hB0, hR, hst0⟩ := boxed2 (w := w) (v0 := .slice p h.n c) (v1 := .slice q h.m d) (v2 := .bool h.b) (u0 := .slice none 0 0) (u1 := .slice none 0 0) (u2 := .bool false) (t := 27)
 have hat := hh.below hst0
 have hS0 := hS.below hst0
 have hY := hin.below hst0
 have hl0 : w.heap.size + 2 ≤ w0.heap.size := hR.1
 have hwf := hh.wf
 have hI : ∀ W, Below w0.heap.size w0 W → Calls Tryz.prog 109 #[.slice q h.m d, .func (.func 110) #[] #[]] W fun e w' => e = .returned (.int .i64 (ixI (onP h))) ∧ Below W.heap.size W w' := fun W hW => zr2 q h.m d h.s W (hat.spans.below hW) hm16
 cases e : onP h with
 | none =>
  obtain ⟨eH, eW⟩ := zgp e k y
  rw [eH, eW]
  simp only [e, ixI] at hI
  obtain ⟨l0, x0, x1, x2, -, -, -⟩ := id hB0
  obtain ⟨l1, y0, y1, y2, f0, f1, f2⟩ := id hR
  clear hF e eH eW
  go_enter Tryz.func78, Tryz.ntmps78
  go_upto_region 1 with fail
  rw [← hw0]
  clear hw0
  go_wp2_with (first
   | (go_at_call 109; refine zm (hI _ zr) ?_; rintro e w1 ⟨rfl, hb⟩; obtain ⟨hc, hf, hb, hz⟩ := bstep hb (w := w0) (by go_grown))
  )
  refine bodyPost_ret (by simp [results, Tryz.results78, go_sem, *]; try rfl) rfl ?_
  have hbb := zav (bjoin hb hst0) (g := w.heap.size + 1) (Nat.le_succ _) (.slice p h.n c) (.slice q h.m d) (.bool h.b)
  exact ⟨p, c, q, d, rfl, hh.in.below hbb, ⟨fun h => (by cases h), fun _ => ⟨rfl, rfl, rfl, rfl⟩⟩, hbb⟩
 | some g =>
  obtain ⟨hg, hst, -⟩ := zin e
  obtain ⟨R, eR⟩ : ∃ R, R = swA h g 32 := ⟨_, rfl⟩
  have S := swp hF hwf hg 32 (Nat.le_refl _)
  have eH : onH h k y = withS R.1 g (clS (keptY k y g) (spH R.1 g)) := by unfold onH; rw [e, eR]
  have eW : onW h = R.2 := by unfold onW; rw [e, eR]
  rw [eH, eW]
  rw [← eR] at S
  have hFW := fun W (hW : Below w0.heap.size w0 W) => zph p c q d h g W (hS0.below hW) (hat.below hW) hF hg hst R eR.symm
  simp only [e, ixI] at hI
  obtain ⟨mm1, mm2, mm3⟩ : R.1.n = h.n ∧ R.1.m = h.m ∧ R.1.b = h.b := ⟨S.nn, S.mm, S.bb⟩
  have hr2 : rightB 2 (R.1.s g).cl (R.1.s g).fr = true := by
   have h1 := zcx S.form (p := (g : Int)) (by omega) (by omega)
   have h2 := S.st (g : Int) (by omega)
   rw [zez] at h1 h2
   rw [zez] at h2
   rw [h2, hst] at h1
   exact h1
  have hr1 : rightB 1 (R.1.s g).cl (R.1.s g).fr = true := by
   rcases zaz.1 hr2 with ⟨h0, -⟩ | ⟨-, c0, c1, h2⟩
   ·omega
   ·exact zaz.2 (.inr ⟨.inl rfl, c0, c1, h2⟩)
  have hmask : Mask (R.1.s g).fr := by
   have := zdn S.wf (p := (g : Int)) (by omega) (by omega)
   rwa [zez] at this
  have hF2 : formB (withS R.1 g ⟨1, (R.1.s g).cl, (R.1.s g).fr⟩) = true := zgn S.form hr1
  have hcn := fun hc => clS_no (s := R.1.s g) (k := keptY k y g) hc hr1 hmask
  have hcy := fun hc => zw0 (s := R.1.s g) hc hr1 hmask
  have hlo : emptyB 1 (R.1.s g).cl (R.1.s g).fr = true → loB (withS R.1 g ⟨1, (R.1.s g).cl, (R.1.s g).fr⟩) g = true := fun he => by
   rw [zf8 hr1 hmask] at he
   unfold loB
   rw [ze3 _ _ (by omega), show (withS R.1 g ⟨1, (R.1.s g).cl, (R.1.s g).fr⟩).m = R.1.m from rfl, zjn (by omega) (by omega), Bool.true_and]
   exact he
  rw [zez]
  obtain ⟨X, eX⟩ : ∃ X, clS (keptY k y g) (R.1.s g) = X := ⟨_, rfl⟩
  rw [eX]
  have hEm := fun W (hW : Below w0.heap.size w0 W) => zhy 1 (R.1.s g).cl (R.1.s g).fr W (zf5 hr1) (hS0.below hW)
  have hKp := fun W (hW : Below w0.heap.size w0 W) => zt0 pc k cc y g W (hY.below hW) hk
  have hF' : Hid (formB h = true) := hF
  obtain ⟨n0, n1, m0⟩ := hb0
  clear hr2 hr1 hmask S hst e eH eW eR hF hwf
  obtain ⟨l0, x0, x1, x2, -, -, -⟩ := id hB0
  go_enter Tryz.func78, Tryz.ntmps78
  go_upto_region 1 with fail
  rw [← hw0]
  clear hw0
  go_upto_region 4 with (first
   | (go_at_call 109; refine zm (hI _ zr) ?_; rintro e w1 ⟨rfl, hb1⟩)
  )
  have x01 := zcl hb1 l0 x0
  have x11 := zcl hb1 l0 x1
  have x21 := zcl hb1 l0 x2
  go_upto_region 5 with (first
   | (go_at_call 111; refine zm (hFW _ hb1) ?_; rintro e w2 ⟨p1, c1, q1, d1, rfl, hO, hb2⟩)
  )
  obtain ⟨w3, hw3⟩ : ∃ W, W = w2.alloc (.cells #[.slice p1 h.n c1, .slice q1 h.m d1, .bool h.b] 27) := ⟨_, rfl⟩
  have gG : Box3 w2.heap.size (.slice p1 h.n c1) (.slice q1 h.m d1) (.bool h.b) w3 := by rw [hw3]; exact Box3.new _ _ _ _ _
  have hB3 : Below w2.heap.size w2 w3 := by rw [hw3]; exact zr.alloc (Nat.le_refl _) _
  have hb3 : Below w0.heap.size w0 w3 := bjoin hB3 (bjoin hb2 hb1)
  have hoff := hO.offNew ⟨n0, m0⟩ (g := w2.heap.size) (Nat.le_refl _)
  have hO3 := (hO.below hB3).lower (show w0.heap.size ≤ w1.heap.size from hb1.size)
  have hR3 := hR.below hb3
  have hG0 : w0.heap.size ≤ w2.heap.size := (bjoin hb2 hb1).size
  rw [← hw3]
  clear hw3 hB3 hb1 hb2 x0 x1 x2 x01 x11 x21 l0 hI hFW hO hB0 hR
  generalize w2.heap.size = G at *
  have hown := hO3.own
  have hgm : g < R.1.m := by omega
  have e1 : Hid (h.n = R.1.n) := mm1.symm
  have e2 : Hid (h.m = R.1.m) := mm2.symm
  have e3 : Hid (h.b = R.1.b) := mm3.symm
  clear mm1 mm2 mm3 hO3
  obtain ⟨gs, rfl, lgs, lgs'⟩ := hown.span (by omega)
  have hGg : ¬ G = gs := fun ee => hoff.2 (by rw [ee]; rfl)
  obtain ⟨u0, v0, hown'⟩ := hown.state (i := g) hgm (x := 1) (by decide)
  obtain ⟨⟨b', off, eq, hlt, s0, s1, s2⟩, -⟩ := hown.at.spans g hgm
  injection eq with eq
  injection eq with eb eo
  subst eb eo
  rw [Nat.zero_add] at s0 s1 s2
  have hown2 : HpOwn (w3.setCell ⟨gs, g * 3, none⟩ (.int .i64 1)) w0.heap.size p1 c1 (some ⟨gs, 0, none⟩) d1 (withS R.1 g ⟨1, (R.1.s g).cl, (R.1.s g).fr⟩) := hown'
  clear hown' hown s0
  obtain ⟨lG, z0, z1, z2, -, -, -⟩ := id gG
  go_upto_region 6 with fail
  obtain ⟨w4, hw4⟩ : ∃ W, W = w3.setCell ⟨gs, g * 3, none⟩ (.int .i64 1) := ⟨_, rfl⟩
  have gG4 : Box3 G (.slice p1 h.n c1) (.slice (some ⟨gs, 0, none⟩) h.m d1) (.bool h.b) w4 := by rw [hw4]; exact gG.other (fun ee => hGg ee.symm) _ _
  have hR4 : Box3 (w.heap.size + 1) (.slice none 0 0) (.slice none 0 0) (.bool false) w4 := by rw [hw4]; exact hR3.other (by omega) _ _
  have hb4 : Below w0.heap.size w0 w4 := by rw [hw4]; exact hb3.setCell (by show w0.heap.size ≤ gs; omega) _
  rw [← hw4] at hown2 ⊢
  clear hw4 z0 z1 z2 lG gG hR3 hb3 s1 s2 u0 v0 hlt lgs'
  have hO4 : OwnIn w4 w0.heap.size p1 h.n c1 (some ⟨gs, 0, none⟩) h.m d1 h.b (withS R.1 g ⟨1, (R.1.s g).cl, (R.1.s g).fr⟩) := ⟨e1.out, e2.out, e3.out, hown2⟩
  obtain ⟨⟨b', off, eq, hlt, s0, s1, s2⟩, -⟩ := hown2.at.spans g hgm
  injection eq with eq
  injection eq with eb eo
  subst eb eo
  have esp : (withS R.1 g ⟨1, (R.1.s g).cl, (R.1.s g).fr⟩).s g = ⟨1, (R.1.s g).cl, (R.1.s g).fr⟩ := by rw [← zez]; exact ze3 _ _ (by omega)
  rw [Nat.zero_add, esp] at s0 s1 s2
  simp only [] at s0 s1 s2
  obtain ⟨lG, z0, z1, z2, fz0, fz1, fz2⟩ := id gG4
  obtain ⟨lR, y0, y1, y2, f0, f1, f2⟩ := id hR4
  clear hown2 esp
  replace hF2 : Hid (formB _ = true) := hF2
  have hKs : Hid (keptY k y g = keptY k y g) := rfl
  cases eE : emptyB 1 (R.1.s g).cl (R.1.s g).fr with
  | false =>
   have hC : Hid (X = _) := eX.symm.trans (hcn (.inl eE))
   simp only [eE] at hEm
   clear hcn hcy hlo eX
   generalize (R.1.s g).cl = cl at *
   generalize (R.1.s g).fr = fr at *
   go_wp2_with (first
    | (go_at_call 112; refine zm (hEm _ hb4) ?_; rintro e w5 ⟨rfl, hb⟩; obtain ⟨hc, hf, hb, hz⟩ := bstep hb (w := w4) (by go_grown))
   )
   refine bodyPost_ret (by simp [results, Tryz.results78, go_sem, *]; try rfl) rfl ?_
   have hz5 := ((hO4.below hb).stores (hO4.off (g := w.heap.size + 1) (by omega)) (.slice p1 h.n c1) (.slice (some ⟨gs, 0, none⟩) h.m d1) (.bool h.b)).lower (show w.heap.size ≤ w0.heap.size by omega)
   exact ⟨p1, c1, _, d1, rfl, by rw [hC.out]; exact hz5.in, ⟨fun _ => ⟨hz5.newW, hz5.newS⟩, fun h => (by cases h)⟩, zav (bjoin hb (bjoin hb4 hst0)) (Nat.le_succ _) _ _ _⟩
  | true =>
   simp only [eE] at hEm
   cases eK : keptY k y g with
   | true =>
    have hC : Hid (X = _) := eX.symm.trans (hcn (.inr eK))
    simp only [eK] at hKp
    clear hcn hcy hlo eX eE
    generalize (R.1.s g).cl = cl at *
    generalize (R.1.s g).fr = fr at *
    go_wp2_with (first
     | (go_at_call 112; refine zm (hEm _ hb4) ?_; rintro e w5 ⟨rfl, hb5⟩)
     | (go_at_call 113; refine zm (hKp _ (bjoin hb5 hb4)) ?_; rintro e w6 ⟨rfl, hb6⟩; obtain ⟨hc, hf, hb, hz⟩ := bstep (bjoin hb6 hb5) (w := w4) zr)
    )
    refine bodyPost_ret (by simp [results, Tryz.results78, go_sem, *]; try rfl) rfl ?_
    have hz5 := ((hO4.below hb).stores (hO4.off (g := w.heap.size + 1) (by omega)) (.slice p1 h.n c1) (.slice (some ⟨gs, 0, none⟩) h.m d1) (.bool h.b)).lower (show w.heap.size ≤ w0.heap.size by omega)
    exact ⟨p1, c1, _, d1, rfl, by rw [hC.out]; exact hz5.in, ⟨fun _ => ⟨hz5.newW, hz5.newS⟩, fun h => (by cases h)⟩, zav (bjoin hb (bjoin hb4 hst0)) (Nat.le_succ _) _ _ _⟩
   | false =>
    rw [eK] at eX
    have hC : Hid (X = _) := eX.symm.trans (hcy eE)
    simp only [eK] at hKp
    have hL := hlo eE
    have hCl := fun W (hW : Below w4.heap.size w4 W) => zua (g := (g : Int)) (hS0.below (bjoin hW hb4)) ((hO4.below hW).in) hF2.out
    have eLo : loH (withS R.1 g ⟨1, (R.1.s g).cl, (R.1.s g).fr⟩) g = withS R.1 g ⟨0, 0, 0⟩ := by unfold loH; rw [if_pos hL, zrr]
    simp only [hL, eLo] at hCl
    clear hcn hcy hlo eX eE hL eLo
    generalize (R.1.s g).cl = cl at *
    generalize (R.1.s g).fr = fr at *
    go_upto_region 7 with (first
     | (go_at_call 112; refine zm (hEm _ hb4) ?_; rintro e w5 ⟨rfl, hb5⟩)
     | (go_at_call 113; refine zm (hKp _ (bjoin hb5 hb4)) ?_; rintro e w6 ⟨rfl, hb6⟩; obtain ⟨hc, hf, hb, hz⟩ := bstep (bjoin hb6 hb5) (w := w4) zr)
    )
    replace hCl := hCl _ hb
    replace gG4 := gG4.below hb
    replace hR4 := hR4.below hb
    replace hb4 := bjoin hb hb4
    clear hc hf hz hb5 hb6 hb z0 z1 z2 fz0 fz1 fz2 lG lR y0 y1 y2 f0 f1 f2 s0 s1 s2 hlt hKp hEm hO4
    obtain ⟨lG, z0, z1, z2, fz0, fz1, fz2⟩ := id gG4
    obtain ⟨lR, y0, y1, y2, f0, f1, f2⟩ := id hR4
    go_wp2_with (first
     | (go_at_call 114; refine zm hCl ?_; rintro e w7 ⟨p2, c2, q2, d2, rfl, hin7, hsrc7, hb7⟩; obtain ⟨hc, hf, hb, hz⟩ := bstep hb7 (w := w6) zr)
    )
    refine bodyPost_ret (by simp [results, Tryz.results78, go_sem, *]; try rfl) rfl ?_
    obtain ⟨nv1, nv2⟩ := hsrc7.new rfl
    have hcl : ∀ x, x < w6.heap.size → Clear x p2 q2 := fun x hx => ⟨fun b off sp ee => by have := nv1 b (by rw [ee]; rfl); omega, fun b off sp ee => by have := nv2 b (by rw [ee]; rfl); omega⟩
    have hz7 := (hin7.stores (hcl G (by omega)) (.slice p2 h.n c2) (.slice q2 h.m d2) (.bool h.b)).stores (hcl (w.heap.size + 1) (by omega)) (.slice p2 h.n c2) (.slice q2 h.m d2) (.bool h.b)
    have hlw : w.heap.size ≤ w6.heap.size := by omega
    exact ⟨p2, c2, q2, d2, rfl, by rw [hC.out]; exact hz7, ⟨fun _ => ⟨fun b hb => Nat.le_trans hlw (nv1 b hb), fun b hb => Nat.le_trans hlw (nv2 b hb)⟩, fun h => (by cases h)⟩, zav (zav (bjoin hb (bjoin hb4 hst0)) (by omega) _ _ _) (Nat.le_succ _) _ _ _⟩
section
variable {w : World} {p : Option Addr} {n c : Nat} {q : Option Addr} {m d : Nat} {b : Bool} {h : Hp} {pc : Option Addr} {k cc : Nat} {y : Nat → Int}
theorem ztc (hS : Sz w) (hT : Tab w) (hh : HpIn w p n c q m d b h) (hF : formB h = true) :
  Calls Tryz.prog 138 #[.agg #[.slice p n c, .slice q m d, .bool b]] w fun e w' => ∃ p' c' q' d', e = .returned (.agg #[.slice p' n c', .slice q' m d', .bool b]) ∧ HpIn w' p' n c' q' m d' b (bgH h) ∧ NewV w.heap.size (.slice p' n c') ∧ NewV w.heap.size (.slice q' m d') ∧ Below w.heap.size w w' := by
 obtain ⟨rfl, rfl, rfl, hh⟩ := hh
 refine zm (zmy p c q d h w hh hF) ?_
 rintro e w' ⟨p', c', q', d', rfl, ho, hb⟩
 have ho2 : HpOwn w' w.heap.size p' c' q' d' (bgH h) := ho.congr (z := h.z) (s := fun i => bgS (h.s i)) (b := h.b) (fun _ _ => rfl) (fun i hi => zwp h.s h.m i hi)
 exact ⟨p', c', q', d', rfl, ho2.at.in, ho2.newW, ho2.newS, hb⟩
end
structure SwapInv (ops : Array Oper) (a : Act) (ds : List (Option Nat)) (Φ : Nat → (Nat → Value) → World → Prop) (R : Bool → World → Prop) (is : Nat) (b : Array Bool) (a' : Act) (w' : World) : Prop where
 world : R (b.getD is false) w'
 bsize : b.size = ops.size
 defers : a'.defers = a.defers
 size : a'.tmps.size = a.tmps.size
 same : ∀ t, some t ∉ ds → a'.tmps[t]? = a.tmps[t]?
 closed : ∀ j o, ops[j]? = some o → b.getD j false = true → ∀ e ∈ o.after, Region.binds .any e = true → b.getD e.on false = true
 facts : ∀ i, b.getD i false = true → Φ i (slotVals a' ds) w'
section
variable {P : Program} {l : List Oper} {Q : Exit → Act → World → Prop} {a : Act} {ds : List (Option Nat)} {Φ : Nat → (Nat → Value) → World → Prop} {R : Bool → World → Prop} {is : Nat} {anc : Nat → Bool} {Per : Nat → World → World → Prop}
theorem zsq (hD : depsAllB l.toArray = true) (hds : l.map (·.dst) = ds) (hnd : ∀ (j k : Nat) (d : Nat), ds[j]? = some (some d) → ds[k]? = some (some d) → j = k) (hsz : ∀ d, some d ∈ ds → d < a.tmps.size) 
  (hper : ∀ i j V v w w', i ≠ j → (∀ o, l.toArray[j]? = some o → (o.after.any fun e => Region.binds .any e && e.on == i) = false) → (∃ c, R c w) → Per i w w' → Φ j V w → Φ j (upd V i v) w')
  (hstep : ∀ i o, l.toArray[i]? = some o → ∀ (c : Bool) (a' : Act) (w' : World), ((i = is ∨ anc i = true) → c = false) → R c w' → (∀ t, some t ∉ ds → a'.tmps.getD t undef = a.tmps.getD t undef) →
   (∀ j, (o.after.any fun e => Region.binds .any e && e.on == j) = true → Φ j (slotVals a' ds) w') →
   ∀ K : Act → World → Prop, (∀ v w'', R (if i = is then true else c) w'' → Per i w' w'' → Φ i (upd (slotVals a' ds) i (valOf o v)) w'' → K (a'.put o.dst v) w'') → o.wp P a' w' K Q)
  (hanc : ∀ i, anc i = true → ∃ k o, l.toArray[k]? = some o ∧ i < k ∧ (k = is ∨ anc k = true) ∧ (o.after.any fun e => Region.binds .any e && e.on == i) = true) (hisl : is < l.length)
  (hend : ∀ a' w', R true w' → a'.defers = a.defers → a'.tmps.size = a.tmps.size → (∀ t, some t ∉ ds → a'.tmps[t]? = a.tmps[t]?) → (∀ i, i < l.length → Φ i (slotVals a' ds) w') → Q .normal a' w') :
  ∀ (f : Nat) (b : Array Bool) (a' : Act) (w' : World), SwapInv l.toArray a ds Φ R is b a' w' → unl b l.length = f → wpAny P .any l.toArray Q f b a' w' := by
 have hdep : ∀ i, i < l.length → ∃ o, l.toArray[i]? = some o ∧ o.guard = none ∧ ∀ e ∈ o.after, Region.binds .any e = true → e.on < i := by
  intro i hi
  have h1 := List.all_eq_true.1 hD i (List.mem_range.2 (by simpa using hi))
  cases ho : l.toArray[i]? with
  | none => simp only [ho] at h1; cases h1
  | some o =>
   simp only [ho, Bool.and_eq_true, Option.isNone_iff_eq_none] at h1
   refine ⟨o, rfl, h1.1, fun e he hb => ?_⟩
   have := (Array.all_eq_true'.1 h1.2) e he
   rw [hb] at this
   simpa using this
 have hgf : ∀ (b : Array Bool) i, i < b.size → b.getD i true = b.getD i false := fun b i hi => by simp [hi]
 intro f
 induction f with
 | zero =>
  intro b a' w' inv hu
  have hall := zc8 hu
  have hbs := inv.bsize
  have hbis : b.getD is false = true := by
   have := hall is hisl
   rwa [hgf b is (by rw [hbs]; simpa using hisl)] at this
  have hw := inv.world
  rw [hbis] at hw
  refine ⟨?_, hend a' w' hw inv.defers inv.size inv.same fun i hi => inv.facts i (by rw [← hgf b i (by rw [hbs]; simpa using hi)]; exact hall i hi)⟩
  cases hr : Region.ready .any l.toArray b with
  | nil => rfl
  | cons i r =>
   have hi : i ∈ Region.ready .any l.toArray b := by rw [hr]; simp
   obtain ⟨hun, o, ho, -⟩ := mem_ready.1 hi
   have hil : i < l.length := by
    rcases Nat.lt_or_ge i l.length with h | h
    ·exact h
    ·simp [h] at ho
   rw [hall i hil] at hun; cases hun
 | succ f ih =>
  intro b a' w' inv hu
  have hbs := inv.bsize
  obtain ⟨i0, h0, hb0, hmin⟩ := zeb (b := b) (k := l.length) (by omega)
  have hbsz : ∀ i, i < l.length → i < b.size := fun i hi => by rw [hbs]; simpa using hi
  have hready : i0 ∈ Region.ready .any l.toArray b := by
   obtain ⟨o, ho, -, hd⟩ := hdep i0 h0
   refine mem_ready.2 ⟨hb0, o, ho, fun e he hb => ?_⟩
   have h2 := hd e he hb
   rw [← hgf b e.on (hbsz _ (by omega))]
   exact hmin e.on h2
  refine ⟨fun h => (by rw [h] at hready; cases hready), fun i hi => ?_⟩
  obtain ⟨hun, o, ho, hall⟩ := mem_ready.1 hi
  have hin : i < l.length := by
   rcases Nat.lt_or_ge i l.length with h | h
   ·exact h
   ·simp [h] at ho
  obtain ⟨o', ho', hgd, -⟩ := hdep i hin
  have : o' = o := Option.some.inj (ho'.symm.trans ho)
  subst this
  unfold wpOp
  simp only [ho]
  rw [if_pos (by simp [Region.wanted, hgd])]
  have hdi : ds[i]? = some o'.dst := by
   rw [← hds, List.getElem?_map]
   have : l[i]? = some o' := by simpa using ho
   rw [this]; rfl
  have hunF : b.getD i false = false := by rw [← hgf b i (hbsz i hin)]; exact hun
  have hancD : ∀ (m j : Nat), l.length - j = m → anc j = true → b.getD is false = true → b.getD j false = true := by
   intro m
   induction m using Nat.strongRecOn with
   | _ m ihm =>
    intro j hjm hj hbis
    obtain ⟨k, x, hx, hjk, hk, hany⟩ := hanc j hj
    have hkl : k < l.length := by
     rcases Nat.lt_or_ge k l.length with h | h
     ·exact h
     ·simp [h] at hx
    have hbk : b.getD k false = true := by
     rcases hk with rfl | hk
     ·exact hbis
     ·exact ihm (l.length - k) (by omega) k rfl hk hbis
    obtain ⟨e, he, h2⟩ := Array.any_eq_true'.1 hany
    simp only [Bool.and_eq_true, beq_iff_eq] at h2
    have h3 := inv.closed k x hx hbk e he h2.1
    rwa [h2.2] at h3
  have hfirst : (i = is ∨ anc i = true) → b.getD is false = false := fun h => by
   rcases h with rfl | h
   ·exact hunF
   ·cases hbis : b.getD is false with
    | false => rfl
    | true =>
     have := hancD _ i rfl h hbis
     rw [hunF] at this
     cases this
  refine .inl (hstep i o' ho (b.getD is false) a' w' hfirst inv.world (fun t ht => ?_) (fun j ha => ?_) _ fun v w'' hR hp hv => ?_)
  ·have := inv.same t ht
   rw [Array.getD_eq_getD_getElem?, Array.getD_eq_getD_getElem?, this]
  ·obtain ⟨e, he, h2⟩ := Array.any_eq_true'.1 ha
   simp only [Bool.and_eq_true, beq_iff_eq] at h2
   have h3 := hall e he h2.1
   rw [h2.2] at h3
   exact inv.facts j h3
  ·have hib := hbsz i hin
   have hdl : ∀ d, o'.dst = some d → d < a'.tmps.size := fun d hd => by rw [inv.size]; exact hsz d (by rw [← hd]; exact List.mem_of_getElem? hdi)
   have hsv := zcq (a' := a') hdi hnd hdl v
   have hset : ∀ j, (b.setIfInBounds i true).getD j false = true → j = i ∨ j ≠ i ∧ b.getD j false = true := fun j hj => by
    by_cases e : j = i
    ·exact .inl e
    ·refine .inr ⟨e, ?_⟩
     rwa [getD_set_ne false (fun h => e h.symm)] at hj
   have hmono : ∀ j, b.getD j false = true → (b.setIfInBounds i true).getD j false = true := fun j hj => by
    by_cases e : j = i
    ·subst e; simp [hib]
    ·rwa [getD_set_ne false (fun h => e h.symm)]
   have hR' : R ((b.setIfInBounds i true).getD is false) w'' := by
    by_cases e : i = is
    ·subst e
     rw [if_pos rfl] at hR
     have : (b.setIfInBounds i true).getD i false = true := by simp [hib]
     rw [this]; exact hR
    ·rw [if_neg e] at hR
     rw [getD_set_ne false e]; exact hR
   refine ih _ _ _ ⟨hR', by rw [Array.size_setIfInBounds]; exact hbs, ?_, ?_, fun t ht => ?_, fun j x hx hj e he hbd => ?_, fun j hj => ?_⟩ (by have := zev hun hin; omega)
   ·cases o'.dst <;> exact inv.defers
   ·cases hdd : o'.dst with
    | none => exact inv.size
    | some d =>
     show (a'.tmps.setIfInBounds d v).size = _
     rw [Array.size_setIfInBounds]; exact inv.size
   ·cases hdd : o'.dst with
    | none => exact inv.same t ht
    | some d =>
     show (a'.tmps.setIfInBounds d v)[t]? = _
     rw [Array.getElem?_setIfInBounds_ne (show d ≠ t from fun e => ht (by rw [← e, ← hdd]; exact List.mem_of_getElem? hdi))]
     exact inv.same t ht
   ·rcases hset j hj with rfl | ⟨-, hj'⟩
    ·have : x = o' := Option.some.inj (hx.symm.trans ho)
     subst this
     exact hmono _ (hall e he hbd)
    ·exact hmono _ (inv.closed j x hx hj' e he hbd)
   ·rw [hsv]
    rcases hset j hj with rfl | ⟨hne, hj'⟩
    ·exact hv
    ·refine hper i j _ _ w' w'' (fun h => hne h.symm) (fun x hx => ?_) ⟨_, inv.world⟩ hp (inv.facts j hj')
     cases hany : (x.after.any fun e => Region.binds .any e && e.on == i) with
     | false => rfl
     | true =>
      obtain ⟨e, he, h2⟩ := Array.any_eq_true'.1 hany
      simp only [Bool.and_eq_true, beq_iff_eq] at h2
      have h3 := inv.closed j x hx hj' e he h2.1
      rw [h2.2, ← hgf b i hib, hun] at h3
      cases h3
end
def ancOK (ops : Array Oper) (is : Nat) (anc nx : List Nat) : Bool := anc.all fun i => match ops[nx.getD i 0]? with | some o => (o.after.any fun e => Region.binds .any e && e.on == i) && (nx.getD i 0 == is || anc.contains (nx.getD i 0)) && decide (i < nx.getD i 0) | none => false
def swapStep (P : Program) (Q : Exit → Act → World → Prop) (a : Act) (W : World) (G is : Nat) (anc : List Nat) (ds : List (Option Nat)) (pv : List (Value → World → Prop)) (i : Nat) (o : Oper) : Prop :=
 if i = is then ∀ (a' : Act) (w' : World), Below W.heap.size W w' → (∀ t, some t ∉ ds → a'.tmps[t]?.getD undef = a.tmps[t]?.getD undef) →
   (∀ j d, (o.after.any fun e => Region.binds .any e && e.on == j) = true → ds[j]? = some (some d) → pv.getD j (fun _ _ => True) (a'.tmps[d]?.getD undef) w') →
   ∀ K : Act → World → Prop, (∀ v w'', Aside (fun k => k = G) w' w'' → allP (fun p => ∀ v, p v w' → p v w'') pv → pv.getD i (fun _ _ => True) (valOf o v) w'' → K (a'.put o.dst v) w'') → o.wp P a' w' K Q
 else if anc.contains i = true then ∀ (a' : Act) (w' : World), Below W.heap.size W w' → (∀ t, some t ∉ ds → a'.tmps[t]?.getD undef = a.tmps[t]?.getD undef) →
   (∀ j d, (o.after.any fun e => Region.binds .any e && e.on == j) = true → ds[j]? = some (some d) → pv.getD j (fun _ _ => True) (a'.tmps[d]?.getD undef) w') →
   ∀ K : Act → World → Prop, (∀ v w'', Below w'.heap.size w' w'' → pv.getD i (fun _ _ => True) (valOf o v) w'' → K (a'.put o.dst v) w'') → o.wp P a' w' K Q
 else ∀ (a' : Act) (w' : World), (∀ t, some t ∉ ds → a'.tmps[t]?.getD undef = a.tmps[t]?.getD undef) →
   (∀ j d, (o.after.any fun e => Region.binds .any e && e.on == j) = true → ds[j]? = some (some d) → pv.getD j (fun _ _ => True) (a'.tmps[d]?.getD undef) w') →
   ∀ K : Act → World → Prop, (∀ v, pv.getD i (fun _ _ => True) (valOf o v) w' → K (a'.put o.dst v) w') → o.wp P a' w' K Q
theorem zp8 {P : Program} {l : List Oper} {Q : Exit → Act → World → Prop} {a : Act} {id : Nat} (G is : Nat) (anc nx : List Nat) (ds : List (Option Nat)) (ts : List Nat) (pv : List (Value → World → Prop)) (k : Nat) (hm : P.follows .mixedOrders = true) (hD : depsAllB l.toArray = true) (hds : l.map (·.dst) = ds) (hts : (ds.filterMap fun x => x) = ts) (hnd : nodupB ds = true) (hlt : ltB k ds = true) (hk : k ≤ a.tmps.size) 
  (hanc : ancOK l.toArray is anc nx = true) (hisl : is < l.length)
  (hPB : allP (fun p => ∀ v w w', p v w → Below w.heap.size w w' → p v w') pv)
  (hstep : stepsF (swapStep P Q a W G is anc ds pv) 0 l)
  (hend : ∀ (X : Nat → Value) (w' : World), Aside (fun k => k = G) W w' → (∀ i d, ds[i]? = some (some d) → pv.getD i (fun _ _ => True) (X d) w') → (∀ i, ds[i]? = some none → pv.getD i (fun _ _ => True) undef w') → Q .normal (puts ts (ts.map X) a) w') :
  (Code.region id l.toArray true).wp P Q a W := by
 have hsz : ∀ d, some d ∈ ds → d < a.tmps.size := fun d hd => by have := zge hlt d hd; omega
 have hND := zjp hnd
 have hst : ∀ i o, l.toArray[i]? = some o → swapStep P Q a W G is anc ds pv i o := fun i o ho => by
  have := zc4 l 0 i o hstep (by simpa using ho)
  rwa [Nat.zero_add] at this
 have hPB' : ∀ j v w w', pv.getD j (fun _ _ => True) v w → Below w.heap.size w w' → pv.getD j (fun _ _ => True) v w' := fun j => zb9 (C := fun p => ∀ v w w', p v w → Below w.heap.size w w' → p v w') (fun _ _ _ _ _ => trivial) pv j hPB
 have hl : ∀ (i : Nat) (x : Option Nat), ds[i]? = some x → i < l.length := fun i x hd => by
  have := (List.getElem?_eq_some_iff.1 hd).1
  rw [← hds] at this
  simpa using this
 refine wp_region_any hm ?_
 have hz : ∀ j, (Array.replicate l.toArray.size false).getD j false = false := fun j => by
  by_cases h : j < l.length
  ·simp [h]
  ·simp [h]
 have H := zsq (P := P) (l := l) (Q := Q) (a := a) (ds := ds) (is := is) (anc := fun i => anc.contains i) (Φ := fun i V w => pv.getD i (fun _ _ => True) (V i) w) (R := fun c w' => if c = true then Aside (fun k => k = G) W w' else Below W.heap.size W w') (Per := fun i w w' => if i = is then allP (fun p => ∀ v, p v w → p v w') pv else Below w.heap.size w w') hD hds hND hsz
  (fun i j V v w w' hne _ _ hp hv => by
   show pv.getD j _ (upd V i v j) w'
   rw [zbl _ _ (fun h => hne h.symm)]
   by_cases e : i = is
   ·rw [if_pos e] at hp
    exact zb9 (C := fun p => ∀ v, p v w → p v w') (fun _ _ => trivial) pv j hp _ hv
   ·rw [if_neg e] at hp
    exact hPB' j _ _ _ hv hp)
  (fun i o ho c a' w' hc hR hsame hdep K hK => by
   have hs := hst i o ho
   have hsame' : ∀ t, some t ∉ ds → a'.tmps[t]?.getD undef = a.tmps[t]?.getD undef := fun t ht => by have := hsame t ht; rwa [Array.getD_eq_getD_getElem?, Array.getD_eq_getD_getElem?] at this
   have hdep' : ∀ j d, (o.after.any fun e => Region.binds .any e && e.on == j) = true → ds[j]? = some (some d) → pv.getD j (fun _ _ => True) (a'.tmps[d]?.getD undef) w' := fun j d ha hd => by
    have := hdep j ha
    rwa [za3 hd] at this
   unfold swapStep at hs
   by_cases e : i = is
   ·obtain rfl := hc (.inl e)
    rw [if_pos e] at hs
    rw [if_neg (by decide)] at hR
    refine hs a' w' hR hsame' hdep' K fun v w'' hA hk hv => hK v w'' ?_ ?_ ?_
    ·rw [if_pos e, if_pos rfl]; exact (Aside.of hR).trans hA
    ·rw [if_pos e]; exact hk
    ·show pv.getD i _ (upd _ i _ i) w''
     rw [zdz]; exact hv
   ·rw [if_neg e] at hs
    by_cases ea : anc.contains i = true
    ·obtain rfl := hc (.inr ea)
     rw [if_pos ea] at hs
     rw [if_neg (by decide)] at hR
     refine hs a' w' hR hsame' hdep' K fun v w'' hb hv => hK v w'' ?_ ?_ ?_
     ·rw [if_neg e, if_neg (by decide)]; exact hR.trans (hb.mono hR.size)
     ·rw [if_neg e]; exact hb
     ·show pv.getD i _ (upd _ i _ i) w''
      rw [zdz]; exact hv
    ·rw [if_neg ea] at hs
     refine hs a' w' hsame' hdep' K fun v hv => hK v w' ?_ ?_ ?_
     ·rw [if_neg e]; exact hR
     ·rw [if_neg e]; exact zr
     ·show pv.getD i _ (upd _ i _ i) w'
      rw [zdz]; exact hv)
  (fun i hi => by
   have h1 := List.all_eq_true.1 hanc i (by simpa using hi)
   cases ho : l.toArray[nx.getD i 0]? with
   | none => simp only [ho] at h1; cases h1
   | some o =>
    simp only [ho, Bool.and_eq_true, Bool.or_eq_true, beq_iff_eq, decide_eq_true_eq] at h1
    exact ⟨_, o, ho, h1.2, h1.1.2, h1.1.1⟩) hisl
  (fun a' w' hR hdf hsz' hsame hf => by
   rw [if_pos rfl] at hR
   rw [← hts] at hend
   have hputs := zc9 (ds.filterMap fun x => x) a hdf hsz' (fun t ht => by
    obtain ⟨x, hx, rfl⟩ := List.mem_filterMap.1 ht
    exact hsz _ hx) (fun t ht => hsame t (fun h => ht (List.mem_filterMap.2 ⟨_, h, rfl⟩)))
   have h := hend (fun t => a'.tmps.getD t undef) w' hR (fun i d hd => by
    have := hf i (hl i _ hd)
    rw [za3 hd] at this
    rw [Array.getD_eq_getD_getElem?]
    exact this) (fun i hd => by
    have := hf i (hl i _ hd)
    have e : slotVals a' ds i = undef := by unfold slotVals; rw [hd]
    rwa [e] at this)
   rw [← hputs] at h
   exact h) l.toArray.size (Array.replicate l.toArray.size false) a { W with drawn := W.drawn + 1 }
  ⟨by rw [hz, if_neg (by decide)]; exact zr.drew, by simp, rfl, rfl, fun _ _ => rfl, fun j o _ h => (by rw [hz] at h; cases h), fun i h => (by rw [hz] at h; cases h)⟩ (by rw [show l.toArray.size = l.length by simp]; exact zc1 _ (Nat.le_refl _))
 exact H
end Go.Proofs.YtkehankfnkjnlaaGreatDoor
