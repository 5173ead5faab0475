/- Contracts of the reference's shading (chapter 16). -/
import Derived.Test.YtokbggokkjefhaaDoorShadeFn
import Derived.Test.YtokbggokkjefhaaDoorVarT
import Derived.Test.YtokbggokkjefhaaDoorRef13
import Derived.Test.YtokbggokkjefhaaDoorRef09
namespace Go.Proofs.YtokbggokkjefhaaDoor
set_option linter.unusedSimpArgs false
set_option linter.unusedVariables false
open Go.ChangeShapes Go.WideShapes Go.ChangeAt Go.RowKit Go.Joins

theorem form_room {h : Hp} (hF : formB h = true) : 32 ≤ h.n ∧ 0 < h.m ∧ h.n ≤ 512 := by
  have := form_iff.1 hF
  omega
theorem sh_no {r : Int} {s : Sd} {v : Vl} (e : shB s.h v = false) : sdS r s v = s := by unfold sdS; rw [if_neg (by simp [e])]
theorem sh_yes {r : Int} {s : Sd} {v : Vl} (e : shB s.h v = true) : sdS r s v = ⟨paH s.h v.n, gpN r s.n v.n, gpZ r s.n s.z v.n, s.o || !gpB r s.n v.n⟩ := by unfold sdS; rw [if_pos e]
theorem tbox_five {w w0 : World} {x1 x2 x3 x4 x5 : Array Value} {t1 t2 t3 t4 t5 : TypeId} (e : w0 = ((((w.alloc (.cells x1 t1)).alloc (.cells x2 t2)).alloc (.cells x3 t3)).alloc (.cells x4 t4)).alloc (.cells x5 t5)) :
    TBox t1 w.heap.size x1 w0 ∧ TBox t2 (w.heap.size + 1) x2 w0 ∧ TBox t3 (w.heap.size + 1 + 1) x3 w0 ∧ TBox t4 (w.heap.size + 1 + 1 + 1) x4 w0 ∧ TBox t5 (w.heap.size + 1 + 1 + 1 + 1) x5 w0 ∧ Below w.heap.size w w0 := by
  have ba : ∀ (W : World) (o : Obj), Below W.heap.size W (W.alloc o) := fun W o => (Below.refl _ _).alloc (Nat.le_refl _) _
  have sz : ∀ (W : World) (o : Obj), (W.alloc o).heap.size = W.heap.size + 1 := fun W o => by simp
  have b1 := ba w (.cells x1 t1)
  have n1 := TBox.new t1 w x1
  have s1 := sz w (.cells x1 t1)
  generalize w.alloc (.cells x1 t1) = w1 at *
  have b2 := ba w1 (.cells x2 t2)
  have n2 := TBox.new t2 w1 x2
  have s2 := sz w1 (.cells x2 t2)
  generalize w1.alloc (.cells x2 t2) = w2 at *
  have b3 := ba w2 (.cells x3 t3)
  have n3 := TBox.new t3 w2 x3
  have s3 := sz w2 (.cells x3 t3)
  generalize w2.alloc (.cells x3 t3) = w3 at *
  have b4 := ba w3 (.cells x4 t4)
  have n4 := TBox.new t4 w3 x4
  have s4 := sz w3 (.cells x4 t4)
  generalize w3.alloc (.cells x4 t4) = w4 at *
  have b5 := ba w4 (.cells x5 t5)
  have n5 := TBox.new t5 w4 x5
  rw [← e] at b5 n5
  rw [s1] at n2
  rw [show w2.heap.size = w.heap.size + 1 + 1 by omega] at n3
  rw [show w3.heap.size = w.heap.size + 1 + 1 + 1 by omega] at n4
  rw [show w4.heap.size = w.heap.size + 1 + 1 + 1 + 1 by omega] at n5
  exact ⟨(((n1.below b2).below b3).below b4).below b5, ((n2.below b3).below b4).below b5, (n3.below b4).below b5, n4.below b5, n5, bjoin b5 (bjoin b4 (bjoin b3 (bjoin b2 b1)))⟩
theorem below_st5 {w W : World} {B B' : Nat} (hb : Below w.heap.size w W) (h1 : w.heap.size ≤ B) (h2 : w.heap.size ≤ B') (a b c x y : Value) : Below w.heap.size w (((((W.setCell ⟨B, 0, none⟩ a).setCell ⟨B, 1, none⟩ b).setCell ⟨B, 2, none⟩ c).setCell ⟨B', 0, none⟩ x).setCell ⟨B', 1, none⟩ y) :=
  ((((hb.setCell (p := ⟨B, 0, none⟩) h1 a).setCell (p := ⟨B, 1, none⟩) h1 b).setCell (p := ⟨B, 2, none⟩) h1 c).setCell (p := ⟨B', 0, none⟩) h2 x).setCell (p := ⟨B', 1, none⟩) h2 y
set_option maxHeartbeats 4000000 in
set_option maxRecDepth 20000 in
theorem rshade_any (N : Nat) (r : Int) (p : Option Addr) (c : Nat) (q : Option Addr) (d : Nat) (h : Hp) (pr : Option Addr) (k cr : Nat) (z : Nat → Int) (v : Vl) (w : World)
    (hh : HpAt w p c q d h) (hF : formB h = true) (hg : GrAt w pr cr k z) (hR : RowE N 3 k pr w) (hN : N ≤ w.heap.size) (hr : r ≤ 1000000) (hv : v.wf) :
    Calls Tryd.prog 27 #[.agg #[.slice p h.n c, .slice q h.m d, .bool h.b], .agg #[.int .i64 r, .slice pr k cr], v.agg] w fun e w' => ∃ p' c' q' d' pr' cr', e = .returned (.tuple #[.agg #[.slice p' h.n c', .slice q' h.m d', .bool h.b], .agg #[.int .i64 r, .slice pr' (sdS r ⟨h, k, z, false⟩ v).n cr'], .bool (sdS r ⟨h, k, z, false⟩ v).o]) ∧
      HpIn w' p' h.n c' q' h.m d' h.b (sdS r ⟨h, k, z, false⟩ v).h ∧ GrAt w' pr' cr' (sdS r ⟨h, k, z, false⟩ v).n (sdS r ⟨h, k, z, false⟩ v).z ∧ RowE N 3 (sdS r ⟨h, k, z, false⟩ v).n pr' w' ∧ Below w.heap.size w w' := by
  obtain ⟨vk, vn⟩ := v
  obtain ⟨w0, hw0⟩ : ∃ w0, w0 = ((((w.alloc (.cells #[.slice p h.n c, .slice q h.m d, .bool h.b] 25)).alloc (.cells #[.int .i64 r, .slice pr k cr] 28)).alloc (.cells #[.int .i64 vk, .int .i64 vn] 38)).alloc (.cells #[.slice none 0 0, .slice none 0 0, .bool false] 25)).alloc (.cells #[.int .i64 0, .slice none 0 0] 28) := ⟨_, rfl⟩
  obtain ⟨g0, g1, g2, g3, g4, hb0⟩ := tbox_five hw0
  have hG := rget8_any p c q d h vn w0 (hh.below hb0) hF
  have hB := fun W (hW : Below w0.heap.size w0 W) => rblack8_any p c q d h vn W ((hh.below hb0).below hW) hF
  have hshB : shB h ⟨vk, vn⟩ = (decide (vk = 2) && (obB h vn && !blB h vn)) := rfl
  have hcase : (shB h ⟨vk, vn⟩ = false ∧ ((vk != 2) = true ∨ ((vk != 2) = false ∧ obB h vn = false) ∨ ((vk != 2) = false ∧ obB h vn = true ∧ blB h vn = true))) ∨ (shB h ⟨vk, vn⟩ = true ∧ (vk != 2) = false ∧ obB h vn = true ∧ blB h vn = false) := by
    rw [hshB]
    by_cases hk : vk = 2
    · rw [decide_eq_true hk, show (vk != 2) = false by simpa using hk]
      cases obB h vn <;> cases blB h vn <;> simp
    · rw [decide_eq_false hk, show (vk != 2) = true by simpa using hk]
      simp
  clear hshB
  have hP := fun W (hW : Below w0.heap.size w0 W) => rpaint8_any p c q d h vn W ((hh.below hb0).below hW) hF
  have hPu := fun W (hW : Below w0.heap.size w0 W) => rgpush_tag r vn pr k cr z W ((hg.below hb0).below hW) hr hv.2
  generalize obC h vn = C at hG
  generalize obK h vn = KK at hG
  generalize obN h vn = F at hG
  unfold Vl.agg
  have x0 := g0.cell 0
  have x1 := g0.cell 1
  have x2 := g0.cell 2
  have u1 := g2.cell 1
  simp only [List.getElem?_toArray, List.getElem?_cons_zero, List.getElem?_cons_succ] at x0 x1 x2 u1
  have l0 := g0.lt
  have l4 := g4.lt
  generalize hO : obB h vn = O at *
  rcases hcase with ⟨e, hcase⟩ | ⟨e, hk, eo, eb⟩
  · rw [sh_no (s := ⟨h, k, z, false⟩) e]
    dsimp only
    clear e hP hPu
    go_enter Tryd.func27, Tryd.ntmps27
    go_upto_region 1 with fail
    rw [← hw0]
    clear hw0
    go_upto_region 2 with (first
    | (go_at_call 23; refine Calls.mono (hG) ?_; rintro e w' ⟨rfl, hb⟩; obtain ⟨hc, hf, hb, hz⟩ := bstep hb (w := w0) (by go_grown); try simp only [World.size_alloc, World.size_setCell, World.size_drew] at hc hf hz)
    )
    obtain ⟨w2, hw2⟩ : ∃ W, W = w'.alloc (.cells #[.bool O, .bool C, .int .i64 KK, .int .i64 F] 52) := ⟨_, rfl⟩
    have hb2 : Below w0.heap.size w0 w2 := by rw [hw2]; exact hb.alloc hz _
    rw [← hw2]
    clear hw2 hc hf hb hz hG x0 x1 x2 u1 l0 l4
    have hB2 := hB w2 hb2
    clear hB
    have x0 := (g0.below hb2).cell 0
    have x1 := (g0.below hb2).cell 1
    have x2 := (g0.below hb2).cell 2
    have u0 := (g2.below hb2).cell 0
    have u1 := (g2.below hb2).cell 1
    simp only [List.getElem?_toArray, List.getElem?_cons_zero, List.getElem?_cons_succ] at x0 x1 x2 u0 u1
    have l0 := (g0.below hb2).lt
    have l2 := (g2.below hb2).lt
    have hz2 := hb2.size
    rcases hcase with hk | ⟨hk, rfl⟩ | ⟨hk, rfl, eb⟩
    case' inl =>
      go_upto_region 3 with fail
      have hb3 := hb2
      clear hB2
      generalize w2 = w3 at hb3 ⊢
    case' inr.inl =>
      go_upto_region 3 with fail
      have hb3 := hb2
      clear hB2
      generalize w2 = w3 at hb3 ⊢
    case' inr.inr =>
      rw [eb] at hB2
      go_upto_region 3 with (first
    | (go_at_call 13; refine Calls.mono (hB2) ?_; rintro e w' ⟨rfl, hb⟩; obtain ⟨hc, hf, hb, hz⟩ := bstep hb (w := w2) (by go_grown); try simp only [World.size_alloc, World.size_setCell, World.size_drew] at hc hf hz)
      )
      have hb3 := hb2.trans (hb.mono hz2)
      clear hB2
      generalize w' = w3 at hb3 ⊢
    all_goals
      clear x0 x1 x2 u0 u1 l0 l2
      have x0 := (g0.below hb3).cell 0
      have x1 := (g0.below hb3).cell 1
      have x2 := (g0.below hb3).cell 2
      have y0 := (g1.below hb3).cell 0
      have y1 := (g1.below hb3).cell 1
      have a0 := (g3.below hb3).cell 0
      have a1 := (g3.below hb3).cell 1
      have a2 := (g3.below hb3).cell 2
      have b0 := (g4.below hb3).cell 0
      have b1 := (g4.below hb3).cell 1
      simp only [List.getElem?_toArray, List.getElem?_cons_zero, List.getElem?_cons_succ] at x0 x1 x2 y0 y1 a0 a1 a2 b0 b1
      have fa0 := (g3.below hb3).frozen 0
      have fa1 := (g3.below hb3).frozen 1
      have fa2 := (g3.below hb3).frozen 2
      have fb0 := (g4.below hb3).frozen 0
      have fb1 := (g4.below hb3).frozen 1
      have l0 := (g0.below hb3).lt
      have l1 := (g1.below hb3).lt
      have l3 := (g3.below hb3).lt
      have l4 := (g4.below hb3).lt
      clear g0 g1 g2 g3 g4
      have hbw := (below_st5 (B := w.heap.size + 1 + 1 + 1) (B' := w.heap.size + 1 + 1 + 1 + 1) (bjoin hb3 hb0) (by omega) (by omega) (.slice p h.n c) (.slice q h.m d) (.bool h.b) (.int .i64 r) (.slice pr k cr)).drew
      go_region
      all_goals
        go_wp2
        refine bodyPost_ret (by simp [results, Tryd.results27, go_sem, *]; try rfl) rfl ?_
        exact ⟨p, c, q, d, pr, cr, rfl, ⟨rfl, rfl, rfl, hh.below hbw⟩, hg.below hbw, hR.below hbw, hbw⟩
  · rw [sh_yes (s := ⟨h, k, z, false⟩) e]
    dsimp only
    subst eo
    clear e
    go_enter Tryd.func27, Tryd.ntmps27
    go_upto_region 1 with fail
    rw [← hw0]
    clear hw0
    go_upto_region 2 with (first
    | (go_at_call 23; refine Calls.mono (hG) ?_; rintro e w' ⟨rfl, hb⟩; obtain ⟨hc, hf, hb, hz⟩ := bstep hb (w := w0) (by go_grown); try simp only [World.size_alloc, World.size_setCell, World.size_drew] at hc hf hz)
    )
    obtain ⟨w2, hw2⟩ : ∃ W, W = w'.alloc (.cells #[.bool true, .bool C, .int .i64 KK, .int .i64 F] 52) := ⟨_, rfl⟩
    have hb2 : Below w0.heap.size w0 w2 := by rw [hw2]; exact hb.alloc hz _
    rw [← hw2]
    clear hw2 hc hf hb hz hG x0 x1 x2 u1 l0 l4
    have hB2 := hB w2 hb2
    clear hB
    have x0 := (g0.below hb2).cell 0
    have x1 := (g0.below hb2).cell 1
    have x2 := (g0.below hb2).cell 2
    have u0 := (g2.below hb2).cell 0
    have u1 := (g2.below hb2).cell 1
    simp only [List.getElem?_toArray, List.getElem?_cons_zero, List.getElem?_cons_succ] at x0 x1 x2 u0 u1
    have l0 := (g0.below hb2).lt
    have l2 := (g2.below hb2).lt
    have hz2 := hb2.size
    rw [eb] at hB2
    go_upto_region 4 with (first
    | (go_at_call 13; refine Calls.mono (hB2) ?_; rintro e w' ⟨rfl, hb⟩; obtain ⟨hc, hf, hb, hz⟩ := bstep hb (w := w2) (by go_grown); try simp only [World.size_alloc, World.size_setCell, World.size_drew] at hc hf hz)
    )
    have hb3 := hb2.trans (hb.mono hz2)
    have hP3 := hP w' hb3
    clear hB2 hP hc hf hb hz x0 x1 x2 u0 u1 l0 l2
    generalize w' = w3 at hb3 hP3 ⊢
    have x0 := (g0.below hb3).cell 0
    have x1 := (g0.below hb3).cell 1
    have x2 := (g0.below hb3).cell 2
    have u1 := (g2.below hb3).cell 1
    simp only [List.getElem?_toArray, List.getElem?_cons_zero, List.getElem?_cons_succ] at x0 x1 x2 u1
    have l0 := (g0.below hb3).lt
    have l2 := (g2.below hb3).lt
    go_upto_region 5 with (first
    | (go_at_call 39; refine Calls.mono (hP3) ?_; rintro e w' ⟨p', c', q', d', rfl, hA, hSr, hb⟩; obtain ⟨hc, hf, hb, hz⟩ := bstep hb (w := w3) (by go_grown); try simp only [World.size_alloc, World.size_setCell, World.size_drew] at hc hf hz)
    )
    have hb4 := hb3.trans (hb.mono hb3.size)
    replace hA := hA.below ((Below.refl _ _).alloc (Nat.le_refl _) (.cells #[.slice p' h.n c', .slice q' h.m d', .bool h.b] 25))
    have gP : TBox 25 w'.heap.size #[.slice p' h.n c', .slice q' h.m d', .bool h.b] (w'.alloc (.cells #[.slice p' h.n c', .slice q' h.m d', .bool h.b] 25)) := TBox.new _ _ _
    have hb5 := hb4.alloc (Nat.le_trans hb3.size hb.size) (.cells #[.slice p' h.n c', .slice q' h.m d', .bool h.b] 25)
    have hlt5 := Nat.le_trans hb3.size hb.size
    clear hc hf hb hz hP3 hb4
    generalize w'.heap.size = B5 at *
    generalize w'.alloc (.cells #[.slice p' h.n c', .slice q' h.m d', .bool h.b] 25) = w5 at *
    have hPu5 := hPu w5 hb5
    clear hPu x0 x1 x2 u1 l0 l2
    have y0 := (g1.below hb5).cell 0
    have y1 := (g1.below hb5).cell 1
    have u1 := (g2.below hb5).cell 1
    simp only [List.getElem?_toArray, List.getElem?_cons_zero, List.getElem?_cons_succ] at y0 y1 u1
    have l1 := (g1.below hb5).lt
    have l2 := (g2.below hb5).lt
    go_upto_region 6 with (first
    | (go_at_call 40; refine Calls.mono (hPu5) ?_; rintro e w' ⟨pr', cr', rfl, hG', hb, hT⟩; obtain ⟨hc, hf, hb, hz⟩ := bstep hb (w := w5) (by go_grown); try simp only [World.size_alloc, World.size_setCell, World.size_drew] at hc hf hz)
    )
    have hE : RowE N 3 (gpN r k vn) pr' w' := fun h0 b off sp e => by
      rcases hT b off sp e with ⟨h1, h2⟩ | ⟨cs, h1⟩
      · have e1 : gpN r k vn = k := by unfold gpN; rw [if_neg (by simp [h1])]
        rw [e1] at h0
        rw [h2] at e
        exact ((hR.below hb0).below (hb5.trans (hb.mono hb5.size))) h0 b off sp e
      · exact ⟨(Array.getElem?_eq_some_iff.1 h1).1, .inr ⟨cs, h1⟩⟩
    have hbn : Below w'.heap.size w' (w'.alloc (.cells #[.int .i64 r, .slice pr' (gpN r k vn) cr'] 28)) := (Below.refl _ _).alloc (Nat.le_refl _) _
    have gQ : TBox 28 w'.heap.size #[.int .i64 r, .slice pr' (gpN r k vn) cr'] (w'.alloc (.cells #[.int .i64 r, .slice pr' (gpN r k vn) cr'] 28)) := TBox.new _ _ _
    have hb7 := (hb5.trans (hb.mono hb5.size)).trans (hbn.mono (Nat.le_trans hb5.size hb.size))
    replace hA := (hA.below hb).below hbn
    replace gP := (gP.below hb).below hbn
    replace hG' := hG'.below hbn
    replace hE := hE.below hbn
    have hlt7 : w0.heap.size ≤ w'.heap.size := Nat.le_trans hb5.size hb.size
    clear hc hf hb hz hPu5 hT hbn y0 y1 u1 l1 l2 hb5 hb3 hb2
    generalize w'.heap.size = B7 at *
    generalize w'.alloc (.cells #[.int .i64 r, .slice pr' (gpN r k vn) cr'] 28) = w7 at *
    have g3' := g3.below hb7
    have g4' := g4.below hb7
    have e0 := gP.cell 0
    have e1 := gP.cell 1
    have e2 := gP.cell 2
    have q0 := gQ.cell 0
    have q1 := gQ.cell 1
    have a0 := g3'.cell 0
    have a1 := g3'.cell 1
    have a2 := g3'.cell 2
    have b0 := g4'.cell 0
    have b1 := g4'.cell 1
    simp only [List.getElem?_toArray, List.getElem?_cons_zero, List.getElem?_cons_succ] at e0 e1 e2 q0 q1 a0 a1 a2 b0 b1
    have fa0 := g3'.frozen 0
    have fa1 := g3'.frozen 1
    have fa2 := g3'.frozen 2
    have fb0 := g4'.frozen 0
    have fb1 := g4'.frozen 1
    have l3 := g3'.lt
    have l4 := g4'.lt
    have lP := gP.lt
    have lQ := gQ.lt
    have l40 := g4.lt
    have hbw := (below_st5 (B := w.heap.size + 1 + 1 + 1) (B' := w.heap.size + 1 + 1 + 1 + 1) (bjoin hb7 hb0) (by omega) (by omega) (.slice p' h.n c') (.slice q' h.m d') (.bool h.b) (.int .i64 r) (.slice pr' (gpN r k vn) cr')).drew
    obtain ⟨hn32, hm0, -⟩ := form_room hF
    obtain ⟨pn1, pn2, pn3⟩ := pa_n h vn
    have hI : HpIn w7 p' h.n c' q' h.m d' h.b (paH h vn) := ⟨pn1.symm, pn2.symm, pn3.symm, hA⟩
    have v3 : VarT 25 3 (w.heap.size + 1 + 1 + 1) w7 := ⟨_, rfl, plain_heap, g3'⟩
    have hI2 := hpIn_puts (v3.clear hI hn32 hm0) [.slice p' h.n c', .slice q' h.m d', .bool h.b] 0 hI
    have v4 : VarT 28 2 (w.heap.size + 1 + 1 + 1 + 1) (putsL (w.heap.size + 1 + 1 + 1) 0 [.slice p' h.n c', .slice q' h.m d', .bool h.b] w7) := VarT.puts ⟨_, rfl, plain_grey, g4'⟩ (plainL_heap _ _ _ _ _ _ _)
    have hI3 := hpIn_puts (v4.clear hI2 hn32 hm0) [.int .i64 r, .slice pr' (gpN r k vn) cr'] 0 hI2
    have hG2 := grAt_puts hG' hE v3 (by decide) (by omega) [.slice p' h.n c', .slice q' h.m d', .bool h.b]
    have hE2 := hE.puts v3 (by decide) (by omega) [.slice p' h.n c', .slice q' h.m d', .bool h.b]
    have hG3 := grAt_puts hG2 hE2 v4 (by decide) (by omega) [.int .i64 r, .slice pr' (gpN r k vn) cr']
    have hE3 := hE2.puts v4 (by decide) (by omega) [.int .i64 r, .slice pr' (gpN r k vn) cr']
    have hdr : ∀ W : World, Below W.heap.size W W.drew := fun W => (Below.refl _ _).drew
    clear hI hI2 hG2 hE2 hA hG' hE v3 v4 g0 g1 g2 g3 g4 g3' g4' gP gQ
    go_region
    all_goals
      go_wp2
      refine bodyPost_ret (by simp [results, Tryd.results27, go_sem, *]; try rfl) rfl ?_
      exact ⟨p', c', q', d', pr', cr', rfl, hI3.below (hdr _), hG3.below (hdr _), hE3.below (hdr _), hbw⟩
theorem rshade_in (N : Nat) (r : Int) {p : Option Addr} {n c : Nat} {q : Option Addr} {m d : Nat} {b : Bool} {h : Hp} {pr : Option Addr} {k cr : Nat} {z : Nat → Int} {v : Vl} {w : World}
    (hh : HpIn w p n c q m d b h) (hF : formB h = true) (hg : GrAt w pr cr k z) (hR : RowE N 3 k pr w) (hN : N ≤ w.heap.size) (hr : r ≤ 1000000) (hv : v.wf) :
    Calls Tryd.prog 27 #[.agg #[.slice p n c, .slice q m d, .bool b], .agg #[.int .i64 r, .slice pr k cr], v.agg] w fun e w' => ∃ p' c' q' d' pr' cr', e = .returned (.tuple #[.agg #[.slice p' n c', .slice q' m d', .bool b], .agg #[.int .i64 r, .slice pr' (sdS r ⟨h, k, z, false⟩ v).n cr'], .bool (sdS r ⟨h, k, z, false⟩ v).o]) ∧
      HpIn w' p' n c' q' m d' b (sdS r ⟨h, k, z, false⟩ v).h ∧ GrAt w' pr' cr' (sdS r ⟨h, k, z, false⟩ v).n (sdS r ⟨h, k, z, false⟩ v).z ∧ RowE N 3 (sdS r ⟨h, k, z, false⟩ v).n pr' w' ∧ Below w.heap.size w w' := by
  obtain ⟨rfl, rfl, rfl, hh⟩ := hh
  exact rshade_any N r p c q d h pr k cr z v w hh hF hg hR hN hr hv
theorem sd_o (r : Int) (h : Hp) (n : Nat) (z : Nat → Int) (o : Bool) (v : Vl) : (sdS r ⟨h, n, z, o⟩ v).h = (sdS r ⟨h, n, z, false⟩ v).h ∧ (sdS r ⟨h, n, z, o⟩ v).n = (sdS r ⟨h, n, z, false⟩ v).n ∧ (sdS r ⟨h, n, z, o⟩ v).z = (sdS r ⟨h, n, z, false⟩ v).z ∧ (sdS r ⟨h, n, z, o⟩ v).o = (o || (sdS r ⟨h, n, z, false⟩ v).o) := by
  unfold sdS
  by_cases e : shB h v = true
  · rw [if_pos e, if_pos e]; exact ⟨rfl, rfl, rfl, by simp⟩
  · rw [if_neg e, if_neg e]; exact ⟨rfl, rfl, rfl, by simp⟩
theorem sd_form {r : Int} {s : Sd} {v : Vl} (hF : formB s.h = true) : formB (sdS r s v).h = true ∧ (sdS r s v).h.n = s.h.n ∧ (sdS r s v).h.m = s.h.m ∧ (sdS r s v).h.b = s.h.b := by
  unfold sdS
  split
  · exact ⟨pa_form hF _, (pa_n _ _).1, (pa_n _ _).2.1, (pa_n _ _).2.2⟩
  · exact ⟨hF, rfl, rfl, rfl⟩
theorem sdA_form {r : Int} {s : Sd} (hF : formB s.h = true) (y : Nat → Vl) : ∀ k, formB (sdA r s y k).h = true ∧ (sdA r s y k).h.n = s.h.n ∧ (sdA r s y k).h.m = s.h.m ∧ (sdA r s y k).h.b = s.h.b
  | 0 => ⟨hF, rfl, rfl, rfl⟩
  | k + 1 => by
    obtain ⟨h1, h2, h3, h4⟩ := sdA_form hF y k
    obtain ⟨g1, g2, g3, g4⟩ := sd_form (r := r) (v := y k) h1
    exact ⟨g1, g2.trans h2, g3.trans h3, g4.trans h4⟩
theorem tbox_four {w w0 : World} {x1 x2 x3 x4 : Array Value} {t1 t2 t3 t4 : TypeId} (e : w0 = (((w.alloc (.cells x1 t1)).alloc (.cells x2 t2)).alloc (.cells x3 t3)).alloc (.cells x4 t4)) :
    TBox t1 w.heap.size x1 w0 ∧ TBox t2 (w.heap.size + 1) x2 w0 ∧ TBox t3 (w.heap.size + 1 + 1) x3 w0 ∧ TBox t4 (w.heap.size + 1 + 1 + 1) x4 w0 ∧ Below w.heap.size w w0 := by
  have ba : ∀ (W : World) (o : Obj), Below W.heap.size W (W.alloc o) := fun W o => (Below.refl _ _).alloc (Nat.le_refl _) _
  have sz : ∀ (W : World) (o : Obj), (W.alloc o).heap.size = W.heap.size + 1 := fun W o => by simp
  have b1 := ba w (.cells x1 t1)
  have n1 := TBox.new t1 w x1
  have s1 := sz w (.cells x1 t1)
  generalize w.alloc (.cells x1 t1) = w1 at *
  have b2 := ba w1 (.cells x2 t2)
  have n2 := TBox.new t2 w1 x2
  have s2 := sz w1 (.cells x2 t2)
  generalize w1.alloc (.cells x2 t2) = w2 at *
  have b3 := ba w2 (.cells x3 t3)
  have n3 := TBox.new t3 w2 x3
  have s3 := sz w2 (.cells x3 t3)
  generalize w2.alloc (.cells x3 t3) = w3 at *
  have b4 := ba w3 (.cells x4 t4)
  have n4 := TBox.new t4 w3 x4
  rw [← e] at b4 n4
  rw [s1] at n2
  rw [show w2.heap.size = w.heap.size + 1 + 1 by omega] at n3
  rw [show w3.heap.size = w.heap.size + 1 + 1 + 1 by omega] at n4
  exact ⟨((n1.below b2).below b3).below b4, (n2.below b3).below b4, n3.below b4, n4, bjoin b4 (bjoin b3 (bjoin b2 b1))⟩
set_option maxHeartbeats 8000000 in
set_option maxRecDepth 20000 in
theorem rshall_any (N : Nat) (r : Int) (p : Option Addr) (c : Nat) (q : Option Addr) (d : Nat) (h : Hp) (pr : Option Addr) (k cr : Nat) (z : Nat → Int) (pv : Option Addr) (n cv : Nat) (y : Nat → Vl) (w : World)
    (hh : HpAt w p c q d h) (hF : formB h = true) (hg : GrAt w pr cr k z) (hR : RowE N 3 k pr w) (hN : N ≤ w.heap.size) (hr : r ≤ 1000000) (hv : VAt w pv cv n y) (hn : n ≤ 1000000) :
    Calls Tryd.prog 16 #[.agg #[.slice p h.n c, .slice q h.m d, .bool h.b], .agg #[.int .i64 r, .slice pr k cr], .slice pv n cv] w fun e w' => ∃ p' c' q' d' pr' cr', e = .returned (.tuple #[.agg #[.slice p' h.n c', .slice q' h.m d', .bool h.b], .agg #[.int .i64 r, .slice pr' (sdA r ⟨h, k, z, false⟩ y n).n cr'], .bool (sdA r ⟨h, k, z, false⟩ y n).o]) ∧
      HpIn w' p' h.n c' q' h.m d' h.b (sdA r ⟨h, k, z, false⟩ y n).h ∧ GrAt w' pr' cr' (sdA r ⟨h, k, z, false⟩ y n).n (sdA r ⟨h, k, z, false⟩ y n).z ∧ RowE N 3 (sdA r ⟨h, k, z, false⟩ y n).n pr' w' ∧ Below w.heap.size w w' := by
  obtain ⟨w0, hw0⟩ : ∃ w0, w0 = (((w.alloc (.cells #[.slice p h.n c, .slice q h.m d, .bool h.b] 25)).alloc (.cells #[.int .i64 r, .slice pr k cr] 28)).alloc (.cells #[.slice none 0 0, .slice none 0 0, .bool false] 25)).alloc (.cells #[.int .i64 0, .slice none 0 0] 28) := ⟨_, rfl⟩
  obtain ⟨g0, g1, g2, g3, hb0⟩ := tbox_four hw0
  have hin0 : HpIn w0 p h.n c q h.m d h.b h := ⟨rfl, rfl, rfl, hh.below hb0⟩
  have hg0 := hg.below hb0
  have hR0 := hR.below hb0
  have hv0 := hv.below hb0
  have hlw : 0 < n → ∀ b off sp, pv = some ⟨b, off, sp⟩ → b < w.heap.size := fun h0 => hv.lt h0
  obtain ⟨hn32, hm0, -⟩ := form_room hF
  have hSF := fun j => sdA_form (r := r) (s := ⟨h, k, z, false⟩) hF y j
  dsimp only at hSF
  clear hh hg hR hv
  go_enter Tryd.func16, Tryd.ntmps16
  go_upto_region 1 with fail
  rw [← hw0]
  clear hw0
  go_wp2
  go_loopg [9, 10] n (fun g ov iv wr => ∃ (j : Nat) (p' : Option Addr) (c' : Nat) (q' : Option Addr) (d' : Nat) (pr' : Option Addr) (cr' : Nat), j ≤ n ∧ g = n - j ∧ iv = .int .i64 j ∧ ov = .bool (sdA r ⟨h, k, z, false⟩ y j).o ∧
    TBox 25 w.heap.size #[.slice p' h.n c', .slice q' h.m d', .bool h.b] wr ∧ TBox 28 (w.heap.size + 1) #[.int .i64 r, .slice pr' (sdA r ⟨h, k, z, false⟩ y j).n cr'] wr ∧
    TBox 25 (w.heap.size + 1 + 1) #[.slice none 0 0, .slice none 0 0, .bool false] wr ∧ TBox 28 (w.heap.size + 1 + 1 + 1) #[.int .i64 0, .slice none 0 0] wr ∧
    HpIn wr p' h.n c' q' h.m d' h.b (sdA r ⟨h, k, z, false⟩ y j).h ∧ GrAt wr pr' cr' (sdA r ⟨h, k, z, false⟩ y j).n (sdA r ⟨h, k, z, false⟩ y j).z ∧ RowE N 3 (sdA r ⟨h, k, z, false⟩ y j).n pr' wr ∧ VAt wr pv cv n y ∧ Below w.heap.size w wr)
  case atStart => exact ⟨0, p, c, q, d, pr, cr, by omega, by omega, rfl, rfl, g0, g1, g2, g3, hin0, hg0, hR0, hv0, hb0⟩
  case round =>
    clear g0 g1 g2 g3 hin0 hg0 hR0 hv0 hb0
    obtain ⟨j, p', c', q', d', pr', cr', jh, rfl, rfl, rfl, g0, g1, g2, g3, hin, hgr, hRE, hva, hbr⟩ := hrel
    obtain ⟨sF, sn, sm, sb⟩ := hSF j
    have hS1 : sdA r ⟨h, k, z, false⟩ y (j + 1) = sdS r (sdA r ⟨h, k, z, false⟩ y j) (y j) := rfl
    generalize hE1 : sdA r ⟨h, k, z, false⟩ y (j + 1) = S1 at *
    clear hSF sn sm sb
    have x0 := g0.cell 0
    have x1 := g0.cell 1
    have x2 := g0.cell 2
    have y0 := g1.cell 0
    have y1 := g1.cell 1
    simp only [List.getElem?_toArray, List.getElem?_cons_zero, List.getElem?_cons_succ] at x0 x1 x2 y0 y1
    have l0 := g0.lt
    have l1 := g1.lt
    by_cases hj : j < n
    · obtain ⟨⟨b, off, rfl, hll, v0, v1⟩, hvw⟩ := hva.row j hj
      have hC := fun W (hW : Below wr.heap.size wr W) => rshade_in N r (v := y j) (hin.below hW) sF (hgr.below hW) (hRE.below hW) (Nat.le_trans hN (Nat.le_trans hbr.size hW.size)) hr hvw
      obtain ⟨s1, s2, s3, s4⟩ := sd_o r (sdA r ⟨h, k, z, false⟩ y j).h (sdA r ⟨h, k, z, false⟩ y j).n (sdA r ⟨h, k, z, false⟩ y j).z (sdA r ⟨h, k, z, false⟩ y j).o (y j)
      have hS1' : S1 = sdS r ⟨(sdA r ⟨h, k, z, false⟩ y j).h, (sdA r ⟨h, k, z, false⟩ y j).n, (sdA r ⟨h, k, z, false⟩ y j).z, (sdA r ⟨h, k, z, false⟩ y j).o⟩ (y j) := hS1
      rw [← hS1'] at s1 s2 s3 s4
      clear hS1 hS1'
      generalize hSj : sdA r ⟨h, k, z, false⟩ y j = S at *
      generalize sdS r ⟨S.h, S.n, S.z, false⟩ (y j) = T at *
      have hNr : N ≤ wr.heap.size := Nat.le_trans hN hbr.size
      clear hin hgr hRE sF
      unfold Vl.agg at hC
      go_upto_region 5 with fail
      refine wp_news_pv [(13, 11), (14, 12)] [some 21, some 22, some 23, some 24, some 25, some 26, some 27, some 20, some 28, some 29, some 30, some 11, some 12, none, none, some 13] [21, 22, 23, 24, 25, 26, 27, 20, 28, 29, 30, 11, 12, 13] ([(fun v _ => v = .agg #[.slice p' h.n c', .slice q' h.m d', .bool h.b]), (fun v _ => v = .agg #[.int .i64 r, .slice pr' S.n cr']), (fun v _ => v = .slice (some ⟨b, off, none⟩) n cv), (fun v _ => v = .int .i64 (j : Int)), (fun v _ => v = .pointer (some ⟨b, off + j * 2, none⟩)), (fun v _ => v = .agg #[.int .i64 (y j).k, .int .i64 (y j).n]), (HgT (N) (h.n) (h.m) (h.b) (T.h) (r) (T.n) (T.z) (.bool T.o)), (HgT (N) (h.n) (h.m) (h.b) (T.h) (r) (T.n) (T.z) (.bool T.o)), (HpV (h.n) (h.m) (h.b) (T.h)), (GreyE (N) (r) (T.n) (T.z)), (fun v _ => v = .bool T.o), (PtrV (wr.heap.size) 25 3), (PtrV (wr.heap.size) 28 2), (fun _ _ => True), (fun _ _ => True), (fun v _ => v = .bool T.o)] : List (Value → World → Prop)) (nsF ([(13, FullHT 25 (h.n) (h.m) (h.b) (T.h)), (14, FullGE 28 (N) (r) (T.n) (T.z))] : List (Nat × (Nat → World → Prop)))) 31 (by kernel_rfl) (by kernel_rfl) rfl rfl (by decide) (by decide) (by simp) (by kernel_rfl) ⟨fun _ _ _ h _ => h, fun _ _ _ h _ => h, fun _ _ _ h _ => h, fun _ _ _ h _ => h, fun _ _ _ h _ => h, fun _ _ _ h _ => h, fun _ _ _ h hb => h.below hb, fun _ _ _ h hb => h.below hb, fun _ _ _ h hb => h.below hb, fun _ _ _ h hb => h.below hb, fun _ _ _ h _ => h, fun _ _ _ h hb => h.below hb, fun _ _ _ h hb => h.below hb, fun _ _ _ _ _ => trivial, fun _ _ _ _ _ => trivial, fun _ _ _ h _ => h, trivial⟩ (nsF_below (l := ([(13, FullHT 25 (h.n) (h.m) (h.b) (T.h)), (14, FullGE 28 (N) (r) (T.n) (T.z))] : List (Nat × (Nat → World → Prop)))) ⟨fun _ _ _ h hb => h.below hb, fun _ _ _ h hb => h.below hb, trivial⟩) ?_ ?_
      · refine ⟨?_, ?_, ?_, ?_, ?_, ?_, ?_, ?_, ?_, ?_, ?_, ?_, ?_, ?_, ?_, ?_, trivial⟩
        · refine news_none rfl ?_
          intro a' w' hb' hs hd Kc hK
          have f3 : a'.tmps[3]?.getD undef = .pointer (some ⟨w.heap.size, 0, none⟩) := (hs 3 (by decide)).trans rfl
          clear hs hd
          have x0' := (hb'.cell (p := ⟨w.heap.size, 0, none⟩) l0).trans x0
          have x1' := (hb'.cell (p := ⟨w.heap.size, 1, none⟩) l0).trans x1
          have x2' := (hb'.cell (p := ⟨w.heap.size, 2, none⟩) l0).trans x2
          have y0' := (hb'.cell (p := ⟨w.heap.size + 1, 0, none⟩) l1).trans y0
          have y1' := (hb'.cell (p := ⟨w.heap.size + 1, 1, none⟩) l1).trans y1
          have v0' := (hb'.cell (p := ⟨b, off + j * 2, none⟩) hll).trans v0
          have v1' := (hb'.cell (p := ⟨b, off + j * 2 + 1, none⟩) hll).trans v1
          unfold Oper.wp
          go_simp
          exact hK _ _ (Below.refl _ _) (by first | rfl | (show Value.int _ _ = Value.int _ _; go_num; done) | (simp [valOf, *]; done) | (simp [valOf]; omega))
        · refine news_none rfl ?_
          intro a' w' hb' hs hd Kc hK
          have f4 : a'.tmps[4]?.getD undef = .pointer (some ⟨w.heap.size + 1, 0, none⟩) := (hs 4 (by decide)).trans rfl
          clear hs hd
          have x0' := (hb'.cell (p := ⟨w.heap.size, 0, none⟩) l0).trans x0
          have x1' := (hb'.cell (p := ⟨w.heap.size, 1, none⟩) l0).trans x1
          have x2' := (hb'.cell (p := ⟨w.heap.size, 2, none⟩) l0).trans x2
          have y0' := (hb'.cell (p := ⟨w.heap.size + 1, 0, none⟩) l1).trans y0
          have y1' := (hb'.cell (p := ⟨w.heap.size + 1, 1, none⟩) l1).trans y1
          have v0' := (hb'.cell (p := ⟨b, off + j * 2, none⟩) hll).trans v0
          have v1' := (hb'.cell (p := ⟨b, off + j * 2 + 1, none⟩) hll).trans v1
          unfold Oper.wp
          go_simp
          exact hK _ _ (Below.refl _ _) (by first | rfl | (show Value.int _ _ = Value.int _ _; go_num; done) | (simp [valOf, *]; done) | (simp [valOf]; omega))
        · refine news_none rfl ?_
          intro a' w' hb' hs hd Kc hK
          have f2 : a'.tmps[2]?.getD undef = .slice (some ⟨b, off, none⟩) n cv := (hs 2 (by decide)).trans rfl
          clear hs hd
          have x0' := (hb'.cell (p := ⟨w.heap.size, 0, none⟩) l0).trans x0
          have x1' := (hb'.cell (p := ⟨w.heap.size, 1, none⟩) l0).trans x1
          have x2' := (hb'.cell (p := ⟨w.heap.size, 2, none⟩) l0).trans x2
          have y0' := (hb'.cell (p := ⟨w.heap.size + 1, 0, none⟩) l1).trans y0
          have y1' := (hb'.cell (p := ⟨w.heap.size + 1, 1, none⟩) l1).trans y1
          have v0' := (hb'.cell (p := ⟨b, off + j * 2, none⟩) hll).trans v0
          have v1' := (hb'.cell (p := ⟨b, off + j * 2 + 1, none⟩) hll).trans v1
          unfold Oper.wp
          go_simp
          exact hK _ _ (Below.refl _ _) (by first | rfl | (show Value.int _ _ = Value.int _ _; go_num; done) | (simp [valOf, *]; done) | (simp [valOf]; omega))
        · refine news_none rfl ?_
          intro a' w' hb' hs hd Kc hK
          have f10 : a'.tmps[10]?.getD undef = .int .i64 (j : Int) := (hs 10 (by decide)).trans rfl
          clear hs hd
          have x0' := (hb'.cell (p := ⟨w.heap.size, 0, none⟩) l0).trans x0
          have x1' := (hb'.cell (p := ⟨w.heap.size, 1, none⟩) l0).trans x1
          have x2' := (hb'.cell (p := ⟨w.heap.size, 2, none⟩) l0).trans x2
          have y0' := (hb'.cell (p := ⟨w.heap.size + 1, 0, none⟩) l1).trans y0
          have y1' := (hb'.cell (p := ⟨w.heap.size + 1, 1, none⟩) l1).trans y1
          have v0' := (hb'.cell (p := ⟨b, off + j * 2, none⟩) hll).trans v0
          have v1' := (hb'.cell (p := ⟨b, off + j * 2 + 1, none⟩) hll).trans v1
          unfold Oper.wp
          go_simp
          exact hK _ _ (Below.refl _ _) (by first | rfl | (show Value.int _ _ = Value.int _ _; go_num; done) | (simp [valOf, *]; done) | (simp [valOf]; omega))
        · refine news_none rfl ?_
          intro a' w' hb' hs hd Kc hK
          have f23 : a'.tmps[23]?.getD undef = .slice (some ⟨b, off, none⟩) n cv := hd 2 23 (by first | rfl | decide | simp [Region.binds]) rfl
          have f24 : a'.tmps[24]?.getD undef = .int .i64 (j : Int) := hd 3 24 (by first | rfl | decide | simp [Region.binds]) rfl
          clear hs hd
          have x0' := (hb'.cell (p := ⟨w.heap.size, 0, none⟩) l0).trans x0
          have x1' := (hb'.cell (p := ⟨w.heap.size, 1, none⟩) l0).trans x1
          have x2' := (hb'.cell (p := ⟨w.heap.size, 2, none⟩) l0).trans x2
          have y0' := (hb'.cell (p := ⟨w.heap.size + 1, 0, none⟩) l1).trans y0
          have y1' := (hb'.cell (p := ⟨w.heap.size + 1, 1, none⟩) l1).trans y1
          have v0' := (hb'.cell (p := ⟨b, off + j * 2, none⟩) hll).trans v0
          have v1' := (hb'.cell (p := ⟨b, off + j * 2 + 1, none⟩) hll).trans v1
          unfold Oper.wp
          go_simp
          exact hK _ _ (Below.refl _ _) (by first | rfl | (show Value.int _ _ = Value.int _ _; go_num; done) | (simp [valOf, *]; done) | (simp [valOf]; omega))
        · refine news_none rfl ?_
          intro a' w' hb' hs hd Kc hK
          have f25 : a'.tmps[25]?.getD undef = .pointer (some ⟨b, off + j * 2, none⟩) := hd 4 25 (by first | rfl | decide | simp [Region.binds]) rfl
          clear hs hd
          have x0' := (hb'.cell (p := ⟨w.heap.size, 0, none⟩) l0).trans x0
          have x1' := (hb'.cell (p := ⟨w.heap.size, 1, none⟩) l0).trans x1
          have x2' := (hb'.cell (p := ⟨w.heap.size, 2, none⟩) l0).trans x2
          have y0' := (hb'.cell (p := ⟨w.heap.size + 1, 0, none⟩) l1).trans y0
          have y1' := (hb'.cell (p := ⟨w.heap.size + 1, 1, none⟩) l1).trans y1
          have v0' := (hb'.cell (p := ⟨b, off + j * 2, none⟩) hll).trans v0
          have v1' := (hb'.cell (p := ⟨b, off + j * 2 + 1, none⟩) hll).trans v1
          unfold Oper.wp
          go_simp
          exact hK _ _ (Below.refl _ _) (by first | rfl | (show Value.int _ _ = Value.int _ _; go_num; done) | (simp [valOf, *]; done) | (simp [valOf]; omega))
        · refine news_none rfl ?_
          intro a' w' hb' hs hd Kc hK
          have f21 : a'.tmps[21]?.getD undef = .agg #[.slice p' h.n c', .slice q' h.m d', .bool h.b] := hd 0 21 (by first | rfl | decide | simp [Region.binds]) rfl
          have f22 : a'.tmps[22]?.getD undef = .agg #[.int .i64 r, .slice pr' S.n cr'] := hd 1 22 (by first | rfl | decide | simp [Region.binds]) rfl
          have f26 : a'.tmps[26]?.getD undef = .agg #[.int .i64 (y j).k, .int .i64 (y j).n] := hd 5 26 (by first | rfl | decide | simp [Region.binds]) rfl
          clear hs hd
          have x0' := (hb'.cell (p := ⟨w.heap.size, 0, none⟩) l0).trans x0
          have x1' := (hb'.cell (p := ⟨w.heap.size, 1, none⟩) l0).trans x1
          have x2' := (hb'.cell (p := ⟨w.heap.size, 2, none⟩) l0).trans x2
          have y0' := (hb'.cell (p := ⟨w.heap.size + 1, 0, none⟩) l1).trans y0
          have y1' := (hb'.cell (p := ⟨w.heap.size + 1, 1, none⟩) l1).trans y1
          have v0' := (hb'.cell (p := ⟨b, off + j * 2, none⟩) hll).trans v0
          have v1' := (hb'.cell (p := ⟨b, off + j * 2 + 1, none⟩) hll).trans v1
          unfold Oper.wp
          go_simp
          refine Calls.mono (hC _ hb') ?_
          rintro e w'' ⟨p2, c2, q2, d2, pr2, cr2, rfl, hA, hG, hR, hb2⟩
          exact hK _ _ hb2 ⟨_, _, _, _, _, _, rfl, hA, hG, hR⟩
        · refine news_none rfl ?_
          intro a' w' hb' hs hd Kc hK
          have f27 : HgT (N) (h.n) (h.m) (h.b) (T.h) (r) (T.n) (T.z) (.bool T.o) (a'.tmps[27]?.getD undef) w' := hd 6 27 (by first | rfl | decide | simp [Region.binds]) rfl
          clear hs hd
          have x0' := (hb'.cell (p := ⟨w.heap.size, 0, none⟩) l0).trans x0
          have x1' := (hb'.cell (p := ⟨w.heap.size, 1, none⟩) l0).trans x1
          have x2' := (hb'.cell (p := ⟨w.heap.size, 2, none⟩) l0).trans x2
          have y0' := (hb'.cell (p := ⟨w.heap.size + 1, 0, none⟩) l1).trans y0
          have y1' := (hb'.cell (p := ⟨w.heap.size + 1, 1, none⟩) l1).trans y1
          have v0' := (hb'.cell (p := ⟨b, off + j * 2, none⟩) hll).trans v0
          have v1' := (hb'.cell (p := ⟨b, off + j * 2 + 1, none⟩) hll).trans v1
          obtain ⟨_, _, _, _, _, _, f27, hA, hG, hR⟩ := f27
          unfold Oper.wp
          go_simp
          exact hK _ _ (Below.refl _ _) ⟨_, _, _, _, _, _, rfl, hA, hG, hR⟩
        · refine news_none rfl ?_
          intro a' w' hb' hs hd Kc hK
          have f20 : HgT (N) (h.n) (h.m) (h.b) (T.h) (r) (T.n) (T.z) (.bool T.o) (a'.tmps[20]?.getD undef) w' := hd 7 20 (by first | rfl | decide | simp [Region.binds]) rfl
          clear hs hd
          have x0' := (hb'.cell (p := ⟨w.heap.size, 0, none⟩) l0).trans x0
          have x1' := (hb'.cell (p := ⟨w.heap.size, 1, none⟩) l0).trans x1
          have x2' := (hb'.cell (p := ⟨w.heap.size, 2, none⟩) l0).trans x2
          have y0' := (hb'.cell (p := ⟨w.heap.size + 1, 0, none⟩) l1).trans y0
          have y1' := (hb'.cell (p := ⟨w.heap.size + 1, 1, none⟩) l1).trans y1
          have v0' := (hb'.cell (p := ⟨b, off + j * 2, none⟩) hll).trans v0
          have v1' := (hb'.cell (p := ⟨b, off + j * 2 + 1, none⟩) hll).trans v1
          obtain ⟨_, _, _, _, _, _, f20, hA, hG, hR⟩ := f20
          unfold Oper.wp
          go_simp
          exact hK _ _ (Below.refl _ _) ⟨_, _, _, _, rfl, hA⟩
        · refine news_none rfl ?_
          intro a' w' hb' hs hd Kc hK
          have f20 : HgT (N) (h.n) (h.m) (h.b) (T.h) (r) (T.n) (T.z) (.bool T.o) (a'.tmps[20]?.getD undef) w' := hd 7 20 (by first | rfl | decide | simp [Region.binds]) rfl
          clear hs hd
          have x0' := (hb'.cell (p := ⟨w.heap.size, 0, none⟩) l0).trans x0
          have x1' := (hb'.cell (p := ⟨w.heap.size, 1, none⟩) l0).trans x1
          have x2' := (hb'.cell (p := ⟨w.heap.size, 2, none⟩) l0).trans x2
          have y0' := (hb'.cell (p := ⟨w.heap.size + 1, 0, none⟩) l1).trans y0
          have y1' := (hb'.cell (p := ⟨w.heap.size + 1, 1, none⟩) l1).trans y1
          have v0' := (hb'.cell (p := ⟨b, off + j * 2, none⟩) hll).trans v0
          have v1' := (hb'.cell (p := ⟨b, off + j * 2 + 1, none⟩) hll).trans v1
          obtain ⟨_, _, _, _, _, _, f20, hA, hG, hR⟩ := f20
          unfold Oper.wp
          go_simp
          exact hK _ _ (Below.refl _ _) ⟨_, _, rfl, hG, hR⟩
        · refine news_none rfl ?_
          intro a' w' hb' hs hd Kc hK
          have f20 : HgT (N) (h.n) (h.m) (h.b) (T.h) (r) (T.n) (T.z) (.bool T.o) (a'.tmps[20]?.getD undef) w' := hd 7 20 (by first | rfl | decide | simp [Region.binds]) rfl
          clear hs hd
          have x0' := (hb'.cell (p := ⟨w.heap.size, 0, none⟩) l0).trans x0
          have x1' := (hb'.cell (p := ⟨w.heap.size, 1, none⟩) l0).trans x1
          have x2' := (hb'.cell (p := ⟨w.heap.size, 2, none⟩) l0).trans x2
          have y0' := (hb'.cell (p := ⟨w.heap.size + 1, 0, none⟩) l1).trans y0
          have y1' := (hb'.cell (p := ⟨w.heap.size + 1, 1, none⟩) l1).trans y1
          have v0' := (hb'.cell (p := ⟨b, off + j * 2, none⟩) hll).trans v0
          have v1' := (hb'.cell (p := ⟨b, off + j * 2 + 1, none⟩) hll).trans v1
          obtain ⟨_, _, _, _, _, _, f20, hA, hG, hR⟩ := f20
          unfold Oper.wp
          go_simp
          exact hK _ _ (Below.refl _ _) (by first | rfl | (show Value.int _ _ = Value.int _ _; go_num; done) | (simp [valOf, *]; done) | (simp [valOf]; omega))
        · refine news_none rfl ?_
          intro a' w' hb' hs hd Kc hK
          clear hs hd
          have x0' := (hb'.cell (p := ⟨w.heap.size, 0, none⟩) l0).trans x0
          have x1' := (hb'.cell (p := ⟨w.heap.size, 1, none⟩) l0).trans x1
          have x2' := (hb'.cell (p := ⟨w.heap.size, 2, none⟩) l0).trans x2
          have y0' := (hb'.cell (p := ⟨w.heap.size + 1, 0, none⟩) l1).trans y0
          have y1' := (hb'.cell (p := ⟨w.heap.size + 1, 1, none⟩) l1).trans y1
          have v0' := (hb'.cell (p := ⟨b, off + j * 2, none⟩) hll).trans v0
          have v1' := (hb'.cell (p := ⟨b, off + j * 2 + 1, none⟩) hll).trans v1
          unfold Oper.wp
          go_simp
          exact hK _ _ ((Below.refl _ _).alloc (Nat.le_refl _) _) (ptrV_new _ _ _ plain_heap hb'.size)
        · refine news_none rfl ?_
          intro a' w' hb' hs hd Kc hK
          clear hs hd
          have x0' := (hb'.cell (p := ⟨w.heap.size, 0, none⟩) l0).trans x0
          have x1' := (hb'.cell (p := ⟨w.heap.size, 1, none⟩) l0).trans x1
          have x2' := (hb'.cell (p := ⟨w.heap.size, 2, none⟩) l0).trans x2
          have y0' := (hb'.cell (p := ⟨w.heap.size + 1, 0, none⟩) l1).trans y0
          have y1' := (hb'.cell (p := ⟨w.heap.size + 1, 1, none⟩) l1).trans y1
          have v0' := (hb'.cell (p := ⟨b, off + j * 2, none⟩) hll).trans v0
          have v1' := (hb'.cell (p := ⟨b, off + j * 2 + 1, none⟩) hll).trans v1
          unfold Oper.wp
          go_simp
          exact hK _ _ ((Below.refl _ _).alloc (Nat.le_refl _) _) (ptrV_new _ _ _ plain_grey hb'.size)
        · refine news_some 11 11 rfl rfl ?_
          intro a' w' hb' hs hd Kc hK
          have f11 : PtrV (wr.heap.size) 25 3 (a'.tmps[11]?.getD undef) w' := hd 11 11 (by first | rfl | decide | simp [Region.binds]) rfl
          have f28 : HpV (h.n) (h.m) (h.b) (T.h) (a'.tmps[28]?.getD undef) w' := hd 8 28 (by first | rfl | decide | simp [Region.binds]) rfl
          clear hs hd
          have x0' := (hb'.cell (p := ⟨w.heap.size, 0, none⟩) l0).trans x0
          have x1' := (hb'.cell (p := ⟨w.heap.size, 1, none⟩) l0).trans x1
          have x2' := (hb'.cell (p := ⟨w.heap.size, 2, none⟩) l0).trans x2
          have y0' := (hb'.cell (p := ⟨w.heap.size + 1, 0, none⟩) l1).trans y0
          have y1' := (hb'.cell (p := ⟨w.heap.size + 1, 1, none⟩) l1).trans y1
          have v0' := (hb'.cell (p := ⟨b, off + j * 2, none⟩) hll).trans v0
          have v1' := (hb'.cell (p := ⟨b, off + j * 2 + 1, none⟩) hll).trans v1
          obtain ⟨gg, f11, hg, hv⟩ := f11
          obtain ⟨p', c', q', d', f28, hA⟩ := f28
          obtain ⟨x0, x1, x2, gl, y0, y1, y2, z0, z1, z2⟩ := hv.three
          have hy := plainL_heap p' (h.n) c' q' (h.m) d' (h.b)
          unfold Oper.wp
          go_simp
          exact hK gg (.tuple #[]) _ f11 (putsL_below hg [.slice p' (h.n) c', .slice q' (h.m) d', .bool (h.b)] 0 w') ⟨p', c', q', d', hv.full3 _ _ _, hpIn_puts (hv.clear hA (hn32) (hm0)) [.slice p' (h.n) c', .slice q' (h.m) d', .bool (h.b)] 0 hA⟩ (nsF_stay (l := ([(13, FullHT 25 (h.n) (h.m) (h.b) (T.h)), (14, FullGE 28 (N) (r) (T.n) (T.z))] : List (Nat × (Nat → World → Prop)))) ⟨.inl rfl, .inr fun g' hQ => hQ.putsV hv (by decide) (by decide) (Nat.le_trans (hNr) hg) [.slice p' (h.n) c', .slice q' (h.m) d', .bool (h.b)], trivial⟩) ⟨fun _ hQ => hQ, fun _ hQ => hQ, fun _ hQ => hQ, fun _ hQ => hQ, fun _ hQ => hQ, fun _ hQ => hQ, fun _ hQ => hQ.putsV hv (by decide) (Nat.le_trans (hNr) hg) (hn32) (hm0) [.slice p' (h.n) c', .slice q' (h.m) d', .bool (h.b)], fun _ hQ => hQ.putsV hv (by decide) (Nat.le_trans (hNr) hg) (hn32) (hm0) [.slice p' (h.n) c', .slice q' (h.m) d', .bool (h.b)], fun _ hQ => hQ.putsV hv (hn32) (hm0) [.slice p' (h.n) c', .slice q' (h.m) d', .bool (h.b)], fun _ hQ => hQ.putsV hv (by decide) (Nat.le_trans (hNr) hg) [.slice p' (h.n) c', .slice q' (h.m) d', .bool (h.b)], fun _ hQ => hQ, fun _ hQ => hQ.putsV hy, fun _ hQ => hQ.putsV hy, fun _ _ => trivial, fun _ _ => trivial, fun _ hQ => hQ, trivial⟩
        · refine news_some 12 12 rfl rfl ?_
          intro a' w' hb' hs hd Kc hK
          have f12 : PtrV (wr.heap.size) 28 2 (a'.tmps[12]?.getD undef) w' := hd 12 12 (by first | rfl | decide | simp [Region.binds]) rfl
          have f29 : GreyE (N) (r) (T.n) (T.z) (a'.tmps[29]?.getD undef) w' := hd 9 29 (by first | rfl | decide | simp [Region.binds]) rfl
          clear hs hd
          have x0' := (hb'.cell (p := ⟨w.heap.size, 0, none⟩) l0).trans x0
          have x1' := (hb'.cell (p := ⟨w.heap.size, 1, none⟩) l0).trans x1
          have x2' := (hb'.cell (p := ⟨w.heap.size, 2, none⟩) l0).trans x2
          have y0' := (hb'.cell (p := ⟨w.heap.size + 1, 0, none⟩) l1).trans y0
          have y1' := (hb'.cell (p := ⟨w.heap.size + 1, 1, none⟩) l1).trans y1
          have v0' := (hb'.cell (p := ⟨b, off + j * 2, none⟩) hll).trans v0
          have v1' := (hb'.cell (p := ⟨b, off + j * 2 + 1, none⟩) hll).trans v1
          obtain ⟨gg, f12, hg, hv⟩ := f12
          obtain ⟨p', c', f29, hG, hR⟩ := f29
          obtain ⟨x0, x1, gl, y0, y1, z0, z1⟩ := hv.shape.two
          have hy := plainL_grey (r) p' (T.n) c'
          unfold Oper.wp
          go_simp
          exact hK gg (.tuple #[]) _ f12 (putsL_below hg [.int .i64 (r), .slice p' (T.n) c'] 0 w') ⟨p', c', hv.shape.full2 _ _, grAt_puts hG hR hv (by decide) (Nat.le_trans (hNr) hg) [.int .i64 (r), .slice p' (T.n) c'], hR.puts hv (by decide) (Nat.le_trans (hNr) hg) [.int .i64 (r), .slice p' (T.n) c']⟩ (nsF_stay (l := ([(13, FullHT 25 (h.n) (h.m) (h.b) (T.h)), (14, FullGE 28 (N) (r) (T.n) (T.z))] : List (Nat × (Nat → World → Prop)))) ⟨.inr fun g' hQ => hQ.putsV hv (by decide) (hn32) (hm0) [.int .i64 (r), .slice p' (T.n) c'], .inl rfl, trivial⟩) ⟨fun _ hQ => hQ, fun _ hQ => hQ, fun _ hQ => hQ, fun _ hQ => hQ, fun _ hQ => hQ, fun _ hQ => hQ, fun _ hQ => hQ.putsV hv (by decide) (Nat.le_trans (hNr) hg) (hn32) (hm0) [.int .i64 (r), .slice p' (T.n) c'], fun _ hQ => hQ.putsV hv (by decide) (Nat.le_trans (hNr) hg) (hn32) (hm0) [.int .i64 (r), .slice p' (T.n) c'], fun _ hQ => hQ.putsV hv (hn32) (hm0) [.int .i64 (r), .slice p' (T.n) c'], fun _ hQ => hQ.putsV hv (by decide) (Nat.le_trans (hNr) hg) [.int .i64 (r), .slice p' (T.n) c'], fun _ hQ => hQ, fun _ hQ => hQ.putsV hy, fun _ hQ => hQ.putsV hy, fun _ _ => trivial, fun _ _ => trivial, fun _ hQ => hQ, trivial⟩
        · refine news_none rfl ?_
          intro a' w' hb' hs hd Kc hK
          have f30 : a'.tmps[30]?.getD undef = .bool T.o := hd 10 30 (by first | rfl | decide | simp [Region.binds]) rfl
          clear hs hd
          have x0' := (hb'.cell (p := ⟨w.heap.size, 0, none⟩) l0).trans x0
          have x1' := (hb'.cell (p := ⟨w.heap.size, 1, none⟩) l0).trans x1
          have x2' := (hb'.cell (p := ⟨w.heap.size, 2, none⟩) l0).trans x2
          have y0' := (hb'.cell (p := ⟨w.heap.size + 1, 0, none⟩) l1).trans y0
          have y1' := (hb'.cell (p := ⟨w.heap.size + 1, 1, none⟩) l1).trans y1
          have v0' := (hb'.cell (p := ⟨b, off + j * 2, none⟩) hll).trans v0
          have v1' := (hb'.cell (p := ⟨b, off + j * 2 + 1, none⟩) hll).trans v1
          unfold Oper.wp
          go_simp
          exact hK _ _ (Below.refl _ _) (by first | rfl | (show Value.int _ _ = Value.int _ _; go_num; done) | (simp [valOf, *]; done) | (simp [valOf]; omega))
      intro Xf w' hb hv hf
      obtain ⟨g11, q11, o11⟩ := hf 13 11 11 rfl rfl
      have p11 : PtrV (wr.heap.size) 25 3 (Xf 11) w' := hv 11 11 rfl
      replace o11 : FullHT 25 (h.n) (h.m) (h.b) (T.h) g11 w' := o11
      obtain ⟨g', e', hg11, hv11⟩ := p11
      rw [q11] at e'
      injection e' with e'
      injection e' with e'
      injection e' with e'
      subst e'
      obtain ⟨g12, q12, o12⟩ := hf 14 12 12 rfl rfl
      have p12 : PtrV (wr.heap.size) 28 2 (Xf 12) w' := hv 12 12 rfl
      replace o12 : FullGE 28 (N) (r) (T.n) (T.z) g12 w' := o12
      obtain ⟨g', e', hg12, hv12⟩ := p12
      rw [q12] at e'
      injection e' with e'
      injection e' with e'
      injection e' with e'
      subst e'
      have q13 : Xf 13 = .bool T.o := hv 15 13 rfl
      clear hv hf
      simp only [List.map_cons, List.map_nil, q11, q12, q13, puts, Act.put, Nat.reduceAdd, List.setIfInBounds_toArray, List.set_cons_succ, List.set_cons_zero]
      obtain ⟨p2, c2, q2, d2, t11, hA⟩ := o11
      obtain ⟨pr2, cr2, t12, hG, hR⟩ := o12
      replace g0 := g0.below hb
      replace g1 := g1.below hb
      replace g2 := g2.below hb
      replace g3 := g3.below hb
      have hva' := hva.below hb
      have hbw := bjoin hb hbr
      have hN0 : w.heap.size < w'.heap.size := g0.lt
      clear hva hC x0 x1 x2 y0 y1 l0 l1 v0 v1 hb q11 q12 q13 hbr hll
      have x0 := t11.cell 0
      have x1 := t11.cell 1
      have x2 := t11.cell 2
      have z0 := g0.cell 0
      have z1 := g0.cell 1
      have z2 := g0.cell 2
      simp only [List.getElem?_toArray, List.getElem?_cons_zero, List.getElem?_cons_succ] at x0 x1 x2 z0 z1 z2
      have f0 := g0.frozen 0
      have f1 := g0.frozen 1
      have f2 := g0.frozen 2
      have lx := t11.lt
      have lz := g0.lt
      go_upto_region 7 with fail
      have v0 := g0.varH
      have hA2 := hpIn_puts (v0.clear hA hn32 hm0) [.slice p2 h.n c2, .slice q2 h.m d2, .bool h.b] 0 hA
      have hG2 := grAt_puts hG hR v0 (by decide) hN [.slice p2 h.n c2, .slice q2 h.m d2, .bool h.b]
      have hR2 := hR.puts v0 (by decide) hN [.slice p2 h.n c2, .slice q2 h.m d2, .bool h.b]
      have t12' := tbox_stays t12 v0 (by decide) [.slice p2 h.n c2, .slice q2 h.m d2, .bool h.b]
      have g0' : TBox 25 w.heap.size #[.slice p2 h.n c2, .slice q2 h.m d2, .bool h.b] (putsL w.heap.size 0 [.slice p2 h.n c2, .slice q2 h.m d2, .bool h.b] w') := g0.putsL [.slice p2 h.n c2, .slice q2 h.m d2, .bool h.b] 0
      have g1' := tbox_stays g1 v0 (by decide) [.slice p2 h.n c2, .slice q2 h.m d2, .bool h.b]
      have g2' : TBox 25 (w.heap.size + 1 + 1) #[.slice none 0 0, .slice none 0 0, .bool false] (putsL w.heap.size 0 [.slice p2 h.n c2, .slice q2 h.m d2, .bool h.b] w') := g2.of_block (putsL_other (by omega) _ _ _)
      have g3' := tbox_stays g3 v0 (by decide) [.slice p2 h.n c2, .slice q2 h.m d2, .bool h.b]
      have hva2 : VAt (putsL w.heap.size 0 [.slice p2 h.n c2, .slice q2 h.m d2, .bool h.b] w') (some ⟨b, off, none⟩) cv n y := hva'.of_block (by rw [putsL_size]; exact Nat.le_refl _) fun h0 b1 o1 sp e => putsL_other (by have := hlw h0 b1 o1 sp e; omega) _ _ _
      have hbw2 := hbw.trans (putsL_below (Nat.le_refl w.heap.size) [.slice p2 h.n c2, .slice q2 h.m d2, .bool h.b] 0 w')
      rw [show (((w'.setCell ⟨w.heap.size, 0, none⟩ (.slice p2 h.n c2)).setCell ⟨w.heap.size, 1, none⟩ (.slice q2 h.m d2)).setCell ⟨w.heap.size, 2, none⟩ (.bool h.b)) = putsL w.heap.size 0 [.slice p2 h.n c2, .slice q2 h.m d2, .bool h.b] w' from rfl]
      clear x0 x1 x2 z0 z1 z2 f0 f1 f2 lx lz hA hG hR t11 t12 g0 g1 g2 g3 hva' hbw v0 hv11 hv12 hg11
      generalize putsL w.heap.size 0 [.slice p2 h.n c2, .slice q2 h.m d2, .bool h.b] w' = w4 at *
      have x0 := t12'.cell 0
      have x1 := t12'.cell 1
      have z0 := g1'.cell 0
      have z1 := g1'.cell 1
      simp only [List.getElem?_toArray, List.getElem?_cons_zero, List.getElem?_cons_succ] at x0 x1 z0 z1
      have f0 := g1'.frozen 0
      have f1 := g1'.frozen 1
      have lx := t12'.lt
      have lz := g1'.lt
      go_upto_region 8 with fail
      have v1 := g1'.varG
      have hN1 : N ≤ w.heap.size + 1 := by omega
      have hA3 := hpIn_puts (v1.clear hA2 hn32 hm0) [.int .i64 r, .slice pr2 T.n cr2] 0 hA2
      have hG3 := grAt_puts hG2 hR2 v1 (by decide) hN1 [.int .i64 r, .slice pr2 T.n cr2]
      have hR3 := hR2.puts v1 (by decide) hN1 [.int .i64 r, .slice pr2 T.n cr2]
      have k0 := tbox_stays g0' v1 (by decide) [.int .i64 r, .slice pr2 T.n cr2]
      have k1 : TBox 28 (w.heap.size + 1) #[.int .i64 r, .slice pr2 T.n cr2] (putsL (w.heap.size + 1) 0 [.int .i64 r, .slice pr2 T.n cr2] w4) := g1'.putsL [.int .i64 r, .slice pr2 T.n cr2] 0
      have k2 := tbox_stays g2' v1 (by decide) [.int .i64 r, .slice pr2 T.n cr2]
      have k3 : TBox 28 (w.heap.size + 1 + 1 + 1) #[.int .i64 0, .slice none 0 0] (putsL (w.heap.size + 1) 0 [.int .i64 r, .slice pr2 T.n cr2] w4) := g3'.of_block (putsL_other (by omega) _ _ _)
      have hva3 : VAt (putsL (w.heap.size + 1) 0 [.int .i64 r, .slice pr2 T.n cr2] w4) (some ⟨b, off, none⟩) cv n y := hva2.of_block (by rw [putsL_size]; exact Nat.le_refl _) fun h0 b1 o1 sp e => putsL_other (by have := hlw h0 b1 o1 sp e; omega) _ _ _
      have hbw3 := hbw2.trans (putsL_below (Nat.le_succ w.heap.size) [.int .i64 r, .slice pr2 T.n cr2] 0 w4)
      rw [show ((w4.setCell ⟨w.heap.size + 1, 0, none⟩ (.int .i64 r)).setCell ⟨w.heap.size + 1, 1, none⟩ (.slice pr2 T.n cr2)) = putsL (w.heap.size + 1) 0 [.int .i64 r, .slice pr2 T.n cr2] w4 from rfl]
      clear x0 x1 z0 z1 f0 f1 lx lz hA2 hG2 hR2 t12' g0' g1' g2' g3' hva2 hbw2 v1
      generalize putsL (w.heap.size + 1) 0 [.int .i64 r, .slice pr2 T.n cr2] w4 = w5 at *
      rw [← s1] at hA3
      rw [← s2, ← s3] at hG3
      rw [← s2] at hR3 k1
      cases hso : S.o
      all_goals
        rw [hso] at s4
        go_wp2
        go_roundg (n - (j + 1))
        case measure => omega
        case rel => exact ⟨j + 1, p2, c2, q2, d2, pr2, cr2, by omega, rfl, by go_num, by rw [hE1, s4]; simp, k0, by rw [hE1]; exact k1, k2, k3, by rw [hE1]; exact hA3, by rw [hE1]; exact hG3, by rw [hE1]; exact hR3, hva3, hbw3⟩
    · obtain rfl : j = n := by omega
      have a0 := g2.cell 0
      have a1 := g2.cell 1
      have a2 := g2.cell 2
      have b0 := g3.cell 0
      have b1 := g3.cell 1
      simp only [List.getElem?_toArray, List.getElem?_cons_zero, List.getElem?_cons_succ] at a0 a1 a2 b0 b1
      have fa0 := g2.frozen 0
      have fa1 := g2.frozen 1
      have fa2 := g2.frozen 2
      have fb0 := g3.frozen 0
      have fb1 := g3.frozen 1
      have l2 := g2.lt
      have l3 := g3.lt
      have hbw := (below_st5 (B := w.heap.size + 1 + 1) (B' := w.heap.size + 1 + 1 + 1) hbr (by omega) (by omega) (.slice p' h.n c') (.slice q' h.m d') (.bool h.b) (.int .i64 r) (.slice pr' (sdA r ⟨h, k, z, false⟩ y j).n cr')).drew
      have v3 := g2.varH
      have hI2 := hpIn_puts (v3.clear hin hn32 hm0) [.slice p' h.n c', .slice q' h.m d', .bool h.b] 0 hin
      have v4 : VarT 28 2 (w.heap.size + 1 + 1 + 1) (putsL (w.heap.size + 1 + 1) 0 [.slice p' h.n c', .slice q' h.m d', .bool h.b] wr) := VarT.puts g3.varG (plainL_heap _ _ _ _ _ _ _)
      have hI3 := hpIn_puts (v4.clear hI2 hn32 hm0) [.int .i64 r, .slice pr' (sdA r ⟨h, k, z, false⟩ y j).n cr'] 0 hI2
      have hG2 := grAt_puts hgr hRE v3 (by decide) (by omega) [.slice p' h.n c', .slice q' h.m d', .bool h.b]
      have hE2 := hRE.puts v3 (by decide) (by omega) [.slice p' h.n c', .slice q' h.m d', .bool h.b]
      have hG3 := grAt_puts hG2 hE2 v4 (by decide) (by omega) [.int .i64 r, .slice pr' (sdA r ⟨h, k, z, false⟩ y j).n cr']
      have hE3 := hE2.puts v4 (by decide) (by omega) [.int .i64 r, .slice pr' (sdA r ⟨h, k, z, false⟩ y j).n cr']
      have hdr : ∀ W : World, Below W.heap.size W W.drew := fun W => (Below.refl _ _).drew
      clear hI2 hG2 hE2 hin hgr hRE v3 v4 g0 g1 g2 g3 hS1 hE1 sF hbr hva
      go_upto_region 9 with fail
      go_region
      all_goals
        go_wp2
        refine bodyPost_ret (by simp [results, Tryd.results16, go_sem, *]; try rfl) rfl ?_
        exact ⟨p', c', q', d', pr', cr', rfl, hI3.below (hdr _), hG3.below (hdr _), hE3.below (hdr _), hbw⟩
theorem rshall_in (N : Nat) (r : Int) {p : Option Addr} {n c : Nat} {q : Option Addr} {m d : Nat} {b : Bool} {h : Hp} {pr : Option Addr} {k cr : Nat} {z : Nat → Int} {pv : Option Addr} {l cv : Nat} {y : Nat → Vl} {w : World}
    (hh : HpIn w p n c q m d b h) (hF : formB h = true) (hg : GrAt w pr cr k z) (hR : RowE N 3 k pr w) (hN : N ≤ w.heap.size) (hr : r ≤ 1000000) (hv : VAt w pv cv l y) (hl : l ≤ 1000000) :
    Calls Tryd.prog 16 #[.agg #[.slice p n c, .slice q m d, .bool b], .agg #[.int .i64 r, .slice pr k cr], .slice pv l cv] w fun e w' => ∃ p' c' q' d' pr' cr', e = .returned (.tuple #[.agg #[.slice p' n c', .slice q' m d', .bool b], .agg #[.int .i64 r, .slice pr' (sdA r ⟨h, k, z, false⟩ y l).n cr'], .bool (sdA r ⟨h, k, z, false⟩ y l).o]) ∧
      HpIn w' p' n c' q' m d' b (sdA r ⟨h, k, z, false⟩ y l).h ∧ GrAt w' pr' cr' (sdA r ⟨h, k, z, false⟩ y l).n (sdA r ⟨h, k, z, false⟩ y l).z ∧ RowE N 3 (sdA r ⟨h, k, z, false⟩ y l).n pr' w' ∧ Below w.heap.size w w' := by
  obtain ⟨rfl, rfl, rfl, hh⟩ := hh
  exact rshall_any N r p c q d h pr k cr z pv l cv y w hh hF hg hR hN hr hv hl
end Go.Proofs.YtokbggokkjefhaaDoor
