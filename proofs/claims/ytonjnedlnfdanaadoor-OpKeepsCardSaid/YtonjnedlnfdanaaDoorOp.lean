/- The code's looks at operations (chapter 19): op.Pushes and op.Check answer as the data. -/
import Derived.Test.YtonjnedlnfdanaaDoorOpFn
import Derived.Test.YtonjnedlnfdanaaDoorRoots
import Derived.Test.YtonjnedlnfdanaaDoorObject
import Derived.Test.YtonjnedlnfdanaaDoorVarT
namespace Go.Proofs.YtonjnedlnfdanaaDoor
set_option linter.unusedSimpArgs false
set_option linter.unusedVariables false
open Go.ChangeShapes Go.WideShapes Go.ChangeAt Go.RowKit Go.Joins

theorem three19 {T g : Nat} {x0 x1 x2 : Value} {w : World} (h : TBox T g #[x0, x1, x2] w) : g < w.heap.size ∧ w.cell? ⟨g, 0, none⟩ = some x0 ∧ w.cell? ⟨g, 1, none⟩ = some x1 ∧ w.cell? ⟨g, 2, none⟩ = some x2 := ⟨h.lt, h.cell 0, h.cell 1, h.cell 2⟩
theorem four19 {T g : Nat} {x0 x1 x2 x3 : Value} {w : World} (h : TBox T g #[x0, x1, x2, x3] w) : g < w.heap.size ∧ w.cell? ⟨g, 0, none⟩ = some x0 ∧ w.cell? ⟨g, 1, none⟩ = some x1 ∧ w.cell? ⟨g, 2, none⟩ = some x2 ∧ w.cell? ⟨g, 3, none⟩ = some x3 := ⟨h.lt, h.cell 0, h.cell 1, h.cell 2, h.cell 3⟩
theorem vs_top (n : Nat) : vsE n ((n : Int) - 1) = vqE n := by
  unfold vsE vqE
  by_cases h : n = 0
  · subst h; rfl
  · rw [if_pos (by omega), if_neg h]

theorem opushes_any (k : Int) (w : World) : Calls Tryd.prog 9 #[.int .i64 k] w fun e w' => e = .returned (.bool (puO k)) ∧ Below w.heap.size w w' := by
  by_cases k0 : k = 0
  · subst k0
    go_enter Tryd.func9, Tryd.ntmps9
    go_wp2
    go_returns
    exact ⟨rfl, by go_grown⟩
  by_cases k1 : k = 1
  · subst k1
    go_enter Tryd.func9, Tryd.ntmps9
    go_wp2
    go_returns
    exact ⟨rfl, by go_grown⟩
  by_cases k3 : k = 3
  · subst k3
    go_enter Tryd.func9, Tryd.ntmps9
    go_wp2
    go_returns
    exact ⟨rfl, by go_grown⟩
  by_cases k4 : k = 4
  · subst k4
    go_enter Tryd.func9, Tryd.ntmps9
    go_wp2
    go_returns
    exact ⟨rfl, by go_grown⟩
  have e : puO k = false := by simp [puO, k0, k1, k3, k4]
  rw [e]
  go_enter Tryd.func9, Tryd.ntmps9
  go_wp2
  go_returns
  exact ⟨rfl, by go_grown⟩
theorem onumber_any (n t : Int) (w : World) : Calls Tryd.prog 19 #[.int .i64 n, .int .i64 t] w fun e w' => e = .returned (.int .i64 (if 0 ≤ n ∧ n ≤ t then 0 else 1)) ∧ Below w.heap.size w w' := by
  by_cases h : 0 ≤ n ∧ n ≤ t
  · rw [if_pos h]
    obtain ⟨h0, h1⟩ := h
    have h2 : ¬ n < 0 := by omega
    have h3 : ¬ n > t := by omega
    go_enter Tryd.func19, Tryd.ntmps19
    go_wp2
    go_returns
    exact ⟨rfl, by go_grown⟩
  · rw [if_neg h]
    by_cases h2 : n < 0
    · go_enter Tryd.func19, Tryd.ntmps19
      go_wp2
      go_returns
      exact ⟨rfl, by go_grown⟩
    · have h3 : n > t := by omega
      go_enter Tryd.func19, Tryd.ntmps19
      go_wp2
      go_returns
      exact ⟨rfl, by go_grown⟩
theorem oslot_any (p : Option Addr) (n c : Nat) (z : Nat → Vl) (i : Int) (w : World) (hz : VAt w p c n z) :
    Calls Tryd.prog 21 #[.slice p n c, .int .i64 i] w fun e w' => e = .returned (.int .i64 (vsE n i)) ∧ Below w.heap.size w w' := by
  have hS := fun W (hW : Below w.heap.size w W) => vslot_any p n c z i W (hz.below hW)
  unfold Vl.agg at hS
  generalize vsX n z i = X at *
  generalize vsE n i = E at *
  go_enter Tryd.func21, Tryd.ntmps21
  go_wp2_with (first
    | (go_at_call 33; refine Calls.mono (hS _ (by go_grown)) ?_; rintro e w' ⟨rfl, hb⟩; obtain ⟨hc, hf, hb, hz⟩ := bstep hb (w := w) (by go_grown); try simp only [World.size_alloc, World.size_setCell, World.size_drew] at hc hf hz)
  )
  go_returns
  exact ⟨rfl, by go_grown⟩
set_option maxHeartbeats 2000000 in
theorem ofield19_any (p : Option Addr) (c : Nat) (q : Option Addr) (d : Nat) (h : Hp) (pv : Option Addr) (n cv : Nat) (z : Nat → Vl) (k a b e : Int) (w : World) (hS : Sz w) (hh : HpAt w p c q d h) (hF : formB h = true) (hz : VAt w pv cv n z) :
    Calls Tryd.prog 20 #[.agg #[.slice p h.n c, .slice q h.m d, .bool h.b], .slice pv n cv, .agg #[.int .i64 k, .int .i64 a, .int .i64 b, .int .i64 e]] w fun e' w' => e' = .returned (.int .i64 (foE h n z a b)) ∧ Below w.heap.size w w' := by
  obtain ⟨w0, hw0⟩ : ∃ w0, w0 = (w.alloc (.cells #[.slice p h.n c, .slice q h.m d, .bool h.b] 25)).alloc (.cells #[.int .i64 k, .int .i64 a, .int .i64 b, .int .i64 e] 28) := ⟨_, rfl⟩
  obtain ⟨gH, gO, hB0⟩ := tbox_two hw0
  obtain ⟨l0, x0, x1, x2⟩ := three19 gH
  obtain ⟨l1, y0, y1, y2, y3⟩ := four19 gO
  have hO := fun W (hW : Below w.heap.size w W) => vobj_any pv n cv z a W (hz.below hW)
  by_cases he : voE n z a = 0
  · have eF : foE h n z a b = fdE h (voX n z a) b := by unfold foE; rw [if_pos he]
    rw [eF]
    have hD := fun W (hW : Below w.heap.size w W) => ofield_any p c q d h (voX n z a) b W (hS.below hW) (hh.below hW) hF
    rw [he] at hO
    clear eF he hF hh hz
    generalize voX n z a = X at *
    generalize fdE h X b = E at *
    generalize fdX h X b = F at *
    go_enter Tryd.func20, Tryd.ntmps20
    go_upto_region 1 with fail
    rw [← hw0]
    clear hw0
    go_wp2_with (first
    | (go_at_call 31; refine Calls.mono (hO _ (bjoin (by go_grown) hB0)) ?_; rintro e w' ⟨rfl, hb⟩; obtain ⟨hc, hf, hb, hz⟩ := bstep hb (w := w0) (by go_grown); try simp only [World.size_alloc, World.size_setCell, World.size_drew] at hc hf hz)
    | (go_at_call 32; refine Calls.mono (hD _ (bjoin (by go_grown) hB0)) ?_; rintro e w' ⟨rfl, hb⟩; obtain ⟨hc, hf, hb, hz⟩ := bstep hb (w := w0) (by go_grown); try simp only [World.size_alloc, World.size_setCell, World.size_drew] at hc hf hz)
    )
    go_returns
    exact ⟨rfl, bjoin (by go_grown) hB0⟩
  · have eF : foE h n z a b = voE n z a := by unfold foE; rw [if_neg he]
    rw [eF]
    generalize voX n z a = X at *
    generalize voE n z a = E at *
    clear eF hF hh hz
    go_enter Tryd.func20, Tryd.ntmps20
    go_upto_region 1 with fail
    rw [← hw0]
    clear hw0
    go_wp2_with (first
    | (go_at_call 31; refine Calls.mono (hO _ (bjoin (by go_grown) hB0)) ?_; rintro e w' ⟨rfl, hb⟩; obtain ⟨hc, hf, hb, hz⟩ := bstep hb (w := w0) (by go_grown); try simp only [World.size_alloc, World.size_setCell, World.size_drew] at hc hf hz)
    )
    go_returns
    exact ⟨rfl, bjoin (by go_grown) hB0⟩
theorem wr_else {h : Hp} {n : Nat} {z : Nat → Vl} {k a b c : Int} (h0 : ¬ k = 0) (h1 : ¬ k = 1) (h2 : ¬ k = 2) (h3 : ¬ k = 3) (h4 : ¬ k = 4) (h5 : ¬ k = 5) (h6 : ¬ k = 6) : wrO h n z k a b c = 1 := by
  unfold wrO
  rw [if_neg h0, if_neg h1, if_neg h2, if_neg h3, if_neg h4, if_neg h5, if_neg h6]
set_option maxHeartbeats 4000000 in
theorem onamed_any (p : Option Addr) (c : Nat) (q : Option Addr) (d : Nat) (h : Hp) (pv : Option Addr) (n cv : Nat) (z : Nat → Vl) (k a b e : Int) (w : World) (hS : Sz w) (hh : HpAt w p c q d h) (hF : formB h = true) (hz : VAt w pv cv n z) :
    Calls Tryd.prog 11 #[.agg #[.slice p h.n c, .slice q h.m d, .bool h.b], .slice pv n cv, .agg #[.int .i64 k, .int .i64 a, .int .i64 b, .int .i64 e]] w fun e' w' => e' = .returned (.int .i64 (wrO h n z k a b e)) ∧ Below w.heap.size w w' := by
  obtain ⟨w0, hw0⟩ : ∃ w0, w0 = (w.alloc (.cells #[.slice p h.n c, .slice q h.m d, .bool h.b] 25)).alloc (.cells #[.int .i64 k, .int .i64 a, .int .i64 b, .int .i64 e] 28) := ⟨_, rfl⟩
  obtain ⟨gH, gO, hB0⟩ := tbox_two hw0
  obtain ⟨l0, x0, x1, x2⟩ := three19 gH
  obtain ⟨l1, y0, y1, y2, y3⟩ := four19 gO
  have hD := fun W (hW : Below w.heap.size w W) => ofield19_any p c q d h pv n cv z k a b e W (hS.below hW) (hh.below hW) hF (hz.below hW)
  have hL := fun i W (hW : Below w.heap.size w W) => oslot_any pv n cv z i W (hz.below hW)
  have hN := fun m t W => onumber_any m t W
  have hnl := hz.nle
  simp only [maxLen] at hnl
  have hT := hL ((n : Int) - 1)
  rw [vs_top] at hT
  have hLA := hL a
  have hLE := hL e
  have hN1 := hN a 15
  have hN2 := hN a 1099511627776
  clear hF hh hz hS hL hN
  by_cases k0 : k = 0
  · subst k0
    rw [show wrO h n z 0 a b e = (if 0 ≤ a ∧ a ≤ 15 then (0 : Int) else 1) from rfl]
    generalize (if 0 ≤ a ∧ a ≤ 15 then (0 : Int) else 1) = R at *
    clear hD hLA hLE hT hN2
    go_enter Tryd.func11, Tryd.ntmps11
    go_upto_region 1 with fail
    rw [← hw0]
    clear hw0
    go_wp2_with (first
    | (go_at_call 19; refine Calls.mono (hN1 _) ?_; rintro e w' ⟨rfl, hb⟩; obtain ⟨hc, hf, hb, hz⟩ := bstep hb (w := w0) (by go_grown); try simp only [World.size_alloc, World.size_setCell, World.size_drew] at hc hf hz)
    )
    go_returns
    exact ⟨rfl, bjoin (by go_grown) hB0⟩
  by_cases k1 : k = 1
  · subst k1
    rw [show wrO h n z 1 a b e = foE h n z a b from rfl]
    generalize foE h n z a b = R at *
    clear hN1 hLA hLE hT hN2
    go_enter Tryd.func11, Tryd.ntmps11
    go_upto_region 1 with fail
    rw [← hw0]
    clear hw0
    go_wp2_with (first
    | (go_at_call 20; refine Calls.mono (hD _ (bjoin (by go_grown) hB0)) ?_; rintro e w' ⟨rfl, hb⟩; obtain ⟨hc, hf, hb, hz⟩ := bstep hb (w := w0) (by go_grown); try simp only [World.size_alloc, World.size_setCell, World.size_drew] at hc hf hz)
    )
    go_returns
    exact ⟨rfl, bjoin (by go_grown) hB0⟩
  by_cases k2 : k = 2
  · subst k2
    rw [show wrO h n z 2 a b e = (if foE h n z a b = 0 then vsE n e else foE h n z a b) from rfl]
    clear hN1 hLA hT hN2
    by_cases hf : foE h n z a b = 0
    · rw [if_pos hf]
      rw [hf] at hD
      clear hf
      generalize vsE n e = R at *
      go_enter Tryd.func11, Tryd.ntmps11
      go_upto_region 1 with fail
      rw [← hw0]
      clear hw0
      go_wp2_with (first
    | (go_at_call 20; refine Calls.mono (hD _ (bjoin (by go_grown) hB0)) ?_; rintro e w' ⟨rfl, hb⟩; obtain ⟨hc, hf, hb, hz⟩ := bstep hb (w := w0) (by go_grown); try simp only [World.size_alloc, World.size_setCell, World.size_drew] at hc hf hz)
    | (go_at_call 21; refine Calls.mono (hLE _ (bjoin (by go_grown) hB0)) ?_; rintro e w' ⟨rfl, hb⟩; obtain ⟨hc, hf, hb, hz⟩ := bstep hb (w := w0) (by go_grown); try simp only [World.size_alloc, World.size_setCell, World.size_drew] at hc hf hz)
      )
      go_returns
      exact ⟨rfl, bjoin (by go_grown) hB0⟩
    · rw [if_neg hf]
      generalize foE h n z a b = R at *
      clear hLE
      go_enter Tryd.func11, Tryd.ntmps11
      go_upto_region 1 with fail
      rw [← hw0]
      clear hw0
      go_wp2_with (first
    | (go_at_call 20; refine Calls.mono (hD _ (bjoin (by go_grown) hB0)) ?_; rintro e w' ⟨rfl, hb⟩; obtain ⟨hc, hf, hb, hz⟩ := bstep hb (w := w0) (by go_grown); try simp only [World.size_alloc, World.size_setCell, World.size_drew] at hc hf hz)
      )
      go_returns
      exact ⟨rfl, bjoin (by go_grown) hB0⟩
  by_cases k3 : k = 3
  · subst k3
    rw [show wrO h n z 3 a b e = vsE n a from rfl]
    generalize vsE n a = R at *
    clear hD hN1 hLE hT hN2
    go_enter Tryd.func11, Tryd.ntmps11
    go_upto_region 1 with fail
    rw [← hw0]
    clear hw0
    go_wp2_with (first
    | (go_at_call 21; refine Calls.mono (hLA _ (bjoin (by go_grown) hB0)) ?_; rintro e w' ⟨rfl, hb⟩; obtain ⟨hc, hf, hb, hz⟩ := bstep hb (w := w0) (by go_grown); try simp only [World.size_alloc, World.size_setCell, World.size_drew] at hc hf hz)
    )
    go_returns
    exact ⟨rfl, bjoin (by go_grown) hB0⟩
  by_cases k4 : k = 4
  · subst k4
    rw [show wrO h n z 4 a b e = (if 0 ≤ a ∧ a ≤ 1099511627776 then (0 : Int) else 1) from rfl]
    generalize (if 0 ≤ a ∧ a ≤ 1099511627776 then (0 : Int) else 1) = R at *
    clear hD hN1 hLE hT hLA
    go_enter Tryd.func11, Tryd.ntmps11
    go_upto_region 1 with fail
    rw [← hw0]
    clear hw0
    go_wp2_with (first
    | (go_at_call 19; refine Calls.mono (hN2 _) ?_; rintro e w' ⟨rfl, hb⟩; obtain ⟨hc, hf, hb, hz⟩ := bstep hb (w := w0) (by go_grown); try simp only [World.size_alloc, World.size_setCell, World.size_drew] at hc hf hz)
    )
    go_returns
    exact ⟨rfl, bjoin (by go_grown) hB0⟩
  by_cases k5 : k = 5
  · subst k5
    rw [show wrO h n z 5 a b e = vqE n from rfl]
    generalize vqE n = R at *
    clear hD hN1 hLE hN2 hLA
    go_enter Tryd.func11, Tryd.ntmps11
    go_upto_region 1 with fail
    rw [← hw0]
    clear hw0
    go_wp2_with (first
    | (go_at_call 21; refine Calls.mono (hT _ (bjoin (by go_grown) hB0)) ?_; rintro e w' ⟨rfl, hb⟩; obtain ⟨hc, hf, hb, hz⟩ := bstep hb (w := w0) (by go_grown); try simp only [World.size_alloc, World.size_setCell, World.size_drew] at hc hf hz)
    )
    go_returns
    exact ⟨rfl, bjoin (by go_grown) hB0⟩
  clear hD hN1 hLE hN2 hLA hT
  by_cases k6 : k = 6
  · subst k6
    rw [show wrO h n z 6 a b e = 0 from rfl]
    go_enter Tryd.func11, Tryd.ntmps11
    go_upto_region 1 with fail
    rw [← hw0]
    clear hw0
    go_wp2
    go_returns
    exact ⟨rfl, bjoin (by go_grown) hB0⟩
  rw [wr_else k0 k1 k2 k3 k4 k5 k6]
  go_enter Tryd.func11, Tryd.ntmps11
  go_upto_region 1 with fail
  rw [← hw0]
  clear hw0
  go_wp2
  go_returns
  exact ⟨rfl, bjoin (by go_grown) hB0⟩
set_option maxHeartbeats 4000000 in
theorem ocheck_any (p : Option Addr) (c : Nat) (q : Option Addr) (d : Nat) (h : Hp) (pv : Option Addr) (n cv : Nat) (z : Nat → Vl) (r k a b e : Int) (w : World) (hS : Sz w) (hh : HpAt w p c q d h) (hF : formB h = true) (hz : VAt w pv cv n z) :
    Calls Tryd.prog 7 #[.agg #[.slice p h.n c, .slice q h.m d, .bool h.b], .slice pv n cv, .int .i64 r, .agg #[.int .i64 k, .int .i64 a, .int .i64 b, .int .i64 e]] w fun e' w' => e' = .returned (.int .i64 (ckO h n z r k a b e)) ∧ Below w.heap.size w w' := by
  obtain ⟨w0, hw0⟩ : ∃ w0, w0 = (w.alloc (.cells #[.slice p h.n c, .slice q h.m d, .bool h.b] 25)).alloc (.cells #[.int .i64 k, .int .i64 a, .int .i64 b, .int .i64 e] 28) := ⟨_, rfl⟩
  obtain ⟨gH, gO, hB0⟩ := tbox_two hw0
  obtain ⟨l0, x0, x1, x2⟩ := three19 gH
  obtain ⟨l1, y0, y1, y2, y3⟩ := four19 gO
  have hD := fun W (hW : Below w.heap.size w W) => onamed_any p c q d h pv n cv z k a b e W (hS.below hW) (hh.below hW) hF (hz.below hW)
  have hP := fun W => opushes_any k W
  have hnl := hz.nle
  simp only [maxLen] at hnl
  clear hF hh hz hS
  unfold ckO
  by_cases hw : wrO h n z k a b e = 0
  · rw [if_pos hw]
    rw [hw] at hD
    clear hw
    by_cases hp : puO k = true
    · rw [if_pos hp]
      rw [hp] at hP
      clear hp
      by_cases hr : (n : Int) < r
      · rw [vp_iff.2 hr]
        have hr' : ¬ (n : Int) ≥ r := by omega
        go_enter Tryd.func7, Tryd.ntmps7
        go_upto_region 1 with fail
        rw [← hw0]
        clear hw0
        go_wp2_with (first
    | (go_at_call 11; refine Calls.mono (hD _ (bjoin (by go_grown) hB0)) ?_; rintro e w' ⟨rfl, hb⟩; obtain ⟨hc, hf, hb, hz⟩ := bstep hb (w := w0) (by go_grown); try simp only [World.size_alloc, World.size_setCell, World.size_drew] at hc hf hz)
    | (go_at_call 9; refine Calls.mono (hP _) ?_; rintro e w' ⟨rfl, hb⟩; obtain ⟨hc, hf, hb, hz⟩ := bstep hb (w := w0) (by go_grown); try simp only [World.size_alloc, World.size_setCell, World.size_drew] at hc hf hz)
        )
        go_returns
        exact ⟨rfl, bjoin (by go_grown) hB0⟩
      · have e5 : vpE n r = 5 := by
          have := mt (vp_iff (n := n) (r := r)).1 hr
          unfold vpE at this ⊢
          split
          · rename_i h; rw [if_pos h] at this; exact absurd rfl this
          · rfl
        rw [e5]
        have hr' : (n : Int) ≥ r := by omega
        clear e5
        go_enter Tryd.func7, Tryd.ntmps7
        go_upto_region 1 with fail
        rw [← hw0]
        clear hw0
        go_wp2_with (first
    | (go_at_call 11; refine Calls.mono (hD _ (bjoin (by go_grown) hB0)) ?_; rintro e w' ⟨rfl, hb⟩; obtain ⟨hc, hf, hb, hz⟩ := bstep hb (w := w0) (by go_grown); try simp only [World.size_alloc, World.size_setCell, World.size_drew] at hc hf hz)
    | (go_at_call 9; refine Calls.mono (hP _) ?_; rintro e w' ⟨rfl, hb⟩; obtain ⟨hc, hf, hb, hz⟩ := bstep hb (w := w0) (by go_grown); try simp only [World.size_alloc, World.size_setCell, World.size_drew] at hc hf hz)
        )
        go_returns
        exact ⟨rfl, bjoin (by go_grown) hB0⟩
    · rw [if_neg hp]
      have hp' : puO k = false := by simpa using hp
      rw [hp'] at hP
      clear hp hp'
      go_enter Tryd.func7, Tryd.ntmps7
      go_upto_region 1 with fail
      rw [← hw0]
      clear hw0
      go_wp2_with (first
    | (go_at_call 11; refine Calls.mono (hD _ (bjoin (by go_grown) hB0)) ?_; rintro e w' ⟨rfl, hb⟩; obtain ⟨hc, hf, hb, hz⟩ := bstep hb (w := w0) (by go_grown); try simp only [World.size_alloc, World.size_setCell, World.size_drew] at hc hf hz)
    | (go_at_call 9; refine Calls.mono (hP _) ?_; rintro e w' ⟨rfl, hb⟩; obtain ⟨hc, hf, hb, hz⟩ := bstep hb (w := w0) (by go_grown); try simp only [World.size_alloc, World.size_setCell, World.size_drew] at hc hf hz)
      )
      go_returns
      exact ⟨rfl, bjoin (by go_grown) hB0⟩
  · rw [if_neg hw]
    generalize wrO h n z k a b e = R at *
    clear hP
    go_enter Tryd.func7, Tryd.ntmps7
    go_upto_region 1 with fail
    rw [← hw0]
    clear hw0
    go_wp2_with (first
    | (go_at_call 11; refine Calls.mono (hD _ (bjoin (by go_grown) hB0)) ?_; rintro e w' ⟨rfl, hb⟩; obtain ⟨hc, hf, hb, hz⟩ := bstep hb (w := w0) (by go_grown); try simp only [World.size_alloc, World.size_setCell, World.size_drew] at hc hf hz)
    )
    go_returns
    exact ⟨rfl, bjoin (by go_grown) hB0⟩
end Go.Proofs.YtonjnedlnfdanaaDoor
