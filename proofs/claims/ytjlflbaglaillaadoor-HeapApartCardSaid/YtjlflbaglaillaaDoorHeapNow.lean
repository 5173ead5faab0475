/- Contracts of the code's heap.New (chapter 7), and of all of heap.* over a heap's three cells as they stand in a walk. -/
import Derived.Test.YtjlflbaglaillaaDoorHeapLay
namespace Go.Proofs.YtjlflbaglaillaaDoor
set_option linter.unusedSimpArgs false
set_option linter.unusedVariables false
open Go.ChangeShapes Go.WideShapes Go.ChangeAt Go.RowKit Go.Joins

theorem anew_own (pg : Int) (w : World) :
    Calls Tryd.prog 29 #[.int .i64 pg] w fun e w' => ∃ p cap, e = .returned (.tuple #[.slice p (newN pg) cap, .int .i64 (newE pg)]) ∧ w'.ownsRow w.heap.size 50 1 (.slice p (newN pg) cap) (newN pg) (vals .u64 (newN pg) fun _ => 0) ∧ Below w.heap.size w w' := by
  by_cases h : 1 ≤ pg ∧ pg ≤ 16
  · have e0 : newB pg = true := by simp [newB, h]
    have e1 : newN pg = (32 * pg).toNat := by unfold newN; rw [if_pos e0]
    have e2 : newE pg = 0 := by unfold newE; rw [if_pos e0]
    obtain ⟨h0, h1⟩ := h
    obtain ⟨i0, hi, hz0, hz1, hz2⟩ := info_parts infoW
    rw [e1, e2]
    obtain ⟨N, hN⟩ : ∃ N : Nat, (N : Int) = 32 * pg := ⟨(32 * pg).toNat, by omega⟩
    have hN' : (32 * pg).toNat = N := by omega
    have hN'' : pg * 32 = (N : Int) := by omega
    rw [hN']
    clear e0 e1 e2 hN'
    go_enter Tryd.func29, Tryd.ntmps29
    go_wp2_with (first
      | (at_make; refine wpList_make_full _ rfl (.tmp 11) (.tmp 11) 22 rfl w.heap.size 50 i0 (.int .u64 0) 1 Tryd.underlying22 hi hz0 hz1 _ _ _ _ N rfl rfl (by omega) (by omega) (by rw [hz2]; omega) (by simp only [maxLen]; omega) (by simp) ?_; intro w1 hown1 hgrow1)
    )
    go_returns
    have hm : (madeCells (Value.int IntKind.u64 0).cells (N * 1)).toList = vals .u64 N (fun _ => 0) := by rw [Nat.mul_one, ← vals_const]; exact toList_madeCells_one _ _
    rw [hm] at hown1
    exact ⟨_, _, rfl, hown1, (Below.refl _ _).grown hgrow1 (by simp) (by simp)⟩
  · have e0 : newB pg = false := by simp [newB]; omega
    have e1 : newN pg = 0 := by unfold newN; rw [if_neg (by simp [e0])]
    have e2 : newE pg = 1 := by unfold newE; rw [if_neg (by simp [e0])]
    rw [e1, e2]
    clear e0 e1 e2
    have hx : ∀ W : World, W.ownsRow w.heap.size 50 1 (.slice none 0 0) 0 (vals .u64 0 fun _ => 0) := fun W => World.ownsRow_nil _ _ _ _
    by_cases h0 : pg < 1
    · go_enter Tryd.func29, Tryd.ntmps29
      go_wp2
      go_returns
      exact ⟨none, 0, rfl, hx _, by go_grown⟩
    · have h1 : 16 < pg := by omega
      go_enter Tryd.func29, Tryd.ntmps29
      go_wp2
      go_returns
      exact ⟨none, 0, rfl, hx _, by go_grown⟩
set_option maxHeartbeats 1000000 in
theorem hnew_in {w : World} (k : Int) (hS : Sz w) (hT : Tab w) :
    Calls Tryd.prog 10 #[.int .i64 k] w fun e w' => ∃ p' n' c' q' m' d' b', e = .returned (.tuple #[.agg #[.slice p' n' c', .slice q' m' d', .bool b'], .int .i64 (nuE k)]) ∧ HpIn w' p' n' c' q' m' d' b' (nuH k) ∧ NewV w.heap.size (.slice p' n' c') ∧ NewV w.heap.size (.slice q' m' d') ∧ Below w.heap.size w w' := by
  obtain ⟨w0, hw0⟩ : ∃ w0, w0 = w.alloc (.cells #[.slice none 0 0, .slice none 0 0, .bool false] 25) := ⟨_, rfl⟩
  have gR : Box3 w.heap.size (.slice none 0 0) (.slice none 0 0) (.bool false) w0 := by rw [hw0]; exact Box3.new _ _ _ _ _
  have hst : Below w.heap.size w w0 := by rw [hw0]; exact (Below.refl _ _).alloc (Nat.le_refl _) _
  have hC := anew_own k w0
  cases hk : nuB k with
  | true =>
    obtain ⟨e1, e2, k1, k2⟩ := nu_yes hk
    have e3 : newN k = 32 * k.toNat := by unfold newN newB; rw [if_pos (by simp; omega)]; omega
    have e4 : newE k = 0 := by unfold newE newB; rw [if_pos (by simp; omega)]
    rw [e1, e2]
    rw [e3, e4] at hC
    clear e1 e2 e3 e4 hk hS hT
    obtain ⟨K, hK⟩ : ∃ K : Nat, (K : Int) = k := ⟨k.toNat, by omega⟩
    have hK' : k.toNat = K := by omega
    rw [hK'] at hC
    rw [hK']
    clear hK'
    subst hK
    obtain ⟨i1, hi', hz0', hz1', hz2'⟩ := info_parts infoS
    go_enter Tryd.func10, Tryd.ntmps10
    go_upto_region 1 with fail
    rw [← hw0]
    clear hw0
    go_upto_region 4 with (first
      | (go_at_call 29; refine Calls.mono hC ?_; rintro e w' ⟨p', c', rfl, hown, hb⟩)
    )
    have hgl := gR.1
    replace gR := gR.below hb
    obtain ⟨lR, y0, y1, y2, f0, f1, f2⟩ := id gR
    have hbs := hb.size
    go_wp2_with (first
      | (at_make; refine wpList_make_full _ rfl (.tmp 16) (.tmp 16) 23 rfl w'.heap.size 49 i1 (.agg #[.int .i64 0, .int .i64 0, .int .u32 0]) 3 Tryd.underlying23 hi' hz0' hz1' _ _ _ _ K rfl rfl (by omega) (by omega) (by rw [hz2']; omega) (by simp only [maxLen]; omega) (by simp) ?_; intro w1 hown1 hgrow1; have gR1 := gR.grown hgrow1 (by simp); obtain ⟨lS, z0, z1, z2, g0, g1, g2⟩ := id gR1)
    )
    refine bodyPost_ret (by simp [results, Tryd.results10, go_sem, *]; try rfl) rfl ?_
    have hB1 : Below w'.heap.size w' w1 := (Below.refl _ _).grown hgrow1 (Nat.le_refl _) (by simp)
    have hcells : (madeCells (Value.agg #[.int .i64 0, .int .i64 0, .int .u32 0]).cells (K * 3)).toList = spVals K fun _ => ⟨0, 0, 0⟩ := made_spans K
    rw [hcells] at hown1
    have hne : ∀ b b', (Value.slice p' (32 * K) c').ownBlock = some b → (Value.slice (some ⟨w'.heap.size, 0, none⟩) K K).ownBlock = some b' → b ≠ b' := fun b b' e1 e2 => by
      have := (hown.lt b e1).2
      have := (hown1.lt b' e2).1
      omega
    have ho : HpOwn w1 w0.heap.size p' c' (some ⟨w'.heap.size, 0, none⟩) K (newH K) := ⟨owned_below hown hB1, owned_base hown1 hbs, hne, wf_new K, by show 32 * K ≤ maxLen; simp only [maxLen]; omega, by show K ≤ maxLen; simp only [maxLen]; omega⟩
    have hz := (((ho.under (g := w.heap.size) (by omega) 0 (.slice p' (32 * K) c')).under (g := w.heap.size) (by omega) 1 (.slice (some ⟨w'.heap.size, 0, none⟩) K K)).under (g := w.heap.size) (by omega) 2 (.bool false)).lower (show w.heap.size ≤ w0.heap.size by omega)
    have hbW : Below w.heap.size w w1 := (bjoin hb hst).trans (hB1.mono (by omega))
    exact ⟨p', 32 * K, c', _, K, K, false, rfl, hz.at.in, hz.newW, hz.newS, ((hbW.setCell (Nat.le_refl _) _).setCell (Nat.le_refl _) _).setCell (Nat.le_refl _) _⟩
  | false =>
    obtain ⟨e1, e2⟩ := nu_no hk
    have e3 : newN k = 0 := by unfold newN newB; rw [if_neg (by simpa [nuB] using hk)]
    have e4 : newE k = 1 := by unfold newE newB; rw [if_neg (by simpa [nuB] using hk)]
    rw [e1, e2]
    rw [e3, e4] at hC
    clear e1 e2 e3 e4 hk hS hT
    obtain ⟨lR, y0, y1, y2, f0, f1, f2⟩ := id gR
    go_enter Tryd.func10, Tryd.ntmps10
    go_upto_region 1 with fail
    rw [← hw0]
    clear hw0
    go_wp2_with (first
      | (go_at_call 29; refine Calls.mono hC ?_; rintro e w' ⟨p', c', rfl, hown, hb⟩; obtain ⟨hc, hf, hb, hz⟩ := bstep hb (w := w0) (by go_grown))
    )
    refine bodyPost_ret (by simp [results, Tryd.results10, go_sem, *]; try rfl) rfl ?_
    have hbb := (((bjoin hb hst).setCell (p := ⟨w.heap.size, 0, none⟩) (Nat.le_refl _) (.slice none 0 0)).setCell (p := ⟨w.heap.size, 1, none⟩) (Nat.le_refl _) (.slice none 0 0)).setCell (p := ⟨w.heap.size, 2, none⟩) (Nat.le_refl _) (.bool false)
    exact ⟨none, 0, 0, none, 0, 0, false, rfl, nil_in _, fun b e => (by cases e), fun b e => (by cases e), hbb⟩
section
variable {p : Option Addr} {n c : Nat} {q : Option Addr} {m d : Nat} {b : Bool} {h : Hp} {w : World}
theorem hform_in (hS : Sz w) (hT : Tab w) (hh : HpIn w p n c q m d b h) :
    Calls Tryd.prog 13 #[.agg #[.slice p n c, .slice q m d, .bool b]] w fun e w' => e = .returned (.bool (formB h)) ∧ Below w.heap.size w w' := by
  obtain ⟨rfl, rfl, rfl, hh⟩ := hh
  exact hform_any _ _ _ _ _ _ hS hh
theorem hused_in (hS : Sz w) (hT : Tab w) (hh : HpIn w p n c q m d b h) (hF : formB h = true) :
    Calls Tryd.prog 17 #[.agg #[.slice p n c, .slice q m d, .bool b]] w fun e w' => e = .returned (.int .i64 (usH h)) ∧ Below w.heap.size w w' := by
  obtain ⟨rfl, rfl, rfl, hh⟩ := hh
  exact hused_any _ _ _ _ _ _ hS hh hF
theorem hfind_in {a : Int} (hS : Sz w) (hT : Tab w) (hh : HpIn w p n c q m d b h) (hF : formB h = true) :
    Calls Tryd.prog 15 #[.agg #[.slice p n c, .slice q m d, .bool b], .int .i64 a] w fun e w' => e = .returned (.tuple #[.int .i64 (fiP h a), .int .i64 (fiI h a), .bool (fiB h a)]) ∧ Below w.heap.size w w' := by
  obtain ⟨rfl, rfl, rfl, hh⟩ := hh
  exact hfind_any _ _ _ _ _ _ _ hS hh hF
theorem hopen_in {g k : Int} (hS : Sz w) (hT : Tab w) (hh : HpIn w p n c q m d b h) (hF : formB h = true) :
    Calls Tryd.prog 19 #[.agg #[.slice p n c, .slice q m d, .bool b], .int .i64 g, .int .i64 k] w fun e w' => ∃ p' c' q' d', e = .returned (.tuple #[.agg #[.slice p' n c', .slice q' m d', .bool b], .bool (opB h g k)]) ∧
      HpIn w' p' n c' q' m d' b (opH h g k) ∧ Src w.heap.size (opB h g k) n m p c q d p' c' q' d' ∧ Below w.heap.size w w' := by
  obtain ⟨rfl, rfl, rfl, hh⟩ := hh
  refine Calls.mono (hopen_any _ _ _ _ _ g k _ hS hh hF) ?_
  rintro e w' ⟨p', c', q', d', rfl, h1, h2, h3⟩
  obtain ⟨a1, a2, a3⟩ := op_n h g k
  exact ⟨p', c', q', d', rfl, ⟨a1.symm, a2.symm, a3.symm, h1⟩, h2, h3⟩
theorem hclose_in {g : Int} (hS : Sz w) (hT : Tab w) (hh : HpIn w p n c q m d b h) (hF : formB h = true) :
    Calls Tryd.prog 21 #[.agg #[.slice p n c, .slice q m d, .bool b], .int .i64 g] w fun e w' => ∃ p' c' q' d', e = .returned (.tuple #[.agg #[.slice p' n c', .slice q' m d', .bool b], .bool (loB h g)]) ∧
      HpIn w' p' n c' q' m d' b (loH h g) ∧ Src w.heap.size (loB h g) n m p c q d p' c' q' d' ∧ Below w.heap.size w w' := by
  obtain ⟨rfl, rfl, rfl, hh⟩ := hh
  refine Calls.mono (hclose_any _ _ _ _ _ g _ hS hh hF) ?_
  rintro e w' ⟨p', c', q', d', rfl, h1, h2, h3⟩
  obtain ⟨a1, a2, a3⟩ := lo_n h g
  exact ⟨p', c', q', d', rfl, ⟨a1.symm, a2.symm, a3.symm, h1⟩, h2, h3⟩
theorem hfree_in {a : Int} (hS : Sz w) (hT : Tab w) (hh : HpIn w p n c q m d b h) (hF : formB h = true) :
    Calls Tryd.prog 23 #[.agg #[.slice p n c, .slice q m d, .bool b], .int .i64 a] w fun e w' => ∃ p' c' q' d', e = .returned (.tuple #[.agg #[.slice p' n c', .slice q' m d', .bool b], .bool (frB h a)]) ∧
      HpIn w' p' n c' q' m d' b (frH h a) ∧ Src w.heap.size (frB h a) n m p c q d p' c' q' d' ∧ Below w.heap.size w w' := by
  obtain ⟨rfl, rfl, rfl, hh⟩ := hh
  refine Calls.mono (hfree_any _ _ _ _ _ a _ hS hh hF) ?_
  rintro e w' ⟨p', c', q', d', rfl, h1, h2, h3⟩
  obtain ⟨a1, a2, a3⟩ := fr_n h a
  exact ⟨p', c', q', d', rfl, ⟨a1.symm, a2.symm, a3.symm, h1⟩, h2, h3⟩
theorem hlay_in {g f : Int} (hS : Sz w) (hT : Tab w) (hh : HpIn w p n c q m d b h) (hF : formB h = true) :
    Calls Tryd.prog 25 #[.agg #[.slice p n c, .slice q m d, .bool b], .int .i64 g, .int .i64 f] w fun e w' => ∃ p' c' q' d', e = .returned (.tuple #[.agg #[.slice p' n c', .slice q' m d', .bool b], .int .i64 (laA h g f), .bool (laB h g f)]) ∧
      HpIn w' p' n c' q' m d' b (laH h g f) ∧ Src w.heap.size (laB h g f) n m p c q d p' c' q' d' ∧ Below w.heap.size w w' := by
  obtain ⟨rfl, rfl, rfl, hh⟩ := hh
  refine Calls.mono (hlay_any _ _ _ _ _ g f _ hS hT hh hF) ?_
  rintro e w' ⟨p', c', q', d', rfl, h1, h2, h3⟩
  obtain ⟨a1, a2, a3⟩ := la_n h g f
  exact ⟨p', c', q', d', rfl, ⟨a1.symm, a2.symm, a3.symm, h1⟩, h2, h3⟩
end
end Go.Proofs.YtjlflbaglaillaaDoor
