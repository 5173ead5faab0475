/- Contract of the reference's Close (chapter 7). -/
import Derived.Test.YtjlflbaglaillaaDoorRef07b
namespace Go.Proofs.YtjlflbaglaillaaDoor
set_option linter.unusedSimpArgs false
set_option linter.unusedVariables false
open Go.ChangeShapes Go.WideShapes Go.ChangeAt Go.RowKit Go.Joins

theorem boxed2 {w : World} {v0 v1 v2 u0 u1 u2 : Value} {t : TypeId} : ∃ w0, w0 = (w.alloc (.cells #[v0, v1, v2] t)).alloc (.cells #[u0, u1, u2] t) ∧ Box3 w.heap.size v0 v1 v2 w0 ∧ Box3 (w.heap.size + 1) u0 u1 u2 w0 ∧ Below w.heap.size w w0 := boxes
set_option maxHeartbeats 4000000 in
theorem rclose_any (p : Option Addr) (c : Nat) (q : Option Addr) (d : Nat) (h : Hp) (g : Int) (w : World) (hh : HpAt w p c q d h) (hF : formB h = true) :
    Calls Tryd.prog 22 #[.agg #[.slice p h.n c, .slice q h.m d, .bool h.b], .int .i64 g] w fun e w' => ∃ p' c' q' d', e = .returned (.tuple #[.agg #[.slice p' h.n c', .slice q' h.m d', .bool h.b], .bool (loB h g)]) ∧
      HpAt w' p' c' q' d' (loH h g) ∧ Src w.heap.size (loB h g) h.n h.m p c q d p' c' q' d' ∧ Below w.heap.size w w' := by
  have hm16 := (form_iff.1 hF).2.1
  have hle : h.n ≤ 17592186043904 := by have := (form_iff.1 hF).2.2.1; omega
  have hwf := hh.wf
  obtain ⟨w0, hw0, hB0, hR, hst⟩ := boxed2 (w := w) (v0 := .slice p h.n c) (v1 := .slice q h.m d) (v2 := .bool h.b) (u0 := .slice none 0 0) (u1 := .slice none 0 0) (u2 := .bool false) (t := 25)
  have hat := hh.below hst
  obtain ⟨l0, x0, x1, x2, -, -, -⟩ := hB0
  obtain ⟨l1, y0, y1, y2, f0, f1, f2⟩ := hR
  cases ho : loB h g with
  | true =>
    obtain ⟨p0, p1, -⟩ := lo_spec hF hwf ho
    have eo : loH h g = withS h g ⟨0, 0, 0⟩ := by unfold loH; rw [if_pos ho]
    have ho' := ho
    unfold loB at ho'
    rw [inI_yes p0 p1, show spH h g = h.s g.toNat from rfl] at ho'
    simp only [Bool.true_and, Bool.and_eq_true, Bool.not_eq_true'] at ho'
    obtain ⟨d0, d1⟩ := ho'
    have d2 : (countW (h.s g.toNat).fr != blW (h.s g.toNat).cl) = false := by simp [bne, d1]
    obtain ⟨⟨b, off, rfl, hlt, s0, s1, s2⟩, hw⟩ := hat.spans g.toNat (by omega)
    have hm : Mask (h.s g.toNat).fr := hw.2.2
    rw [eo]
    clear eo ho d1
    go_enter Tryd.func22, Tryd.ntmps22
    go_upto_region 1 with fail
    rw [← hw0]
    clear hw0
    refine wp_region_plus (by kernel_rfl) (by kernel_rfl) fun hpc => ?_
    repeat (first | go_big_quiet_step ((first | (go_at_call 38; exact quiet_plus (rfree_any _ _ _ _ hm)) | (go_at_call 34; exact quiet_plus (rcblocks_any _ _)))) | quiet_step ((first | (go_at_call 38; exact quiet_plus (rfree_any _ _ _ _ hm)) | (go_at_call 34; exact quiet_plus (rcblocks_any _ _)))))
    refine wpQuiet_nil ?_
    intro w' hbq
    clear hpc
    obtain ⟨hc, hf, hb, hz⟩ := bstep hbq (w := w0) (by go_grown)
    try simp only [World.size_alloc, World.size_setCell, World.size_drew] at hc hf hz
    go_wp2_with (first
    | (go_at_call 42; refine Calls.mono (rwithH_any _ _ _ _ _ _ ⟨0, 0, 0⟩ _ (hat.below (by go_grown)) wf_zero hle hm16) ?_; rintro e w' ⟨p', c', q', d', rfl, hoW, hoS, hne, hb⟩; obtain ⟨hc, hf, hb, hz⟩ := bstep hb (w := w0) (by go_grown); try simp only [World.size_alloc, World.size_setCell, World.size_drew] at hc hf hz)
    )
    have hB := hb
    have hlW := fun k e => (hoW.lt k e).1
    have hlS := fun k e => (hoS.lt k e).1
    have hge : w.heap.size + 2 ≤ w'.heap.size := by have := hb.size; omega
    refine bodyPost_ret (by simp [results, Tryd.results22, go_sem, *]; try rfl) rfl ?_
    have nW : ∀ {v : Value} {e : TypeId} {size n : Nat} {xs : List Value} {W : World} {B : Nat}, W.ownsRow B e size v n xs → w.heap.size + 2 ≤ B → v.ownBlock ≠ some (w.heap.size + 1) := fun ho hB e => by have := (ho.lt _ e).1; omega
    refine ⟨p', c', q', d', rfl, ?_, ?_, ?_⟩
    · exact at_with (h := withS h g ⟨0, 0, 0⟩)
        (owned_setCell (owned_setCell (owned_setCell (owned_base hoW (show w.heap.size + 2 ≤ _ by omega)) (nW (owned_base hoW (show w.heap.size + 2 ≤ _ by omega)) (Nat.le_refl _)) _ _) (nW (owned_base hoW (show w.heap.size + 2 ≤ _ by omega)) (Nat.le_refl _)) _ _) (nW (owned_base hoW (show w.heap.size + 2 ≤ _ by omega)) (Nat.le_refl _)) _ _)
        (owned_setCell (owned_setCell (owned_setCell (owned_base hoS (show w.heap.size + 2 ≤ _ by omega)) (nW (owned_base hoS (show w.heap.size + 2 ≤ _ by omega)) (Nat.le_refl _)) _ _) (nW (owned_base hoS (show w.heap.size + 2 ≤ _ by omega)) (Nat.le_refl _)) _ _) (nW (owned_base hoS (show w.heap.size + 2 ≤ _ by omega)) (Nat.le_refl _)) _ _)
        (wf_with hwf wf_zero) hh.nle hh.mle
    · exact ⟨fun _ => ⟨owned_newV (owned_base hoW (by omega)), owned_newV (owned_base hoS (by omega))⟩, fun h => (by cases h)⟩
    · exact (((bjoin hB hst).setCell (Nat.le_succ _) _).setCell (Nat.le_succ _) _).setCell (Nat.le_succ _) _
  | false =>
    have eo : loH h g = h := by unfold loH; rw [if_neg (by simp [ho])]
    rw [eo]
    clear eo
    by_cases hg : 0 ≤ g ∧ g < h.m
    · obtain ⟨p0, p1⟩ := hg
      have ho' := ho
      unfold loB at ho'
      rw [inI_yes p0 p1, show spH h g = h.s g.toNat from rfl] at ho'
      simp only [Bool.true_and] at ho'
      obtain ⟨⟨b, off, rfl, hlt, s0, s1, s2⟩, hw⟩ := hat.spans g.toNat (by omega)
      have hm : Mask (h.s g.toNat).fr := hw.2.2
      cases d0 : ((h.s g.toNat).st == 0) with
      | true =>
        clear ho ho'
        go_enter Tryd.func22, Tryd.ntmps22
        go_upto_region 1 with fail
        rw [← hw0]
        clear hw0
        refine wp_region_plus (by kernel_rfl) (by kernel_rfl) fun hpc => ?_
        repeat (first | go_big_quiet_step ((first | (go_at_call 38; exact quiet_plus (rfree_any _ _ _ _ hm)) | (go_at_call 34; exact quiet_plus (rcblocks_any _ _)))) | quiet_step ((first | (go_at_call 38; exact quiet_plus (rfree_any _ _ _ _ hm)) | (go_at_call 34; exact quiet_plus (rcblocks_any _ _)))))
        refine wpQuiet_nil ?_
        intro w' hbq
        clear hpc
        obtain ⟨hc, hf, hb, hz⟩ := bstep hbq (w := w) (by go_grown)
        try simp only [World.size_alloc, World.size_setCell, World.size_drew] at hc hf hz
        go_wp2
        refine bodyPost_ret (by simp [results, Tryd.results22, go_sem, *]; try rfl) rfl ?_
        first | exact ⟨p, c, _, d, rfl, hh.below (by go_grown), ⟨fun h => (by cases h), fun _ => ⟨rfl, rfl, rfl, rfl⟩⟩, by go_grown⟩ | exact ⟨hh.below (by go_grown), ⟨fun h => (by cases h), fun _ => ⟨rfl, rfl, rfl, rfl⟩⟩, by go_grown⟩
      | false =>
        have d1 : (countW (h.s g.toNat).fr == blW (h.s g.toNat).cl) = false := by simpa [d0] using ho'
        have d2 : (countW (h.s g.toNat).fr != blW (h.s g.toNat).cl) = true := by simp [bne, d1]
        clear ho ho' d1
        go_enter Tryd.func22, Tryd.ntmps22
        go_upto_region 1 with fail
        rw [← hw0]
        clear hw0
        refine wp_region_plus (by kernel_rfl) (by kernel_rfl) fun hpc => ?_
        repeat (first | go_big_quiet_step ((first | (go_at_call 38; exact quiet_plus (rfree_any _ _ _ _ hm)) | (go_at_call 34; exact quiet_plus (rcblocks_any _ _)))) | quiet_step ((first | (go_at_call 38; exact quiet_plus (rfree_any _ _ _ _ hm)) | (go_at_call 34; exact quiet_plus (rcblocks_any _ _)))))
        refine wpQuiet_nil ?_
        intro w' hbq
        clear hpc
        obtain ⟨hc, hf, hb, hz⟩ := bstep hbq (w := w) (by go_grown)
        try simp only [World.size_alloc, World.size_setCell, World.size_drew] at hc hf hz
        go_wp2
        refine bodyPost_ret (by simp [results, Tryd.results22, go_sem, *]; try rfl) rfl ?_
        first | exact ⟨p, c, _, d, rfl, hh.below (by go_grown), ⟨fun h => (by cases h), fun _ => ⟨rfl, rfl, rfl, rfl⟩⟩, by go_grown⟩ | exact ⟨hh.below (by go_grown), ⟨fun h => (by cases h), fun _ => ⟨rfl, rfl, rfl, rfl⟩⟩, by go_grown⟩
    · clear ho
      by_cases hg0 : 0 ≤ g
      · have hg1 : (h.m : Int) ≤ g := by omega
        go_enter Tryd.func22, Tryd.ntmps22
        go_upto_region 1 with fail
        rw [← hw0]
        clear hw0
        refine wp_region_plus (by kernel_rfl) (by kernel_rfl) fun hpc => ?_
        repeat (first | go_big_quiet_step (fail) | quiet_step (fail))
        refine wpQuiet_nil ?_
        intro w' hbq
        clear hpc
        obtain ⟨hc, hf, hb, hz⟩ := bstep hbq (w := w) (by go_grown)
        try simp only [World.size_alloc, World.size_setCell, World.size_drew] at hc hf hz
        go_wp2
        refine bodyPost_ret (by simp [results, Tryd.results22, go_sem, *]; try rfl) rfl ?_
        first | exact ⟨p, c, q, d, rfl, hh.below (by go_grown), ⟨fun h => (by cases h), fun _ => ⟨rfl, rfl, rfl, rfl⟩⟩, by go_grown⟩ | exact ⟨hh.below (by go_grown), ⟨fun h => (by cases h), fun _ => ⟨rfl, rfl, rfl, rfl⟩⟩, by go_grown⟩
      · have hg1 : g < 0 := by omega
        go_enter Tryd.func22, Tryd.ntmps22
        go_upto_region 1 with fail
        rw [← hw0]
        clear hw0
        refine wp_region_plus (by kernel_rfl) (by kernel_rfl) fun hpc => ?_
        repeat (first | go_big_quiet_step (fail) | quiet_step (fail))
        refine wpQuiet_nil ?_
        intro w' hbq
        clear hpc
        obtain ⟨hc, hf, hb, hz⟩ := bstep hbq (w := w) (by go_grown)
        try simp only [World.size_alloc, World.size_setCell, World.size_drew] at hc hf hz
        go_wp2
        refine bodyPost_ret (by simp [results, Tryd.results22, go_sem, *]; try rfl) rfl ?_
        first | exact ⟨p, c, q, d, rfl, hh.below (by go_grown), ⟨fun h => (by cases h), fun _ => ⟨rfl, rfl, rfl, rfl⟩⟩, by go_grown⟩ | exact ⟨hh.below (by go_grown), ⟨fun h => (by cases h), fun _ => ⟨rfl, rfl, rfl, rfl⟩⟩, by go_grown⟩
end Go.Proofs.YtjlflbaglaillaaDoor
