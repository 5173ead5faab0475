/- Contracts of the reference's Get, Field, with, Set, Paint, In (chapter 8). -/
import Derived.Test.YtokbggokkjefhaaDoorRowOne
import Derived.Test.YtokbggokkjefhaaDoorObjFn
namespace Go.Proofs.YtokbggokkjefhaaDoor
set_option linter.unusedSimpArgs false
set_option linter.unusedVariables false
open Go.ChangeShapes Go.WideShapes Go.ChangeAt Go.RowKit Go.Joins

theorem boxed_hd {w : World} {v0 v1 v2 u0 u1 u2 u3 : Value} {t t' : TypeId} : ∃ w0, w0 = (w.alloc (.cells #[v0, v1, v2] t)).alloc (.cells #[u0, u1, u2, u3] t') ∧ Box3 w.heap.size v0 v1 v2 w0 ∧ Box4 (w.heap.size + 1) u0 u1 u2 u3 w0 ∧ Below w.heap.size w w0 := by
  refine ⟨_, rfl, (Box3.new w _ _ _ _).below ((Below.refl _ _).alloc (Nat.le_refl _) _), ?_, ?_⟩
  · have := Box4.new (w.alloc (.cells #[v0, v1, v2] t)) u0 u1 u2 u3 t'
    simpa using this
  · exact ((Below.refl _ _).alloc (Nat.le_refl _) _).alloc (by simp) _
theorem hd_none {X : Int} (h : gU X = false) : gC X = false ∧ gK X = 0 ∧ gN X = 0 := by
  refine ⟨by unfold gC; rw [h]; rfl, ?_, ?_⟩
  · unfold gK; rw [if_neg (by simp [h])]
  · unfold gN; rw [if_neg (by simp [h])]
set_option maxHeartbeats 2000000 in
theorem rget8_any (p : Option Addr) (c : Nat) (q : Option Addr) (d : Nat) (h : Hp) (a : Int) (w : World) (hh : HpAt w p c q d h) (hF : formB h = true) :
    Calls Tryd.prog 23 #[.agg #[.slice p h.n c, .slice q h.m d, .bool h.b], .int .i64 a] w fun e w' => e = .returned (.tuple #[.agg #[.bool (obB h a), .bool (obC h a), .int .i64 (obK h a), .int .i64 (obN h a)], .bool (obB h a)]) ∧ Below w.heap.size w w' := by
  obtain ⟨w0, hw0, gB, gR, hst⟩ := boxed_hd (w := w) (v0 := .slice p h.n c) (v1 := .slice q h.m d) (v2 := .bool h.b) (u0 := .bool false) (u1 := .bool false) (u2 := .int .i64 0) (u3 := .int .i64 0) (t := 25) (t' := 52)
  have hat := hh.below hst
  have hFi := rfind_any p c q d h a w0 hat hF
  obtain ⟨l0, x0, x1, x2, -, -, -⟩ := gB
  obtain ⟨l1, y0, y1, y2, y3, f0, f1, f2, f3⟩ := gR
  cases hf : fiB h a with
  | false =>
    have e : obB h a = false := by unfold obB; rw [hf]; rfl
    obtain ⟨e1, e2, e3⟩ := ob_no e
    rw [e, e1, e2, e3]
    rw [hf] at hFi
    clear e e1 e2 e3 hF
    go_enter Tryd.func23, Tryd.ntmps23
    go_upto_region 1 with fail
    rw [← hw0]
    clear hw0
    go_wp2_with (first
    | (go_at_call 33; refine Calls.mono (hFi) ?_; rintro e w' ⟨rfl, hb⟩; obtain ⟨hc, hf, hb, hz⟩ := bstep hb (w := w0) (by go_grown); try simp only [World.size_alloc, World.size_setCell, World.size_drew] at hc hf hz)
    )
    refine bodyPost_ret (by simp [results, Tryd.results23, go_sem, *]; try rfl) rfl ?_
    exact ⟨rfl, by go_grown; exact bjoin hb hst⟩
  | true =>
    obtain ⟨q0, q1, -⟩ := fi_spec hF hf
    have hnn := (form_iff.1 hF).2.2.1
    have a0 : 0 ≤ a := by omega
    have a1 : a < h.n := by omega
    have a2 : a ≤ 512 := by have := (form_iff.1 hF).2.1; omega
    have eB : obB h a = (gU (woH h a) && decide (a + gN (woH h a) < 32 * (a / 32) + 32)) := by unfold obB; rw [hf, Bool.true_and]
    have eC : obB h a = true → obC h a = gC (woH h a) := fun e => by unfold obC; rw [e]; rfl
    have eK : obB h a = true → obK h a = gK (woH h a) := fun e => by unfold obK; rw [if_pos e]
    have eN : obB h a = true → obN h a = gN (woH h a) := fun e => by unfold obN; rw [if_pos e]
    have hX := wo_wf hh.wf a0 a1
    have eO := ob_no (h := h) (a := a)
    have hNb := gN_bound (X := woH h a)
    rw [hf] at hFi
    obtain ⟨⟨b, off, rfl, hlt, v0⟩, -⟩ := hat.ints a.toNat (by omega)
    rw [show h.z a.toNat = woH h a from rfl] at v0
    have hG := rhget_any (woH h a)
    generalize woH h a = X at *
    obtain ⟨X0, X1⟩ := hX
    clear hF hnn hat hh
    cases hu : gU X with
    | false =>
      obtain ⟨u1, u2, u3⟩ := hd_none hu
      rw [hu, Bool.false_and] at eB
      obtain ⟨e1, e2, e3⟩ := eO eB
      rw [eB, e1, e2, e3]
      rw [hu, u1, u2, u3] at hG
      simp only [Bool.false_or] at hG
      clear eB eC eK eN eO e1 e2 e3 u1 u2 u3 hu hNb
      cases hx : (X == 0)
      all_goals
        rw [hx] at hG
        go_enter Tryd.func23, Tryd.ntmps23
        go_upto_region 1 with fail
        rw [← hw0]
        clear hw0
        go_wp2_with (first
    | (go_at_call 33; refine Calls.mono (hFi) ?_; rintro e w' ⟨rfl, hb⟩; obtain ⟨hc, hf, hb, hz⟩ := bstep hb (w := w0) (by go_grown); try simp only [World.size_alloc, World.size_setCell, World.size_drew] at hc hf hz)
    | (go_at_call 34; refine Calls.mono (hG _ X0 X1) ?_; rintro e w' ⟨rfl, hb⟩; obtain ⟨hc, hf, hb, hz⟩ := bstep hb (w := w0) (by go_grown); try simp only [World.size_alloc, World.size_setCell, World.size_drew] at hc hf hz)
        )
        refine bodyPost_ret (by simp [results, Tryd.results23, go_sem, *]; try rfl) rfl ?_
        exact ⟨rfl, by go_grown; exact bjoin hb hst⟩
    | true =>
      rw [hu, Bool.true_and] at eB
      rw [hu] at hG
      simp only [Bool.true_or] at hG
      obtain ⟨F0, F1⟩ := hNb
      by_cases hl : a + gN X < 32 * (a / 32) + 32
      · rw [decide_eq_true hl] at eB
        rw [eB, eC eB, eK eB, eN eB]
        have hd : decide (32 * (a / 32) + 32 ≤ a + gN X) = false := by simp; omega
        clear eB eC eK eN eO hu
        generalize gN X = F at *
        generalize gK X = K at *
        generalize gC X = C at *
        go_enter Tryd.func23, Tryd.ntmps23
        go_upto_region 1 with fail
        rw [← hw0]
        clear hw0
        go_wp2_with (first
    | (go_at_call 33; refine Calls.mono (hFi) ?_; rintro e w' ⟨rfl, hb⟩; obtain ⟨hc, hf, hb, hz⟩ := bstep hb (w := w0) (by go_grown); try simp only [World.size_alloc, World.size_setCell, World.size_drew] at hc hf hz)
    | (go_at_call 34; refine Calls.mono (hG _ X0 X1) ?_; rintro e w' ⟨rfl, hb⟩; obtain ⟨hc, hf, hb, hz⟩ := bstep hb (w := w0) (by go_grown); try simp only [World.size_alloc, World.size_setCell, World.size_drew] at hc hf hz)
        )
        refine bodyPost_ret (by simp [results, Tryd.results23, go_sem, *]; try rfl) rfl ?_
        exact ⟨rfl, by go_grown; exact bjoin hb hst⟩
      · rw [decide_eq_false hl] at eB
        obtain ⟨e1, e2, e3⟩ := eO eB
        rw [eB, e1, e2, e3]
        have hd : decide (32 * (a / 32) + 32 ≤ a + gN X) = true := by simp; omega
        clear eB eC eK eN eO hu e1 e2 e3
        generalize gN X = F at *
        generalize gK X = K at *
        generalize gC X = C at *
        go_enter Tryd.func23, Tryd.ntmps23
        go_upto_region 1 with fail
        rw [← hw0]
        clear hw0
        go_wp2_with (first
    | (go_at_call 33; refine Calls.mono (hFi) ?_; rintro e w' ⟨rfl, hb⟩; obtain ⟨hc, hf, hb, hz⟩ := bstep hb (w := w0) (by go_grown); try simp only [World.size_alloc, World.size_setCell, World.size_drew] at hc hf hz)
    | (go_at_call 34; refine Calls.mono (hG _ X0 X1) ?_; rintro e w' ⟨rfl, hb⟩; obtain ⟨hc, hf, hb, hz⟩ := bstep hb (w := w0) (by go_grown); try simp only [World.size_alloc, World.size_setCell, World.size_drew] at hc hf hz)
        )
        refine bodyPost_ret (by simp [results, Tryd.results23, go_sem, *]; try rfl) rfl ?_
        exact ⟨rfl, by go_grown; exact bjoin hb hst⟩

theorem boxed_val {w : World} {v0 v1 v2 u0 u1 : Value} {t t' : TypeId} : ∃ w0, w0 = (w.alloc (.cells #[v0, v1, v2] t)).alloc (.cells #[u0, u1] t') ∧ Box3 w.heap.size v0 v1 v2 w0 ∧ w.heap.size + 1 < w0.heap.size ∧ w0.cell? ⟨w.heap.size + 1, 0, none⟩ = some u0 ∧ w0.cell? ⟨w.heap.size + 1, 1, none⟩ = some u1 ∧ w0.frozen? ⟨w.heap.size + 1, 0, none⟩ = false ∧ w0.frozen? ⟨w.heap.size + 1, 1, none⟩ = false ∧ Below w.heap.size w w0 := by
  have hg := heap_alloc_new (w.alloc (.cells #[v0, v1, v2] t)) (.cells #[u0, u1] t')
  rw [World.size_alloc] at hg
  refine ⟨_, rfl, (Box3.new w _ _ _ _).below ((Below.refl _ _).alloc (Nat.le_refl _) _), by simp, ?_, ?_, ?_, ?_, ((Below.refl _ _).alloc (Nat.le_refl _) _).alloc (by simp) _⟩
  · rw [cell_of_row _ _ _ _ _ _ hg]; rfl
  · rw [cell_of_row _ _ _ _ _ _ hg]; rfl
  · exact frozen_of_row _ _ _ _ _ hg
  · exact frozen_of_row _ _ _ _ _ hg
set_option maxHeartbeats 2000000 in
theorem rfield8_any (p : Option Addr) (c : Nat) (q : Option Addr) (d : Nat) (h : Hp) (a i : Int) (w : World) (hh : HpAt w p c q d h) (hF : formB h = true) :
    Calls Tryd.prog 26 #[.agg #[.slice p h.n c, .slice q h.m d, .bool h.b], .int .i64 a, .int .i64 i] w fun e w' => e = .returned (.tuple #[.agg #[.int .i64 (getK (fdX h a i)), .int .i64 (getN (fdX h a i))], .int .i64 (fdE h a i)]) ∧ Below w.heap.size w w' := by
  obtain ⟨w0, hw0, gB, l1, y0, y1, f0, f1, hst⟩ := boxed_val (w := w) (v0 := .slice p h.n c) (v1 := .slice q h.m d) (v2 := .bool h.b) (u0 := .int .i64 0) (u1 := .int .i64 0) (t := 25) (t' := 38)
  have hat := hh.below hst
  have hG := rget8_any p c q d h a w0 hat hF
  obtain ⟨l0, x0, x1, x2, -, -, -⟩ := gB
  obtain ⟨z0, z1⟩ := get_zero
  rcases fd_cases h a i with ⟨e0, i0, i1, e1, e2⟩ | ⟨e0, hi, e1, e2⟩ | ⟨e0, e1, e2⟩
  · obtain ⟨-, -, a0, -, a2, a3, -, -, a4, -⟩ := ob_spec hF e0
    rw [a4] at i1
    rw [e1, e2]
    rw [e0] at hG
    have hm16 := (form_iff.1 hF).2.1
    have hnn := (form_iff.1 hF).2.2.1
    have a5 : a + 1 + i < h.n := by omega
    have a6 : a + 1 + i ≤ 512 := by omega
    have hX := wo_wf hh.wf (show 0 ≤ a + 1 + i by omega) a5
    obtain ⟨⟨b, off, rfl, hlt, v0⟩, -⟩ := hat.ints (a + 1 + i).toNat (by omega)
    rw [show h.z (a + 1 + i).toNat = woH h (a + 1 + i) from rfl] at v0
    have hV := rget_any (woH h (a + 1 + i))
    have hd : decide (obN h a ≤ i) = false := by simp; omega
    generalize woH h (a + 1 + i) = X at *
    obtain ⟨X0, X1⟩ := hX
    generalize obN h a = F at *
    generalize obC h a = C at *
    generalize obK h a = K at *
    clear hF hnn hat hh e0 e1 e2 a2 a3 a4 i1 z0 z1
    go_enter Tryd.func26, Tryd.ntmps26
    go_upto_region 1 with fail
    rw [← hw0]
    clear hw0
    go_wp2_with (first
    | (go_at_call 23; refine Calls.mono (hG) ?_; rintro e w' ⟨rfl, hb⟩; obtain ⟨hc, hf, hb, hz⟩ := bstep hb (w := w0) (by go_grown); try simp only [World.size_alloc, World.size_setCell, World.size_drew] at hc hf hz)
    | (go_at_call 38; refine Calls.mono (hV _ X0 X1) ?_; rintro e w' ⟨rfl, hb⟩; obtain ⟨hc, hf, hb, hz⟩ := bstep hb (w := w0) (by go_grown); try simp only [World.size_alloc, World.size_setCell, World.size_drew] at hc hf hz)
    )
    refine bodyPost_ret (by simp [results, Tryd.results26, go_sem, *]; try rfl) rfl ?_
    exact ⟨rfl, by go_grown; exact bjoin hb hst⟩
  · rw [e1, e2, z0, z1]
    rw [e0] at hG
    have hNb : 0 ≤ obN h a := by have := gN_bound (X := woH h a); rw [(ob_spec hF e0).2.2.2.2.2.2.2.2.1]; omega
    have hd : decide (obN h a ≤ i) = true ∨ decide (i < 0) = true := by
      by_cases h0 : i < 0
      · right; simp [h0]
      · left; simp; omega
    have hi' : ¬ (0 ≤ i ∧ i < obN h a) := hi
    generalize obN h a = F at *
    generalize obC h a = C at *
    generalize obK h a = K at *
    clear hF hat hh e0 e1 e2 z0 z1 hi
    by_cases h0 : i < 0
    · clear hd hi'
      go_enter Tryd.func26, Tryd.ntmps26
      go_upto_region 1 with fail
      rw [← hw0]
      clear hw0
      go_wp2_with (first
    | (go_at_call 23; refine Calls.mono (hG) ?_; rintro e w' ⟨rfl, hb⟩; obtain ⟨hc, hf, hb, hz⟩ := bstep hb (w := w0) (by go_grown); try simp only [World.size_alloc, World.size_setCell, World.size_drew] at hc hf hz)
      )
      refine bodyPost_ret (by simp [results, Tryd.results26, go_sem, *]; try rfl) rfl ?_
      exact ⟨rfl, by go_grown; exact bjoin hb hst⟩
    · have h1 : F ≤ i := by omega
      clear hd hi'
      go_enter Tryd.func26, Tryd.ntmps26
      go_upto_region 1 with fail
      rw [← hw0]
      clear hw0
      go_wp2_with (first
    | (go_at_call 23; refine Calls.mono (hG) ?_; rintro e w' ⟨rfl, hb⟩; obtain ⟨hc, hf, hb, hz⟩ := bstep hb (w := w0) (by go_grown); try simp only [World.size_alloc, World.size_setCell, World.size_drew] at hc hf hz)
      )
      refine bodyPost_ret (by simp [results, Tryd.results26, go_sem, *]; try rfl) rfl ?_
      exact ⟨rfl, by go_grown; exact bjoin hb hst⟩
  · obtain ⟨o1, o2, o3⟩ := ob_no e0
    rw [e1, e2, z0, z1]
    rw [e0, o1, o2, o3] at hG
    clear hF hat hh e0 e1 e2 z0 z1 o1 o2 o3
    go_enter Tryd.func26, Tryd.ntmps26
    go_upto_region 1 with fail
    rw [← hw0]
    clear hw0
    go_wp2_with (first
    | (go_at_call 23; refine Calls.mono (hG) ?_; rintro e w' ⟨rfl, hb⟩; obtain ⟨hc, hf, hb, hz⟩ := bstep hb (w := w0) (by go_grown); try simp only [World.size_alloc, World.size_setCell, World.size_drew] at hc hf hz)
    )
    refine bodyPost_ret (by simp [results, Tryd.results26, go_sem, *]; try rfl) rfl ?_
    exact ⟨rfl, by go_grown; exact bjoin hb hst⟩
theorem three_boxes {w : World} {x0 x1 x2 z0 z1 z2 u0 u1 u2 : Value} {t : TypeId} : ∃ w0, w0 = ((w.alloc (.cells #[x0, x1, x2] t)).alloc (.cells #[z0, z1, z2] t)).alloc (.cells #[u0, u1, u2] t) ∧
    Box3 w.heap.size x0 x1 x2 w0 ∧ Box3 (w.heap.size + 1) z0 z1 z2 w0 ∧ Box3 (w.heap.size + 1 + 1) u0 u1 u2 w0 ∧ Below w.heap.size w w0 ∧ w0.heap.size = w.heap.size + 3 := by
  have a0 := Box3.new w x0 x1 x2 t
  have a1 := Box3.new (w.alloc (.cells #[x0, x1, x2] t)) z0 z1 z2 t
  have a2 := Box3.new ((w.alloc (.cells #[x0, x1, x2] t)).alloc (.cells #[z0, z1, z2] t)) u0 u1 u2 t
  have st : ∀ (W : World) (o : Obj), Below W.heap.size W (W.alloc o) := fun W o => (Below.refl _ _).alloc (Nat.le_refl _) _
  refine ⟨_, rfl, (a0.below (st _ _)).below (st _ _), ?_, ?_, ?_, by simp⟩
  · have := a1.below (st _ (.cells #[u0, u1, u2] t))
    simpa only [World.size_alloc] using this
  · simpa only [World.size_alloc] using a2
  · exact ((st w _).trans ((st _ _).mono (by simp))).trans ((st _ _).mono (by simp; omega))
theorem vals_put_snoc (n : Nat) (z : Nat → Int) (g x y : Int) (e : y = putZ z g x n) : vals .u64 n (putZ z g x) ++ [.int .u64 y] = vals .u64 (n + 1) (putZ z g x) := by
  rw [e]; exact vals_snoc _ _ _
set_option maxHeartbeats 8000000 in
set_option maxRecDepth 20000 in
theorem rwith8_any (p : Option Addr) (c : Nat) (q : Option Addr) (d : Nat) (h : Hp) (g x : Int) (w : World) (hh : HpAt w p c q d h) (hF : formB h = true) (hx : (Lit.int .u64 x).wf = true) :
    Calls Tryd.prog 52 #[.agg #[.slice p h.n c, .slice q h.m d, .bool h.b], .int .i64 g, .int .u64 x] w fun e w' => ∃ p' c' q' d', e = .returned (.agg #[.slice p' h.n c', .slice q' h.m d', .bool h.b]) ∧ HpOwn w' w.heap.size p' c' q' d' (putH h g x) ∧ Below w.heap.size w w' := by
  obtain ⟨i0, hi, hz0, hz1, hz2⟩ := info_parts infoW
  obtain ⟨i1, hi', hz0', hz1', hz2'⟩ := info_parts infoS
  obtain ⟨m1, m16, hnn, -⟩ := form_iff.1 hF
  have hn5 : h.n ≤ 512 := by omega
  have hm0 : 0 < h.m := by omega
  have hwf := hh.wf
  have hnle := hh.nle
  have hmle := hh.mle
  clear hF hnn
  obtain ⟨w0, hw0, hB0, hB1, hB2, hbA, hsz⟩ := three_boxes (w := w) (x0 := .slice p h.n c) (x1 := .slice q h.m d) (x2 := .bool h.b) (z0 := .slice none 0 0) (z1 := .slice none 0 0) (z2 := .bool false) (u0 := .slice none 0 0) (u1 := .slice none 0 0) (u2 := .bool h.b) (t := 25)
  go_enter Tryd.func52, Tryd.ntmps52
  go_upto_region 2 with fail
  rw [← hw0]
  clear hw0
  have hin := hh.ints
  have hat := hh.below hbA
  obtain ⟨ad, rfl, hcell⟩ := hat.spans.cells hm0
  have hsl := spVals_length h.m h.s
  have hs1 := spVals_one h.m h.s
  obtain ⟨SV, hSV⟩ : ∃ SV, SV = spVals h.m h.s := ⟨_, rfl⟩
  rw [← hSV] at hcell hsl hs1
  have hSV' : Hid (SV = spVals h.m h.s) := hSV
  clear hSV
  obtain ⟨l0, k0, k1, k2, -, -, -⟩ := id hB0
  obtain ⟨l2, j0, j1, j2, f0, f1, f2⟩ := id hB2
  go_upto_region 3 with (first
    | (at_builtin; refine wpList_append_own _ rfl (.tmp 14) (.tmp 16) 23 rfl (w.heap.size + 3) 50 i1 (.agg #[.int .i64 0, .int .i64 0, .int .u32 0]) 3 24 Tryd.underlying23 hi' hz0' hz1' hz2' rfl (by decide) (.slice none 0 0) 0 [] rfl (World.ownsRow_nil w0 _ _ _) ad h.m d SV rfl hsl hcell hs1 (by simp only [maxLen]; omega) (by omega) (by omega) ?_; intro ov w1 hown1 hgrow1 _; obtain ⟨q1, c1, rfl, hq1⟩ := owned_new hown1; have gB2' := hB2.grown hgrow1 (by simp [Value.ownBlock]); obtain ⟨l2', j0', j1', j2', f0', f1', f2'⟩ := id gB2')
  )
  clear l2' j0' j1' j2' f0' f1' f2' gB2'
  rw [Nat.zero_add, List.nil_append] at hown1
  have hst : Below w0.heap.size w0 w1 := (Below.refl _ _).grown hgrow1 (Nat.le_refl _) (by intro k hk; simp [Value.ownBlock] at hk)
  obtain ⟨w2, hw2⟩ : ∃ w2, w2 = w1.setCell ⟨w.heap.size + 1 + 1, 1, none⟩ (.slice q1 h.m c1) := ⟨_, rfl⟩
  replace hB0 : Box3 w.heap.size (.slice p h.n c) (.slice (some ad) h.m d) (.bool h.b) w2 := by rw [hw2]; exact (hB0.below hst).other (by omega) _ _
  replace hB1 : Box3 (w.heap.size + 1) (.slice none 0 0) (.slice none 0 0) (.bool false) w2 := by rw [hw2]; exact (hB1.below hst).other (by omega) _ _
  replace hB2 : Box3 (w.heap.size + 1 + 1) (.slice none 0 0) (.slice q1 h.m c1) (.bool h.b) w2 := by rw [hw2]; exact (hB2.below hst).store1 _
  have hbB : Below w.heap.size w w2 := by rw [hw2]; exact (bjoin hst hbA).setCell (by show w.heap.size ≤ w.heap.size + 1 + 1; omega) _
  have hown2 : w2.ownsRow (w.heap.size + 3) 50 3 (.slice q1 h.m c1) h.m SV := by rw [hw2]; exact ownsRow_setCell_below hown1 (by show w.heap.size + 1 + 1 < _; omega) _
  have hsz2 : w.heap.size + 3 ≤ w2.heap.size := by rw [hw2]; simp; have := hgrow1.size; omega
  rw [← hw2]
  clear hw2 hown1 hgrow1 hst hbA l0 k0 k1 k2 l2 j0 j1 j2 f0 f1 f2 hsz hat hcell hs1 hsl
  go_wp2
  go_loopg [8] h.n (fun gg iv wr => ∃ (i : Nat) (gv : Value), i ≤ h.n ∧ gg = h.n - i ∧ iv = .int .i64 i ∧ Box3 w.heap.size (.slice p h.n c) (.slice (some ad) h.m d) (.bool h.b) wr ∧ Box3 (w.heap.size + 1) (.slice none 0 0) (.slice none 0 0) (.bool false) wr ∧ Box3 (w.heap.size + 1 + 1) gv (.slice q1 h.m c1) (.bool h.b) wr ∧
      wr.ownsRow (w.heap.size + 3) 50 3 (.slice q1 h.m c1) h.m SV ∧ wr.ownsRow w2.heap.size 71 1 gv i (vals .u64 i (putZ h.z g x)) ∧ Below w.heap.size w wr ∧ w2.heap.size ≤ wr.heap.size)
  case atStart => exact ⟨0, .slice none 0 0, by omega, by omega, rfl, hB0, hB1, hB2, hown2, World.ownsRow_nil _ _ _ _, hbB, Nat.le_refl _⟩
  case round =>
    clear hB0 hB1 hB2 hbB
    obtain ⟨i, gv, ih, rfl, rfl, gB0, gB1, gB2, hownS, hownW, hbw, hsw⟩ := hrel
    obtain ⟨q2, c2, rfl, hq2⟩ := owned_new hownW
    obtain ⟨l0, k0, k1, k2, -, -, -⟩ := id gB0
    obtain ⟨l2, j0, j1, j2, f0, f1, f2⟩ := id gB2
    have hls : ∀ k, (Value.slice q1 h.m c1).ownBlock = some k → w.heap.size + 3 ≤ k ∧ k < w2.heap.size := fun k hk => by
      have := hownS.lt k hk
      have := hown2.lt k hk
      omega
    have hlw : ∀ k, (Value.slice q2 i c2).ownBlock = some k → w2.heap.size ≤ k ∧ k < wr.heap.size := fun k hk => hownW.lt k hk
    by_cases him : i < h.n
    · obtain ⟨⟨b, off, rfl, hlt, s0⟩, hw⟩ := (hin.below hbw) i him
      obtain ⟨y, hy⟩ : ∃ y, y = putZ h.z g x i := ⟨_, rfl⟩
      have hyy : (i : Int) = g ∧ y = x ∨ ¬ (i : Int) = g ∧ y = h.z i := by
        by_cases e : (i : Int) = g
        · exact .inl ⟨e, by rw [hy]; unfold putZ; rw [if_pos e]⟩
        · exact .inr ⟨e, by rw [hy]; unfold putZ; rw [if_neg e]⟩
      have hsn := vals_put_snoc i h.z g x y hy
      have hVl := vals_length .u64 i (putZ h.z g x)
      clear hy
      rcases hyy with ⟨e, hy⟩ | ⟨e, hy⟩
      · rw [hy] at hsn
        have d0 : ((i : Int) == g) = true := by simp [e]
        clear e
        have hT : Below wr.heap.size wr (wr.alloc (.cells #[.int .u64 (x)] 71)) := (Below.refl _ _).alloc (Nat.le_refl _) _
        go_wp2_with (first
          | (at_builtin; refine wpList_append_own _ rfl (.tmp 36) (.tmp 38) 22 rfl w2.heap.size 71 i0 (.int .u64 0) 1 8 Tryd.underlying22 hi hz0 hz1 hz2 rfl (by decide) (.slice q2 i c2) i _ rfl (owned_below hownW hT) ⟨wr.heap.size, 0, none⟩ 1 1 [.int .u64 (x)] rfl rfl (one_new _ _ _) (by simp [Value.oneCell']) (by simp only [maxLen]; omega) (by omega) (by simp; omega) ?_; intro ov w6 hown6 hgrow6 _; obtain ⟨q3, c3, rfl, hq3⟩ := owned_new hown6; have gB2' := (gB2.below hT).grown hgrow6 (fun e => by have := (hlw _ e).1; omega); obtain ⟨l2', j0', j1', j2', f0', f1', f2'⟩ := id gB2')
        )
        have hne : ∀ b, b < w2.heap.size → (Value.slice q2 i c2).ownBlock ≠ some b := fun b hb e => by have := (hlw _ e).1; omega
        have gZ0 := ((gB0.below hT).grown hgrow6 (hne _ (by omega))).other (g := w.heap.size + 1 + 1) (by omega) 0 (.slice q3 (i + 1) c3)
        have gZ1 := ((gB1.below hT).grown hgrow6 (hne _ (by omega))).other (g := w.heap.size + 1 + 1) (by omega) 0 (.slice q3 (i + 1) c3)
        have gZ2 := gB2'.store0 (.slice q3 (i + 1) c3)
        have hSz := owned_setCell ((owned_below hownS hT).kept hgrow6 (by
          cases hob : (Value.slice q1 h.m c1).ownBlock with
          | none => exact .inl rfl
          | some b => exact .inr fun e => hne b (hls b hob).2 e.symm)) (g := w.heap.size + 1 + 1) (fun e => by have := (hls _ e).1; omega) 0 (.slice q3 (i + 1) c3)
        have hl6 : ∀ k, (Value.slice q3 (i + 1) c3).ownBlock = some k → w2.heap.size ≤ k := fun k hk => (hown6.lt k hk).1
        rw [hsn] at hown6
        have hWz := owned_setCell hown6 (g := w.heap.size + 1 + 1) (fun e => by have := hl6 _ e; omega) 0 (.slice q3 (i + 1) c3)
        have hbZ : Below w.heap.size w (w6.setCell ⟨w.heap.size + 1 + 1, 0, none⟩ (.slice q3 (i + 1) c3)) := ((bjoin hT hbw).grown hgrow6 (by have := hbw.size; simp; omega) (fun k hk => by have := hlw k hk; omega)).setCell (by show w.heap.size ≤ w.heap.size + 1 + 1; omega) _
        have hsZ : w2.heap.size ≤ (w6.setCell ⟨w.heap.size + 1 + 1, 0, none⟩ (.slice q3 (i + 1) c3)).heap.size := by
          have := hgrow6.size
          simp [World.setCell] at this ⊢
          omega
        go_roundg (h.n - (i + 1))
        case measure => omega
        case rel => exact ⟨i + 1, _, by omega, rfl, by go_num, gZ0, gZ1, gZ2, hSz, hWz, hbZ, hsZ⟩
      · rw [hy] at hsn
        have d0 : ((i : Int) == g) = false := by simp [e]
        clear e
        have hT : Below wr.heap.size wr (wr.alloc (.cells #[.int .u64 (h.z i)] 71)) := (Below.refl _ _).alloc (Nat.le_refl _) _
        go_wp2_with (first
          | (at_builtin; refine wpList_append_own _ rfl (.tmp 36) (.tmp 38) 22 rfl w2.heap.size 71 i0 (.int .u64 0) 1 8 Tryd.underlying22 hi hz0 hz1 hz2 rfl (by decide) (.slice q2 i c2) i _ rfl (owned_below hownW hT) ⟨wr.heap.size, 0, none⟩ 1 1 [.int .u64 (h.z i)] rfl rfl (one_new _ _ _) (by simp [Value.oneCell']) (by simp only [maxLen]; omega) (by omega) (by simp; omega) ?_; intro ov w6 hown6 hgrow6 _; obtain ⟨q3, c3, rfl, hq3⟩ := owned_new hown6; have gB2' := (gB2.below hT).grown hgrow6 (fun e => by have := (hlw _ e).1; omega); obtain ⟨l2', j0', j1', j2', f0', f1', f2'⟩ := id gB2')
        )
        have hne : ∀ b, b < w2.heap.size → (Value.slice q2 i c2).ownBlock ≠ some b := fun b hb e => by have := (hlw _ e).1; omega
        have gZ0 := ((gB0.below hT).grown hgrow6 (hne _ (by omega))).other (g := w.heap.size + 1 + 1) (by omega) 0 (.slice q3 (i + 1) c3)
        have gZ1 := ((gB1.below hT).grown hgrow6 (hne _ (by omega))).other (g := w.heap.size + 1 + 1) (by omega) 0 (.slice q3 (i + 1) c3)
        have gZ2 := gB2'.store0 (.slice q3 (i + 1) c3)
        have hSz := owned_setCell ((owned_below hownS hT).kept hgrow6 (by
          cases hob : (Value.slice q1 h.m c1).ownBlock with
          | none => exact .inl rfl
          | some b => exact .inr fun e => hne b (hls b hob).2 e.symm)) (g := w.heap.size + 1 + 1) (fun e => by have := (hls _ e).1; omega) 0 (.slice q3 (i + 1) c3)
        have hl6 : ∀ k, (Value.slice q3 (i + 1) c3).ownBlock = some k → w2.heap.size ≤ k := fun k hk => (hown6.lt k hk).1
        rw [hsn] at hown6
        have hWz := owned_setCell hown6 (g := w.heap.size + 1 + 1) (fun e => by have := hl6 _ e; omega) 0 (.slice q3 (i + 1) c3)
        have hbZ : Below w.heap.size w (w6.setCell ⟨w.heap.size + 1 + 1, 0, none⟩ (.slice q3 (i + 1) c3)) := ((bjoin hT hbw).grown hgrow6 (by have := hbw.size; simp; omega) (fun k hk => by have := hlw k hk; omega)).setCell (by show w.heap.size ≤ w.heap.size + 1 + 1; omega) _
        have hsZ : w2.heap.size ≤ (w6.setCell ⟨w.heap.size + 1 + 1, 0, none⟩ (.slice q3 (i + 1) c3)).heap.size := by
          have := hgrow6.size
          simp [World.setCell] at this ⊢
          omega
        go_roundg (h.n - (i + 1))
        case measure => omega
        case rel => exact ⟨i + 1, _, by omega, rfl, by go_num, gZ0, gZ1, gZ2, hSz, hWz, hbZ, hsZ⟩
    · obtain rfl : i = h.n := by omega
      obtain ⟨l1, b0, b1, b2, v0, v1, v2⟩ := id gB1
      go_wp2
      refine bodyPost_ret (by simp [results, Tryd.results52, go_sem, *]; try rfl) rfl ?_
      have hne : ∀ b b', (Value.slice q2 h.n c2).ownBlock = some b → (Value.slice q1 h.m c1).ownBlock = some b' → b ≠ b' := fun b b' e e' => by have := hlw b e; have := hls b' e'; omega
      have ho : HpOwn wr (w.heap.size + 3) q2 c2 q1 c1 (putH h g x) := ⟨owned_base hownW hsz2, by show wr.ownsRow (w.heap.size + 3) _ 3 (.slice q1 h.m c1) h.m (spVals h.m h.s); rw [← hSV'.out]; exact hownS, hne, ⟨fun i hi => by show (Lit.int .u64 (putZ h.z g x i)).wf = true; unfold putZ; split; exact hx; exact hwf.1 i hi, hwf.2⟩, hnle, hmle⟩
      have hz := (((ho.under (g := w.heap.size + 1) (by omega) 0 (.slice q2 h.n c2)).under (g := w.heap.size + 1) (by omega) 1 (.slice q1 h.m c1)).under (g := w.heap.size + 1) (by omega) 2 (.bool h.b)).lower (show w.heap.size ≤ w.heap.size + 3 by omega)
      exact ⟨q2, c2, q1, c1, rfl, hz, ((hbw.setCell (Nat.le_succ _) _).setCell (Nat.le_succ _) _).setCell (Nat.le_succ _) _⟩
theorem set_boxes {w : World} {x0 x1 x2 k n u0 u1 u2 : Value} {t t' : TypeId} : ∃ w0, w0 = ((w.alloc (.cells #[x0, x1, x2] t)).alloc (.cells #[k, n] t')).alloc (.cells #[u0, u1, u2] t) ∧
    Box3 w.heap.size x0 x1 x2 w0 ∧ (w.heap.size + 1 < w0.heap.size ∧ w0.cell? ⟨w.heap.size + 1, 0, none⟩ = some k ∧ w0.cell? ⟨w.heap.size + 1, 1, none⟩ = some n) ∧ Box3 (w.heap.size + 1 + 1) u0 u1 u2 w0 ∧ Below w.heap.size w w0 ∧ w0.heap.size = w.heap.size + 3 := by
  have st : ∀ (W : World) (o : Obj), Below W.heap.size W (W.alloc o) := fun W o => (Below.refl _ _).alloc (Nat.le_refl _) _
  have a0 := Box3.new w x0 x1 x2 t
  have hg := heap_alloc_new (w.alloc (.cells #[x0, x1, x2] t)) (.cells #[k, n] t')
  rw [World.size_alloc] at hg
  have hg2 : (((w.alloc (.cells #[x0, x1, x2] t)).alloc (.cells #[k, n] t')).alloc (.cells #[u0, u1, u2] t)).heap[w.heap.size + 1]? = some (.cells #[k, n] t' (0, 0)) := by
    rw [Below.heap_alloc _ _ _ (by simp)]; exact hg
  have a2 := Box3.new ((w.alloc (.cells #[x0, x1, x2] t)).alloc (.cells #[k, n] t')) u0 u1 u2 t
  refine ⟨_, rfl, (a0.below (st _ _)).below (st _ _), ⟨by simp, ?_, ?_⟩, ?_, ?_, by simp⟩
  · rw [cell_of_row _ _ _ _ _ _ hg2]; rfl
  · rw [cell_of_row _ _ _ _ _ _ hg2]; rfl
  · simpa only [World.size_alloc] using a2
  · exact ((st w _).trans ((st _ _).mono (by simp))).trans ((st _ _).mono (by simp; omega))
theorem putV_wf {k n : Int} (hm : mayB k n = true) (hn : n ≤ 9223372036854775807) : (Lit.int .u64 (putV k n)).wf = true := by
  have := putW_lt k n hn
  unfold putW at this
  rw [if_pos hm] at this
  exact wf_u64_of this.1 this.2
set_option maxHeartbeats 4000000 in
theorem rpaint8_any (p : Option Addr) (c : Nat) (q : Option Addr) (d : Nat) (h : Hp) (a : Int) (w : World) (hh : HpAt w p c q d h) (hF : formB h = true) :
    Calls Tryd.prog 39 #[.agg #[.slice p h.n c, .slice q h.m d, .bool h.b], .int .i64 a] w fun e w' => ∃ p' c' q' d', e = .returned (.tuple #[.agg #[.slice p' h.n c', .slice q' h.m d', .bool h.b], .bool (obB h a)]) ∧
      HpAt w' p' c' q' d' (paH h a) ∧ Src w.heap.size (obB h a) h.n h.m p c q d p' c' q' d' ∧ Below w.heap.size w w' := by
  obtain ⟨w0, hw0, gB, gR, hst⟩ := boxed2 (w := w) (v0 := .slice p h.n c) (v1 := .slice q h.m d) (v2 := .bool h.b) (u0 := .slice none 0 0) (u1 := .slice none 0 0) (u2 := .bool false) (t := 25)
  have hat := hh.below hst
  have hG := rget8_any p c q d h a w0 hat hF
  obtain ⟨l0, x0, x1, x2, -, -, -⟩ := id gB
  obtain ⟨lR, y0, y1, y2, f0, f1, f2⟩ := id gR
  have hF' : Hid (formB h = true) := hF
  cases ho : obB h a with
  | false =>
    have e2 : paH h a = h := by unfold paH; rw [if_neg (by simp [ho])]
    rw [e2]
    rw [ho] at hG
    generalize obC h a = C at *
    generalize obK h a = K at *
    generalize obN h a = N at *
    clear e2 hF
    go_enter Tryd.func39, Tryd.ntmps39
    go_upto_region 1 with fail
    rw [← hw0]
    clear hw0
    go_wp2_with (first
    | (go_at_call 23; refine Calls.mono (hG) ?_; rintro e w' ⟨rfl, hb⟩; obtain ⟨hc, hf, hb, hz⟩ := bstep hb (w := w0) (by go_grown); try simp only [World.size_alloc, World.size_setCell, World.size_drew] at hc hf hz)
    )
    refine bodyPost_ret (by simp [results, Tryd.results39, go_sem, *]; try rfl) rfl ?_
    have hbb := ((((bjoin hb hst).alloc (by have := hst.size; omega) (.cells #[.bool false, .bool C, .int .i64 K, .int .i64 N] 52)).setCell (p := ⟨w.heap.size + 1, 0, none⟩) (Nat.le_succ _) (.slice p h.n c)).setCell (p := ⟨w.heap.size + 1, 1, none⟩) (Nat.le_succ _) (.slice q h.m d)).setCell (p := ⟨w.heap.size + 1, 2, none⟩) (Nat.le_succ _) (.bool h.b)
    exact ⟨p, c, q, d, rfl, hh.below hbb, ⟨fun h => (by cases h), fun _ => ⟨rfl, rfl, rfl, rfl⟩⟩, hbb⟩
  | true =>
    obtain ⟨-, -, a0, a1, -, -, eC, eK, eN, hmy⟩ := ob_spec hF ho
    rw [← eK, ← eN] at hmy
    replace hmy := may_any_colour (c' := h.b) hmy
    have e2 : paH h a = putH h a (hputW true h.b (obK h a) (obN h a)) := by unfold paH; rw [if_pos ho]
    have hwd : (Lit.int .u64 (hputW true h.b (obK h a) (obN h a))).wf = true := by have := hput_lt hmy; exact wf_u64_of this.1 (by omega)
    have hP := fun W => rhput_any true h.b (obK h a) (obN h a) W hmy
    rw [e2]
    rw [ho] at hG
    generalize hputW true h.b (obK h a) (obN h a) = X at *
    generalize obC h a = C at *
    generalize obK h a = K at *
    generalize obN h a = N at *
    clear e2 hF eC eK eN hmy
    go_enter Tryd.func39, Tryd.ntmps39
    go_upto_region 1 with fail
    rw [← hw0]
    clear hw0
    go_upto_region 4 with (first
    | (go_at_call 23; refine Calls.mono (hG) ?_; rintro e w' ⟨rfl, hb⟩; obtain ⟨hc, hf, hb, hz⟩ := bstep hb (w := w0) (by go_grown); try simp only [World.size_alloc, World.size_setCell, World.size_drew] at hc hf hz)
    )
    obtain ⟨w4, hw4⟩ : ∃ w4, w4 = w'.alloc (.cells #[.bool true, .bool C, .int .i64 K, .int .i64 N] 52) := ⟨_, rfl⟩
    have hB4 : Below w0.heap.size w0 w4 := by rw [hw4]; exact hb.alloc hb.size _
    have gX : Box4 w'.heap.size (.bool true) (.bool C) (.int .i64 K) (.int .i64 N) w4 := by rw [hw4]; exact Box4.new _ _ _ _ _ _
    have hSl : w0.heap.size ≤ w'.heap.size := hb.size
    rw [← hw4]
    clear hw4 hb hc hf hz x0 x1 x2 y0 y1 y2 f0 f1 f2 hG
    generalize w'.heap.size = B6 at *
    replace gB := gB.below hB4
    replace gR := gR.below hB4
    have hat4 := hat.below hB4
    have hbW := bjoin hB4 hst
    obtain ⟨-, x0, x1, x2, -, -, -⟩ := id gB
    obtain ⟨lX, z0, z1, z2, z3, g0, g1, g2, g3⟩ := id gX
    go_upto_region 5 with fail
    obtain ⟨w5, hw5⟩ : ∃ w5, w5 = w4.setCell ⟨B6, 1, none⟩ (.bool h.b) := ⟨_, rfl⟩
    have gX5 : Box4 B6 (.bool true) (.bool h.b) (.int .i64 K) (.int .i64 N) w5 := by
      rw [hw5]
      refine ⟨by simpa [World.setCell] using lX, ?_, ?_, ?_, ?_, ?_, ?_, ?_, ?_⟩ <;> simp [go_sem, *]
    have hne : ∀ (p : Option Addr), (∀ b off sp, p = some ⟨b, off, sp⟩ → b < w.heap.size) → ∀ b off sp, p = some ⟨b, off, sp⟩ → b ≠ B6 := fun p hp b off sp e => by have := hp b off sp e; have := hst.size; omega
    have hlow := hh.in.lower hF'.out
    have hin5 : HpIn w5 p h.n c q h.m d h.b h := by rw [hw5]; exact hat4.in.setCell ⟨hne p hlow.1, hne q hlow.2⟩ _ _
    have gB5 : Box3 w.heap.size (.slice p h.n c) (.slice q h.m d) (.bool h.b) w5 := by rw [hw5]; exact gB.other (by have := hst.size; omega) _ _
    have hst2 : w.heap.size + 2 ≤ w0.heap.size := lR
    have gR5 : Box3 (w.heap.size + 1) (.slice none 0 0) (.slice none 0 0) (.bool false) w5 := by rw [hw5]; exact gR.other (by omega) _ _
    have hb5 : Below w.heap.size w w5 := by rw [hw5]; exact hbW.setCell (by show w.heap.size ≤ B6; omega) _
    rw [← hw5]
    clear hw5 x0 x1 x2 lX z0 z1 z2 z3 g0 g1 g2 g3 gX gB gR hat4 hbW hne
    obtain ⟨l5, x0, x1, x2, -, -, -⟩ := id gB5
    obtain ⟨l6, y0, y1, y2, f0, f1, f2⟩ := id gR5
    obtain ⟨lX, z0, z1, z2, z3, -, -, -, -⟩ := id gX5
    have hs5 := hb5.size
    have hl5 : w.heap.size + 2 ≤ w5.heap.size := by omega
    go_region_with (first
    | (go_at_call 47; refine Calls.mono (hP _) ?_; rintro e w' ⟨rfl, hb⟩; obtain ⟨hc, hf, hb, hz⟩ := bstep hb (w := w5) (by go_grown); try simp only [World.size_alloc, World.size_setCell, World.size_drew] at hc hf hz)
    | (go_at_call 52; refine Calls.mono (rwith8_any _ _ _ _ h _ X _ (hin5.at'.below (by go_grown)) hF'.out hwd) ?_; rintro e w' ⟨p', c', q', d', rfl, hown, hb⟩; obtain ⟨hc, hf, hb, hz⟩ := bstep hb (w := w5) (by go_grown); try simp only [World.size_alloc, World.size_setCell, World.size_drew] at hc hf hz)
    )
    all_goals
      have hbS := hb
      go_wp2
      refine bodyPost_ret (by simp [results, Tryd.results39, go_sem, *]; try rfl) rfl ?_
      have hz3 := (((hown.under (g := w.heap.size + 1) (by omega) 0 (.slice p' h.n c')).under (g := w.heap.size + 1) (by omega) 1 (.slice q' h.m d')).under (g := w.heap.size + 1) (by omega) 2 (.bool h.b)).lower (show w.heap.size ≤ _ by omega)
      exact ⟨p', c', q', d', rfl, hz3.at, ⟨fun _ => ⟨hz3.newW, hz3.newS⟩, fun h => (by cases h)⟩, (((bjoin hbS hb5).setCell (Nat.le_succ _) _).setCell (Nat.le_succ _) _).setCell (Nat.le_succ _) _⟩
def inZ (n : Nat) (z : Nat → Int) (x : Int) : Bool := (List.range n).any fun i => z i == x
theorem inZ_iff {n : Nat} {z : Nat → Int} {x : Int} : inZ n z x = true ↔ ∃ i, i < n ∧ z i = x := by simp [inZ]
set_option maxHeartbeats 1000000 in
theorem rin8_any (p : Option Addr) (n cap : Nat) (z : Nat → Int) (x : Int) (w : World) (hz : Ints .i64 w p n z) (hn : n ≤ maxLen) :
    Calls Tryd.prog 15 #[.slice p n cap, .int .i64 x] w fun e w' => e = .returned (.bool (inZ n z x)) ∧ Below w.heap.size w w' := by
  simp only [maxLen] at hn
  have hI : Hid (∀ e : Bool, (e = true ↔ ∃ i, i < n ∧ z i = x) → inZ n z x = e) := fun e h => by rw [Bool.eq_iff_iff, inZ_iff, h]
  go_enter Tryd.func15, Tryd.ntmps15
  go_wp2
  go_loopg [5] n (fun gg iv wr => ∃ i : Int, 0 ≤ i ∧ i ≤ n ∧ gg = (n - i).toNat ∧ iv = .int .i64 i ∧ (∀ j : Nat, (j : Int) < i → ¬ z j = x) ∧ Below w.heap.size w wr)
  case atStart => exact ⟨0, by omega, by omega, by omega, rfl, fun j hj => by omega, Below.refl _ _⟩
  case round =>
    obtain ⟨i, il, ih, rfl, rfl, hall, hbw⟩ := hrel
    by_cases hi : i < n
    · obtain ⟨⟨b, off, rfl, hlt, v0⟩, -⟩ := (hz.below hbw) i.toNat (by omega)
      by_cases e : z i.toNat = x
      · have e' : inZ n z x = true := hI.out true ⟨fun _ => ⟨i.toNat, by omega, e⟩, fun _ => rfl⟩
        rw [e] at v0
        clear e
        go_wp2
        go_returns
        exact ⟨ret_bool (by simp [e']), hbw⟩
      · have d0 : (z i.toNat == x) = false := by simp [e]
        have hall' : ∀ j : Nat, (j : Int) < i + 1 → ¬ z j = x := fun j hj => by
          by_cases ej : (j : Int) = i
          · rw [show j = i.toNat by omega]; exact e
          · exact hall j (by omega)
        clear e hall
        go_wp2
        go_roundg ((n : Int) - (i + 1)).toNat
        case measure => omega
        case rel => exact ⟨i + 1, by omega, by omega, rfl, by go_num, hall', hbw⟩
    · have e' : inZ n z x = false := hI.out false ⟨fun h => (by cases h), fun ⟨j, hj, h⟩ => absurd h (hall j (by omega))⟩
      go_wp2
      go_returns
      exact ⟨ret_bool (by simp [e']), hbw⟩
end Go.Proofs.YtokbggokkjefhaaDoor
