/- Contracts of the code's object.* (chapter 8): Get, Field, Black, store, Set, Paint. -/
import Derived.Test.YtonjnedlnfdanaaDoorHeap
import Derived.Test.YtonjnedlnfdanaaDoorRef08
namespace Go.Proofs.YtonjnedlnfdanaaDoor
set_option linter.unusedSimpArgs false
set_option linter.unusedVariables false
open Go.ChangeShapes Go.WideShapes Go.ChangeAt Go.RowKit Go.Joins

set_option maxHeartbeats 2000000 in
theorem oget_any (p : Option Addr) (c : Nat) (q : Option Addr) (d : Nat) (h : Hp) (a : Int) (w : World) (hS : Sz w) (hh : HpAt w p c q d h) (hF : formB h = true) :
    Calls Tryd.prog 42 #[.agg #[.slice p h.n c, .slice q h.m d, .bool h.b], .int .i64 a] w fun e w' => e = .returned (.tuple #[.agg #[.bool (obB h a), .bool (obC h a), .int .i64 (obK h a), .int .i64 (obN h a)], .bool (obB h a)]) ∧ Below w.heap.size w w' := by
  obtain ⟨w0, hw0, gB, gR, hst⟩ := boxed_hd (w := w) (v0 := .slice p h.n c) (v1 := .slice q h.m d) (v2 := .bool h.b) (u0 := .bool false) (u1 := .bool false) (u2 := .int .i64 0) (u3 := .int .i64 0) (t := 25) (t' := 65)
  have hat := hh.below hst
  have hFi := hfind_any p c q d h a w0 (hS.below hst) hat hF
  obtain ⟨l0, x0, x1, x2, -, -, -⟩ := gB
  obtain ⟨l1, y0, y1, y2, y3, f0, f1, f2, f3⟩ := gR
  cases hf : fiB h a with
  | false =>
    have e : obB h a = false := by unfold obB; rw [hf]; rfl
    obtain ⟨e1, e2, e3⟩ := ob_no e
    rw [e, e1, e2, e3]
    rw [hf] at hFi
    generalize fiP h a = gp at *
    generalize fiI h a = gi at *
    clear e e1 e2 e3 hF
    go_enter Tryd.func42, Tryd.ntmps42
    go_upto_region 1 with fail
    rw [← hw0]
    clear hw0
    go_wp2_with (first
    | (go_at_call 43; refine Calls.mono (hFi) ?_; rintro e w' ⟨rfl, hb⟩; obtain ⟨hc, hf, hb, hz⟩ := bstep hb (w := w0) (by go_grown); try simp only [World.size_alloc, World.size_setCell, World.size_drew] at hc hf hz)
    )
    refine bodyPost_ret (by simp [results, Tryd.results42, go_sem, *]; try rfl) rfl ?_
    exact ⟨rfl, by go_grown; exact bjoin hb hst⟩
  | true =>
    obtain ⟨q0, q1, -⟩ := fi_spec hF hf
    have hnn := (form_iff.1 hF).2.2.1
    have a0 : 0 ≤ a := by omega
    have a1 : a < h.n := by omega
    have a2 : a ≤ 512 := by have := (form_iff.1 hF).2.1; omega
    have hP : fiP h a = a / 32 := by unfold fiP; rw [if_pos hf]
    have eB : obB h a = (gU (woH h a) && decide (a + gN (woH h a) < 32 * (a / 32) + 32)) := by unfold obB; rw [hf, Bool.true_and]
    have eC : obB h a = true → obC h a = gC (woH h a) := fun e => by unfold obC; rw [e]; rfl
    have eK : obB h a = true → obK h a = gK (woH h a) := fun e => by unfold obK; rw [if_pos e]
    have eN : obB h a = true → obN h a = gN (woH h a) := fun e => by unfold obN; rw [if_pos e]
    have hX := wo_wf hh.wf a0 a1
    have eO := ob_no (h := h) (a := a)
    have hNb := gN_bound (X := woH h a)
    rw [hf, hP] at hFi
    obtain ⟨⟨b, off, rfl, hlt, v0⟩, -⟩ := hat.ints a.toNat (by omega)
    rw [show h.z a.toNat = woH h a from rfl] at v0
    have hG := hget_any (woH h a)
    generalize woH h a = X at *
    generalize fiI h a = gi at *
    obtain ⟨X0, X1⟩ := hX
    clear hF hnn hat hh hP
    have p0 : 32 * (a / 32) ≤ a := by omega
    have p1 : a < 32 * (a / 32) + 32 := by omega
    have p2 : 0 ≤ a / 32 := by omega
    generalize a / 32 = pg at *
    cases hu : gU X with
    | false =>
      obtain ⟨u1, u2, u3⟩ := hd_none hu
      rw [hu, Bool.false_and] at eB
      obtain ⟨e1, e2, e3⟩ := eO eB
      rw [eB, e1, e2, e3]
      rw [hu, u1, u2, u3] at hG
      simp only [Bool.false_or] at hG
      clear eB eC eK eN eO e1 e2 e3 u1 u2 u3 hu hNb
      cases hx : (X == 0)
      all_goals
        rw [hx] at hG
        go_enter Tryd.func42, Tryd.ntmps42
        go_upto_region 1 with fail
        rw [← hw0]
        clear hw0
        go_wp2_with (first
    | (go_at_call 43; refine Calls.mono (hFi) ?_; rintro e w' ⟨rfl, hb⟩; obtain ⟨hc, hf, hb, hz⟩ := bstep hb (w := w0) (by go_grown); try simp only [World.size_alloc, World.size_setCell, World.size_drew] at hc hf hz)
    | (go_at_call 44; refine Calls.mono (hG _ X0 X1) ?_; rintro e w' ⟨rfl, hb⟩; obtain ⟨hc, hf, hb, hz⟩ := bstep hb (w := w0) (by go_grown); try simp only [World.size_alloc, World.size_setCell, World.size_drew] at hc hf hz)
        )
        refine bodyPost_ret (by simp [results, Tryd.results42, go_sem, *]; try rfl) rfl ?_
        exact ⟨rfl, by go_grown; exact bjoin hb hst⟩
    | true =>
      rw [hu, Bool.true_and] at eB
      rw [hu] at hG
      simp only [Bool.true_or] at hG
      obtain ⟨F0, F1⟩ := hNb
      by_cases hl : a + gN X < 32 * pg + 32
      · rw [decide_eq_true hl] at eB
        rw [eB, eC eB, eK eB, eN eB]
        have hd : decide ((pg + 1) * 32 ≤ a + gN X) = false := by simp; omega
        clear eB eC eK eN eO hu
        generalize gN X = F at *
        generalize gK X = K at *
        generalize gC X = C at *
        go_enter Tryd.func42, Tryd.ntmps42
        go_upto_region 1 with fail
        rw [← hw0]
        clear hw0
        go_wp2_with (first
    | (go_at_call 43; refine Calls.mono (hFi) ?_; rintro e w' ⟨rfl, hb⟩; obtain ⟨hc, hf, hb, hz⟩ := bstep hb (w := w0) (by go_grown); try simp only [World.size_alloc, World.size_setCell, World.size_drew] at hc hf hz)
    | (go_at_call 44; refine Calls.mono (hG _ X0 X1) ?_; rintro e w' ⟨rfl, hb⟩; obtain ⟨hc, hf, hb, hz⟩ := bstep hb (w := w0) (by go_grown); try simp only [World.size_alloc, World.size_setCell, World.size_drew] at hc hf hz)
        )
        refine bodyPost_ret (by simp [results, Tryd.results42, go_sem, *]; try rfl) rfl ?_
        exact ⟨rfl, by go_grown; exact bjoin hb hst⟩
      · rw [decide_eq_false hl] at eB
        obtain ⟨e1, e2, e3⟩ := eO eB
        rw [eB, e1, e2, e3]
        have hd : decide ((pg + 1) * 32 ≤ a + gN X) = true := by simp; omega
        clear eB eC eK eN eO hu e1 e2 e3
        generalize gN X = F at *
        generalize gK X = K at *
        generalize gC X = C at *
        go_enter Tryd.func42, Tryd.ntmps42
        go_upto_region 1 with fail
        rw [← hw0]
        clear hw0
        go_wp2_with (first
    | (go_at_call 43; refine Calls.mono (hFi) ?_; rintro e w' ⟨rfl, hb⟩; obtain ⟨hc, hf, hb, hz⟩ := bstep hb (w := w0) (by go_grown); try simp only [World.size_alloc, World.size_setCell, World.size_drew] at hc hf hz)
    | (go_at_call 44; refine Calls.mono (hG _ X0 X1) ?_; rintro e w' ⟨rfl, hb⟩; obtain ⟨hc, hf, hb, hz⟩ := bstep hb (w := w0) (by go_grown); try simp only [World.size_alloc, World.size_setCell, World.size_drew] at hc hf hz)
        )
        refine bodyPost_ret (by simp [results, Tryd.results42, go_sem, *]; try rfl) rfl ?_
        exact ⟨rfl, by go_grown; exact bjoin hb hst⟩

/-- Where a field stands, or 0. -/
def fdP (h : Hp) (a i : Int) : Int := if fdE h a i = 0 then a + 1 + i else 0
set_option maxHeartbeats 2000000 in
theorem oplace_any (p : Option Addr) (c : Nat) (q : Option Addr) (d : Nat) (h : Hp) (a i : Int) (w : World) (hS : Sz w) (hh : HpAt w p c q d h) (hF : formB h = true) :
    Calls Tryd.prog 39 #[.agg #[.slice p h.n c, .slice q h.m d, .bool h.b], .int .i64 a, .int .i64 i] w fun e w' => e = .returned (.tuple #[.int .i64 (fdP h a i), .int .i64 (fdE h a i)]) ∧ Below w.heap.size w w' := by
  obtain ⟨w0, hw0⟩ : ∃ w0, w0 = w.alloc (.cells #[.slice p h.n c, .slice q h.m d, .bool h.b] 25) := ⟨_, rfl⟩
  have gB : Box3 w.heap.size (.slice p h.n c) (.slice q h.m d) (.bool h.b) w0 := by rw [hw0]; exact Box3.new _ _ _ _ _
  have hst : Below w.heap.size w w0 := by rw [hw0]; go_grown
  have hat := hh.below hst
  have hG := oget_any p c q d h a w0 (hS.below hst) hat hF
  obtain ⟨l0, x0, x1, x2, -, -, -⟩ := gB
  rcases fd_cases h a i with ⟨e0, i0, i1, e1, e2⟩ | ⟨e0, hi, e1, e2⟩ | ⟨e0, e1, e2⟩
  · obtain ⟨-, -, a0, -, a2, a3, -, -, a4, -⟩ := ob_spec hF e0
    have e3 : fdP h a i = a + 1 + i := by unfold fdP; rw [if_pos e1]
    rw [e3, e1]
    rw [e0] at hG
    have hm16 := (form_iff.1 hF).2.1
    have hnn := (form_iff.1 hF).2.2.1
    rw [a4] at i1
    have a5 : a ≤ 512 := by omega
    have a6 : i ≤ 512 := by omega
    rw [← a4] at i1
    have hd : decide (obN h a ≤ i) = false := by simp; omega
    generalize obN h a = F at *
    generalize obC h a = C at *
    generalize obK h a = K at *
    clear hF hnn hat hh e0 e1 e2 e3 a2 a3 a4 hm16
    go_enter Tryd.func39, Tryd.ntmps39
    go_upto_region 1 with fail
    rw [← hw0]
    clear hw0
    go_wp2_with (first
    | (go_at_call 42; refine Calls.mono (hG) ?_; rintro e w' ⟨rfl, hb⟩; obtain ⟨hc, hf, hb, hz⟩ := bstep hb (w := w0) (by go_grown); try simp only [World.size_alloc, World.size_setCell, World.size_drew] at hc hf hz)
    )
    go_returns
    exact ⟨rfl, by go_grown; exact bjoin hb hst⟩
  · have e3 : fdP h a i = 0 := by unfold fdP; rw [if_neg (by omega)]
    rw [e3, e1]
    rw [e0] at hG
    have hNb : 0 ≤ obN h a := by have := gN_bound (X := woH h a); rw [(ob_spec hF e0).2.2.2.2.2.2.2.2.1]; omega
    have hi' : ¬ (0 ≤ i ∧ i < obN h a) := hi
    generalize obN h a = F at *
    generalize obC h a = C at *
    generalize obK h a = K at *
    clear hF hat hh e0 e1 e2 e3 hi
    by_cases h0 : i < 0
    · clear hi'
      go_enter Tryd.func39, Tryd.ntmps39
      go_upto_region 1 with fail
      rw [← hw0]
      clear hw0
      go_wp2_with (first
    | (go_at_call 42; refine Calls.mono (hG) ?_; rintro e w' ⟨rfl, hb⟩; obtain ⟨hc, hf, hb, hz⟩ := bstep hb (w := w0) (by go_grown); try simp only [World.size_alloc, World.size_setCell, World.size_drew] at hc hf hz)
      )
      go_returns
      exact ⟨rfl, by go_grown; exact bjoin hb hst⟩
    · have h1 : F ≤ i := by omega
      clear hi'
      go_enter Tryd.func39, Tryd.ntmps39
      go_upto_region 1 with fail
      rw [← hw0]
      clear hw0
      go_wp2_with (first
    | (go_at_call 42; refine Calls.mono (hG) ?_; rintro e w' ⟨rfl, hb⟩; obtain ⟨hc, hf, hb, hz⟩ := bstep hb (w := w0) (by go_grown); try simp only [World.size_alloc, World.size_setCell, World.size_drew] at hc hf hz)
      )
      go_returns
      exact ⟨rfl, by go_grown; exact bjoin hb hst⟩
  · obtain ⟨o1, o2, o3⟩ := ob_no e0
    have e3 : fdP h a i = 0 := by unfold fdP; rw [if_neg (by omega)]
    rw [e3, e1]
    rw [e0, o1, o2, o3] at hG
    clear hF hat hh e0 e1 e2 e3 o1 o2 o3
    go_enter Tryd.func39, Tryd.ntmps39
    go_upto_region 1 with fail
    rw [← hw0]
    clear hw0
    go_wp2_with (first
    | (go_at_call 42; refine Calls.mono (hG) ?_; rintro e w' ⟨rfl, hb⟩; obtain ⟨hc, hf, hb, hz⟩ := bstep hb (w := w0) (by go_grown); try simp only [World.size_alloc, World.size_setCell, World.size_drew] at hc hf hz)
    )
    go_returns
    exact ⟨rfl, by go_grown; exact bjoin hb hst⟩

set_option maxHeartbeats 2000000 in
theorem ofield_any (p : Option Addr) (c : Nat) (q : Option Addr) (d : Nat) (h : Hp) (a i : Int) (w : World) (hS : Sz w) (hh : HpAt w p c q d h) (hF : formB h = true) :
    Calls Tryd.prog 32 #[.agg #[.slice p h.n c, .slice q h.m d, .bool h.b], .int .i64 a, .int .i64 i] w fun e w' => e = .returned (.tuple #[.agg #[.int .i64 (getK (fdX h a i)), .int .i64 (getN (fdX h a i))], .int .i64 (fdE h a i)]) ∧ Below w.heap.size w w' := by
  obtain ⟨w0, hw0, gB, l1, y0, y1, f0, f1, hst⟩ := boxed_val (w := w) (v0 := .slice p h.n c) (v1 := .slice q h.m d) (v2 := .bool h.b) (u0 := .int .i64 0) (u1 := .int .i64 0) (t := 25) (t' := 30)
  have hat := hh.below hst
  have hG := oplace_any p c q d h a i w0 (hS.below hst) hat hF
  obtain ⟨l0, x0, x1, x2, -, -, -⟩ := gB
  obtain ⟨z0, z1⟩ := get_zero
  rcases fd_cases h a i with ⟨e0, i0, i1, e1, e2⟩ | ⟨e0, hi, e1, e2⟩ | ⟨e0, e1, e2⟩
  · obtain ⟨-, -, a0, -, a2, a3, -, -, a4, -⟩ := ob_spec hF e0
    have e3 : fdP h a i = a + 1 + i := by unfold fdP; rw [if_pos e1]
    rw [a4] at i1
    rw [e1, e3] at hG
    rw [e1, e2]
    have hm16 := (form_iff.1 hF).2.1
    have hnn := (form_iff.1 hF).2.2.1
    have a5 : a + 1 + i < h.n := by omega
    have a6 : a + 1 + i ≤ 512 := by omega
    have a7 : 0 ≤ a + 1 + i := by omega
    have hX := wo_wf hh.wf a7 a5
    obtain ⟨⟨b, off, rfl, hlt, v0⟩, -⟩ := hat.ints (a + 1 + i).toNat (by omega)
    rw [show h.z (a + 1 + i).toNat = woH h (a + 1 + i) from rfl] at v0
    have hV := get_any (woH h (a + 1 + i))
    generalize woH h (a + 1 + i) = X at *
    obtain ⟨X0, X1⟩ := hX
    clear hF hnn hat hh e0 e1 e2 e3 a2 a3 a4 i1 z0 z1 hm16
    generalize a + 1 + i = P at *
    go_enter Tryd.func32, Tryd.ntmps32
    go_upto_region 1 with fail
    rw [← hw0]
    clear hw0
    go_wp2_with (first
    | (go_at_call 39; refine Calls.mono (hG) ?_; rintro e w' ⟨rfl, hb⟩; obtain ⟨hc, hf, hb, hz⟩ := bstep hb (w := w0) (by go_grown); try simp only [World.size_alloc, World.size_setCell, World.size_drew] at hc hf hz)
    | (go_at_call 40; refine Calls.mono (hV _ X0 X1) ?_; rintro e w' ⟨rfl, hb⟩; obtain ⟨hc, hf, hb, hz⟩ := bstep hb (w := w0) (by go_grown); try simp only [World.size_alloc, World.size_setCell, World.size_drew] at hc hf hz)
    )
    refine bodyPost_ret (by simp [results, Tryd.results32, go_sem, *]; try rfl) rfl ?_
    exact ⟨rfl, by go_grown; exact bjoin hb hst⟩
  all_goals
    have hne : ¬ fdE h a i = 0 := by omega
    have e3 : fdP h a i = 0 := by unfold fdP; rw [if_neg hne]
    rw [e1, e3] at hG
    rw [e1, e2, z0, z1]
    clear hF hat hh e0 e1 e2 e3 z0 z1 hne
    go_enter Tryd.func32, Tryd.ntmps32
    go_upto_region 1 with fail
    rw [← hw0]
    clear hw0
    go_wp2_with (first
    | (go_at_call 39; refine Calls.mono (hG) ?_; rintro e w' ⟨rfl, hb⟩; obtain ⟨hc, hf, hb, hz⟩ := bstep hb (w := w0) (by go_grown); try simp only [World.size_alloc, World.size_setCell, World.size_drew] at hc hf hz)
    )
    refine bodyPost_ret (by simp [results, Tryd.results32, go_sem, *]; try rfl) rfl ?_
    exact ⟨rfl, by go_grown; exact bjoin hb hst⟩

end Go.Proofs.YtonjnedlnfdanaaDoor
