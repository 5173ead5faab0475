/- Contracts of the code's heap.* (chapter 7). -/
import Derived.Test.YtneanbagdkeoiaaDoorHeapCopy
import Derived.Test.YtneanbagdkeoiaaDoorSpan
import Derived.Test.YtneanbagdkeoiaaDoorHeader
import Derived.Shelf.Abstract
import Derived.Lib.SliceRun
namespace Go.Proofs.YtneanbagdkeoiaaDoor
set_option linter.unusedSimpArgs false
set_option linter.unusedVariables false
open Go.ChangeShapes Go.WideShapes Go.ChangeAt Go.RowKit Go.Joins

theorem used_bound {s : Sp} (hr : s.right = true) (hw : s.wf) : 0 ≤ usedN s.st s.cl s.fr ∧ usedN s.st s.cl s.fr ≤ 16 := by
  unfold usedN
  split
  · rename_i hu
    rcases right_iff.1 hr with ⟨h0, -⟩ | ⟨-, c0, c1, hs⟩
    · rw [h0] at hu; cases hu
    · obtain ⟨a, b⟩ := count_le hw.2.2 hs
      have := bl_bound s.cl
      omega
  · simp
end Go.Proofs.YtneanbagdkeoiaaDoor
/-! Contracts of the code's heap.changeSpan, of whatever closure, and of Open and Close (chapter 7). -/
namespace Go.Proofs.YtneanbagdkeoiaaDoor
set_option linter.unusedSimpArgs false
set_option linter.unusedVariables false
open Go.ChangeShapes Go.WideShapes Go.ChangeAt Go.RowKit Go.Joins

/-- What changeSpan leaves: W1 where the closure is called, W2 behind it. -/
structure Changed (w : World) (h : Hp) (g : Int) (x : Sp) (ok : Bool) (T : Nat → Prop) (R : World → World → Prop) (p : Option Addr) (c : Nat) (q : Option Addr) (d : Nat) (p' : Option Addr) (c' : Nat) (q' : Option Addr) (d' : Nat) (w' : World) : Prop where
  new : ok = true → HpOwn w' w.heap.size p' c' q' d' (withS h g x)
  old : ok = false → p' = p ∧ c' = c ∧ q' = q ∧ d' = d
  way : ∃ W1 W2, Below w.heap.size w W1 ∧ Aside T W1 W2 ∧ R W1 W2 ∧ Below w.heap.size W2 w'
set_option maxHeartbeats 4000000 in
theorem change_in {p : Option Addr} {c : Nat} {q : Option Addr} {d : Nat} {h : Hp} {w : World} {k : FuncId} {caps : Array Value} (hk : ∀ args w, (callFunc k args).run Tryd.prog w = .ok (.enter k args) w)
    {g : Int} {x : Sp} {ok : Bool} {T : Nat → Prop} {R : World → World → Prop} (hh : HpAt w p c q d h) (hF : formB h = true) (hx : ok = true → x.wf) (hT : ∀ t, T t → t < w.heap.size ∧ Clear t p q) (g0 : 0 ≤ g) (g1 : g < h.m)
    (hcl : ∀ W1, Below w.heap.size w W1 → Calls Tryd.prog k (#[.agg #[.int .i64 (spH h g).st, .int .i64 (spH h g).cl, .int .u32 (spH h g).fr]] ++ caps) W1 fun e W2 => e = .returned (.tuple #[.agg #[.int .i64 x.st, .int .i64 x.cl, .int .u32 x.fr], .bool ok]) ∧ Aside T W1 W2 ∧ R W1 W2) :
    Calls Tryd.prog 56 #[.agg #[.slice p h.n c, .slice q h.m d, .bool h.b], .int .i64 g, .func (.func k) #[] caps] w fun e w' => ∃ p' c' q' d', e = .returned (.tuple #[.agg #[.slice p' h.n c', .slice q' h.m d', .bool h.b], .bool ok]) ∧ Changed w h g x ok T R p c q d p' c' q' d' w' := by
  have hm16 := (form_iff.1 hF).2.1
  obtain ⟨w0, hw0, hB0, hR, hst⟩ := boxed2 (w := w) (v0 := .slice p h.n c) (v1 := .slice q h.m d) (v2 := .bool h.b) (u0 := .slice none 0 0) (u1 := .slice none 0 0) (u2 := .bool false) (t := 25)
  have hat := hh.below hst
  have gB0 := hB0
  have gR := hR
  obtain ⟨l0, x0, x1, x2, -, -, -⟩ := hB0
  obtain ⟨l1, y0, y1, y2, f0, f1, f2⟩ := hR
  have cC := hcl w0 hst
  rw [show spH h g = h.s g.toNat from rfl] at cC
  obtain ⟨⟨b, off, eq, hlt, s0, s1, s2⟩, -⟩ := hat.spans g.toNat (by omega)
  generalize h.s g.toNat = S at *
  obtain ⟨st, cl, fr⟩ := S
  simp only [] at *
  have hF' : Hid (formB h = true) := hF
  have eq' : Hid (q = some ⟨b, off, none⟩) := eq
  clear hcl hF
  subst eq
  go_enter Tryd.func56, Tryd.ntmps56
  go_upto_region 1 with fail
  rw [← hw0]
  clear hw0
  go_upto_region 4 with (first
    | (go_at_fn k; refine Calls.mono cC ?_; rintro e W2 ⟨rfl, hA, hRR⟩)
  )
  have hTb : ∀ i, w.heap.size ≤ i → ¬ T i := fun i hi t => by have := (hT i t).1; omega
  obtain ⟨w5, hw5⟩ : ∃ w5, w5 = W2.alloc (.cells #[.int .i64 x.st, .int .i64 x.cl, .int .u32 x.fr] 58) := ⟨_, rfl⟩
  have hB5 : Below W2.heap.size W2 w5 := by rw [hw5]; exact (Below.refl _ _).alloc (Nat.le_refl _) _
  have gS : SpBox W2.heap.size x.st x.cl x.fr w5 := by rw [hw5]; exact SpBox.new _ _ _ _ _
  replace gB0 := (gB0.aside hA (hTb _ (Nat.le_refl _))).below hB5
  replace gR := (gR.aside hA (hTb _ (Nat.le_succ _))).below hB5
  have hat5 := (hat.aside hA fun t ht => (hT t ht).2).below hB5
  have hsz : w.heap.size + 2 ≤ W2.heap.size := by have := hA.size; omega
  have hl5 := hB5.size
  rw [← hw5]
  clear hw5 x0 x1 x2 y0 y1 y2 f0 f1 f2 s0 s1 s2 hlt l0 l1 cC eq' hat hh
  cases ok with
  | false =>
    obtain ⟨l0, x0, x1, x2, -, -, -⟩ := gB0
    obtain ⟨l1, y0, y1, y2, f0, f1, f2⟩ := gR
    have hbW : Below w.heap.size W2 w5 := hB5.mono (by omega)
    go_wp2
    refine bodyPost_ret (by simp [results, Tryd.results56, go_sem, *]; try rfl) rfl ?_
    exact ⟨p, c, _, d, rfl, fun e => (by cases e), fun _ => ⟨rfl, rfl, rfl, rfl⟩, w0, W2, hst, hA, hRR, ((hbW.setCell (Nat.le_succ _) _).setCell (Nat.le_succ _) _).setCell (Nat.le_succ _) _⟩
  | true =>
    have g0' := gB0
    obtain ⟨l0, x0, x1, x2, -, -, -⟩ := g0'
    go_upto_region 6 with fail
    refine wp_clone_copy (s := 34) (h' := 3) (d' := 10) (pos := "heap.go:125") (by kernel_rfl) (by decide) (by decide) (by decide) (by simp) hF'.out hat5 gB0 rfl ?_
    intro y0 y1 y2 y3 y4 y5 y6 y7 y8 B7 p' c' q' d' w4 hown g7 hl7 n1 n2 hb4
    simp only [puts, Act.put]
    obtain ⟨gs, rfl, hgs, hgs'⟩ := hown.span (by omega)
    have m2 : ¬ B7 = gs := fun e => n2 (by rw [e]; rfl)
    have hst4 := hown.storeS (i := g) (x := x) g0 g1 (hx rfl)
    replace gS := gS.below (hb4.mono (by have := gS.1; omega))
    have hS1 := gS
    have hG := g7
    replace gR := gR.below hb4
    obtain ⟨lS, s0, s1, s2, -, -, -⟩ := hS1
    obtain ⟨lG, z0, z1, z2, -, -, -⟩ := hG
    obtain ⟨⟨t0, t1, t2⟩, tf, ho⟩ := hst4
    have t3 := tf (g.toNat * 3)
    have t4 := tf (g.toNat * 3 + 1)
    have t5 := tf (g.toNat * 3 + 2)
    clear tf l0 x0 x1 x2 hat5 gB0
    go_upto_region 8 with fail
    obtain ⟨w8, hw8⟩ : ∃ w8, w8 = ((w4.setCell ⟨gs, g.toNat * 3, none⟩ (.int .i64 x.st)).setCell ⟨gs, g.toNat * 3 + 1, none⟩ (.int .i64 x.cl)).setCell ⟨gs, g.toNat * 3 + 2, none⟩ (.int .u32 x.fr) := ⟨_, rfl⟩
    replace g7 : Box3 B7 (.slice p' h.n c') (.slice (some ⟨gs, 0, none⟩) h.m d') (.bool h.b) w8 := by rw [hw8]; exact ((g7.other (fun e => m2 e.symm) _ _).other (fun e => m2 e.symm) _ _).other (fun e => m2 e.symm) _ _
    replace gR : Box3 (w.heap.size + 1) (.slice none 0 0) (.slice none 0 0) (.bool false) w8 := by rw [hw8]; exact ((gR.other (by omega) _ _).other (by omega) _ _).other (by omega) _ _
    have hb8 : Below w5.heap.size w5 w8 := by rw [hw8]; exact ((hb4.setCell (by show w5.heap.size ≤ gs; omega) _).setCell (by show w5.heap.size ≤ gs; omega) _).setCell (by show w5.heap.size ≤ gs; omega) _
    rw [← hw8] at ho ⊢
    clear hw8 s0 s1 s2 lS gS z0 z1 z2 lG t0 t1 t2 t3 t4 t5 hb4 hown
    obtain ⟨lG, z0, z1, z2, -, -, -⟩ := g7
    obtain ⟨lR, v0, v1, v2, f0, f1, f2⟩ := gR
    go_wp2
    refine bodyPost_ret (by simp [results, Tryd.results56, go_sem, *]; try rfl) rfl ?_
    have hz := (((ho.under (g := w.heap.size + 1) (by omega) 0 (.slice p' h.n c')).under (g := w.heap.size + 1) (by omega) 1 (.slice (some ⟨gs, 0, none⟩) h.m d')).under (g := w.heap.size + 1) (by omega) 2 (.bool h.b)).lower (show w.heap.size ≤ w5.heap.size by omega)
    have hb5 : Below w.heap.size W2 w8 := (hB5.mono (show w.heap.size ≤ W2.heap.size by omega)).trans (hb8.mono (show w.heap.size ≤ w5.heap.size by have := hB5.size; omega))
    exact ⟨p', c', _, d', rfl, fun _ => hz, fun e => (by cases e), w0, W2, hst, hA, hRR, ((hb5.setCell (Nat.le_succ _) _).setCell (Nat.le_succ _) _).setCell (Nat.le_succ _) _⟩
theorem change_out {p : Option Addr} {c : Nat} {q : Option Addr} {d : Nat} {h : Hp} {w : World} {v : Value} {g : Int} (hh : HpAt w p c q d h) (hm16 : h.m ≤ 16) (hg : ¬ (0 ≤ g ∧ g < h.m)) :
    Calls Tryd.prog 56 #[.agg #[.slice p h.n c, .slice q h.m d, .bool h.b], .int .i64 g, v] w fun e w' => e = .returned (.tuple #[.agg #[.slice p h.n c, .slice q h.m d, .bool h.b], .bool false]) ∧ Below w.heap.size w w' := by
  by_cases hg0 : 0 ≤ g
  · have hg1 : (h.m : Int) ≤ g := by omega
    clear hg
    go_enter Tryd.func56, Tryd.ntmps56
    go_wp2
    refine bodyPost_ret (by simp [results, Tryd.results56, go_sem, *]; try rfl) rfl ?_
    exact ⟨rfl, by go_grown⟩
  · have hg1 : g < 0 := by omega
    clear hg
    go_enter Tryd.func56, Tryd.ntmps56
    go_wp2
    refine bodyPost_ret (by simp [results, Tryd.results56, go_sem, *]; try rfl) rfl ?_
    exact ⟨rfl, by go_grown⟩
end Go.Proofs.YtneanbagdkeoiaaDoor
/-! Contracts of the code's heap.Open and heap.Close (chapter 7). -/
namespace Go.Proofs.YtneanbagdkeoiaaDoor
set_option linter.unusedSimpArgs false
set_option linter.unusedVariables false
open Go.ChangeShapes Go.WideShapes Go.ChangeAt Go.RowKit Go.Joins

/-- What Open's closure answers. -/
def opX (s : Sp) (k : Int) : Sp := if s.st = 0 then ⟨nwS k, nwC k, nwF k⟩ else s
theorem open1_any (st cl fr k : Int) (b : Nat) (w : World) (hS : Sz w) (hb : Box1 b (.int .i64 k) w) :
    Calls Tryd.prog 57 #[.agg #[.int .i64 st, .int .i64 cl, .int .u32 fr], .pointer (some ⟨b, 0, none⟩)] w fun e w' =>
      e = .returned (.tuple #[.agg #[.int .i64 (opX ⟨st, cl, fr⟩ k).st, .int .i64 (opX ⟨st, cl, fr⟩ k).cl, .int .u32 (opX ⟨st, cl, fr⟩ k).fr], .bool (st == 0 && clB k)]) ∧ Below w.heap.size w w' := by
  obtain ⟨l, c0, -⟩ := hb
  by_cases h : st = 0
  · have e : opX ⟨st, cl, fr⟩ k = ⟨nwS k, nwC k, nwF k⟩ := by unfold opX; rw [if_pos h]
    have d0 : (st != 0) = false := by simp [h]
    have d1 : (st == 0) = true := by simp [h]
    rw [e, d1]
    clear e h d1
    simp only [Bool.true_and]
    go_enter Tryd.func57, Tryd.ntmps57
    go_wp2_with (first
    | (go_at_call 58; refine Calls.mono (snew_any _ _ (hS.below (by go_grown))) ?_; rintro e w' ⟨rfl, hb⟩; (first | replace hS := hS.below hb | replace hS := (hS.below (by go_grown)).below hb | skip); obtain ⟨hc, hf, hb, hz⟩ := bstep hb (w := w) (by go_grown); try simp only [World.size_alloc, World.size_setCell, World.size_drew] at hc hf hz)
    )
    refine bodyPost_ret (by simp [results, Tryd.results57, go_sem, *]; try rfl) rfl ?_
    exact ⟨rfl, by go_grown⟩
  · have e : opX ⟨st, cl, fr⟩ k = ⟨st, cl, fr⟩ := by unfold opX; rw [if_neg h]
    have d0 : (st != 0) = true := by simp [h]
    have d1 : (st == 0) = false := by simp [h]
    rw [e, d1]
    clear e h d1
    go_enter Tryd.func57, Tryd.ntmps57
    go_wp2
    refine bodyPost_ret (by simp [results, Tryd.results57, go_sem, *]; try rfl) rfl ?_
    exact ⟨rfl, by go_grown⟩
theorem enters_open1 : ∀ args w, (callFunc 57 args).run Tryd.prog w = .ok (.enter 57 args) w := enters_of Tryd.func57 (by kernel_rfl) rfl
theorem opX_wf {s : Sp} {k : Int} (h0 : s.st = 0) (hk : clB k = true) : opX s k = ⟨1, k, wholeW (blW k)⟩ ∧ (opX s k).wf := by
  have e : opX s k = ⟨1, k, wholeW (blW k)⟩ := by
    obtain ⟨a, b, c⟩ := nw_yes hk
    unfold opX; rw [if_pos h0, a, b, c]
  rw [e]
  have : 0 ≤ k ∧ k < 4 := by simpa [clB] using hk
  exact ⟨rfl, ⟨by show (-9223372036854775808 : Int) ≤ 1; decide, by show (1 : Int) ≤ 9223372036854775807; decide⟩, ⟨by show -9223372036854775808 ≤ k; omega, by show k ≤ 9223372036854775807; omega⟩, mask_whole _⟩
set_option maxHeartbeats 2000000 in
theorem hopen_any (p : Option Addr) (c : Nat) (q : Option Addr) (d : Nat) (h : Hp) (g k : Int) (w : World) (hS : Sz w) (hh : HpAt w p c q d h) (hF : formB h = true) :
    Calls Tryd.prog 35 #[.agg #[.slice p h.n c, .slice q h.m d, .bool h.b], .int .i64 g, .int .i64 k] w fun e w' => ∃ p' c' q' d', e = .returned (.tuple #[.agg #[.slice p' h.n c', .slice q' h.m d', .bool h.b], .bool (opB h g k)]) ∧
      HpAt w' p' c' q' d' (opH h g k) ∧ Src w.heap.size (opB h g k) h.n h.m p c q d p' c' q' d' ∧ Below w.heap.size w w' := by
  obtain ⟨w0, hw0⟩ : ∃ w0, w0 = ((w.alloc (.cells #[.slice p h.n c, .slice q h.m d, .bool h.b] 25)).alloc (.cells #[.int .i64 k] 3)).alloc (.cells #[.slice none 0 0, .slice none 0 0, .bool false] 25) := ⟨_, rfl⟩
  have a0 := Box3.new w (.slice p h.n c) (.slice q h.m d) (.bool h.b) 25
  have a1 := Box1.new (w.alloc (.cells #[.slice p h.n c, .slice q h.m d, .bool h.b] 25)) (.int .i64 k) 3
  have a2 := Box3.new ((w.alloc (.cells #[.slice p h.n c, .slice q h.m d, .bool h.b] 25)).alloc (.cells #[.int .i64 k] 3)) (.slice none 0 0) (.slice none 0 0) (.bool false) 25
  have st : ∀ (W : World) (o : Obj), Below W.heap.size W (W.alloc o) := fun W o => (Below.refl _ _).alloc (Nat.le_refl _) _
  replace a0 := (a0.below (st _ (.cells #[.int .i64 k] 3))).below (st _ (.cells #[.slice none 0 0, .slice none 0 0, .bool false] 25))
  replace a1 := a1.below (st _ (.cells #[.slice none 0 0, .slice none 0 0, .bool false] 25))
  have hst : Below w.heap.size w w0 := by rw [hw0]; go_grown
  rw [← hw0] at a0 a1 a2
  simp only [World.size_alloc] at a1 a2
  clear st
  have hat := hh.below hst
  have hS0 := hS.below hst
  have hF' : Hid (formB h = true) := hF
  by_cases hg : 0 ≤ g ∧ g < h.m
  · obtain ⟨p0, p1⟩ := hg
    have eO : opB h g k = ((spH h g).st == 0 && clB k) := by unfold opB; rw [inI_yes p0 p1, Bool.true_and, Bool.and_comm]
    have hC := change_in (k := 57) (caps := #[.pointer (some ⟨w.heap.size + 1, 0, none⟩)]) (x := opX (spH h g) k) (ok := (spH h g).st == 0 && clB k) (T := fun _ => False) (R := fun _ _ => True) enters_open1 hat hF
      (fun e => by simp only [Bool.and_eq_true, beq_iff_eq] at e; exact (opX_wf e.1 e.2).2) (fun t ht => ht.elim) p0 p1
      (fun W1 hb1 => Calls.mono (open1_any (spH h g).st (spH h g).cl (spH h g).fr k (w.heap.size + 1) W1 (hS0.below hb1) (a1.below hb1)) fun e W2 ⟨e1, e2⟩ => ⟨e1, Aside.of e2, trivial⟩)
    rw [← eO] at hC
    obtain ⟨l0, x0, x1, x2, -, -, -⟩ := a0
    obtain ⟨l2, y0, y1, y2, f0, f1, f2⟩ := a2
    have hOX : opB h g k = true → opH h g k = withS h g (opX (spH h g) k) := fun e => by
      rw [eO] at e
      simp only [Bool.and_eq_true, beq_iff_eq] at e
      rw [(opX_wf e.1 e.2).1]
      unfold opH
      rw [if_pos (by rw [eO]; simp [e])]
    have hON : opB h g k = false → opH h g k = h := fun e => by unfold opH; rw [if_neg (by simp [e])]
    generalize opX (spH h g) k = X at *
    generalize opB h g k = ok at *
    clear eO a1 hF p0 p1
    go_enter Tryd.func35, Tryd.ntmps35
    go_upto_region 1 with fail
    rw [← hw0]
    clear hw0
    go_wp2_with (first
      | (go_at_call 56; refine Calls.mono hC ?_; rintro e w' ⟨p', c', q', d', rfl, hnew, hold, W1, W2, hb1, hA, -, hb2⟩; have hb := (hb1.trans (hA.pure.mono hb1.size)).trans hb2; obtain ⟨hc, hf, hb, hz⟩ := bstep hb (w := w0) (by go_grown))
    )
    refine bodyPost_ret (by simp [results, Tryd.results35, go_sem, *]; try rfl) rfl ?_
    cases ok with
    | true =>
      have ho := hnew rfl
      rw [hOX rfl]
      have hz := (((ho.under (g := w.heap.size + 1 + 1) (by omega) 0 (.slice p' h.n c')).under (g := w.heap.size + 1 + 1) (by omega) 1 (.slice q' h.m d')).under (g := w.heap.size + 1 + 1) (by omega) 2 (.bool h.b)).lower (show w.heap.size ≤ w0.heap.size by omega)
      exact ⟨p', c', q', d', rfl, hz.at, ⟨fun _ => ⟨hz.newW, hz.newS⟩, fun h => (by cases h)⟩, (((bjoin hb hst).setCell (by show w.heap.size ≤ w.heap.size + 1 + 1; omega) _).setCell (by show w.heap.size ≤ w.heap.size + 1 + 1; omega) _).setCell (by show w.heap.size ≤ w.heap.size + 1 + 1; omega) _⟩
    | false =>
      obtain ⟨rfl, rfl, rfl, rfl⟩ := hold rfl
      rw [hON rfl]
      have hbb := (((bjoin hb hst).setCell (p := ⟨w.heap.size + 1 + 1, 0, none⟩) (by show w.heap.size ≤ w.heap.size + 1 + 1; omega) (.slice p' h.n c')).setCell (p := ⟨w.heap.size + 1 + 1, 1, none⟩) (by show w.heap.size ≤ w.heap.size + 1 + 1; omega) (.slice q' h.m d')).setCell (p := ⟨w.heap.size + 1 + 1, 2, none⟩) (by show w.heap.size ≤ w.heap.size + 1 + 1; omega) (.bool h.b)
      exact ⟨p', c', q', d', rfl, hh.below hbb, ⟨fun h => (by cases h), fun _ => ⟨rfl, rfl, rfl, rfl⟩⟩, hbb⟩
  · have eO : opB h g k = false := by unfold opB; rw [inI_no hg]; rfl
    have hON : opH h g k = h := by unfold opH; rw [if_neg (by simp [eO])]
    rw [hON, eO]
    have hC := change_out (v := .func (.func 57) #[] #[.pointer (some ⟨w.heap.size + 1, 0, none⟩)]) hat (form_iff.1 hF).2.1 hg
    obtain ⟨l0, x0, x1, x2, -, -, -⟩ := a0
    obtain ⟨l2, y0, y1, y2, f0, f1, f2⟩ := a2
    clear eO hON hF a1
    go_enter Tryd.func35, Tryd.ntmps35
    go_upto_region 1 with fail
    rw [← hw0]
    clear hw0
    go_wp2_with (first
      | (go_at_call 56; refine Calls.mono hC ?_; rintro e w' ⟨rfl, hb⟩; obtain ⟨hc, hf, hb, hz⟩ := bstep hb (w := w0) (by go_grown))
    )
    refine bodyPost_ret (by simp [results, Tryd.results35, go_sem, *]; try rfl) rfl ?_
    have hbb := (((bjoin hb hst).setCell (p := ⟨w.heap.size + 1 + 1, 0, none⟩) (by show w.heap.size ≤ w.heap.size + 1 + 1; omega) (.slice p h.n c)).setCell (p := ⟨w.heap.size + 1 + 1, 1, none⟩) (by show w.heap.size ≤ w.heap.size + 1 + 1; omega) (.slice q h.m d)).setCell (p := ⟨w.heap.size + 1 + 1, 2, none⟩) (by show w.heap.size ≤ w.heap.size + 1 + 1; omega) (.bool h.b)
    exact ⟨p, c, q, d, rfl, hh.below hbb, ⟨fun h => (by cases h), fun _ => ⟨rfl, rfl, rfl, rfl⟩⟩, hbb⟩
theorem zero_wf : (⟨0, 0, 0⟩ : Sp).wf := ⟨⟨by show (-9223372036854775808 : Int) ≤ 0; decide, by show (0 : Int) ≤ 9223372036854775807; decide⟩, ⟨by show (-9223372036854775808 : Int) ≤ 0; decide, by show (0 : Int) ≤ 9223372036854775807; decide⟩, ⟨by show (0 : Int) ≤ 0; decide, by show (0 : Int) < 4294967296; decide⟩⟩
theorem empty_lo {st cl fr : Int} (hr : rightB st cl fr = true) (hm : Mask fr) : emptyB st cl fr = (!(st == 0) && countW fr == blW cl) := by
  unfold emptyB
  rcases right_iff.1 hr with ⟨h0, -⟩ | ⟨h0, c0, c1, hs⟩
  · have : useB st = false := by rw [h0]; rfl
    rw [this, h0]; rfl
  · rw [(use_iff st).2 h0, show (st == 0) = false by simp; omega]
    simp only [Bool.true_and, Bool.not_false]
    rw [Bool.eq_iff_iff, beq_iff_eq, beq_iff_eq]
    exact (count_whole hm hs).symm
end Go.Proofs.YtneanbagdkeoiaaDoor
/-! Contracts of the code's heap.block and heap.Free (chapter 7). -/
namespace Go.Proofs.YtneanbagdkeoiaaDoor
set_option linter.unusedSimpArgs false
set_option linter.unusedVariables false
open Go.ChangeShapes Go.WideShapes Go.ChangeAt Go.RowKit Go.Joins

theorem HpOwn.cap {W : World} {base : Nat} {p : Option Addr} {c : Nat} {q : Option Addr} {d : Nat} {h : Hp} (o : HpOwn W base p c q d h) (h0 : 0 < h.n) : h.n ≤ c ∧ c ≤ maxLen := by
  rcases o.words.2 with ⟨-, h1⟩ | ⟨g, cap', cur, hv, -, -, h1, h2, -⟩
  · omega
  · injection hv with _ _ e; subst e; exact ⟨h1, h2⟩
set_option maxHeartbeats 2000000 in
theorem block_any (gw c : Nat) (q : Option Addr) (d : Nat) (h : Hp) (P A : Int) (w : World) (hS : Sz w) (hh : HpAt w (some ⟨gw, 0, none⟩) c q d h) (hc : h.n ≤ c) (hm16 : h.m ≤ 16) (p0 : 0 ≤ P) (p1 : P < h.m) (z2 : 0 < szW (spH h P).cl) (a0 : 0 ≤ A) (a1 : A + szW (spH h P).cl ≤ h.n) :
    Calls Tryd.prog 63 #[.agg #[.slice (some ⟨gw, 0, none⟩) h.n c, .slice q h.m d, .bool h.b], .int .i64 P, .int .i64 A] w fun e w' => e = .returned (.slice (some ⟨gw, A.toNat, none⟩) (szW (spH h P).cl).toNat (c - A.toNat)) ∧ Below w.heap.size w w' := by
  have hn := hh.nle
  simp only [maxLen] at hn
  rw [show spH h P = h.s P.toNat from rfl] at *
  obtain ⟨w0, hw0⟩ : ∃ w0, w0 = w.alloc (.cells #[.slice (some ⟨gw, 0, none⟩) h.n c, .slice q h.m d, .bool h.b] 25) := ⟨_, rfl⟩
  have hbx : Box3 w.heap.size (.slice (some ⟨gw, 0, none⟩) h.n c) (.slice q h.m d) (.bool h.b) w0 := by rw [hw0]; exact Box3.new _ _ _ _ _
  have hbA : Below w.heap.size w w0 := by rw [hw0]; go_grown
  have hsp := hh.spans.below hbA
  replace hS := hS.below hbA
  obtain ⟨⟨b, off, rfl, hlt, s0, s1, s2⟩, hw⟩ := hsp P.toNat (by omega)
  generalize h.s P.toNat = S at *
  obtain ⟨st, cl, fr⟩ := S
  simp only [] at *
  obtain ⟨z0, z1⟩ := sz_bound cl
  have hbr : A + szW cl ≤ c := by omega
  have hne : ¬ c = A.toNat := by omega
  clear hh hw
  obtain ⟨hl, k0, k1, k2, -, -, -⟩ := hbx
  go_enter Tryd.func63, Tryd.ntmps63
  go_upto_region 1 with fail
  rw [← hw0]
  clear hw0
  refine wp_region_plus (by kernel_rfl) (by kernel_rfl) fun hpc => ?_
  repeat (first | go_big_quiet_step ((first | (go_at_call 74; exact quiet_plus (cwords_any _ _ (hS.below (plus_below _ _)))))) | quiet_step ((first | (go_at_call 74; exact quiet_plus (cwords_any _ _ (hS.below (plus_below _ _)))))))
  refine wpQuiet_nil ?_
  intro w' hbq
  clear hpc
  obtain ⟨hc, hf, hb, hz⟩ := bstep hbq (w := w0) (by go_grown)
  try simp only [World.size_alloc, World.size_setCell, World.size_drew] at hc hf hz
  go_wp2
  go_returns
  have hl : (A + szW cl).toNat - A.toNat = (szW cl).toNat := by omega
  exact ⟨by rw [← hl]; rfl, bjoin hb hbA⟩
theorem block_in_own {gw c : Nat} {q : Option Addr} {d : Nat} {h : Hp} {x : Sp} {P A : Int} {w : World} (hS : Sz w) (hh : HpAt w (some ⟨gw, 0, none⟩) c q d (withS h P x)) (hc : h.n ≤ c) (hm16 : h.m ≤ 16) (p0 : 0 ≤ P) (p1 : P < h.m) (z2 : 0 < szW x.cl) (a0 : 0 ≤ A) (a1 : A + szW x.cl ≤ h.n) :
    Calls Tryd.prog 63 #[.agg #[.slice (some ⟨gw, 0, none⟩) h.n c, .slice q h.m d, .bool h.b], .int .i64 P, .int .i64 A] w fun e w' => e = .returned (.slice (some ⟨gw, A.toNat, none⟩) (szW x.cl).toNat (c - A.toNat)) ∧ Below w.heap.size w w' := by
  have hb := block_any gw c q d (withS h P x) P A w hS hh hc hm16 p0 p1
  rw [spH_with h _ p0] at hb
  exact hb z2 a0 a1
/-- 'clear(s)', s a piece of n cells of a row. -/
theorem wpList_clear_words {P : Program} {w : World} {ops : Array Oper} {rest : List Oper} {o : Oper} {a : Act} {Q : Exit → Act → World → Prop} (hgd : o.guard = none) (s : Operand) (t e : TypeId)
    (ho : o.op = .call { callee := .builtin .clear, args := #[s], argTypes := #[t] }) (z : Value) (ht : P.underlying t = some (.slice e)) (hv : ∀ w, (zeroValue e).run P w = .ok z w) (hz : z.cells = #[z]) (h1 : z.oneCell' = true) (b off n c : Nat)
    (hs : a.eval s = .slice (some ⟨b, off, none⟩) n c) (hn : 0 < n) (hc : ∀ j, j < n → (w.cell? ⟨b, off + j, none⟩).isSome = true) (hf : ∀ j, j < n → w.frozen? ⟨b, off + j, none⟩ = false)
    (h : wpList P ops Q rest (a.put o.dst (.tuple #[])) (w.setCells b off (List.replicate n z))) : wpList P ops Q (o :: rest) a w := by
  refine wpList_plain hgd fun K hK => ?_
  have hrun := Lib.run_clear_slice (P := P) w t e o.type z ht hv hz h1 b off n c hn hc hf
  unfold Oper.wp
  simp [execOp, ho, resolve, invoke, builtin, hs, hrun, Result.andThen]
  exact hK _ _ h
theorem zero_u64 : ∀ w, (zeroValue 50).run Tryd.prog w = .ok (.int .u64 0) w := fun w => by
  simp [go_sem]
/-- What a change leaves, said without the closure's worlds. -/
theorem Changed.plain {w w' : World} {h : Hp} {g : Int} {x : Sp} {ok : Bool} {R : World → World → Prop} {p : Option Addr} {c : Nat} {q : Option Addr} {d : Nat} {p' : Option Addr} {c' : Nat} {q' : Option Addr} {d' : Nat} (hc : Changed w h g x ok (fun _ => False) R p c q d p' c' q' d' w') : Below w.heap.size w w' := by
  obtain ⟨W1, W2, hb1, hA, -, hb2⟩ := hc.way
  exact (hb1.trans (hA.pure.mono hb1.size)).trans hb2
end Go.Proofs.YtneanbagdkeoiaaDoor
/-! Contracts of the code's heap.Lay (chapter 7). -/
namespace Go.Proofs.YtneanbagdkeoiaaDoor
set_option linter.unusedSimpArgs false
set_option linter.unusedVariables false
open Go.ChangeShapes Go.WideShapes Go.ChangeAt Go.RowKit Go.Joins

theorem may_is {c : Bool} {k f : Int} (k0 : 0 ≤ k) (k1 : k < 4) : hmayB true c k f = (decide (0 ≤ f) && decide (f < szW k)) := by
  by_cases h : 0 ≤ f ∧ f < szW k
  · rw [may_of k0 k1 h.1 h.2, decide_eq_true h.1, decide_eq_true h.2]; rfl
  · have : hmayB true c k f = false := by
      cases e : hmayB true c k f with
      | false => rfl
      | true =>
        exfalso
        have h3 := hmay_cases e
        rcases cl_cases k with ⟨h0, h1, -⟩ | ⟨h0, h1, -⟩ | ⟨h0, h1, -⟩ | ⟨h0, h1, -⟩ | ⟨h0, -⟩
        all_goals (try rw [h1] at h); omega
    rw [this]
    symm
    simp only [Bool.and_eq_false_iff, decide_eq_false_iff_not]
    omega
theorem Aside.trans' {T : Nat → Prop} {a b c : World} (h : Aside T a b) (k : Below a.heap.size b c) : Aside T a c :=
  ⟨k.os.trans h.os, k.tape.trans h.tape, k.output.trans h.output, Nat.le_trans h.size k.size, fun i hi ht => (k.block i hi).trans (h.block i hi ht)⟩
set_option maxHeartbeats 2000000 in
theorem lay1_any (st cl fr g f : Int) (b : Bool) (vp vq va vd : Value) (bP bA bH bF bD : Nat) (w : World) (hT : Tab w) (hS : Sz w) (hm : Mask fr)
    (gP : Box1 bP (.int .i64 g) w) (gA : Box1 bA va w) (gH : Box3 bH vp vq (.bool b) w) (gF : Box1 bF (.int .i64 f) w) (gD : Box1 bD vd w)
    (n1 : ¬ bA = bP) (n2 : ¬ bA = bH) (n3 : ¬ bA = bF) (n4 : ¬ bA = bD) :
    Calls Tryd.prog 59 #[.agg #[.int .i64 st, .int .i64 cl, .int .u32 fr], .pointer (some ⟨bP, 0, none⟩), .pointer (some ⟨bA, 0, none⟩), .pointer (some ⟨bH, 0, none⟩), .pointer (some ⟨bF, 0, none⟩), .pointer (some ⟨bD, 0, none⟩)] w fun e w' =>
      e = .returned (.tuple #[.agg #[.int .i64 st, .int .i64 cl, .int .u32 (takeF st fr)], .bool (takeB st fr && hmayB true b cl f)]) ∧ Aside (fun t => t = bA ∨ t = bD) w w' ∧
        (takeB st fr = true → Box1 bA (.int .i64 (adW g cl (leastW fr))) w' ∧ Box1 bD (.int .u64 (hputW true b cl f)) w') := by
  obtain ⟨w0, hw0, hB0, hR, hst⟩ := boxed2 (w := w) (v0 := .int .i64 st) (v1 := .int .i64 cl) (v2 := .int .u32 fr) (u0 := .int .i64 0) (u1 := .int .i64 0) (u2 := .int .u32 0) (t := 58)
  have hT0 := hT.below hst
  have hS0 := hS.below hst
  cases ht : takeB st fr with
  | false =>
    have e1 : takeF st fr = fr := by unfold takeF; rw [if_neg (by simp [ht])]
    have e2 : takeI st fr = 0 := by unfold takeI; rw [if_neg (by simp [ht])]
    have hC := stake_any st cl fr w0 hm hT0
    rw [ht, e1, e2] at hC
    rw [e1]
    obtain ⟨l0, x0, x1, x2, -, -, -⟩ := hB0
    obtain ⟨l1, y0, y1, y2, f0, f1, f2⟩ := hR
    clear e1 e2 hT hS
    go_enter Tryd.func59, Tryd.ntmps59
    go_upto_region 1 with fail
    rw [← hw0]
    clear hw0
    go_wp2_with (first
    | (go_at_call 60; refine Calls.mono (hC) ?_; rintro e w' ⟨rfl, hb⟩; obtain ⟨hc, hf, hb, hz⟩ := bstep hb (w := w0) (by go_grown); try simp only [World.size_alloc, World.size_setCell, World.size_drew] at hc hf hz)
    )
    refine bodyPost_ret (by simp [results, Tryd.results59, go_sem, *]; try rfl) rfl ?_
    have hbb := ((((bjoin hb hst).alloc (Nat.le_trans hst.size hz) (.cells #[.int .i64 st, .int .i64 cl, .int .u32 fr] 58)).setCell (p := ⟨w.heap.size + 1, 0, none⟩) (Nat.le_succ _) (.int .i64 st)).setCell (p := ⟨w.heap.size + 1, 1, none⟩) (Nat.le_succ _) (.int .i64 cl)).setCell (p := ⟨w.heap.size + 1, 2, none⟩) (Nat.le_succ _) (.int .u32 fr)
    exact ⟨rfl, Aside.of hbb, fun e => (by cases e)⟩
  | true =>
    obtain ⟨e2, e1⟩ := take_val ht
    have hC := stake_any st cl fr w0 hm hT0
    rw [ht, e1, e2] at hC
    rw [e1]
    obtain ⟨l0, x0, x1, x2, -, -, -⟩ := id hB0
    clear e1 e2 hT hS
    go_enter Tryd.func59, Tryd.ntmps59
    go_upto_region 1 with fail
    rw [← hw0]
    clear hw0
    go_upto_region 4 with (first
    | (go_at_call 60; refine Calls.mono (hC) ?_; rintro e w' ⟨rfl, hb⟩; obtain ⟨hc, hf, hb, hz⟩ := bstep hb (w := w0) (by go_grown); try simp only [World.size_alloc, World.size_setCell, World.size_drew] at hc hf hz)
    )
    obtain ⟨w1, hw1⟩ : ∃ w1, w1 = w'.alloc (.cells #[.int .i64 st, .int .i64 cl, .int .u32 (woutW fr (leastW fr))] 58) := ⟨_, rfl⟩
    have hB1 : Below w0.heap.size w0 w1 := by rw [hw1]; exact hb.alloc hb.size _
    have gX : SpBox w'.heap.size st cl (woutW fr (leastW fr)) w1 := by rw [hw1]; exact SpBox.new _ _ _ _ _
    have hSl : w0.heap.size ≤ w'.heap.size := hb.size
    have hsz0 : w.heap.size + 2 ≤ w0.heap.size := hR.1
    rw [← hw1]
    clear hw1 hb hc hf hz x0 x1 x2 l0
    generalize w'.heap.size = B9 at *
    have hBw := bjoin hB1 hst
    have hS1 := hS0.below hB1
    have hlA := gA.1
    have hlD := gD.1
    replace hB0 := hB0.below hB1
    replace hR := hR.below hB1
    replace gP := gP.below hBw
    replace gA := gA.below hBw
    replace gH := gH.below hBw
    replace gF := gF.below hBw
    replace gD := gD.below hBw
    have hA1 : Aside (fun t => t = bA ∨ t = bD) w w1 := Aside.of hBw
    clear hC hB1 hBw hst hT0 hS0
    have hAd := aaddress_any g cl (leastW fr) w1 hS1
    generalize adB g cl (leastW fr) = AB at *
    generalize hAW : adW g cl (leastW fr) = AW at *
    obtain ⟨l0, x0, x1, x2, -, -, -⟩ := id hB0
    obtain ⟨lP, p0, -⟩ := id gP
    obtain ⟨lA, a0, a1⟩ := id gA
    go_upto_region 5 with (first
    | (go_at_call 61; refine Calls.mono (hAd) ?_; rintro e w' ⟨rfl, hb⟩; obtain ⟨hc, hf, hb, hz⟩ := bstep hb (w := w1) (by go_grown); try simp only [World.size_alloc, World.size_setCell, World.size_drew] at hc hf hz)
    )
    obtain ⟨w2, hw2⟩ : ∃ w2, w2 = w'.setCell ⟨bA, 0, none⟩ (.int .i64 AW) := ⟨_, rfl⟩
    replace hB0 : Box3 w.heap.size (.int .i64 st) (.int .i64 cl) (.int .u32 fr) w2 := by rw [hw2]; exact (hB0.below hb).other (by omega) _ _
    replace hR : Box3 (w.heap.size + 1) (.int .i64 0) (.int .i64 0) (.int .u32 0) w2 := by rw [hw2]; exact (hR.below hb).other (by omega) _ _
    replace gX : SpBox B9 st cl (woutW fr (leastW fr)) w2 := by rw [hw2]; exact (gX.below hb).other (by omega) _ _
    replace gA : Box1 bA (.int .i64 AW) w2 := by rw [hw2]; exact (gA.below hb).store _
    replace gH : Box3 bH vp vq (.bool b) w2 := by rw [hw2]; exact (gH.below hb).other n2 _ _
    replace gF : Box1 bF (.int .i64 f) w2 := by rw [hw2]; exact (gF.below hb).other n3 _ _
    replace gD : Box1 bD vd w2 := by rw [hw2]; exact (gD.below hb).other n4 _ _
    have hA2 : Aside (fun t => t = bA ∨ t = bD) w w2 := by rw [hw2]; exact (hA1.trans (Aside.of hb)).setCell (.inl rfl) _ _
    have hl2 : w1.heap.size ≤ w2.heap.size := by rw [hw2]; simpa [World.setCell] using hb.size
    rw [← hw2]
    clear hw2 hb hc hf hz x0 x1 x2 l0 p0 lP a0 a1 lA hAd hA1 gP hS1
    have hPu := hput_any true b cl f w2
    generalize hDe : hputW true b cl f = D at *
    generalize hok : hmayB true b cl f = ok at *
    obtain ⟨l0, x0, x1, x2, -, -, -⟩ := id hB0
    obtain ⟨lH, p0, p1, p2, -, -, -⟩ := id gH
    obtain ⟨lF, a0, -⟩ := id gF
    obtain ⟨lD, d0, d1⟩ := id gD
    go_upto_region 6 with (first
    | (go_at_call 62; refine Calls.mono (hPu) ?_; rintro e w' ⟨rfl, hb⟩; obtain ⟨hc, hf, hb, hz⟩ := bstep hb (w := w2) (by go_grown); try simp only [World.size_alloc, World.size_setCell, World.size_drew] at hc hf hz)
    )
    obtain ⟨w3, hw3⟩ : ∃ w3, w3 = w'.setCell ⟨bD, 0, none⟩ (.int .u64 D) := ⟨_, rfl⟩
    replace hR : Box3 (w.heap.size + 1) (.int .i64 0) (.int .i64 0) (.int .u32 0) w3 := by rw [hw3]; exact (hR.below hb).other (by omega) _ _
    replace gX : SpBox B9 st cl (woutW fr (leastW fr)) w3 := by rw [hw3]; exact (gX.below hb).other (by omega) _ _
    replace gA : Box1 bA (.int .i64 AW) w3 := by rw [hw3]; exact (gA.below hb).other (fun e => n4 e.symm) _ _
    replace gD : Box1 bD (.int .u64 D) w3 := by rw [hw3]; exact (gD.below hb).store _
    have hA3 : Aside (fun t => t = bA ∨ t = bD) w w3 := by rw [hw3]; exact (hA2.trans (Aside.of hb)).setCell (.inr rfl) _ _
    rw [← hw3]
    clear hw3 hb hc hf hz x0 x1 x2 l0 p0 p1 p2 lH a0 lF d0 d1 lD hPu hA2 hB0 gF gH
    obtain ⟨lX, x0, x1, x2, -, -, -⟩ := id gX
    obtain ⟨lR, y0, y1, y2, f0, f1, f2⟩ := id hR
    go_wp2
    refine bodyPost_ret (by simp [results, Tryd.results59, go_sem, *]; try rfl) rfl ?_
    have hA4 : Aside (fun t => t = bA ∨ t = bD) w (((w3.setCell ⟨w.heap.size + 1, 0, none⟩ (.int .i64 st)).setCell ⟨w.heap.size + 1, 1, none⟩ (.int .i64 cl)).setCell ⟨w.heap.size + 1, 2, none⟩ (.int .u32 (woutW fr (leastW fr)))) :=
      hA3.trans' (((Below.refl (w.heap.size) w3).setCell (Nat.le_succ _) _).setCell (Nat.le_succ _) _ |>.setCell (Nat.le_succ _) _)
    rw [hAW, hDe, hok]
    exact ⟨rfl, hA4, fun _ => ⟨((gA.other (by omega) _ _).other (by omega) _ _).other (by omega) _ _, ((gD.other (by omega) _ _).other (by omega) _ _).other (by omega) _ _⟩⟩
theorem enters_lay1 : ∀ args w, (callFunc 59 args).run Tryd.prog w = .ok (.enter 59 args) w := enters_of Tryd.func59 (by kernel_rfl) rfl
theorem Changed.aside {w w' : World} {h : Hp} {g : Int} {x : Sp} {ok : Bool} {T : Nat → Prop} {R : World → World → Prop} {p : Option Addr} {c : Nat} {q : Option Addr} {d : Nat} {p' : Option Addr} {c' : Nat} {q' : Option Addr} {d' : Nat} (hc : Changed w h g x ok T R p c q d p' c' q' d' w') : Aside T w w' := by
  obtain ⟨W1, W2, hb1, hA, -, hb2⟩ := hc.way
  exact ((Aside.of hb1).trans hA).trans' hb2
theorem lay_boxes {w : World} {v0 v1 v2 g f u0 u1 u2 z1 z2 : Value} {t0 t1 t2 t3 t4 t5 : TypeId} : ∃ w0, w0 = (((((w.alloc (.cells #[v0, v1, v2] t0)).alloc (.cells #[g] t1)).alloc (.cells #[f] t2)).alloc (.cells #[u0, u1, u2] t3)).alloc (.cells #[z1] t4)).alloc (.cells #[z2] t5) ∧
    Box3 w.heap.size v0 v1 v2 w0 ∧ Box1 (w.heap.size + 1) g w0 ∧ Box1 (w.heap.size + 1 + 1) f w0 ∧ Box3 (w.heap.size + 1 + 1 + 1) u0 u1 u2 w0 ∧ Box1 (w.heap.size + 1 + 1 + 1 + 1) z1 w0 ∧ Box1 (w.heap.size + 1 + 1 + 1 + 1 + 1) z2 w0 ∧ Below w.heap.size w w0 ∧ w0.heap.size = w.heap.size + 6 := by
  have st : ∀ (W : World) (o : Obj), Below W.heap.size W (W.alloc o) := fun W o => (Below.refl _ _).alloc (Nat.le_refl _) _
  have a0 := Box3.new w v0 v1 v2 t0
  obtain ⟨w1, h1⟩ : ∃ w1, w1 = w.alloc (.cells #[v0, v1, v2] t0) := ⟨_, rfl⟩
  have s1 : w1.heap.size = w.heap.size + 1 := by rw [h1, World.size_alloc]
  have b1 : Below w.heap.size w w1 := by rw [h1]; exact st _ _
  rw [← h1] at a0 ⊢
  have a1 := Box1.new w1 g t1
  have b2 := st w1 (.cells #[g] t1)
  obtain ⟨w2, h2⟩ : ∃ w2, w2 = w1.alloc (.cells #[g] t1) := ⟨_, rfl⟩
  have s2 : w2.heap.size = w.heap.size + 1 + 1 := by rw [h2, World.size_alloc, s1]
  rw [← h2] at a1 b2 ⊢
  have a2 := Box1.new w2 f t2
  have b3 := st w2 (.cells #[f] t2)
  obtain ⟨w3, h3⟩ : ∃ w3, w3 = w2.alloc (.cells #[f] t2) := ⟨_, rfl⟩
  have s3 : w3.heap.size = w.heap.size + 1 + 1 + 1 := by rw [h3, World.size_alloc, s2]
  rw [← h3] at a2 b3 ⊢
  have a3 := Box3.new w3 u0 u1 u2 t3
  have b4 := st w3 (.cells #[u0, u1, u2] t3)
  obtain ⟨w4, h4⟩ : ∃ w4, w4 = w3.alloc (.cells #[u0, u1, u2] t3) := ⟨_, rfl⟩
  have s4 : w4.heap.size = w.heap.size + 1 + 1 + 1 + 1 := by rw [h4, World.size_alloc, s3]
  rw [← h4] at a3 b4 ⊢
  have a4 := Box1.new w4 z1 t4
  have b5 := st w4 (.cells #[z1] t4)
  obtain ⟨w5, h5⟩ : ∃ w5, w5 = w4.alloc (.cells #[z1] t4) := ⟨_, rfl⟩
  have s5 : w5.heap.size = w.heap.size + 1 + 1 + 1 + 1 + 1 := by rw [h5, World.size_alloc, s4]
  rw [← h5] at a4 b5 ⊢
  have a5 := Box1.new w5 z2 t5
  have b6 := st w5 (.cells #[z2] t5)
  have c5 := b6
  have c4 := b5.trans (b6.mono b5.size)
  have c3 := b4.trans (c4.mono b4.size)
  have c2 := b3.trans (c3.mono b3.size)
  have c1 := b2.trans (c2.mono b2.size)
  refine ⟨_, rfl, a0.below c1, ?_, ?_, ?_, ?_, ?_, b1.trans (c1.mono b1.size), by rw [World.size_alloc, s5]⟩
  · rw [← s1]; exact a1.below c2
  · rw [← s2]; exact a2.below c3
  · rw [← s3]; exact a3.below c4
  · rw [← s4]; exact a4.below c5
  · rw [← s5]; exact a5
theorem la_ok {h : Hp} {g f : Int} (hF : formB h = true) (hw : h.wf) (p0 : 0 ≤ g) (p1 : g < h.m) : laB h g f = (takeB (spH h g).st (spH h g).fr && hmayB true h.b (spH h g).cl f) := by
  unfold laB
  rw [inI_yes p0 p1, Bool.true_and]
  cases ht : takeB (spH h g).st (spH h g).fr with
  | false => simp
  | true =>
    obtain ⟨-, c0, c1, -⟩ := take_spec (form_at hF p0 p1) (wf_mask hw p0 p1) ht
    rw [may_is c0 c1, Bool.and_true, Bool.true_and]
theorem la_facts {h : Hp} {g f : Int} (hF : formB h = true) (hwf : h.wf) (p0 : 0 ≤ g) (e : laB h g f = true) :
    0 ≤ laA h g f ∧ laA h g f + szW (spH h g).cl ≤ h.n ∧ hmayB true h.b (spH h g).cl f = true ∧ adW g (spH h g).cl (leastW (spH h g).fr) = laA h g f ∧ 0 < szW (spH h g).cl ∧
      laH h g f = { withS h g ⟨(spH h g).st, (spH h g).cl, woutW (spH h g).fr (leastW (spH h g).fr)⟩ with z := putZ (zerZ h.z (laA h g f) (szW (spH h g).cl)) (laA h g f) (hputW true h.b (spH h g).cl f) } := by
  obtain ⟨a0, a1, a2, a3⟩ := la_at hF hwf e
  obtain ⟨-, -, p2, f0, f1, -, -, -, -, l0, l1⟩ := la_spec hF hwf e
  obtain ⟨b0, b1⟩ := ad_in (c := (spH h g).cl) p0 p2 l0 l1
  exact ⟨a0, a1, a3, by rw [b1, a2], by omega, by rw [a2]; unfold laH; rw [if_pos e]⟩
set_option maxRecDepth 20000 in
set_option maxHeartbeats 4000000 in
theorem hlay_any (p : Option Addr) (c : Nat) (q : Option Addr) (d : Nat) (h : Hp) (g f : Int) (w : World) (hS : Sz w) (hT : Tab w) (hh : HpAt w p c q d h) (hF : formB h = true) :
    Calls Tryd.prog 36 #[.agg #[.slice p h.n c, .slice q h.m d, .bool h.b], .int .i64 g, .int .i64 f] w fun e w' => ∃ p' c' q' d', e = .returned (.tuple #[.agg #[.slice p' h.n c', .slice q' h.m d', .bool h.b], .int .i64 (laA h g f), .bool (laB h g f)]) ∧
      HpAt w' p' c' q' d' (laH h g f) ∧ Src w.heap.size (laB h g f) h.n h.m p c q d p' c' q' d' ∧ Below w.heap.size w w' := by
  have hwf := hh.wf
  obtain ⟨w0, hw0, gB0, gP, gF, gR, gA, gD, hst, hsz⟩ := lay_boxes (w := w) (v0 := .slice p h.n c) (v1 := .slice q h.m d) (v2 := .bool h.b) (g := .int .i64 g) (f := .int .i64 f) (u0 := .slice none 0 0) (u1 := .slice none 0 0) (u2 := .bool false) (z1 := .int .i64 0) (z2 := .int .u64 0) (t0 := 25) (t1 := 3) (t2 := 3) (t3 := 25) (t4 := 3) (t5 := 50)
  have hat := hh.below hst
  have hS0 := hS.below hst
  have hT0 := hT.below hst
  have hlow := hh.in.lower hF
  have hF' : Hid (formB h = true) := hF
  replace hsz : w.heap.size + 6 ≤ w0.heap.size := by omega
  obtain ⟨l0, x0, x1, x2, -, -, -⟩ := id gB0
  obtain ⟨lP, xP, -⟩ := id gP
  by_cases hg : 0 ≤ g ∧ g < h.m
  · obtain ⟨p0, p1⟩ := hg
    have eL := la_ok (f := f) hF hwf p0 p1
    have hC := change_in (k := 59) (caps := #[.pointer (some ⟨w.heap.size + 1, 0, none⟩), .pointer (some ⟨w.heap.size + 1 + 1 + 1 + 1, 0, none⟩), .pointer (some ⟨w.heap.size, 0, none⟩), .pointer (some ⟨w.heap.size + 1 + 1, 0, none⟩), .pointer (some ⟨w.heap.size + 1 + 1 + 1 + 1 + 1, 0, none⟩)])
      (x := ⟨(spH h g).st, (spH h g).cl, takeF (spH h g).st (spH h g).fr⟩) (ok := takeB (spH h g).st (spH h g).fr && hmayB true h.b (spH h g).cl f) (T := fun t => t = w.heap.size + 1 + 1 + 1 + 1 ∨ t = w.heap.size + 1 + 1 + 1 + 1 + 1)
      (R := fun _ W2 => takeB (spH h g).st (spH h g).fr = true → Box1 (w.heap.size + 1 + 1 + 1 + 1) (.int .i64 (adW g (spH h g).cl (leastW (spH h g).fr))) W2 ∧ Box1 (w.heap.size + 1 + 1 + 1 + 1 + 1) (.int .u64 (hputW true h.b (spH h g).cl f)) W2)
      enters_lay1 hat hF
      (fun e => ⟨(hwf.2 g.toNat (by omega)).1, (hwf.2 g.toNat (by omega)).2.1, by
        show Mask (takeF _ _)
        simp only [Bool.and_eq_true] at e
        rw [(take_val e.1).2]; exact mask_wout _ _⟩)
      (fun t ht => by rcases ht with rfl | rfl <;> exact ⟨by omega, hlow.clear (by omega)⟩) p0 p1
      (fun W1 hb1 => lay1_any (spH h g).st (spH h g).cl (spH h g).fr g f h.b (.slice p h.n c) (.slice q h.m d) (.int .i64 0) (.int .u64 0) (w.heap.size + 1) (w.heap.size + 1 + 1 + 1 + 1) w.heap.size (w.heap.size + 1 + 1) (w.heap.size + 1 + 1 + 1 + 1 + 1) W1 (hT0.below hb1) (hS0.below hb1) (wf_mask hwf p0 p1)
        (gP.below hb1) (gA.below hb1) (gB0.below hb1) (gF.below hb1) (gD.below hb1) (by omega) (by omega) (by omega) (by omega))
    rw [← eL] at hC
    cases hl : laB h g f with
    | false =>
      obtain ⟨e1, e2⟩ := la_no hl
      rw [e1, e2]
      rw [hl] at hC
      clear e1 e2 eL hF
      obtain ⟨lR, y0, y1, y2, f0, f1, f2⟩ := id gR
      go_enter Tryd.func36, Tryd.ntmps36
      go_upto_region 2 with fail
      rw [← hw0]
      clear hw0
      go_upto_region 3 with (first
        | (go_at_call 56; refine Calls.mono hC ?_; rintro e w' ⟨p', c', q', d', rfl, hch⟩)
      )
      obtain ⟨rfl, rfl, rfl, rfl⟩ := hch.old rfl
      have hA := hch.aside
      have hz := hA.size
      obtain ⟨w5, hw5⟩ : ∃ w5, w5 = w'.alloc (.cells #[.slice p' h.n c', .slice q' h.m d', .bool h.b] 25) := ⟨_, rfl⟩
      have hB6 : Below w'.heap.size w' w5 := by rw [hw5]; exact (Below.refl _ _).alloc (Nat.le_refl _) _
      replace gR := (gR.aside hA (by omega)).below hB6
      replace gB0 := (gB0.aside hA (by omega)).below hB6
      have hb5 : Below w.heap.size w w5 := hst.trans ((hA.below (by omega) (fun k hk => by omega)).trans (hB6.mono (by omega)))
      rw [← hw5]
      clear hw5 hC hch hB6 x0 x1 x2 l0 lP xP lR y0 y1 y2 f0 f1 f2
      obtain ⟨l0, x0, x1, x2, -, -, -⟩ := id gB0
      obtain ⟨lR, y0, y1, y2, f0, f1, f2⟩ := id gR
      go_wp2
      refine bodyPost_ret (by simp [results, Tryd.results36, go_sem, *]; try rfl) rfl ?_
      have hbb := ((hb5.setCell (p := ⟨w.heap.size + 1 + 1 + 1, 0, none⟩) (by show w.heap.size ≤ w.heap.size + 1 + 1 + 1; omega) (.slice p' h.n c')).setCell (p := ⟨w.heap.size + 1 + 1 + 1, 1, none⟩) (by show w.heap.size ≤ w.heap.size + 1 + 1 + 1; omega) (.slice q' h.m d')).setCell (p := ⟨w.heap.size + 1 + 1 + 1, 2, none⟩) (by show w.heap.size ≤ w.heap.size + 1 + 1 + 1; omega) (.bool h.b)
      exact ⟨p', c', q', d', rfl, hh.below hbb, ⟨fun h => (by cases h), fun _ => ⟨rfl, rfl, rfl, rfl⟩⟩, hbb⟩
    | true =>
      obtain ⟨a0, a1, a3, a4, a5, a6⟩ := la_facts hF hwf p0 hl
      have htk : takeB (spH h g).st (spH h g).fr = true := by rw [eL] at hl; simp only [Bool.and_eq_true] at hl; exact hl.1
      rw [a6]
      rw [hl, (take_val htk).2] at hC
      simp only [htk, a4, forall_const] at hC
      generalize laA h g f = A at *
      have hwd : (Lit.int .u64 (hputW true h.b (spH h g).cl f)).wf = true := by have := hput_lt a3; exact wf_u64_of this.1 (by omega)
      have hm16 := (form_iff.1 hF).2.1
      have hn0 : 0 < h.n := by omega
      generalize hputW true h.b (spH h g).cl f = D at *
      clear eL hF a6 a4 a3 htk
      go_enter Tryd.func36, Tryd.ntmps36
      go_upto_region 2 with fail
      rw [← hw0]
      clear hw0
      go_upto_region 3 with (first
        | (go_at_call 56; refine Calls.mono hC ?_; rintro e w' ⟨p', c', q', d', rfl, hch⟩)
      )
      have hA := hch.aside
      have hz := hA.size
      have hown := hch.new rfl
      obtain ⟨W1, W2, hb1, hA2, ⟨gA2, gD2⟩, hb2⟩ := hch.way
      have gA' : Box1 (w.heap.size + 1 + 1 + 1 + 1) (.int .i64 A) w' := gA2.low hb2 (by omega)
      have gD' : Box1 (w.heap.size + 1 + 1 + 1 + 1 + 1) (.int .u64 D) w' := gD2.low hb2 (by omega)
      obtain ⟨gw, rfl, hgB, hgG⟩ := hown.word hn0
      have hcap := (hown.cap hn0).1
      obtain ⟨w5, hw5⟩ : ∃ w5, w5 = w'.alloc (.cells #[.slice (some ⟨gw, 0, none⟩) h.n c', .slice q' h.m d', .bool h.b] 25) := ⟨_, rfl⟩
      have hB6 : Below w'.heap.size w' w5 := by rw [hw5]; exact (Below.refl _ _).alloc (Nat.le_refl _) _
      have gG : Box3 w'.heap.size (.slice (some ⟨gw, 0, none⟩) h.n c') (.slice q' h.m d') (.bool h.b) w5 := by rw [hw5]; exact Box3.new _ _ _ _ _
      replace gR := (gR.aside hA (by omega)).below hB6
      replace gP := (gP.aside hA (by omega)).below hB6
      replace gA := gA'.below hB6
      replace gD := gD'.below hB6
      have hb5 : Below w.heap.size w w5 := hst.trans ((hA.below (by omega) (fun k hk => by omega)).trans (hB6.mono (by omega)))
      have hS5 := hS.below hb5
      replace hown := hown.below hB6
      rw [← hw5]
      clear hw5 hC hch hA2 hb1 hb2 gA2 gD2 gA' gD' hB6 x0 x1 x2 l0 lP xP gB0 gF hat hS0 hT0 hA hh
      generalize w'.heap.size = B9 at *
      have hbk := block_in_own (h := h) (x := ⟨(spH h g).st, (spH h g).cl, woutW (spH h g).fr (leastW (spH h g).fr)⟩) hS5 hown.at hcap hm16 p0 p1 a5 a0 a1
      obtain ⟨l0, x0, x1, x2, -, -, -⟩ := id gG
      obtain ⟨lP, xP, -⟩ := id gP
      obtain ⟨lA, xA, -⟩ := id gA
      go_upto_region 6 with (first
    | (go_at_call 63; refine Calls.mono (hbk) ?_; rintro e w' ⟨rfl, hb⟩; obtain ⟨hc, hf, hb, hz⟩ := bstep hb (w := w5) (by go_grown); try simp only [World.size_alloc, World.size_setCell, World.size_drew] at hc hf hz)
      )
      have hown' := hown.below hb
      obtain ⟨N, hN⟩ : ∃ N : Nat, (N : Int) = szW (spH h g).cl := ⟨(szW (spH h g).cl).toNat, by omega⟩
      have hcl := Lib.run_clear_slice (P := Tryd.prog) w' 22 50 0 (.int .u64 0) Tryd.underlying22 zero_u64 rfl rfl gw A.toNat N (c' - A.toNat) (by omega)
        (fun j hj => by
          obtain ⟨⟨u, hu⟩, -⟩ := hown'.store (i := A + j) (v := 0) (by omega) (show A + (j : Int) < h.n by omega) (by decide)
          rw [show (A + (j : Int)).toNat = A.toNat + j by omega] at hu
          rw [hu]; rfl)
        (fun j _ => hown'.words.frozenAt _)
      have ho := hown'.clearN N (a := A) a0 (show A + (N : Int) ≤ h.n by omega)
      rw [hN] at ho
      rw [show (szW (spH h g).cl).toNat = N by omega, hcl]
      clear hcl
      obtain ⟨w8, hw8⟩ : ∃ w8, w8 = w'.setCells gw A.toNat (List.replicate N (.int .u64 0)) := ⟨_, rfl⟩
      rw [← hw8] at ho ⊢
      replace gG : Box3 B9 (.slice (some ⟨gw, 0, none⟩) h.n c') (.slice q' h.m d') (.bool h.b) w8 := by rw [hw8]; exact (gG.below hb).setCells (by omega) _ _ _
      replace gR : Box3 (w.heap.size + 1 + 1 + 1) (.slice none 0 0) (.slice none 0 0) (.bool false) w8 := by rw [hw8]; exact (gR.below hb).setCells (by omega) _ _ _
      replace gA : Box1 (w.heap.size + 1 + 1 + 1 + 1) (.int .i64 A) w8 := by rw [hw8]; exact (gA.below hb).setCells (by omega) _ _ _
      replace gD : Box1 (w.heap.size + 1 + 1 + 1 + 1 + 1) (.int .u64 D) w8 := by rw [hw8]; exact (gD.below hb).setCells (by omega) _ _ _
      have hb8 : Below w.heap.size w w8 := by rw [hw8]; exact below_setCells (by omega) _ _ _ (bjoin hb hb5)
      clear hw8 hown hown' hb hc hf x0 x1 x2 l0 hbk lP xP lA xA gP
      obtain ⟨l0, x0, x1, x2, -, -, -⟩ := id gG
      obtain ⟨lA, xA, -⟩ := id gA
      obtain ⟨lD, xD, -⟩ := id gD
      obtain ⟨⟨u, u0⟩, u1, ho2⟩ := ho.store (i := A) (v := D) a0 (show A < h.n by omega) hwd
      have ho3 : HpOwn (w8.setCell ⟨gw, A.toNat, none⟩ (.int .u64 D)) w0.heap.size (some ⟨gw, 0, none⟩) c' q' d' { withS h g ⟨(spH h g).st, (spH h g).cl, woutW (spH h g).fr (leastW (spH h g).fr)⟩ with z := putZ (zerZ h.z A (szW (spH h g).cl)) A D } := ho2
      clear ho2 ho
      go_upto_region 7 with fail
      obtain ⟨w9, hw9⟩ : ∃ w9, w9 = w8.setCell ⟨gw, A.toNat, none⟩ (.int .u64 D) := ⟨_, rfl⟩
      rw [← hw9] at ho3 ⊢
      replace gG : Box3 B9 (.slice (some ⟨gw, 0, none⟩) h.n c') (.slice q' h.m d') (.bool h.b) w9 := by rw [hw9]; exact gG.other (by omega) _ _
      replace gR : Box3 (w.heap.size + 1 + 1 + 1) (.slice none 0 0) (.slice none 0 0) (.bool false) w9 := by rw [hw9]; exact gR.other (by omega) _ _
      replace gA : Box1 (w.heap.size + 1 + 1 + 1 + 1) (.int .i64 A) w9 := by rw [hw9]; exact gA.other (by omega) _ _
      have hb9 : Below w.heap.size w w9 := by rw [hw9]; exact hb8.setCell (by show w.heap.size ≤ gw; omega) _
      clear hw9 hb8 gD x0 x1 x2 l0 lA xA lD xD u0 u1 
      obtain ⟨l0, x0, x1, x2, -, -, -⟩ := id gG
      obtain ⟨lA, xA, -⟩ := id gA
      obtain ⟨lR, y0, y1, y2, f0, f1, f2⟩ := id gR
      go_region
      all_goals
        go_wp2
        refine bodyPost_ret (by simp [results, Tryd.results36, go_sem, *]; try rfl) rfl ?_
        have hz3 := (((ho3.under (g := w.heap.size + 1 + 1 + 1) (by omega) 0 (.slice (some ⟨gw, 0, none⟩) h.n c')).under (g := w.heap.size + 1 + 1 + 1) (by omega) 1 (.slice q' h.m d')).under (g := w.heap.size + 1 + 1 + 1) (by omega) 2 (.bool h.b)).lower (show w.heap.size ≤ w0.heap.size by omega)
        have hbb := ((hb9.setCell (p := ⟨w.heap.size + 1 + 1 + 1, 0, none⟩) (by show w.heap.size ≤ w.heap.size + 1 + 1 + 1; omega) (.slice (some ⟨gw, 0, none⟩) h.n c')).setCell (p := ⟨w.heap.size + 1 + 1 + 1, 1, none⟩) (by show w.heap.size ≤ w.heap.size + 1 + 1 + 1; omega) (.slice q' h.m d')).setCell (p := ⟨w.heap.size + 1 + 1 + 1, 2, none⟩) (by show w.heap.size ≤ w.heap.size + 1 + 1 + 1; omega) (.bool h.b)
        exact ⟨_, c', q', d', rfl, (hz3.below (by go_grown)).at, ⟨fun _ => ⟨hz3.newW, hz3.newS⟩, fun h => (by cases h)⟩, hbb.trans (by go_grown)⟩
  · obtain ⟨e1, e2⟩ := la_no (h := h) (g := g) (f := f) (by unfold laB; rw [inI_no hg]; rfl)
    have e3 : laB h g f = false := by unfold laB; rw [inI_no hg]; rfl
    rw [e1, e2, e3]
    have hC := change_out (v := .func (.func 59) #[] #[.pointer (some ⟨w.heap.size + 1, 0, none⟩), .pointer (some ⟨w.heap.size + 1 + 1 + 1 + 1, 0, none⟩), .pointer (some ⟨w.heap.size, 0, none⟩), .pointer (some ⟨w.heap.size + 1 + 1, 0, none⟩), .pointer (some ⟨w.heap.size + 1 + 1 + 1 + 1 + 1, 0, none⟩)]) hat (form_iff.1 hF).2.1 hg
    clear e1 e2 e3 hF
    obtain ⟨lR, y0, y1, y2, f0, f1, f2⟩ := id gR
    go_enter Tryd.func36, Tryd.ntmps36
    go_upto_region 2 with fail
    rw [← hw0]
    clear hw0
    go_wp2_with (first
      | (go_at_call 56; refine Calls.mono hC ?_; rintro e w' ⟨rfl, hb⟩; obtain ⟨hc, hf, hb, hz⟩ := bstep hb (w := w0) (by go_grown))
    )
    refine bodyPost_ret (by simp [results, Tryd.results36, go_sem, *]; try rfl) rfl ?_
    have hbb := ((((bjoin hb hst).alloc (by have := hst.size; omega) (.cells #[.slice p h.n c, .slice q h.m d, .bool h.b] 25)).setCell (p := ⟨w.heap.size + 1 + 1 + 1, 0, none⟩) (by show w.heap.size ≤ w.heap.size + 1 + 1 + 1; omega) (.slice p h.n c)).setCell (p := ⟨w.heap.size + 1 + 1 + 1, 1, none⟩) (by show w.heap.size ≤ w.heap.size + 1 + 1 + 1; omega) (.slice q h.m d)).setCell (p := ⟨w.heap.size + 1 + 1 + 1, 2, none⟩) (by show w.heap.size ≤ w.heap.size + 1 + 1 + 1; omega) (.bool h.b)
    exact ⟨p, c, q, d, rfl, hh.below hbb, ⟨fun h => (by cases h), fun _ => ⟨rfl, rfl, rfl, rfl⟩⟩, hbb⟩
end Go.Proofs.YtneanbagdkeoiaaDoor
/-! Contracts of the code's heap.New (chapter 7), and of all of heap.* over a heap's three cells as they stand in a walk. -/
namespace Go.Proofs.YtneanbagdkeoiaaDoor
set_option linter.unusedSimpArgs false
set_option linter.unusedVariables false
open Go.ChangeShapes Go.WideShapes Go.ChangeAt Go.RowKit Go.Joins

section
variable {p : Option Addr} {n c : Nat} {q : Option Addr} {m d : Nat} {b : Bool} {h : Hp} {w : World}
theorem hopen_in {g k : Int} (hS : Sz w) (hT : Tab w) (hh : HpIn w p n c q m d b h) (hF : formB h = true) :
    Calls Tryd.prog 35 #[.agg #[.slice p n c, .slice q m d, .bool b], .int .i64 g, .int .i64 k] w fun e w' => ∃ p' c' q' d', e = .returned (.tuple #[.agg #[.slice p' n c', .slice q' m d', .bool b], .bool (opB h g k)]) ∧
      HpIn w' p' n c' q' m d' b (opH h g k) ∧ Src w.heap.size (opB h g k) n m p c q d p' c' q' d' ∧ Below w.heap.size w w' := by
  obtain ⟨rfl, rfl, rfl, hh⟩ := hh
  refine Calls.mono (hopen_any _ _ _ _ _ g k _ hS hh hF) ?_
  rintro e w' ⟨p', c', q', d', rfl, h1, h2, h3⟩
  obtain ⟨a1, a2, a3⟩ := op_n h g k
  exact ⟨p', c', q', d', rfl, ⟨a1.symm, a2.symm, a3.symm, h1⟩, h2, h3⟩
theorem hlay_in {g f : Int} (hS : Sz w) (hT : Tab w) (hh : HpIn w p n c q m d b h) (hF : formB h = true) :
    Calls Tryd.prog 36 #[.agg #[.slice p n c, .slice q m d, .bool b], .int .i64 g, .int .i64 f] w fun e w' => ∃ p' c' q' d', e = .returned (.tuple #[.agg #[.slice p' n c', .slice q' m d', .bool b], .int .i64 (laA h g f), .bool (laB h g f)]) ∧
      HpIn w' p' n c' q' m d' b (laH h g f) ∧ Src w.heap.size (laB h g f) n m p c q d p' c' q' d' ∧ Below w.heap.size w w' := by
  obtain ⟨rfl, rfl, rfl, hh⟩ := hh
  refine Calls.mono (hlay_any _ _ _ _ _ g f _ hS hT hh hF) ?_
  rintro e w' ⟨p', c', q', d', rfl, h1, h2, h3⟩
  obtain ⟨a1, a2, a3⟩ := la_n h g f
  exact ⟨p', c', q', d', rfl, ⟨a1.symm, a2.symm, a3.symm, h1⟩, h2, h3⟩
end
end Go.Proofs.YtneanbagdkeoiaaDoor
