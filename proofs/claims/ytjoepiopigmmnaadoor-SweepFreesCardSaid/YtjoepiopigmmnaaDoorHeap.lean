/- Contracts of the code's heap.* (chapter 7). -/
import Derived.Test.YtjoepiopigmmnaaDoorHeapCopy
import Derived.Test.YtjoepiopigmmnaaDoorSpan
import Derived.Test.YtjoepiopigmmnaaDoorHeader
import Derived.Shelf.Abstract
import Derived.Lib.SliceRun
namespace Go.Proofs.YtjoepiopigmmnaaDoor
set_option linter.unusedSimpArgs false
set_option linter.unusedVariables false
open Go.ChangeShapes Go.WideShapes Go.ChangeAt Go.RowKit Go.Joins

theorem used_bound {s : Sp} (hr : s.right = true) (hw : s.wf) : 0 ≤ usedN s.st s.cl s.fr ∧ usedN s.st s.cl s.fr ≤ 16 := by
  unfold usedN
  split
  · rename_i hu
    rcases right_iff.1 hr with ⟨h0, -⟩ | ⟨-, c0, c1, hs⟩
    · rw [h0] at hu; cases hu
    · obtain ⟨a, b⟩ := count_le hw.2.2 hs
      have := bl_bound s.cl
      omega
  · simp
set_option maxHeartbeats 1000000 in
theorem hfind_any (p : Option Addr) (c : Nat) (q : Option Addr) (d : Nat) (h : Hp) (a : Int) (w : World) (hS : Sz w) (hh : HpAt w p c q d h) (hF : formB h = true) :
    Calls Tryd.prog 66 #[.agg #[.slice p h.n c, .slice q h.m d, .bool h.b], .int .i64 a] w fun e w' => e = .returned (.tuple #[.int .i64 (fiP h a), .int .i64 (fiI h a), .bool (fiB h a)]) ∧ Below w.heap.size w w' := by
  have hm16 := (form_iff.1 hF).2.1
  by_cases hr : 0 ≤ a ∧ a < 32 * h.m
  · obtain ⟨a0, a1⟩ := hr
    have eB : fiB h a = (!((spH h (a / 32)).st == 0) && plB (spH h (a / 32)).cl a) := by unfold fiB; rw [inI_yes a0 (by omega), Bool.true_and]
    have eP : fiB h a = true → fiP h a = a / 32 := fun e => by unfold fiP; rw [if_pos e]
    have eI : fiB h a = true → fiI h a = plI (spH h (a / 32)).cl a := fun e => by unfold fiI; rw [if_pos e]
    have eN := fi_no (h := h) (a := a)
    have hp0 : 0 ≤ a / 32 := by omega
    have hp1 : a / 32 < h.m := by omega
    rw [show spH h (a / 32) = h.s (a / 32).toNat from rfl] at *
    obtain ⟨⟨b, off, rfl, hlt, s0, s1, s2⟩, hw⟩ := hh.spans (a / 32).toNat (by omega)
    generalize h.s (a / 32).toNat = S at *
    obtain ⟨st, cl, fr⟩ := S
    simp only [] at *
    clear hF hh hw
    by_cases hst : st = 0
    · have d0 : (st == 0) = true := by simp [hst]
      rw [d0] at eB
      obtain ⟨e1, e2, e3⟩ := eN (by simp [eB])
      rw [e1, e2, e3]
      clear eB eP eI eN e1 e2 e3 hst
      go_enter Tryd.func66, Tryd.ntmps66
      go_wp2
      go_returns
      exact ⟨rfl, by go_grown⟩
    · have d0 : (st == 0) = false := by simp [hst]
      rw [d0] at eB
      simp only [Bool.not_false, Bool.true_and] at eB
      have eP' : fiP h a = plP cl a := by unfold fiP plP; rw [eB]
      have eI' : fiI h a = plI cl a := by
        cases e : plB cl a with
        | true => exact eI (by rw [eB, e])
        | false => rw [(eN (by simp [eB, e])).2.2]; exact (pl_no (by simp [e])).2.2.symm
      rw [eB, eP', eI']
      clear eB eP eI eN eP' eI' hst
      go_enter Tryd.func66, Tryd.ntmps66
      go_wp2_with (first
    | (go_at_call 78; refine Calls.mono (aplace_any _ _ _ (hS.below (by go_grown))) ?_; rintro e w' ⟨rfl, hb⟩; obtain ⟨hc, hf, hb, hz⟩ := bstep hb (w := w) (by go_grown); try simp only [World.size_alloc, World.size_setCell, World.size_drew] at hc hf hz)
      )
      go_returns
      exact ⟨rfl, by go_grown⟩
  · have e : fiB h a = false := by unfold fiB; rw [inI_no (by omega)]; rfl
    obtain ⟨e1, e2, e3⟩ := fi_no (h := h) (a := a) (by simp [e])
    rw [e1, e2, e3]
    clear e e1 e2 e3 hF
    by_cases ha : 0 ≤ a
    · go_enter Tryd.func66, Tryd.ntmps66
      go_wp2
      go_returns
      exact ⟨rfl, by go_grown⟩
    · go_enter Tryd.func66, Tryd.ntmps66
      go_wp2
      go_returns
      exact ⟨rfl, by go_grown⟩
end Go.Proofs.YtjoepiopigmmnaaDoor
/-! Contracts of the code's heap.changeSpan, of whatever closure, and of Open and Close (chapter 7). -/
namespace Go.Proofs.YtjoepiopigmmnaaDoor
set_option linter.unusedSimpArgs false
set_option linter.unusedVariables false
open Go.ChangeShapes Go.WideShapes Go.ChangeAt Go.RowKit Go.Joins

/-- What changeSpan leaves: W1 where the closure is called, W2 behind it. -/
structure Changed (w : World) (h : Hp) (g : Int) (x : Sp) (ok : Bool) (T : Nat → Prop) (R : World → World → Prop) (p : Option Addr) (c : Nat) (q : Option Addr) (d : Nat) (p' : Option Addr) (c' : Nat) (q' : Option Addr) (d' : Nat) (w' : World) : Prop where
  new : ok = true → HpOwn w' w.heap.size p' c' q' d' (withS h g x)
  old : ok = false → p' = p ∧ c' = c ∧ q' = q ∧ d' = d
  way : ∃ W1 W2, Below w.heap.size w W1 ∧ Aside T W1 W2 ∧ R W1 W2 ∧ Below w.heap.size W2 w'
set_option maxHeartbeats 4000000 in
theorem change_in {p : Option Addr} {c : Nat} {q : Option Addr} {d : Nat} {h : Hp} {w : World} {k : FuncId} {caps : Array Value} (hk : ∀ args w, (callFunc k args).run Tryd.prog w = .ok (.enter k args) w)
    {g : Int} {x : Sp} {ok : Bool} {T : Nat → Prop} {R : World → World → Prop} (hh : HpAt w p c q d h) (hF : formB h = true) (hx : ok = true → x.wf) (hT : ∀ t, T t → t < w.heap.size ∧ Clear t p q) (g0 : 0 ≤ g) (g1 : g < h.m)
    (hcl : ∀ W1, Below w.heap.size w W1 → Calls Tryd.prog k (#[.agg #[.int .i64 (spH h g).st, .int .i64 (spH h g).cl, .int .u32 (spH h g).fr]] ++ caps) W1 fun e W2 => e = .returned (.tuple #[.agg #[.int .i64 x.st, .int .i64 x.cl, .int .u32 x.fr], .bool ok]) ∧ Aside T W1 W2 ∧ R W1 W2) :
    Calls Tryd.prog 60 #[.agg #[.slice p h.n c, .slice q h.m d, .bool h.b], .int .i64 g, .func (.func k) #[] caps] w fun e w' => ∃ p' c' q' d', e = .returned (.tuple #[.agg #[.slice p' h.n c', .slice q' h.m d', .bool h.b], .bool ok]) ∧ Changed w h g x ok T R p c q d p' c' q' d' w' := by
  have hm16 := (form_iff.1 hF).2.1
  obtain ⟨w0, hw0, hB0, hR, hst⟩ := boxed2 (w := w) (v0 := .slice p h.n c) (v1 := .slice q h.m d) (v2 := .bool h.b) (u0 := .slice none 0 0) (u1 := .slice none 0 0) (u2 := .bool false) (t := 25)
  have hat := hh.below hst
  have gB0 := hB0
  have gR := hR
  obtain ⟨l0, x0, x1, x2, -, -, -⟩ := hB0
  obtain ⟨l1, y0, y1, y2, f0, f1, f2⟩ := hR
  have cC := hcl w0 hst
  rw [show spH h g = h.s g.toNat from rfl] at cC
  obtain ⟨⟨b, off, eq, hlt, s0, s1, s2⟩, -⟩ := hat.spans g.toNat (by omega)
  generalize h.s g.toNat = S at *
  obtain ⟨st, cl, fr⟩ := S
  simp only [] at *
  have hF' : Hid (formB h = true) := hF
  have eq' : Hid (q = some ⟨b, off, none⟩) := eq
  clear hcl hF
  subst eq
  go_enter Tryd.func60, Tryd.ntmps60
  go_upto_region 1 with fail
  rw [← hw0]
  clear hw0
  go_upto_region 4 with (first
    | (go_at_fn k; refine Calls.mono cC ?_; rintro e W2 ⟨rfl, hA, hRR⟩)
  )
  have hTb : ∀ i, w.heap.size ≤ i → ¬ T i := fun i hi t => by have := (hT i t).1; omega
  obtain ⟨w5, hw5⟩ : ∃ w5, w5 = W2.alloc (.cells #[.int .i64 x.st, .int .i64 x.cl, .int .u32 x.fr] 42) := ⟨_, rfl⟩
  have hB5 : Below W2.heap.size W2 w5 := by rw [hw5]; exact (Below.refl _ _).alloc (Nat.le_refl _) _
  have gS : SpBox W2.heap.size x.st x.cl x.fr w5 := by rw [hw5]; exact SpBox.new _ _ _ _ _
  replace gB0 := (gB0.aside hA (hTb _ (Nat.le_refl _))).below hB5
  replace gR := (gR.aside hA (hTb _ (Nat.le_succ _))).below hB5
  have hat5 := (hat.aside hA fun t ht => (hT t ht).2).below hB5
  have hsz : w.heap.size + 2 ≤ W2.heap.size := by have := hA.size; omega
  have hl5 := hB5.size
  rw [← hw5]
  clear hw5 x0 x1 x2 y0 y1 y2 f0 f1 f2 s0 s1 s2 hlt l0 l1 cC eq' hat hh
  cases ok with
  | false =>
    obtain ⟨l0, x0, x1, x2, -, -, -⟩ := gB0
    obtain ⟨l1, y0, y1, y2, f0, f1, f2⟩ := gR
    have hbW : Below w.heap.size W2 w5 := hB5.mono (by omega)
    go_wp2
    refine bodyPost_ret (by simp [results, Tryd.results60, go_sem, *]; try rfl) rfl ?_
    exact ⟨p, c, _, d, rfl, fun e => (by cases e), fun _ => ⟨rfl, rfl, rfl, rfl⟩, w0, W2, hst, hA, hRR, ((hbW.setCell (Nat.le_succ _) _).setCell (Nat.le_succ _) _).setCell (Nat.le_succ _) _⟩
  | true =>
    have g0' := gB0
    obtain ⟨l0, x0, x1, x2, -, -, -⟩ := g0'
    go_upto_region 6 with fail
    refine wp_clone_copy (s := 34) (h' := 3) (d' := 10) (pos := "heap.go:125") (by kernel_rfl) (by decide) (by decide) (by decide) (by simp) hF'.out hat5 gB0 rfl ?_
    intro y0 y1 y2 y3 y4 y5 y6 y7 y8 B7 p' c' q' d' w4 hown g7 hl7 n1 n2 hb4
    simp only [puts, Act.put]
    obtain ⟨gs, rfl, hgs, hgs'⟩ := hown.span (by omega)
    have m2 : ¬ B7 = gs := fun e => n2 (by rw [e]; rfl)
    have hst4 := hown.storeS (i := g) (x := x) g0 g1 (hx rfl)
    replace gS := gS.below (hb4.mono (by have := gS.1; omega))
    have hS1 := gS
    have hG := g7
    replace gR := gR.below hb4
    obtain ⟨lS, s0, s1, s2, -, -, -⟩ := hS1
    obtain ⟨lG, z0, z1, z2, -, -, -⟩ := hG
    obtain ⟨⟨t0, t1, t2⟩, tf, ho⟩ := hst4
    have t3 := tf (g.toNat * 3)
    have t4 := tf (g.toNat * 3 + 1)
    have t5 := tf (g.toNat * 3 + 2)
    clear tf l0 x0 x1 x2 hat5 gB0
    go_upto_region 8 with fail
    obtain ⟨w8, hw8⟩ : ∃ w8, w8 = ((w4.setCell ⟨gs, g.toNat * 3, none⟩ (.int .i64 x.st)).setCell ⟨gs, g.toNat * 3 + 1, none⟩ (.int .i64 x.cl)).setCell ⟨gs, g.toNat * 3 + 2, none⟩ (.int .u32 x.fr) := ⟨_, rfl⟩
    replace g7 : Box3 B7 (.slice p' h.n c') (.slice (some ⟨gs, 0, none⟩) h.m d') (.bool h.b) w8 := by rw [hw8]; exact ((g7.other (fun e => m2 e.symm) _ _).other (fun e => m2 e.symm) _ _).other (fun e => m2 e.symm) _ _
    replace gR : Box3 (w.heap.size + 1) (.slice none 0 0) (.slice none 0 0) (.bool false) w8 := by rw [hw8]; exact ((gR.other (by omega) _ _).other (by omega) _ _).other (by omega) _ _
    have hb8 : Below w5.heap.size w5 w8 := by rw [hw8]; exact ((hb4.setCell (by show w5.heap.size ≤ gs; omega) _).setCell (by show w5.heap.size ≤ gs; omega) _).setCell (by show w5.heap.size ≤ gs; omega) _
    rw [← hw8] at ho ⊢
    clear hw8 s0 s1 s2 lS gS z0 z1 z2 lG t0 t1 t2 t3 t4 t5 hb4 hown
    obtain ⟨lG, z0, z1, z2, -, -, -⟩ := g7
    obtain ⟨lR, v0, v1, v2, f0, f1, f2⟩ := gR
    go_wp2
    refine bodyPost_ret (by simp [results, Tryd.results60, go_sem, *]; try rfl) rfl ?_
    have hz := (((ho.under (g := w.heap.size + 1) (by omega) 0 (.slice p' h.n c')).under (g := w.heap.size + 1) (by omega) 1 (.slice (some ⟨gs, 0, none⟩) h.m d')).under (g := w.heap.size + 1) (by omega) 2 (.bool h.b)).lower (show w.heap.size ≤ w5.heap.size by omega)
    have hb5 : Below w.heap.size W2 w8 := (hB5.mono (show w.heap.size ≤ W2.heap.size by omega)).trans (hb8.mono (show w.heap.size ≤ w5.heap.size by have := hB5.size; omega))
    exact ⟨p', c', _, d', rfl, fun _ => hz, fun e => (by cases e), w0, W2, hst, hA, hRR, ((hb5.setCell (Nat.le_succ _) _).setCell (Nat.le_succ _) _).setCell (Nat.le_succ _) _⟩
theorem change_out {p : Option Addr} {c : Nat} {q : Option Addr} {d : Nat} {h : Hp} {w : World} {v : Value} {g : Int} (hh : HpAt w p c q d h) (hm16 : h.m ≤ 16) (hg : ¬ (0 ≤ g ∧ g < h.m)) :
    Calls Tryd.prog 60 #[.agg #[.slice p h.n c, .slice q h.m d, .bool h.b], .int .i64 g, v] w fun e w' => e = .returned (.tuple #[.agg #[.slice p h.n c, .slice q h.m d, .bool h.b], .bool false]) ∧ Below w.heap.size w w' := by
  by_cases hg0 : 0 ≤ g
  · have hg1 : (h.m : Int) ≤ g := by omega
    clear hg
    go_enter Tryd.func60, Tryd.ntmps60
    go_wp2
    refine bodyPost_ret (by simp [results, Tryd.results60, go_sem, *]; try rfl) rfl ?_
    exact ⟨rfl, by go_grown⟩
  · have hg1 : g < 0 := by omega
    clear hg
    go_enter Tryd.func60, Tryd.ntmps60
    go_wp2
    refine bodyPost_ret (by simp [results, Tryd.results60, go_sem, *]; try rfl) rfl ?_
    exact ⟨rfl, by go_grown⟩
end Go.Proofs.YtjoepiopigmmnaaDoor
/-! Contracts of the code's heap.Open and heap.Close (chapter 7). -/
namespace Go.Proofs.YtjoepiopigmmnaaDoor
set_option linter.unusedSimpArgs false
set_option linter.unusedVariables false
open Go.ChangeShapes Go.WideShapes Go.ChangeAt Go.RowKit Go.Joins

/-- What Open's closure answers. -/
def opX (s : Sp) (k : Int) : Sp := if s.st = 0 then ⟨nwS k, nwC k, nwF k⟩ else s
theorem close1_any (st cl fr : Int) (w : World) (hk : OkS st) (hS : Sz w) :
    Calls Tryd.prog 61 #[.agg #[.int .i64 st, .int .i64 cl, .int .u32 fr]] w fun e w' =>
      e = .returned (.tuple #[.agg #[.int .i64 0, .int .i64 0, .int .u32 0], .bool (emptyB st cl fr)]) ∧ Below w.heap.size w w' := by
  go_enter Tryd.func61, Tryd.ntmps61
  go_wp2_with (first
    | (go_at_call 39; refine Calls.mono (sempty_any _ _ _ _ hk (hS.below (by go_grown))) ?_; rintro e w' ⟨rfl, hb⟩; (first | replace hS := hS.below hb | replace hS := (hS.below (by go_grown)).below hb | skip); obtain ⟨hc, hf, hb, hz⟩ := bstep hb (w := w) (by go_grown); try simp only [World.size_alloc, World.size_setCell, World.size_drew] at hc hf hz)
  )
  refine bodyPost_ret (by simp [results, Tryd.results61, go_sem, *]; try rfl) rfl ?_
  exact ⟨rfl, by go_grown⟩
theorem enters_close1 : ∀ args w, (callFunc 61 args).run Tryd.prog w = .ok (.enter 61 args) w := enters_of Tryd.func61 (by kernel_rfl) rfl
theorem opX_wf {s : Sp} {k : Int} (h0 : s.st = 0) (hk : clB k = true) : opX s k = ⟨1, k, wholeW (blW k)⟩ ∧ (opX s k).wf := by
  have e : opX s k = ⟨1, k, wholeW (blW k)⟩ := by
    obtain ⟨a, b, c⟩ := nw_yes hk
    unfold opX; rw [if_pos h0, a, b, c]
  rw [e]
  have : 0 ≤ k ∧ k < 4 := by simpa [clB] using hk
  exact ⟨rfl, ⟨by show (-9223372036854775808 : Int) ≤ 1; decide, by show (1 : Int) ≤ 9223372036854775807; decide⟩, ⟨by show -9223372036854775808 ≤ k; omega, by show k ≤ 9223372036854775807; omega⟩, mask_whole _⟩
theorem zero_wf : (⟨0, 0, 0⟩ : Sp).wf := ⟨⟨by show (-9223372036854775808 : Int) ≤ 0; decide, by show (0 : Int) ≤ 9223372036854775807; decide⟩, ⟨by show (-9223372036854775808 : Int) ≤ 0; decide, by show (0 : Int) ≤ 9223372036854775807; decide⟩, ⟨by show (0 : Int) ≤ 0; decide, by show (0 : Int) < 4294967296; decide⟩⟩
theorem empty_lo {st cl fr : Int} (hr : rightB st cl fr = true) (hm : Mask fr) : emptyB st cl fr = (!(st == 0) && countW fr == blW cl) := by
  unfold emptyB
  rcases right_iff.1 hr with ⟨h0, -⟩ | ⟨h0, c0, c1, hs⟩
  · have : useB st = false := by rw [h0]; rfl
    rw [this, h0]; rfl
  · rw [(use_iff st).2 h0, show (st == 0) = false by simp; omega]
    simp only [Bool.true_and, Bool.not_false]
    rw [Bool.eq_iff_iff, beq_iff_eq, beq_iff_eq]
    exact (count_whole hm hs).symm
set_option maxHeartbeats 2000000 in
theorem hclose_any (p : Option Addr) (c : Nat) (q : Option Addr) (d : Nat) (h : Hp) (g : Int) (w : World) (hS : Sz w) (hh : HpAt w p c q d h) (hF : formB h = true) :
    Calls Tryd.prog 41 #[.agg #[.slice p h.n c, .slice q h.m d, .bool h.b], .int .i64 g] w fun e w' => ∃ p' c' q' d', e = .returned (.tuple #[.agg #[.slice p' h.n c', .slice q' h.m d', .bool h.b], .bool (loB h g)]) ∧
      HpAt w' p' c' q' d' (loH h g) ∧ Src w.heap.size (loB h g) h.n h.m p c q d p' c' q' d' ∧ Below w.heap.size w w' := by
  obtain ⟨w0, hw0, a0, a2, hst⟩ := boxed2 (w := w) (v0 := .slice p h.n c) (v1 := .slice q h.m d) (v2 := .bool h.b) (u0 := .slice none 0 0) (u1 := .slice none 0 0) (u2 := .bool false) (t := 25)
  have hat := hh.below hst
  have hS0 := hS.below hst
  have hF' : Hid (formB h = true) := hF
  by_cases hg : 0 ≤ g ∧ g < h.m
  · obtain ⟨p0, p1⟩ := hg
    have eO : loB h g = emptyB (spH h g).st (spH h g).cl (spH h g).fr := by
      rw [empty_lo (form_at hF p0 p1) (wf_mask hh.wf p0 p1)]
      unfold loB; rw [inI_yes p0 p1, Bool.true_and]
    have hC := change_in (k := 61) (caps := #[]) (x := ⟨0, 0, 0⟩) (ok := emptyB (spH h g).st (spH h g).cl (spH h g).fr) (T := fun _ => False) (R := fun _ _ => True) enters_close1 hat hF
      (fun _ => zero_wf) (fun t ht => ht.elim) p0 p1
      (fun W1 hb1 => Calls.mono (close1_any (spH h g).st (spH h g).cl (spH h g).fr W1 (right_ok (form_at hF p0 p1)) (hS0.below hb1)) fun e W2 ⟨e1, e2⟩ => ⟨e1, Aside.of e2, trivial⟩)
    rw [← eO] at hC
    obtain ⟨l0, x0, x1, x2, -, -, -⟩ := a0
    obtain ⟨l2, y0, y1, y2, f0, f1, f2⟩ := a2
    have hOX : loB h g = true → loH h g = withS h g ⟨0, 0, 0⟩ := fun e => by unfold loH; rw [if_pos e]
    have hON : loB h g = false → loH h g = h := fun e => by unfold loH; rw [if_neg (by simp [e])]
    generalize loB h g = ok at *
    clear eO hF p0 p1
    go_enter Tryd.func41, Tryd.ntmps41
    go_upto_region 1 with fail
    rw [← hw0]
    clear hw0
    go_wp2_with (first
      | (go_at_call 60; refine Calls.mono hC ?_; rintro e w' ⟨p', c', q', d', rfl, hnew, hold, W1, W2, hb1, hA, -, hb2⟩; have hb := (hb1.trans (hA.pure.mono hb1.size)).trans hb2; obtain ⟨hc, hf, hb, hz⟩ := bstep hb (w := w0) (by go_grown))
    )
    refine bodyPost_ret (by simp [results, Tryd.results41, go_sem, *]; try rfl) rfl ?_
    cases ok with
    | true =>
      have ho := hnew rfl
      rw [hOX rfl]
      have hz := (((ho.under (g := w.heap.size + 1) (by omega) 0 (.slice p' h.n c')).under (g := w.heap.size + 1) (by omega) 1 (.slice q' h.m d')).under (g := w.heap.size + 1) (by omega) 2 (.bool h.b)).lower (show w.heap.size ≤ w0.heap.size by omega)
      exact ⟨p', c', q', d', rfl, hz.at, ⟨fun _ => ⟨hz.newW, hz.newS⟩, fun h => (by cases h)⟩, (((bjoin hb hst).setCell (by show w.heap.size ≤ w.heap.size + 1; omega) _).setCell (by show w.heap.size ≤ w.heap.size + 1; omega) _).setCell (by show w.heap.size ≤ w.heap.size + 1; omega) _⟩
    | false =>
      obtain ⟨rfl, rfl, rfl, rfl⟩ := hold rfl
      rw [hON rfl]
      have hbb := (((bjoin hb hst).setCell (p := ⟨w.heap.size + 1, 0, none⟩) (by show w.heap.size ≤ w.heap.size + 1; omega) (.slice p' h.n c')).setCell (p := ⟨w.heap.size + 1, 1, none⟩) (by show w.heap.size ≤ w.heap.size + 1; omega) (.slice q' h.m d')).setCell (p := ⟨w.heap.size + 1, 2, none⟩) (by show w.heap.size ≤ w.heap.size + 1; omega) (.bool h.b)
      exact ⟨p', c', q', d', rfl, hh.below hbb, ⟨fun h => (by cases h), fun _ => ⟨rfl, rfl, rfl, rfl⟩⟩, hbb⟩
  · have eO : loB h g = false := by unfold loB; rw [inI_no hg]; rfl
    have hON : loH h g = h := by unfold loH; rw [if_neg (by simp [eO])]
    rw [hON, eO]
    have hC := change_out (v := .func (.func 61) #[] #[]) hat (form_iff.1 hF).2.1 hg
    obtain ⟨l0, x0, x1, x2, -, -, -⟩ := a0
    obtain ⟨l2, y0, y1, y2, f0, f1, f2⟩ := a2
    clear eO hON hF
    go_enter Tryd.func41, Tryd.ntmps41
    go_upto_region 1 with fail
    rw [← hw0]
    clear hw0
    go_wp2_with (first
      | (go_at_call 60; refine Calls.mono hC ?_; rintro e w' ⟨rfl, hb⟩; obtain ⟨hc, hf, hb, hz⟩ := bstep hb (w := w0) (by go_grown))
    )
    refine bodyPost_ret (by simp [results, Tryd.results41, go_sem, *]; try rfl) rfl ?_
    have hbb := (((bjoin hb hst).setCell (p := ⟨w.heap.size + 1, 0, none⟩) (by show w.heap.size ≤ w.heap.size + 1; omega) (.slice p h.n c)).setCell (p := ⟨w.heap.size + 1, 1, none⟩) (by show w.heap.size ≤ w.heap.size + 1; omega) (.slice q h.m d)).setCell (p := ⟨w.heap.size + 1, 2, none⟩) (by show w.heap.size ≤ w.heap.size + 1; omega) (.bool h.b)
    exact ⟨p, c, q, d, rfl, hh.below hbb, ⟨fun h => (by cases h), fun _ => ⟨rfl, rfl, rfl, rfl⟩⟩, hbb⟩
end Go.Proofs.YtjoepiopigmmnaaDoor
/-! Contracts of the code's heap.block and heap.Free (chapter 7). -/
namespace Go.Proofs.YtjoepiopigmmnaaDoor
set_option linter.unusedSimpArgs false
set_option linter.unusedVariables false
open Go.ChangeShapes Go.WideShapes Go.ChangeAt Go.RowKit Go.Joins

theorem HpOwn.cap {W : World} {base : Nat} {p : Option Addr} {c : Nat} {q : Option Addr} {d : Nat} {h : Hp} (o : HpOwn W base p c q d h) (h0 : 0 < h.n) : h.n ≤ c ∧ c ≤ maxLen := by
  rcases o.words.2 with ⟨-, h1⟩ | ⟨g, cap', cur, hv, -, -, h1, h2, -⟩
  · omega
  · injection hv with _ _ e; subst e; exact ⟨h1, h2⟩
set_option maxHeartbeats 2000000 in
theorem block_any (gw c : Nat) (q : Option Addr) (d : Nat) (h : Hp) (P A : Int) (w : World) (hS : Sz w) (hh : HpAt w (some ⟨gw, 0, none⟩) c q d h) (hc : h.n ≤ c) (hm16 : h.m ≤ 16) (p0 : 0 ≤ P) (p1 : P < h.m) (z2 : 0 < szW (spH h P).cl) (a0 : 0 ≤ A) (a1 : A + szW (spH h P).cl ≤ h.n) :
    Calls Tryd.prog 70 #[.agg #[.slice (some ⟨gw, 0, none⟩) h.n c, .slice q h.m d, .bool h.b], .int .i64 P, .int .i64 A] w fun e w' => e = .returned (.slice (some ⟨gw, A.toNat, none⟩) (szW (spH h P).cl).toNat (c - A.toNat)) ∧ Below w.heap.size w w' := by
  have hn := hh.nle
  simp only [maxLen] at hn
  rw [show spH h P = h.s P.toNat from rfl] at *
  obtain ⟨w0, hw0⟩ : ∃ w0, w0 = w.alloc (.cells #[.slice (some ⟨gw, 0, none⟩) h.n c, .slice q h.m d, .bool h.b] 25) := ⟨_, rfl⟩
  have hbx : Box3 w.heap.size (.slice (some ⟨gw, 0, none⟩) h.n c) (.slice q h.m d) (.bool h.b) w0 := by rw [hw0]; exact Box3.new _ _ _ _ _
  have hbA : Below w.heap.size w w0 := by rw [hw0]; go_grown
  have hsp := hh.spans.below hbA
  replace hS := hS.below hbA
  obtain ⟨⟨b, off, rfl, hlt, s0, s1, s2⟩, hw⟩ := hsp P.toNat (by omega)
  generalize h.s P.toNat = S at *
  obtain ⟨st, cl, fr⟩ := S
  simp only [] at *
  obtain ⟨z0, z1⟩ := sz_bound cl
  have hbr : A + szW cl ≤ c := by omega
  have hne : ¬ c = A.toNat := by omega
  clear hh hw
  obtain ⟨hl, k0, k1, k2, -, -, -⟩ := hbx
  go_enter Tryd.func70, Tryd.ntmps70
  go_upto_region 1 with fail
  rw [← hw0]
  clear hw0
  refine wp_region_plus (by kernel_rfl) (by kernel_rfl) fun hpc => ?_
  repeat (first | go_big_quiet_step ((first | (go_at_call 53; exact quiet_plus (cwords_any _ _ (hS.below (plus_below _ _)))))) | quiet_step ((first | (go_at_call 53; exact quiet_plus (cwords_any _ _ (hS.below (plus_below _ _)))))))
  refine wpQuiet_nil ?_
  intro w' hbq
  clear hpc
  obtain ⟨hc, hf, hb, hz⟩ := bstep hbq (w := w0) (by go_grown)
  try simp only [World.size_alloc, World.size_setCell, World.size_drew] at hc hf hz
  go_wp2
  go_returns
  have hl : (A + szW cl).toNat - A.toNat = (szW cl).toNat := by omega
  exact ⟨by rw [← hl]; rfl, bjoin hb hbA⟩
theorem block_in_own {gw c : Nat} {q : Option Addr} {d : Nat} {h : Hp} {x : Sp} {P A : Int} {w : World} (hS : Sz w) (hh : HpAt w (some ⟨gw, 0, none⟩) c q d (withS h P x)) (hc : h.n ≤ c) (hm16 : h.m ≤ 16) (p0 : 0 ≤ P) (p1 : P < h.m) (z2 : 0 < szW x.cl) (a0 : 0 ≤ A) (a1 : A + szW x.cl ≤ h.n) :
    Calls Tryd.prog 70 #[.agg #[.slice (some ⟨gw, 0, none⟩) h.n c, .slice q h.m d, .bool h.b], .int .i64 P, .int .i64 A] w fun e w' => e = .returned (.slice (some ⟨gw, A.toNat, none⟩) (szW x.cl).toNat (c - A.toNat)) ∧ Below w.heap.size w w' := by
  have hb := block_any gw c q d (withS h P x) P A w hS hh hc hm16 p0 p1
  rw [spH_with h _ p0] at hb
  exact hb z2 a0 a1
/-- 'clear(s)', s a piece of n cells of a row. -/
theorem wpList_clear_words {P : Program} {w : World} {ops : Array Oper} {rest : List Oper} {o : Oper} {a : Act} {Q : Exit → Act → World → Prop} (hgd : o.guard = none) (s : Operand) (t e : TypeId)
    (ho : o.op = .call { callee := .builtin .clear, args := #[s], argTypes := #[t] }) (z : Value) (ht : P.underlying t = some (.slice e)) (hv : ∀ w, (zeroValue e).run P w = .ok z w) (hz : z.cells = #[z]) (h1 : z.oneCell' = true) (b off n c : Nat)
    (hs : a.eval s = .slice (some ⟨b, off, none⟩) n c) (hn : 0 < n) (hc : ∀ j, j < n → (w.cell? ⟨b, off + j, none⟩).isSome = true) (hf : ∀ j, j < n → w.frozen? ⟨b, off + j, none⟩ = false)
    (h : wpList P ops Q rest (a.put o.dst (.tuple #[])) (w.setCells b off (List.replicate n z))) : wpList P ops Q (o :: rest) a w := by
  refine wpList_plain hgd fun K hK => ?_
  have hrun := Lib.run_clear_slice (P := P) w t e o.type z ht hv hz h1 b off n c hn hc hf
  unfold Oper.wp
  simp [execOp, ho, resolve, invoke, builtin, hs, hrun, Result.andThen]
  exact hK _ _ h
theorem zero_u64 : ∀ w, (zeroValue 61).run Tryd.prog w = .ok (.int .u64 0) w := fun w => by
  simp [go_sem]
theorem free1_any (st cl fr i : Int) (b : Nat) (w : World) (hk : OkS st) (hm : Mask fr) (hS : Sz w) (hb : Box1 b (.int .i64 i) w) :
    Calls Tryd.prog 68 #[.agg #[.int .i64 st, .int .i64 cl, .int .u32 fr], .pointer (some ⟨b, 0, none⟩)] w fun e w' =>
      e = .returned (.tuple #[.agg #[.int .i64 st, .int .i64 cl, .int .u32 (giveF st cl fr i)], .bool (giveB st cl fr i)]) ∧ Below w.heap.size w w' := by
  obtain ⟨l, c0, -⟩ := hb
  go_enter Tryd.func68, Tryd.ntmps68
  go_wp2_with (first
    | (go_at_call 69; refine Calls.mono (sgive_any _ _ _ _ _ hk hm (hS.below (by go_grown))) ?_; rintro e w' ⟨rfl, hb⟩; (first | replace hS := hS.below hb | replace hS := (hS.below (by go_grown)).below hb | skip); obtain ⟨hc, hf, hb, hz⟩ := bstep hb (w := w) (by go_grown); try simp only [World.size_alloc, World.size_setCell, World.size_drew] at hc hf hz)
  )
  refine bodyPost_ret (by simp [results, Tryd.results68, go_sem, *]; try rfl) rfl ?_
  exact ⟨rfl, by go_grown⟩
theorem enters_free1 : ∀ args w, (callFunc 68 args).run Tryd.prog w = .ok (.enter 68 args) w := enters_of Tryd.func68 (by kernel_rfl) rfl
/-- What a change leaves, said without the closure's worlds. -/
theorem Changed.plain {w w' : World} {h : Hp} {g : Int} {x : Sp} {ok : Bool} {R : World → World → Prop} {p : Option Addr} {c : Nat} {q : Option Addr} {d : Nat} {p' : Option Addr} {c' : Nat} {q' : Option Addr} {d' : Nat} (hc : Changed w h g x ok (fun _ => False) R p c q d p' c' q' d' w') : Below w.heap.size w w' := by
  obtain ⟨W1, W2, hb1, hA, -, hb2⟩ := hc.way
  exact (hb1.trans (hA.pure.mono hb1.size)).trans hb2
set_option maxHeartbeats 1000000 in
set_option maxRecDepth 20000 in
theorem hfree_own (p : Option Addr) (c : Nat) (q : Option Addr) (d : Nat) (h : Hp) (a : Int) (w : World) (hS : Sz w) (hh : HpAt w p c q d h) (hF : formB h = true) :
    Calls Tryd.prog 56 #[.agg #[.slice p h.n c, .slice q h.m d, .bool h.b], .int .i64 a] w fun e w' => ∃ p' c' q' d', e = .returned (.tuple #[.agg #[.slice p' h.n c', .slice q' h.m d', .bool h.b], .bool (frB h a)]) ∧
      HpAt w' p' c' q' d' (frH h a) ∧ Src w.heap.size (frB h a) h.n h.m p c q d p' c' q' d' ∧ (frB h a = true → HpOwn w' w.heap.size p' c' q' d' (frH h a)) ∧ Below w.heap.size w w' := by
  have hwf := hh.wf
  obtain ⟨w0, hw0, hB0, hR, hst⟩ := boxed2 (w := w) (v0 := .slice p h.n c) (v1 := .slice q h.m d) (v2 := .bool h.b) (u0 := .slice none 0 0) (u1 := .slice none 0 0) (u2 := .bool false) (t := 25)
  have hat := hh.below hst
  have hS0 := hS.below hst
  have hFi := hfind_any p c q d h a w0 hS0 hat hF
  have gB0 := hB0
  have gR := hR
  obtain ⟨l0, x0, x1, x2, -, -, -⟩ := hB0
  obtain ⟨l1, y0, y1, y2, f0, f1, f2⟩ := hR
  have hF' : Hid (formB h = true) := hF
  have hsz0 : w.heap.size + 2 ≤ w0.heap.size := l1
  cases hf : fiB h a with
  | false =>
    have efr : frB h a = false := by unfold frB; rw [hf]; rfl
    have eH : frH h a = h := by unfold frH; rw [if_neg (by simp [efr])]
    rw [eH, efr]
    rw [hf] at hFi
    clear eH efr hF
    go_enter Tryd.func56, Tryd.ntmps56
    go_upto_region 1 with fail
    rw [← hw0]
    clear hw0
    go_wp2_with (first
    | (go_at_call 66; refine Calls.mono (hFi) ?_; rintro e w' ⟨rfl, hb⟩; obtain ⟨hc, hf, hb, hz⟩ := bstep hb (w := w0) (by go_grown); try simp only [World.size_alloc, World.size_setCell, World.size_drew] at hc hf hz)
    )
    refine bodyPost_ret (by simp [results, Tryd.results56, go_sem, *]; try rfl) rfl ?_
    exact ⟨p, c, q, d, rfl, hh.below (by go_grown; exact bjoin hb hst), ⟨fun h => (by cases h), fun _ => ⟨rfl, rfl, rfl, rfl⟩⟩, fun h => (by cases h), by go_grown; exact bjoin hb hst⟩
  | true =>
    obtain ⟨p0, p1, p2, hstt, -, i0, i1, -⟩ := fi_spec hF hf
    have eP : fiP h a = a / 32 := by unfold fiP; rw [if_pos hf]
    have eI : fiI h a = plI (spH h (a / 32)).cl a := by unfold fiI; rw [if_pos hf]
    obtain ⟨k0, -, -, k3, k4⟩ := block_in hF hf
    have hmask := wf_mask hwf p0 p1
    have hspw := hwf.2 (a / 32).toNat (by omega)
    have hok := right_ok (form_at hF p0 p1)
    have eF : frB h a = giveB (spH h (a / 32)).st (spH h (a / 32)).cl (spH h (a / 32)).fr (plI (spH h (a / 32)).cl a) := by unfold frB; rw [hf]; rfl
    have eH : frB h a = true → frH h a = { withS h (a / 32) ⟨(spH h (a / 32)).st, (spH h (a / 32)).cl, withW (spH h (a / 32)).fr (plI (spH h (a / 32)).cl a)⟩ with z := zerZ h.z a (szW (spH h (a / 32)).cl) } := fun e => by unfold frH; rw [if_pos e]
    have eN : frB h a = false → frH h a = h := fun e => by unfold frH; rw [if_neg (by simp [e])]
    have hz1 : 0 < szW (spH h (a / 32)).cl := by
      have hb := bl_bound (spH h (a / 32)).cl
      rcases cl_cases (spH h (a / 32)).cl with ⟨-, e0, e1, -⟩ | ⟨-, e0, e1, -⟩ | ⟨-, e0, e1, -⟩ | ⟨-, e0, e1, -⟩ | ⟨-, e0, e1, -⟩ <;> omega
    rw [hf, eP, eI] at hFi
    clear eP eI
    generalize a / 32 = P at *
    generalize plI (spH h P).cl a = I at *
    have hCm : ∀ (w1 : World) (B7 : Nat), Below w0.heap.size w0 w1 → Box1 B7 (.int .i64 I) w1 → Calls Tryd.prog 60 #[.agg #[.slice p h.n c, .slice q h.m d, .bool h.b], .int .i64 P, .func (.func 68) #[] #[.pointer (some ⟨B7, 0, none⟩)]] w1 fun e w' =>
        ∃ p' c' q' d', e = .returned (.tuple #[.agg #[.slice p' h.n c', .slice q' h.m d', .bool h.b], .bool (giveB (spH h P).st (spH h P).cl (spH h P).fr I)]) ∧ Changed w1 h P ⟨(spH h P).st, (spH h P).cl, giveF (spH h P).st (spH h P).cl (spH h P).fr I⟩ (giveB (spH h P).st (spH h P).cl (spH h P).fr I) (fun _ => False) (fun _ _ => True) p c q d p' c' q' d' w' := fun w1 B7 hB1 gI =>
      change_in (k := 68) (caps := #[.pointer (some ⟨B7, 0, none⟩)]) (T := fun _ => False) (R := fun _ _ => True) enters_free1 (hat.below hB1) hF
        (fun e => ⟨hspw.1, hspw.2.1, by show Mask (giveF _ _ _ _); rw [give_val e]; exact mask_with hmask⟩) (fun t ht => ht.elim) p0 p1
        (fun W1 hb1 => Calls.mono (free1_any (spH h P).st (spH h P).cl (spH h P).fr I B7 W1 hok hmask ((hS0.below hB1).below hb1) (gI.below hb1)) fun e W2 ⟨e1, e2⟩ => ⟨e1, Aside.of e2, trivial⟩)
    cases hg : giveB (spH h P).st (spH h P).cl (spH h P).fr I with
    | false =>
      rw [hg] at eF hCm
      rw [eN eF, eF]
      clear eF eN eH hF
      go_enter Tryd.func56, Tryd.ntmps56
      go_upto_region 1 with fail
      rw [← hw0]
      clear hw0
      go_upto_region 4 with (first
    | (go_at_call 66; refine Calls.mono (hFi) ?_; rintro e w' ⟨rfl, hb⟩; obtain ⟨hc, hf, hb, hz⟩ := bstep hb (w := w0) (by go_grown); try simp only [World.size_alloc, World.size_setCell, World.size_drew] at hc hf hz)
      )
      obtain ⟨w1, hw1⟩ : ∃ w1, w1 = w'.alloc (.cells #[.int .i64 I] 3) := ⟨_, rfl⟩
      have hB1 : Below w0.heap.size w0 w1 := by rw [hw1]; exact hb.alloc hb.size _
      have gI : Box1 w'.heap.size (.int .i64 I) w1 := by rw [hw1]; exact Box1.new _ _ _
      have hSl : w0.heap.size ≤ w'.heap.size := hb.size
      rw [← hw1]
      clear hw1 hb hc hf hz x0 x1 x2 y0 y1 y2 f0 f1 f2 l0 l1 hFi
      generalize w'.heap.size = B7 at *
      replace gB0 := gB0.below hB1
      replace gR := gR.below hB1
      have hS1 := hS0.below hB1
      have hC := hCm w1 B7 hB1 gI
      have hB1s := hB1.size
      clear hCm
      have g0 := gB0
      have g1 := gR
      obtain ⟨l0, x0, x1, x2, -, -, -⟩ := g0
      obtain ⟨l1, y0, y1, y2, f0, f1, f2⟩ := g1
      go_upto_region 5 with (first
        | (go_at_call 60; refine Calls.mono hC ?_; rintro e w' ⟨p', c', q', d', rfl, hch⟩; have hb := hch.plain; obtain ⟨hc, hf, hb, hz⟩ := bstep hb (w := w1) (by go_grown))
      )
      obtain ⟨rfl, rfl, rfl, rfl⟩ := hch.old rfl
      clear hC hch
      go_wp2
      refine bodyPost_ret (by simp [results, Tryd.results56, go_sem, *]; try rfl) rfl ?_
      have hbA := bjoin hb (bjoin hB1 hst)
      have hbb := (((hbA.alloc (Nat.le_trans hst.size (Nat.le_trans hB1s hz)) (.cells #[.slice p' h.n c', .slice q' h.m d', .bool h.b] 25)).setCell (p := ⟨w.heap.size + 1, 0, none⟩) (Nat.le_succ _) (.slice p' h.n c')).setCell (p := ⟨w.heap.size + 1, 1, none⟩) (Nat.le_succ _) (.slice q' h.m d')).setCell (p := ⟨w.heap.size + 1, 2, none⟩) (Nat.le_succ _) (.bool h.b)
      exact ⟨p', c', q', d', rfl, hh.below hbb, ⟨fun h => (by cases h), fun _ => ⟨rfl, rfl, rfl, rfl⟩⟩, fun h => (by cases h), hbb⟩
    | true =>
      have eG := give_val hg
      rw [hg, eG] at hCm
      rw [hg] at eF
      rw [eH eF, eF]
      clear eF eN eH hF eG
      go_enter Tryd.func56, Tryd.ntmps56
      go_upto_region 1 with fail
      rw [← hw0]
      clear hw0
      go_upto_region 4 with (first
    | (go_at_call 66; refine Calls.mono (hFi) ?_; rintro e w' ⟨rfl, hb⟩; obtain ⟨hc, hf, hb, hz⟩ := bstep hb (w := w0) (by go_grown); try simp only [World.size_alloc, World.size_setCell, World.size_drew] at hc hf hz)
      )
      obtain ⟨w1, hw1⟩ : ∃ w1, w1 = w'.alloc (.cells #[.int .i64 I] 3) := ⟨_, rfl⟩
      have hB1 : Below w0.heap.size w0 w1 := by rw [hw1]; exact hb.alloc hb.size _
      have gI : Box1 w'.heap.size (.int .i64 I) w1 := by rw [hw1]; exact Box1.new _ _ _
      have hSl : w0.heap.size ≤ w'.heap.size := hb.size
      rw [← hw1]
      clear hw1 hb hc hf hz x0 x1 x2 y0 y1 y2 f0 f1 f2 l0 l1 hFi
      generalize w'.heap.size = B7 at *
      replace gB0 := gB0.below hB1
      replace gR := gR.below hB1
      have hS1 := hS0.below hB1
      have hC := hCm w1 B7 hB1 gI
      have hB1s := hB1.size
      clear hCm
      have g0 := gB0
      have g1 := gR
      obtain ⟨l0, x0, x1, x2, -, -, -⟩ := g0
      obtain ⟨l1, y0, y1, y2, f0, f1, f2⟩ := g1
      go_upto_region 5 with (first
        | (go_at_call 60; refine Calls.mono hC ?_; rintro e w' ⟨p', c', q', d', rfl, hch⟩; have hb := hch.plain; obtain ⟨hc, hf, hb, hz⟩ := bstep hb (w := w1) (by go_grown))
      )
      have hown := hch.new rfl
      have hn0 : 0 < h.n := by omega
      have hm16 := (form_iff.1 hF'.out).2.1
      obtain ⟨gw, rfl, hgB, hgG⟩ := hown.word hn0
      have hcap := (hown.cap hn0).1
      obtain ⟨w5, hw5⟩ : ∃ w5, w5 = w'.alloc (.cells #[.slice (some ⟨gw, 0, none⟩) h.n c', .slice q' h.m d', .bool h.b] 25) := ⟨_, rfl⟩
      have hB5 : Below w1.heap.size w1 w5 := by rw [hw5]; exact hb.alloc hb.size _
      have hB6 : Below w'.heap.size w' w5 := by rw [hw5]; exact (Below.refl _ _).alloc (Nat.le_refl _) _
      have gG : Box3 w'.heap.size (.slice (some ⟨gw, 0, none⟩) h.n c') (.slice q' h.m d') (.bool h.b) w5 := by rw [hw5]; exact Box3.new _ _ _ _ _
      replace hown := hown.below hB6
      replace gR := gR.below hB5
      have hS5 := hS1.below hB5
      have hbW : Below w.heap.size w w5 := bjoin hB5 (bjoin hB1 hst)
      rw [← hw5]
      clear hw5 hb hc hf x0 x1 x2 y0 y1 y2 f0 f1 f2 l0 l1 gB0 hB5 hB6 hch hC hat hh
      generalize w'.heap.size = B9 at *
      obtain ⟨l0, x0, x1, x2, -, -, -⟩ := id gG
      have hbk := block_in_own (h := h) (x := ⟨(spH h P).st, (spH h P).cl, withW (spH h P).fr I⟩) hS5 hown.at hcap hm16 p0 p1 hz1 k0 k3
      go_upto_region 8 with (first
    | (go_at_call 70; refine Calls.mono (hbk) ?_; rintro e w' ⟨rfl, hb⟩; obtain ⟨hc, hf, hb, hz⟩ := bstep hb (w := w5) (by go_grown); try simp only [World.size_alloc, World.size_setCell, World.size_drew] at hc hf hz)
      )
      have hown' := hown.below hb
      obtain ⟨N, hN⟩ : ∃ N : Nat, (N : Int) = szW (spH h P).cl := ⟨(szW (spH h P).cl).toNat, by omega⟩
      have hcl := Lib.run_clear_slice (P := Tryd.prog) w' 22 61 0 (.int .u64 0) Tryd.underlying22 zero_u64 rfl rfl gw a.toNat N (c' - a.toNat) (by omega)
        (fun j hj => by
          obtain ⟨⟨u, hu⟩, -⟩ := hown'.store (i := a + j) (v := 0) (by omega) (show a + (j : Int) < h.n by omega) (by decide)
          rw [show (a + (j : Int)).toNat = a.toNat + j by omega] at hu
          rw [hu]; rfl)
        (fun j _ => hown'.words.frozenAt _)
      have ho := hown'.clearN N (a := a) k0 (show a + (N : Int) ≤ h.n by omega)
      rw [hN] at ho
      rw [show (szW (spH h P).cl).toNat = N by omega, hcl]
      clear hcl
      obtain ⟨w8, hw8⟩ : ∃ w8, w8 = w'.setCells gw a.toNat (List.replicate N (.int .u64 0)) := ⟨_, rfl⟩
      rw [← hw8] at ho ⊢
      replace gG : Box3 B9 (.slice (some ⟨gw, 0, none⟩) h.n c') (.slice q' h.m d') (.bool h.b) w8 := by rw [hw8]; exact (gG.below hb).setCells (by omega) _ _ _
      replace gR : Box3 (w.heap.size + 1) (.slice none 0 0) (.slice none 0 0) (.bool false) w8 := by rw [hw8]; exact (gR.below hb).setCells (by omega) _ _ _
      have hb8 : Below w.heap.size w w8 := by rw [hw8]; exact below_setCells (by omega) _ _ _ (bjoin hb hbW)
      clear hw8 hown hown' hb hc hf hz x0 x1 x2 l0 hbk
      obtain ⟨l0, x0, x1, x2, -, -, -⟩ := gG
      obtain ⟨l1, y0, y1, y2, f0, f1, f2⟩ := gR
      go_wp2
      refine bodyPost_ret (by simp [results, Tryd.results56, go_sem, *]; try rfl) rfl ?_
      have hz := (((ho.under (g := w.heap.size + 1) (by omega) 0 (.slice (some ⟨gw, 0, none⟩) h.n c')).under (g := w.heap.size + 1) (by omega) 1 (.slice q' h.m d')).under (g := w.heap.size + 1) (by omega) 2 (.bool h.b)).lower (show w.heap.size ≤ w1.heap.size by omega)
      exact ⟨_, c', q', d', rfl, hz.at, ⟨fun _ => ⟨hz.newW, hz.newS⟩, fun h => (by cases h)⟩, fun _ => hz, ((hb8.setCell (Nat.le_succ _) _).setCell (Nat.le_succ _) _).setCell (Nat.le_succ _) _⟩
theorem hfree_any (p : Option Addr) (c : Nat) (q : Option Addr) (d : Nat) (h : Hp) (a : Int) (w : World) (hS : Sz w) (hh : HpAt w p c q d h) (hF : formB h = true) :
    Calls Tryd.prog 56 #[.agg #[.slice p h.n c, .slice q h.m d, .bool h.b], .int .i64 a] w fun e w' => ∃ p' c' q' d', e = .returned (.tuple #[.agg #[.slice p' h.n c', .slice q' h.m d', .bool h.b], .bool (frB h a)]) ∧
      HpAt w' p' c' q' d' (frH h a) ∧ Src w.heap.size (frB h a) h.n h.m p c q d p' c' q' d' ∧ Below w.heap.size w w' := by
  refine Calls.mono (hfree_own p c q d h a w hS hh hF) ?_
  rintro e w' ⟨p', c', q', d', rfl, h1, h2, -, h3⟩
  exact ⟨p', c', q', d', rfl, h1, h2, h3⟩
end Go.Proofs.YtjoepiopigmmnaaDoor
/-! Contracts of the code's heap.Lay (chapter 7). -/
namespace Go.Proofs.YtjoepiopigmmnaaDoor
set_option linter.unusedSimpArgs false
set_option linter.unusedVariables false
open Go.ChangeShapes Go.WideShapes Go.ChangeAt Go.RowKit Go.Joins

theorem may_is {c : Bool} {k f : Int} (k0 : 0 ≤ k) (k1 : k < 4) : hmayB true c k f = (decide (0 ≤ f) && decide (f < szW k)) := by
  by_cases h : 0 ≤ f ∧ f < szW k
  · rw [may_of k0 k1 h.1 h.2, decide_eq_true h.1, decide_eq_true h.2]; rfl
  · have : hmayB true c k f = false := by
      cases e : hmayB true c k f with
      | false => rfl
      | true =>
        exfalso
        have h3 := hmay_cases e
        rcases cl_cases k with ⟨h0, h1, -⟩ | ⟨h0, h1, -⟩ | ⟨h0, h1, -⟩ | ⟨h0, h1, -⟩ | ⟨h0, -⟩
        all_goals (try rw [h1] at h); omega
    rw [this]
    symm
    simp only [Bool.and_eq_false_iff, decide_eq_false_iff_not]
    omega
theorem Aside.trans' {T : Nat → Prop} {a b c : World} (h : Aside T a b) (k : Below a.heap.size b c) : Aside T a c :=
  ⟨k.os.trans h.os, k.tape.trans h.tape, k.output.trans h.output, Nat.le_trans h.size k.size, fun i hi ht => (k.block i hi).trans (h.block i hi ht)⟩
theorem Changed.aside {w w' : World} {h : Hp} {g : Int} {x : Sp} {ok : Bool} {T : Nat → Prop} {R : World → World → Prop} {p : Option Addr} {c : Nat} {q : Option Addr} {d : Nat} {p' : Option Addr} {c' : Nat} {q' : Option Addr} {d' : Nat} (hc : Changed w h g x ok T R p c q d p' c' q' d' w') : Aside T w w' := by
  obtain ⟨W1, W2, hb1, hA, -, hb2⟩ := hc.way
  exact ((Aside.of hb1).trans hA).trans' hb2
theorem lay_boxes {w : World} {v0 v1 v2 g f u0 u1 u2 z1 z2 : Value} {t0 t1 t2 t3 t4 t5 : TypeId} : ∃ w0, w0 = (((((w.alloc (.cells #[v0, v1, v2] t0)).alloc (.cells #[g] t1)).alloc (.cells #[f] t2)).alloc (.cells #[u0, u1, u2] t3)).alloc (.cells #[z1] t4)).alloc (.cells #[z2] t5) ∧
    Box3 w.heap.size v0 v1 v2 w0 ∧ Box1 (w.heap.size + 1) g w0 ∧ Box1 (w.heap.size + 1 + 1) f w0 ∧ Box3 (w.heap.size + 1 + 1 + 1) u0 u1 u2 w0 ∧ Box1 (w.heap.size + 1 + 1 + 1 + 1) z1 w0 ∧ Box1 (w.heap.size + 1 + 1 + 1 + 1 + 1) z2 w0 ∧ Below w.heap.size w w0 ∧ w0.heap.size = w.heap.size + 6 := by
  have st : ∀ (W : World) (o : Obj), Below W.heap.size W (W.alloc o) := fun W o => (Below.refl _ _).alloc (Nat.le_refl _) _
  have a0 := Box3.new w v0 v1 v2 t0
  obtain ⟨w1, h1⟩ : ∃ w1, w1 = w.alloc (.cells #[v0, v1, v2] t0) := ⟨_, rfl⟩
  have s1 : w1.heap.size = w.heap.size + 1 := by rw [h1, World.size_alloc]
  have b1 : Below w.heap.size w w1 := by rw [h1]; exact st _ _
  rw [← h1] at a0 ⊢
  have a1 := Box1.new w1 g t1
  have b2 := st w1 (.cells #[g] t1)
  obtain ⟨w2, h2⟩ : ∃ w2, w2 = w1.alloc (.cells #[g] t1) := ⟨_, rfl⟩
  have s2 : w2.heap.size = w.heap.size + 1 + 1 := by rw [h2, World.size_alloc, s1]
  rw [← h2] at a1 b2 ⊢
  have a2 := Box1.new w2 f t2
  have b3 := st w2 (.cells #[f] t2)
  obtain ⟨w3, h3⟩ : ∃ w3, w3 = w2.alloc (.cells #[f] t2) := ⟨_, rfl⟩
  have s3 : w3.heap.size = w.heap.size + 1 + 1 + 1 := by rw [h3, World.size_alloc, s2]
  rw [← h3] at a2 b3 ⊢
  have a3 := Box3.new w3 u0 u1 u2 t3
  have b4 := st w3 (.cells #[u0, u1, u2] t3)
  obtain ⟨w4, h4⟩ : ∃ w4, w4 = w3.alloc (.cells #[u0, u1, u2] t3) := ⟨_, rfl⟩
  have s4 : w4.heap.size = w.heap.size + 1 + 1 + 1 + 1 := by rw [h4, World.size_alloc, s3]
  rw [← h4] at a3 b4 ⊢
  have a4 := Box1.new w4 z1 t4
  have b5 := st w4 (.cells #[z1] t4)
  obtain ⟨w5, h5⟩ : ∃ w5, w5 = w4.alloc (.cells #[z1] t4) := ⟨_, rfl⟩
  have s5 : w5.heap.size = w.heap.size + 1 + 1 + 1 + 1 + 1 := by rw [h5, World.size_alloc, s4]
  rw [← h5] at a4 b5 ⊢
  have a5 := Box1.new w5 z2 t5
  have b6 := st w5 (.cells #[z2] t5)
  have c5 := b6
  have c4 := b5.trans (b6.mono b5.size)
  have c3 := b4.trans (c4.mono b4.size)
  have c2 := b3.trans (c3.mono b3.size)
  have c1 := b2.trans (c2.mono b2.size)
  refine ⟨_, rfl, a0.below c1, ?_, ?_, ?_, ?_, ?_, b1.trans (c1.mono b1.size), by rw [World.size_alloc, s5]⟩
  · rw [← s1]; exact a1.below c2
  · rw [← s2]; exact a2.below c3
  · rw [← s3]; exact a3.below c4
  · rw [← s4]; exact a4.below c5
  · rw [← s5]; exact a5
theorem la_ok {h : Hp} {g f : Int} (hF : formB h = true) (hw : h.wf) (p0 : 0 ≤ g) (p1 : g < h.m) : laB h g f = (takeB (spH h g).st (spH h g).fr && hmayB true h.b (spH h g).cl f) := by
  unfold laB
  rw [inI_yes p0 p1, Bool.true_and]
  cases ht : takeB (spH h g).st (spH h g).fr with
  | false => simp
  | true =>
    obtain ⟨-, c0, c1, -⟩ := take_spec (form_at hF p0 p1) (wf_mask hw p0 p1) ht
    rw [may_is c0 c1, Bool.and_true, Bool.true_and]
theorem la_facts {h : Hp} {g f : Int} (hF : formB h = true) (hwf : h.wf) (p0 : 0 ≤ g) (e : laB h g f = true) :
    0 ≤ laA h g f ∧ laA h g f + szW (spH h g).cl ≤ h.n ∧ hmayB true h.b (spH h g).cl f = true ∧ adW g (spH h g).cl (leastW (spH h g).fr) = laA h g f ∧ 0 < szW (spH h g).cl ∧
      laH h g f = { withS h g ⟨(spH h g).st, (spH h g).cl, woutW (spH h g).fr (leastW (spH h g).fr)⟩ with z := putZ (zerZ h.z (laA h g f) (szW (spH h g).cl)) (laA h g f) (hputW true h.b (spH h g).cl f) } := by
  obtain ⟨a0, a1, a2, a3⟩ := la_at hF hwf e
  obtain ⟨-, -, p2, f0, f1, -, -, -, -, l0, l1⟩ := la_spec hF hwf e
  obtain ⟨b0, b1⟩ := ad_in (c := (spH h g).cl) p0 p2 l0 l1
  exact ⟨a0, a1, a3, by rw [b1, a2], by omega, by rw [a2]; unfold laH; rw [if_pos e]⟩
end Go.Proofs.YtjoepiopigmmnaaDoor
/-! Contracts of the code's heap.New (chapter 7), and of all of heap.* over a heap's three cells as they stand in a walk. -/
namespace Go.Proofs.YtjoepiopigmmnaaDoor
set_option linter.unusedSimpArgs false
set_option linter.unusedVariables false
open Go.ChangeShapes Go.WideShapes Go.ChangeAt Go.RowKit Go.Joins

section
variable {p : Option Addr} {n c : Nat} {q : Option Addr} {m d : Nat} {b : Bool} {h : Hp} {w : World}
end
end Go.Proofs.YtjoepiopigmmnaaDoor
