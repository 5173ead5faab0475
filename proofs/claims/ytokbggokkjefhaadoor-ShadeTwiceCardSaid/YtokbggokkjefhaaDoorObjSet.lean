/- Contracts of the code's object.store, object.Set, object.Paint (chapter 8). -/
import Derived.Test.YtokbggokkjefhaaDoorObject
namespace Go.Proofs.YtokbggokkjefhaaDoor
set_option linter.unusedSimpArgs false
set_option linter.unusedVariables false
open Go.ChangeShapes Go.WideShapes Go.ChangeAt Go.RowKit Go.Joins

set_option maxHeartbeats 2000000 in
theorem ostore_any (p : Option Addr) (c : Nat) (q : Option Addr) (d : Nat) (h : Hp) (g x : Int) (w : World) (hh : HpAt w p c q d h) (hF : formB h = true) (g0 : 0 ≤ g) (g1 : g < h.n) (hx : (Lit.int .u64 x).wf = true) :
    Calls Tryd.prog 50 #[.agg #[.slice p h.n c, .slice q h.m d, .bool h.b], .int .i64 g, .int .u64 x] w fun e w' => ∃ p' c' q' d', e = .returned (.agg #[.slice p' h.n c', .slice q' h.m d', .bool h.b]) ∧
      HpOwn w' w.heap.size p' c' q' d' (putH h g x) ∧ Below w.heap.size w w' := by
  obtain ⟨w0, hw0, gB, gR, hst⟩ := boxed2 (w := w) (v0 := .slice p h.n c) (v1 := .slice q h.m d) (v2 := .bool h.b) (u0 := .slice none 0 0) (u1 := .slice none 0 0) (u2 := .bool false) (t := 25)
  have hat := hh.below hst
  have hF' : Hid (formB h = true) := hF
  have hn0 : 0 < h.n := by omega
  have hnl : h.n ≤ 512 := by have := form_iff.1 hF; omega
  have hlR : w.heap.size + 1 < w0.heap.size := gR.1
  clear hF hh
  go_enter Tryd.func50, Tryd.ntmps50
  go_upto_region 1 with fail
  rw [← hw0]
  clear hw0
  refine wp_clone_copy (s := 8) (h' := 3) (d' := 7) (pos := "object.go:118") (by kernel_rfl) (by decide) (by decide) (by decide) (by simp) hF'.out hat gB rfl ?_
  intro y0 y1 y2 y3 y4 y5 y6 y7 y8 B7 p' c' q' d' w4 hown g7 hl7 n1 n2 hb4
  simp only [puts, Act.put]
  obtain ⟨gw, rfl, hgw, hgw'⟩ := hown.word hn0
  have m1 : ¬ B7 = gw := fun e => n1 (by rw [e]; rfl)
  obtain ⟨⟨u, u0⟩, u1, ho⟩ := hown.store g0 g1 hx
  replace gR := gR.below hb4
  have hbW := bjoin hb4 hst
  obtain ⟨lG, z0, z1, z2, -, -, -⟩ := id g7
  clear n1 n2 hat gB hown
  go_upto_region 3 with fail
  obtain ⟨w8, hw8⟩ : ∃ w8, w8 = w4.setCell ⟨gw, g.toNat, none⟩ (.int .u64 x) := ⟨_, rfl⟩
  replace g7 : Box3 B7 (.slice (some ⟨gw, 0, none⟩) h.n c') (.slice q' h.m d') (.bool h.b) w8 := by rw [hw8]; exact g7.other (fun e => m1 e.symm) _ _
  replace gR : Box3 (w.heap.size + 1) (.slice none 0 0) (.slice none 0 0) (.bool false) w8 := by rw [hw8]; exact gR.other (by omega) _ _
  have hb8 : Below w.heap.size w w8 := by rw [hw8]; exact hbW.setCell (by show w.heap.size ≤ gw; omega) _
  rw [← hw8] at ho ⊢
  clear hw8 u0 u1 lG z0 z1 z2 hb4 hbW
  obtain ⟨lG, z0, z1, z2, -, -, -⟩ := g7
  obtain ⟨lR, v0, v1, v2, f0, f1, f2⟩ := gR
  go_wp2
  refine bodyPost_ret (by simp [results, Tryd.results50, go_sem, *]; try rfl) rfl ?_
  have hz := (((ho.under (g := w.heap.size + 1) (by omega) 0 (.slice (some ⟨gw, 0, none⟩) h.n c')).under (g := w.heap.size + 1) (by omega) 1 (.slice q' h.m d')).under (g := w.heap.size + 1) (by omega) 2 (.bool h.b)).lower (show w.heap.size ≤ w0.heap.size by omega)
  exact ⟨some ⟨gw, 0, none⟩, c', q', d', rfl, hz, ((hb8.setCell (Nat.le_succ _) _).setCell (Nat.le_succ _) _).setCell (Nat.le_succ _) _⟩

set_option maxHeartbeats 4000000 in
theorem opaint_any (p : Option Addr) (c : Nat) (q : Option Addr) (d : Nat) (h : Hp) (a : Int) (w : World) (hS : Sz w) (hh : HpAt w p c q d h) (hF : formB h = true) :
    Calls Tryd.prog 36 #[.agg #[.slice p h.n c, .slice q h.m d, .bool h.b], .int .i64 a] w fun e w' => ∃ p' c' q' d', e = .returned (.tuple #[.agg #[.slice p' h.n c', .slice q' h.m d', .bool h.b], .bool (obB h a)]) ∧
      HpAt w' p' c' q' d' (paH h a) ∧ Src w.heap.size (obB h a) h.n h.m p c q d p' c' q' d' ∧ Below w.heap.size w w' := by
  obtain ⟨w0, hw0, gB, gR, hst⟩ := boxed2 (w := w) (v0 := .slice p h.n c) (v1 := .slice q h.m d) (v2 := .bool h.b) (u0 := .slice none 0 0) (u1 := .slice none 0 0) (u2 := .bool false) (t := 25)
  have hat := hh.below hst
  have hG := oget_any p c q d h a w0 (hS.below hst) hat hF
  obtain ⟨l0, x0, x1, x2, -, -, -⟩ := id gB
  obtain ⟨lR, y0, y1, y2, f0, f1, f2⟩ := id gR
  have hF' : Hid (formB h = true) := hF
  cases ho : obB h a with
  | false =>
    have e2 : paH h a = h := by unfold paH; rw [if_neg (by simp [ho])]
    rw [e2]
    rw [ho] at hG
    generalize obC h a = C at *
    generalize obK h a = K at *
    generalize obN h a = N at *
    clear e2 hF hS
    go_enter Tryd.func36, Tryd.ntmps36
    go_upto_region 1 with fail
    rw [← hw0]
    clear hw0
    go_wp2_with (first
    | (go_at_call 48; refine Calls.mono (hG) ?_; rintro e w' ⟨rfl, hb⟩; obtain ⟨hc, hf, hb, hz⟩ := bstep hb (w := w0) (by go_grown); try simp only [World.size_alloc, World.size_setCell, World.size_drew] at hc hf hz)
    )
    refine bodyPost_ret (by simp [results, Tryd.results36, go_sem, *]; try rfl) rfl ?_
    have hbb := ((((bjoin hb hst).alloc (by have := hst.size; omega) (.cells #[.bool false, .bool C, .int .i64 K, .int .i64 N] 52)).setCell (p := ⟨w.heap.size + 1, 0, none⟩) (Nat.le_succ _) (.slice p h.n c)).setCell (p := ⟨w.heap.size + 1, 1, none⟩) (Nat.le_succ _) (.slice q h.m d)).setCell (p := ⟨w.heap.size + 1, 2, none⟩) (Nat.le_succ _) (.bool h.b)
    exact ⟨p, c, q, d, rfl, hh.below hbb, ⟨fun h => (by cases h), fun _ => ⟨rfl, rfl, rfl, rfl⟩⟩, hbb⟩
  | true =>
    obtain ⟨-, -, a0, a1, -, -, eC, eK, eN, hmy⟩ := ob_spec hF ho
    rw [← eK, ← eN] at hmy
    replace hmy := may_any_colour (c' := h.b) hmy
    have e2 : paH h a = putH h a (hputW true h.b (obK h a) (obN h a)) := by unfold paH; rw [if_pos ho]
    have hwd : (Lit.int .u64 (hputW true h.b (obK h a) (obN h a))).wf = true := by have := hput_lt hmy; exact wf_u64_of this.1 (by omega)
    have hP := fun W => hput_any true h.b (obK h a) (obN h a) W
    rw [e2]
    rw [ho] at hG
    generalize hputW true h.b (obK h a) (obN h a) = X at *
    generalize hmayB true h.b (obK h a) (obN h a) = M at *
    generalize obC h a = C at *
    generalize obK h a = K at *
    generalize obN h a = N at *
    clear e2 hF eC eK eN hmy hS
    go_enter Tryd.func36, Tryd.ntmps36
    go_upto_region 1 with fail
    rw [← hw0]
    clear hw0
    go_upto_region 4 with (first
    | (go_at_call 48; refine Calls.mono (hG) ?_; rintro e w' ⟨rfl, hb⟩; obtain ⟨hc, hf, hb, hz⟩ := bstep hb (w := w0) (by go_grown); try simp only [World.size_alloc, World.size_setCell, World.size_drew] at hc hf hz)
    )
    obtain ⟨w4, hw4⟩ : ∃ w4, w4 = w'.alloc (.cells #[.bool true, .bool C, .int .i64 K, .int .i64 N] 52) := ⟨_, rfl⟩
    have hB4 : Below w0.heap.size w0 w4 := by rw [hw4]; exact hb.alloc hb.size _
    have gX : Box4 w'.heap.size (.bool true) (.bool C) (.int .i64 K) (.int .i64 N) w4 := by rw [hw4]; exact Box4.new _ _ _ _ _ _
    have hSl : w0.heap.size ≤ w'.heap.size := hb.size
    rw [← hw4]
    clear hw4 hb hc hf hz x0 x1 x2 y0 y1 y2 f0 f1 f2 hG
    generalize w'.heap.size = B6 at *
    replace gB := gB.below hB4
    replace gR := gR.below hB4
    have hat4 := hat.below hB4
    have hbW := bjoin hB4 hst
    obtain ⟨-, x0, x1, x2, -, -, -⟩ := id gB
    obtain ⟨lX, z0, z1, z2, z3, g0, g1, g2, g3⟩ := id gX
    go_upto_region 5 with fail
    obtain ⟨w5, hw5⟩ : ∃ w5, w5 = w4.setCell ⟨B6, 1, none⟩ (.bool h.b) := ⟨_, rfl⟩
    have gX5 : Box4 B6 (.bool true) (.bool h.b) (.int .i64 K) (.int .i64 N) w5 := by
      rw [hw5]
      refine ⟨by simpa [World.setCell] using lX, ?_, ?_, ?_, ?_, ?_, ?_, ?_, ?_⟩ <;> simp [go_sem, *]
    have hne : ∀ (p : Option Addr), (∀ b off sp, p = some ⟨b, off, sp⟩ → b < w.heap.size) → ∀ b off sp, p = some ⟨b, off, sp⟩ → b ≠ B6 := fun p hp b off sp e => by have := hp b off sp e; have := hst.size; omega
    have hlow := hh.in.lower hF'.out
    have hin5 : HpIn w5 p h.n c q h.m d h.b h := by rw [hw5]; exact hat4.in.setCell ⟨hne p hlow.1, hne q hlow.2⟩ _ _
    have gB5 : Box3 w.heap.size (.slice p h.n c) (.slice q h.m d) (.bool h.b) w5 := by rw [hw5]; exact gB.other (by have := hst.size; omega) _ _
    have hst2 : w.heap.size + 2 ≤ w0.heap.size := lR
    have gR5 : Box3 (w.heap.size + 1) (.slice none 0 0) (.slice none 0 0) (.bool false) w5 := by rw [hw5]; exact gR.other (by omega) _ _
    have hb5 : Below w.heap.size w w5 := by rw [hw5]; exact hbW.setCell (by show w.heap.size ≤ B6; omega) _
    rw [← hw5]
    clear hw5 x0 x1 x2 lX z0 z1 z2 z3 g0 g1 g2 g3 gX gB gR hat4 hbW hne
    obtain ⟨l5, x0, x1, x2, -, -, -⟩ := id gB5
    obtain ⟨l6, y0, y1, y2, f0, f1, f2⟩ := id gR5
    obtain ⟨lX, z0, z1, z2, z3, -, -, -, -⟩ := id gX5
    have hs5 := hb5.size
    have hl5 : w.heap.size + 2 ≤ w5.heap.size := by omega
    go_wp2_with (first
    | (go_at_call 49; refine Calls.mono (hP _) ?_; rintro e w' ⟨rfl, hb⟩; obtain ⟨hc, hf, hb, hz⟩ := bstep hb (w := w5) (by go_grown); try simp only [World.size_alloc, World.size_setCell, World.size_drew] at hc hf hz)
    | (go_at_call 50; refine Calls.mono (ostore_any _ _ _ _ h _ X _ (hin5.at'.below (by go_grown)) hF'.out a0 a1 hwd) ?_; rintro e w' ⟨p', c', q', d', rfl, hown, hb⟩; obtain ⟨hc, hf, hb, hz⟩ := bstep hb (w := w5) (by go_grown); try simp only [World.size_alloc, World.size_setCell, World.size_drew] at hc hf hz)
    )
    have hbS := hb
    refine bodyPost_ret (by simp [results, Tryd.results36, go_sem, *]; try rfl) rfl ?_
    have hz3 := (((hown.under (g := w.heap.size + 1) (by omega) 0 (.slice p' h.n c')).under (g := w.heap.size + 1) (by omega) 1 (.slice q' h.m d')).under (g := w.heap.size + 1) (by omega) 2 (.bool h.b)).lower (show w.heap.size ≤ _ by omega)
    exact ⟨p', c', q', d', rfl, hz3.at, ⟨fun _ => ⟨hz3.newW, hz3.newS⟩, fun h => (by cases h)⟩, (((bjoin hbS hb5).setCell (Nat.le_succ _) _).setCell (Nat.le_succ _) _).setCell (Nat.le_succ _) _⟩
end Go.Proofs.YtokbggokkjefhaaDoor
