/- Contracts of the code's heap.changeSpan, of whatever closure, and of Open and Close (chapter 7). -/
import Derived.Test.YtjlflbaglaillaaDoorHeap
namespace Go.Proofs.YtjlflbaglaillaaDoor
set_option linter.unusedSimpArgs false
set_option linter.unusedVariables false
open Go.ChangeShapes Go.WideShapes Go.ChangeAt Go.RowKit Go.Joins

/-- What changeSpan leaves: W1 where the closure is called, W2 behind it. -/
structure Changed (w : World) (h : Hp) (g : Int) (x : Sp) (ok : Bool) (T : Nat → Prop) (R : World → World → Prop) (p : Option Addr) (c : Nat) (q : Option Addr) (d : Nat) (p' : Option Addr) (c' : Nat) (q' : Option Addr) (d' : Nat) (w' : World) : Prop where
  new : ok = true → HpOwn w' w.heap.size p' c' q' d' (withS h g x)
  old : ok = false → p' = p ∧ c' = c ∧ q' = q ∧ d' = d
  way : ∃ W1 W2, Below w.heap.size w W1 ∧ Aside T W1 W2 ∧ R W1 W2 ∧ Below w.heap.size W2 w'
set_option maxHeartbeats 4000000 in
theorem change_in {p : Option Addr} {c : Nat} {q : Option Addr} {d : Nat} {h : Hp} {w : World} {k : FuncId} {caps : Array Value} (hk : ∀ args w, (callFunc k args).run Tryd.prog w = .ok (.enter k args) w)
    {g : Int} {x : Sp} {ok : Bool} {T : Nat → Prop} {R : World → World → Prop} (hh : HpAt w p c q d h) (hF : formB h = true) (hx : ok = true → x.wf) (hT : ∀ t, T t → t < w.heap.size ∧ Clear t p q) (g0 : 0 ≤ g) (g1 : g < h.m)
    (hcl : ∀ W1, Below w.heap.size w W1 → Calls Tryd.prog k (#[.agg #[.int .i64 (spH h g).st, .int .i64 (spH h g).cl, .int .u32 (spH h g).fr]] ++ caps) W1 fun e W2 => e = .returned (.tuple #[.agg #[.int .i64 x.st, .int .i64 x.cl, .int .u32 x.fr], .bool ok]) ∧ Aside T W1 W2 ∧ R W1 W2) :
    Calls Tryd.prog 39 #[.agg #[.slice p h.n c, .slice q h.m d, .bool h.b], .int .i64 g, .func (.func k) #[] caps] w fun e w' => ∃ p' c' q' d', e = .returned (.tuple #[.agg #[.slice p' h.n c', .slice q' h.m d', .bool h.b], .bool ok]) ∧ Changed w h g x ok T R p c q d p' c' q' d' w' := by
  have hm16 := (form_iff.1 hF).2.1
  obtain ⟨w0, hw0, hB0, hR, hst⟩ := boxed2 (w := w) (v0 := .slice p h.n c) (v1 := .slice q h.m d) (v2 := .bool h.b) (u0 := .slice none 0 0) (u1 := .slice none 0 0) (u2 := .bool false) (t := 25)
  have hat := hh.below hst
  have gB0 := hB0
  have gR := hR
  obtain ⟨l0, x0, x1, x2, -, -, -⟩ := hB0
  obtain ⟨l1, y0, y1, y2, f0, f1, f2⟩ := hR
  have cC := hcl w0 hst
  rw [show spH h g = h.s g.toNat from rfl] at cC
  obtain ⟨⟨b, off, eq, hlt, s0, s1, s2⟩, -⟩ := hat.spans g.toNat (by omega)
  generalize h.s g.toNat = S at *
  obtain ⟨st, cl, fr⟩ := S
  simp only [] at *
  have hF' : Hid (formB h = true) := hF
  have eq' : Hid (q = some ⟨b, off, none⟩) := eq
  clear hcl hF
  subst eq
  go_enter Tryd.func39, Tryd.ntmps39
  go_upto_region 1 with fail
  rw [← hw0]
  clear hw0
  go_upto_region 4 with (first
    | (go_at_fn k; refine Calls.mono cC ?_; rintro e W2 ⟨rfl, hA, hRR⟩)
  )
  have hTb : ∀ i, w.heap.size ≤ i → ¬ T i := fun i hi t => by have := (hT i t).1; omega
  obtain ⟨w5, hw5⟩ : ∃ w5, w5 = W2.alloc (.cells #[.int .i64 x.st, .int .i64 x.cl, .int .u32 x.fr] 49) := ⟨_, rfl⟩
  have hB5 : Below W2.heap.size W2 w5 := by rw [hw5]; exact (Below.refl _ _).alloc (Nat.le_refl _) _
  have gS : SpBox W2.heap.size x.st x.cl x.fr w5 := by rw [hw5]; exact SpBox.new _ _ _ _ _
  replace gB0 := (gB0.aside hA (hTb _ (Nat.le_refl _))).below hB5
  replace gR := (gR.aside hA (hTb _ (Nat.le_succ _))).below hB5
  have hat5 := (hat.aside hA fun t ht => (hT t ht).2).below hB5
  have hsz : w.heap.size + 2 ≤ W2.heap.size := by have := hA.size; omega
  have hl5 := hB5.size
  rw [← hw5]
  clear hw5 x0 x1 x2 y0 y1 y2 f0 f1 f2 s0 s1 s2 hlt l0 l1 cC eq' hat hh
  cases ok with
  | false =>
    obtain ⟨l0, x0, x1, x2, -, -, -⟩ := gB0
    obtain ⟨l1, y0, y1, y2, f0, f1, f2⟩ := gR
    have hbW : Below w.heap.size W2 w5 := hB5.mono (by omega)
    go_wp2
    refine bodyPost_ret (by simp [results, Tryd.results39, go_sem, *]; try rfl) rfl ?_
    exact ⟨p, c, _, d, rfl, fun e => (by cases e), fun _ => ⟨rfl, rfl, rfl, rfl⟩, w0, W2, hst, hA, hRR, ((hbW.setCell (Nat.le_succ _) _).setCell (Nat.le_succ _) _).setCell (Nat.le_succ _) _⟩
  | true =>
    have g0' := gB0
    obtain ⟨l0, x0, x1, x2, -, -, -⟩ := g0'
    go_upto_region 6 with fail
    refine wp_clone_copy (s := 34) (h' := 3) (d' := 10) (pos := "heap.go:125") (by kernel_rfl) (by decide) (by decide) (by decide) (by simp) hF'.out hat5 gB0 rfl ?_
    intro y0 y1 y2 y3 y4 y5 y6 y7 y8 B7 p' c' q' d' w4 hown g7 hl7 n1 n2 hb4
    simp only [puts, Act.put]
    obtain ⟨gs, rfl, hgs, hgs'⟩ := hown.span (by omega)
    have m2 : ¬ B7 = gs := fun e => n2 (by rw [e]; rfl)
    have hst4 := hown.storeS (i := g) (x := x) g0 g1 (hx rfl)
    replace gS := gS.below (hb4.mono (by have := gS.1; omega))
    have hS1 := gS
    have hG := g7
    replace gR := gR.below hb4
    obtain ⟨lS, s0, s1, s2, -, -, -⟩ := hS1
    obtain ⟨lG, z0, z1, z2, -, -, -⟩ := hG
    obtain ⟨⟨t0, t1, t2⟩, tf, ho⟩ := hst4
    have t3 := tf (g.toNat * 3)
    have t4 := tf (g.toNat * 3 + 1)
    have t5 := tf (g.toNat * 3 + 2)
    clear tf l0 x0 x1 x2 hat5 gB0
    go_upto_region 8 with fail
    obtain ⟨w8, hw8⟩ : ∃ w8, w8 = ((w4.setCell ⟨gs, g.toNat * 3, none⟩ (.int .i64 x.st)).setCell ⟨gs, g.toNat * 3 + 1, none⟩ (.int .i64 x.cl)).setCell ⟨gs, g.toNat * 3 + 2, none⟩ (.int .u32 x.fr) := ⟨_, rfl⟩
    replace g7 : Box3 B7 (.slice p' h.n c') (.slice (some ⟨gs, 0, none⟩) h.m d') (.bool h.b) w8 := by rw [hw8]; exact ((g7.other (fun e => m2 e.symm) _ _).other (fun e => m2 e.symm) _ _).other (fun e => m2 e.symm) _ _
    replace gR : Box3 (w.heap.size + 1) (.slice none 0 0) (.slice none 0 0) (.bool false) w8 := by rw [hw8]; exact ((gR.other (by omega) _ _).other (by omega) _ _).other (by omega) _ _
    have hb8 : Below w5.heap.size w5 w8 := by rw [hw8]; exact ((hb4.setCell (by show w5.heap.size ≤ gs; omega) _).setCell (by show w5.heap.size ≤ gs; omega) _).setCell (by show w5.heap.size ≤ gs; omega) _
    rw [← hw8] at ho ⊢
    clear hw8 s0 s1 s2 lS gS z0 z1 z2 lG t0 t1 t2 t3 t4 t5 hb4 hown
    obtain ⟨lG, z0, z1, z2, -, -, -⟩ := g7
    obtain ⟨lR, v0, v1, v2, f0, f1, f2⟩ := gR
    go_wp2
    refine bodyPost_ret (by simp [results, Tryd.results39, go_sem, *]; try rfl) rfl ?_
    have hz := (((ho.under (g := w.heap.size + 1) (by omega) 0 (.slice p' h.n c')).under (g := w.heap.size + 1) (by omega) 1 (.slice (some ⟨gs, 0, none⟩) h.m d')).under (g := w.heap.size + 1) (by omega) 2 (.bool h.b)).lower (show w.heap.size ≤ w5.heap.size by omega)
    have hb5 : Below w.heap.size W2 w8 := (hB5.mono (show w.heap.size ≤ W2.heap.size by omega)).trans (hb8.mono (show w.heap.size ≤ w5.heap.size by have := hB5.size; omega))
    exact ⟨p', c', _, d', rfl, fun _ => hz, fun e => (by cases e), w0, W2, hst, hA, hRR, ((hb5.setCell (Nat.le_succ _) _).setCell (Nat.le_succ _) _).setCell (Nat.le_succ _) _⟩
theorem change_out {p : Option Addr} {c : Nat} {q : Option Addr} {d : Nat} {h : Hp} {w : World} {v : Value} {g : Int} (hh : HpAt w p c q d h) (hm16 : h.m ≤ 16) (hg : ¬ (0 ≤ g ∧ g < h.m)) :
    Calls Tryd.prog 39 #[.agg #[.slice p h.n c, .slice q h.m d, .bool h.b], .int .i64 g, v] w fun e w' => e = .returned (.tuple #[.agg #[.slice p h.n c, .slice q h.m d, .bool h.b], .bool false]) ∧ Below w.heap.size w w' := by
  by_cases hg0 : 0 ≤ g
  · have hg1 : (h.m : Int) ≤ g := by omega
    clear hg
    go_enter Tryd.func39, Tryd.ntmps39
    go_wp2
    refine bodyPost_ret (by simp [results, Tryd.results39, go_sem, *]; try rfl) rfl ?_
    exact ⟨rfl, by go_grown⟩
  · have hg1 : g < 0 := by omega
    clear hg
    go_enter Tryd.func39, Tryd.ntmps39
    go_wp2
    refine bodyPost_ret (by simp [results, Tryd.results39, go_sem, *]; try rfl) rfl ?_
    exact ⟨rfl, by go_grown⟩
end Go.Proofs.YtjlflbaglaillaaDoor
