/- Contracts of the code's object.store, object.Set, object.Paint (chapter 8). -/
import Derived.Test.YtiofeebiejkajaaDoorB17
import Derived.RangeFuncBox
import Derived.RangeFuncNested
import Derived.RangeFuncLeaves
import Derived.RangeFuncCalls
import Derived.Shelf.Abstract
import Derived.WalkKit
import Derived.OwnWalkIn
import Derived.TacticsInMore
import Derived.LoopNIn
import Derived.LoopIn
import Derived.Maps.AppendAt
namespace Go.Proofs.YtiofeebiejkajaaDoor
set_option linter.unusedSimpArgs false
set_option linter.unusedVariables false
open Go.ChangeShapes Go.WideShapes Go.ChangeAt Go.RowKit Go.Joins

set_option maxHeartbeats 2000000 in
theorem ostore_any (p : Option Addr) (c : Nat) (q : Option Addr) (d : Nat) (h : Hp) (g x : Int) (w : World) (hh : HpAt w p c q d h) (hF : formB h = true) (g0 : 0 ≤ g) (g1 : g < h.n) (hx : (Lit.int .u64 x).wf = true) :
    Calls Tryd.prog 95 #[.agg #[.slice p h.n c, .slice q h.m d, .bool h.b], .int .i64 g, .int .u64 x] w fun e w' => ∃ p' c' q' d', e = .returned (.agg #[.slice p' h.n c', .slice q' h.m d', .bool h.b]) ∧
      HpOwn w' w.heap.size p' c' q' d' (putH h g x) ∧ Below w.heap.size w w' := by
  obtain ⟨w0, hw0, gB, gR, hst⟩ := boxed2 (w := w) (v0 := .slice p h.n c) (v1 := .slice q h.m d) (v2 := .bool h.b) (u0 := .slice none 0 0) (u1 := .slice none 0 0) (u2 := .bool false) (t := 25)
  have hat := hh.below hst
  have hF' : Hid (formB h = true) := hF
  have hn0 : 0 < h.n := by omega
  have hnl : h.n ≤ 512 := by have := form_iff.1 hF; omega
  have hlR : w.heap.size + 1 < w0.heap.size := gR.1
  clear hF hh
  go_enter Tryd.func95, Tryd.ntmps95
  go_upto_region 1 with fail
  rw [← hw0]
  clear hw0
  refine wp_clone_copy (s := 8) (h' := 3) (d' := 7) (pos := "object.go:118") (by kernel_rfl) (by decide) (by decide) (by decide) (by simp) hF'.out hat gB rfl ?_
  intro y0 y1 y2 y3 y4 y5 y6 y7 y8 B7 p' c' q' d' w4 hown g7 hl7 n1 n2 hb4
  simp only [puts, Act.put]
  obtain ⟨gw, rfl, hgw, hgw'⟩ := hown.word hn0
  have m1 : ¬ B7 = gw := fun e => n1 (by rw [e]; rfl)
  obtain ⟨⟨u, u0⟩, u1, ho⟩ := hown.store g0 g1 hx
  replace gR := gR.below hb4
  have hbW := bjoin hb4 hst
  obtain ⟨lG, z0, z1, z2, -, -, -⟩ := id g7
  clear n1 n2 hat gB hown
  go_upto_region 3 with fail
  obtain ⟨w8, hw8⟩ : ∃ w8, w8 = w4.setCell ⟨gw, g.toNat, none⟩ (.int .u64 x) := ⟨_, rfl⟩
  replace g7 : Box3 B7 (.slice (some ⟨gw, 0, none⟩) h.n c') (.slice q' h.m d') (.bool h.b) w8 := by rw [hw8]; exact g7.other (fun e => m1 e.symm) _ _
  replace gR : Box3 (w.heap.size + 1) (.slice none 0 0) (.slice none 0 0) (.bool false) w8 := by rw [hw8]; exact gR.other (by omega) _ _
  have hb8 : Below w.heap.size w w8 := by rw [hw8]; exact hbW.setCell (by show w.heap.size ≤ gw; omega) _
  rw [← hw8] at ho ⊢
  clear hw8 u0 u1 lG z0 z1 z2 hb4 hbW
  obtain ⟨lG, z0, z1, z2, -, -, -⟩ := g7
  obtain ⟨lR, v0, v1, v2, f0, f1, f2⟩ := gR
  go_wp2
  refine bodyPost_ret (by simp [results, Tryd.results95, go_sem, *]; try rfl) rfl ?_
  have hz := (((ho.under (g := w.heap.size + 1) (by omega) 0 (.slice (some ⟨gw, 0, none⟩) h.n c')).under (g := w.heap.size + 1) (by omega) 1 (.slice q' h.m d')).under (g := w.heap.size + 1) (by omega) 2 (.bool h.b)).lower (show w.heap.size ≤ w0.heap.size by omega)
  exact ⟨some ⟨gw, 0, none⟩, c', q', d', rfl, hz, ((hb8.setCell (Nat.le_succ _) _).setCell (Nat.le_succ _) _).setCell (Nat.le_succ _) _⟩

set_option maxHeartbeats 4000000 in
theorem opaint_any (p : Option Addr) (c : Nat) (q : Option Addr) (d : Nat) (h : Hp) (a : Int) (w : World) (hS : Sz w) (hh : HpAt w p c q d h) (hF : formB h = true) :
    Calls Tryd.prog 87 #[.agg #[.slice p h.n c, .slice q h.m d, .bool h.b], .int .i64 a] w fun e w' => ∃ p' c' q' d', e = .returned (.tuple #[.agg #[.slice p' h.n c', .slice q' h.m d', .bool h.b], .bool (obB h a)]) ∧
      HpAt w' p' c' q' d' (paH h a) ∧ Src w.heap.size (obB h a) h.n h.m p c q d p' c' q' d' ∧ Below w.heap.size w w' := by
  obtain ⟨w0, hw0, gB, gR, hst⟩ := boxed2 (w := w) (v0 := .slice p h.n c) (v1 := .slice q h.m d) (v2 := .bool h.b) (u0 := .slice none 0 0) (u1 := .slice none 0 0) (u2 := .bool false) (t := 25)
  have hat := hh.below hst
  have hG := oget_any p c q d h a w0 (hS.below hst) hat hF
  obtain ⟨l0, x0, x1, x2, -, -, -⟩ := id gB
  obtain ⟨lR, y0, y1, y2, f0, f1, f2⟩ := id gR
  have hF' : Hid (formB h = true) := hF
  cases ho : obB h a with
  | false =>
    have e2 : paH h a = h := by unfold paH; rw [if_neg (by simp [ho])]
    rw [e2]
    rw [ho] at hG
    generalize obC h a = C at *
    generalize obK h a = K at *
    generalize obN h a = N at *
    clear e2 hF hS
    go_enter Tryd.func87, Tryd.ntmps87
    go_upto_region 1 with fail
    rw [← hw0]
    clear hw0
    go_wp2_with (first
    | (go_at_call 53; refine Calls.mono (hG) ?_; rintro e w' ⟨rfl, hb⟩; obtain ⟨hc, hf, hb, hz⟩ := bstep hb (w := w0) (by go_grown); try simp only [World.size_alloc, World.size_setCell, World.size_drew] at hc hf hz)
    )
    refine bodyPost_ret (by simp [results, Tryd.results87, go_sem, *]; try rfl) rfl ?_
    have hbb := ((((bjoin hb hst).alloc (by have := hst.size; omega) (.cells #[.bool false, .bool C, .int .i64 K, .int .i64 N] 62)).setCell (p := ⟨w.heap.size + 1, 0, none⟩) (Nat.le_succ _) (.slice p h.n c)).setCell (p := ⟨w.heap.size + 1, 1, none⟩) (Nat.le_succ _) (.slice q h.m d)).setCell (p := ⟨w.heap.size + 1, 2, none⟩) (Nat.le_succ _) (.bool h.b)
    exact ⟨p, c, q, d, rfl, hh.below hbb, ⟨fun h => (by cases h), fun _ => ⟨rfl, rfl, rfl, rfl⟩⟩, hbb⟩
  | true =>
    obtain ⟨-, -, a0, a1, -, -, eC, eK, eN, hmy⟩ := ob_spec hF ho
    rw [← eK, ← eN] at hmy
    replace hmy := may_any_colour (c' := h.b) hmy
    have e2 : paH h a = putH h a (hputW true h.b (obK h a) (obN h a)) := by unfold paH; rw [if_pos ho]
    have hwd : (Lit.int .u64 (hputW true h.b (obK h a) (obN h a))).wf = true := by have := hput_lt hmy; exact wf_u64_of this.1 (by omega)
    have hP := fun W => hput_any true h.b (obK h a) (obN h a) W
    rw [e2]
    rw [ho] at hG
    generalize hputW true h.b (obK h a) (obN h a) = X at *
    generalize hmayB true h.b (obK h a) (obN h a) = M at *
    generalize obC h a = C at *
    generalize obK h a = K at *
    generalize obN h a = N at *
    clear e2 hF eC eK eN hmy hS
    go_enter Tryd.func87, Tryd.ntmps87
    go_upto_region 1 with fail
    rw [← hw0]
    clear hw0
    go_upto_region 4 with (first
    | (go_at_call 53; refine Calls.mono (hG) ?_; rintro e w' ⟨rfl, hb⟩; obtain ⟨hc, hf, hb, hz⟩ := bstep hb (w := w0) (by go_grown); try simp only [World.size_alloc, World.size_setCell, World.size_drew] at hc hf hz)
    )
    obtain ⟨w4, hw4⟩ : ∃ w4, w4 = w'.alloc (.cells #[.bool true, .bool C, .int .i64 K, .int .i64 N] 62) := ⟨_, rfl⟩
    have hB4 : Below w0.heap.size w0 w4 := by rw [hw4]; exact hb.alloc hb.size _
    have gX : Box4 w'.heap.size (.bool true) (.bool C) (.int .i64 K) (.int .i64 N) w4 := by rw [hw4]; exact Box4.new _ _ _ _ _ _
    have hSl : w0.heap.size ≤ w'.heap.size := hb.size
    rw [← hw4]
    clear hw4 hb hc hf hz x0 x1 x2 y0 y1 y2 f0 f1 f2 hG
    generalize w'.heap.size = B6 at *
    replace gB := gB.below hB4
    replace gR := gR.below hB4
    have hat4 := hat.below hB4
    have hbW := bjoin hB4 hst
    obtain ⟨-, x0, x1, x2, -, -, -⟩ := id gB
    obtain ⟨lX, z0, z1, z2, z3, g0, g1, g2, g3⟩ := id gX
    go_upto_region 5 with fail
    obtain ⟨w5, hw5⟩ : ∃ w5, w5 = w4.setCell ⟨B6, 1, none⟩ (.bool h.b) := ⟨_, rfl⟩
    have gX5 : Box4 B6 (.bool true) (.bool h.b) (.int .i64 K) (.int .i64 N) w5 := by
      rw [hw5]
      refine ⟨by simpa [World.setCell] using lX, ?_, ?_, ?_, ?_, ?_, ?_, ?_, ?_⟩ <;> simp [go_sem, *]
    have hne : ∀ (p : Option Addr), (∀ b off sp, p = some ⟨b, off, sp⟩ → b < w.heap.size) → ∀ b off sp, p = some ⟨b, off, sp⟩ → b ≠ B6 := fun p hp b off sp e => by have := hp b off sp e; have := hst.size; omega
    have hlow := hh.in.lower hF'.out
    have hin5 : HpIn w5 p h.n c q h.m d h.b h := by rw [hw5]; exact hat4.in.setCell ⟨hne p hlow.1, hne q hlow.2⟩ _ _
    have gB5 : Box3 w.heap.size (.slice p h.n c) (.slice q h.m d) (.bool h.b) w5 := by rw [hw5]; exact gB.other (by have := hst.size; omega) _ _
    have hst2 : w.heap.size + 2 ≤ w0.heap.size := lR
    have gR5 : Box3 (w.heap.size + 1) (.slice none 0 0) (.slice none 0 0) (.bool false) w5 := by rw [hw5]; exact gR.other (by omega) _ _
    have hb5 : Below w.heap.size w w5 := by rw [hw5]; exact hbW.setCell (by show w.heap.size ≤ B6; omega) _
    rw [← hw5]
    clear hw5 x0 x1 x2 lX z0 z1 z2 z3 g0 g1 g2 g3 gX gB gR hat4 hbW hne
    obtain ⟨l5, x0, x1, x2, -, -, -⟩ := id gB5
    obtain ⟨l6, y0, y1, y2, f0, f1, f2⟩ := id gR5
    obtain ⟨lX, z0, z1, z2, z3, -, -, -, -⟩ := id gX5
    have hs5 := hb5.size
    have hl5 : w.heap.size + 2 ≤ w5.heap.size := by omega
    go_wp2_with (first
    | (go_at_call 86; refine Calls.mono (hP _) ?_; rintro e w' ⟨rfl, hb⟩; obtain ⟨hc, hf, hb, hz⟩ := bstep hb (w := w5) (by go_grown); try simp only [World.size_alloc, World.size_setCell, World.size_drew] at hc hf hz)
    | (go_at_call 95; refine Calls.mono (ostore_any _ _ _ _ h _ X _ (hin5.at'.below (by go_grown)) hF'.out a0 a1 hwd) ?_; rintro e w' ⟨p', c', q', d', rfl, hown, hb⟩; obtain ⟨hc, hf, hb, hz⟩ := bstep hb (w := w5) (by go_grown); try simp only [World.size_alloc, World.size_setCell, World.size_drew] at hc hf hz)
    )
    have hbS := hb
    refine bodyPost_ret (by simp [results, Tryd.results87, go_sem, *]; try rfl) rfl ?_
    have hz3 := (((hown.under (g := w.heap.size + 1) (by omega) 0 (.slice p' h.n c')).under (g := w.heap.size + 1) (by omega) 1 (.slice q' h.m d')).under (g := w.heap.size + 1) (by omega) 2 (.bool h.b)).lower (show w.heap.size ≤ _ by omega)
    exact ⟨p', c', q', d', rfl, hz3.at, ⟨fun _ => ⟨hz3.newW, hz3.newS⟩, fun h => (by cases h)⟩, (((bjoin hbS hb5).setCell (Nat.le_succ _) _).setCell (Nat.le_succ _) _).setCell (Nat.le_succ _) _⟩
end Go.Proofs.YtiofeebiejkajaaDoor
namespace Go.Proofs.YtiofeebiejkajaaDoor
set_option linter.unusedSimpArgs false
set_option linter.unusedVariables false
open Go.ChangeShapes Go.WideShapes Go.ChangeAt Go.RowKit Go.Joins

attribute [local go_sem] Oper.semAt_some

def obL (h : Hp) : Nat → List Int
  | 0 => []
  | k + 1 => if obB h k = true then obL h k ++ [(k : Int)] else obL h k
theorem obL_yes {h : Hp} {k : Nat} (e : obB h k = true) : obL h (k + 1) = obL h k ++ [(k : Int)] := by simp [obL, e]
theorem obL_no {h : Hp} {k : Nat} (e : obB h k = false) : obL h (k + 1) = obL h k := by simp [obL, e]
theorem obL_len (h : Hp) : ∀ k, (obL h k).length ≤ k
  | 0 => by simp [obL]
  | k + 1 => by
    have := obL_len h k
    unfold obL
    split
    · simp; omega
    · omega
theorem obL_mem (h : Hp) (x : Int) : ∀ k : Nat, x ∈ obL h k ↔ 0 ≤ x ∧ x < k ∧ obB h x = true
  | 0 => by simp [obL]; omega
  | k + 1 => by
    have ih := obL_mem h x k
    by_cases e : obB h k = true
    · rw [obL_yes e, List.mem_append, ih]
      simp only [List.mem_cons, List.not_mem_nil, or_false]
      constructor
      · rintro (⟨a, b, c⟩ | rfl)
        · exact ⟨a, by omega, c⟩
        · exact ⟨by omega, by omega, e⟩
      · rintro ⟨a, b, c⟩
        by_cases ex : x = k
        · exact .inr ex
        · exact .inl ⟨a, by omega, c⟩
    · rw [obL_no (by simpa using e), ih]
      constructor
      · rintro ⟨a, b, c⟩; exact ⟨a, by omega, c⟩
      · rintro ⟨a, b, c⟩
        by_cases ex : x = k
        · subst ex; exact absurd c e
        · exact ⟨a, by omega, c⟩
theorem obL_rise (h : Hp) : ∀ k : Nat, (obL h k).Pairwise (· < ·)
  | 0 => by simp [obL]
  | k + 1 => by
    have ih := obL_rise h k
    by_cases e : obB h k = true
    · rw [obL_yes e, List.pairwise_append]
      refine ⟨ih, by simp, fun a ha b hb => ?_⟩
      simp only [List.mem_cons, List.not_mem_nil, or_false] at hb
      subst hb
      exact ((obL_mem h a k).1 ha).2.1
    · rw [obL_no (by simpa using e)]; exact ih
theorem map_vals (k : IntKind) (L : List Int) : L.map (Value.int k) = vals k L.length fun i => L[i]?.getD 0 := by
  apply List.ext_getElem
  · simp [vals]
  · intro i h1 h2
    have : i < L.length := by simpa using h1
    simp [vals, this]

end Go.Proofs.YtiofeebiejkajaaDoor
namespace Go.Proofs.YtiofeebiejkajaaDoor
set_option linter.unusedSimpArgs false
set_option linter.unusedVariables false
open Go.ChangeShapes Go.WideShapes Go.ChangeAt Go.RowKit Go.Joins

/-- The first k fields' references. -/
def rfL (h : Hp) (a : Int) : Nat → List Int
  | 0 => []
  | k + 1 => if getK (woH h (a + 1 + k)) = 2 then rfL h a k ++ [getN (woH h (a + 1 + k))] else rfL h a k
theorem rfL_yes {h : Hp} {a : Int} {k : Nat} (e : getK (woH h (a + 1 + k)) = 2) : rfL h a (k + 1) = rfL h a k ++ [getN (woH h (a + 1 + k))] := by simp only [rfL]; rw [if_pos e]
theorem rfL_no {h : Hp} {a : Int} {k : Nat} (e : ¬ getK (woH h (a + 1 + k)) = 2) : rfL h a (k + 1) = rfL h a k := by simp only [rfL]; rw [if_neg e]
theorem rfL_len (h : Hp) (a : Int) : ∀ k, (rfL h a k).length ≤ k
  | 0 => by simp [rfL]
  | k + 1 => by
    have := rfL_len h a k
    by_cases e : getK (woH h (a + 1 + k)) = 2
    · rw [rfL_yes e]; simp; omega
    · rw [rfL_no e]; omega
def rfH (h : Hp) (a : Int) : List Int := rfL h a (obN h a).toNat
theorem int_info' : (Tryd.prog.info? 3).map (fun i => (i.zero, i.size, i.bytes)) = some (some (.int .i64 0), 1, 8) := by kernel_rfl

theorem ob_room {h : Hp} {a : Int} (hF : formB h = true) (e : obB h a = true) : a + 1 < h.n := by
  obtain ⟨hf, -, a0, a1, -, a3, -⟩ := ob_spec hF e
  obtain ⟨-, -, -, -, -, i0, i1, ea⟩ := fi_spec hF hf
  rcases cl_cases (spH h (a / 32)).cl with ⟨-, e1, e2, -⟩ | ⟨-, e1, e2, -⟩ | ⟨-, e1, e2, -⟩ | ⟨-, e1, e2, -⟩ | ⟨-, e1, e2, -⟩
  all_goals
    rw [e1] at ea
    rw [e2] at i1
    omega
end Go.Proofs.YtiofeebiejkajaaDoor
namespace Go.Proofs.YtiofeebiejkajaaDoor
set_option linter.unusedSimpArgs false
set_option linter.unusedVariables false
open Go.ChangeShapes Go.WideShapes Go.ChangeAt Go.RowKit Go.Joins

theorem pa_n (h : Hp) (a : Int) : (paH h a).n = h.n ∧ (paH h a).m = h.m ∧ (paH h a).b = h.b := by unfold paH; split <;> exact ⟨rfl, rfl, rfl⟩
theorem wf_i64_of {a : Int} (h0 : -9223372036854775808 ≤ a) (h1 : a ≤ 9223372036854775807) : (Lit.int .i64 a).wf = true := by
  simp [Lit.wf, IntKind.min, IntKind.max, IntKind.signed, IntKind.bits]; omega
theorem get_wf {X : Int} (h : 0 ≤ X ∧ X < 18446744073709551616) : (Lit.int .i64 (getN X)).wf = true := by
  have : 0 ≤ getN X ∧ getN X < 9223372036854775808 := by unfold getN; split; · omega
                                                         split <;> omega
  exact wf_i64_of (by omega) (by omega)
/-- What a call answers: a row of numbers of its own. -/
structure NumRow (B : Nat) (L : List Int) (W : World) (p : Option Addr) (c : Nat) : Prop where
  ints : Ints .i64 W p L.length fun i => L[i]?.getD 0
  new : ∀ b off sp, p = some ⟨b, off, sp⟩ → B ≤ b
theorem NumRow.below {B : Nat} {L : List Int} {W W' : World} {p : Option Addr} {c : Nat} (r : NumRow B L W p c) (hb : Below W.heap.size W W') : NumRow B L W' p c := ⟨r.ints.below hb, r.new⟩
theorem row_owned {W : World} {B : Nat} {e : TypeId} {v : Value} {L : List Int} (h : W.ownsRow B e 1 v L.length (L.map (Value.int .i64))) (hw : ∀ x ∈ L, (Lit.int .i64 x).wf = true) : ∃ p c, v = .slice p L.length c ∧ NumRow B L W p c := by
  obtain ⟨p, c, rfl, hn⟩ := owned_new h
  rw [map_vals] at h
  exact ⟨p, c, rfl, ints_owned h fun i hi => by
    have : L[i]?.getD 0 = L[i] := by simp [hi]
    rw [this]; exact hw _ (List.getElem_mem hi), hn⟩
theorem obL_wf (h : Hp) (hn : h.n ≤ 512) : ∀ x ∈ obL h h.n, (Lit.int .i64 x).wf = true := fun x hx => by
  obtain ⟨h0, h1, -⟩ := (obL_mem h x h.n).1 hx
  exact wf_i64_of (by omega) (by omega)
theorem rfL_wf {h : Hp} (hw : h.wf) {a : Int} (a0 : 0 ≤ a) : ∀ k : Nat, a + k < h.n → ∀ x ∈ rfL h a k, (Lit.int .i64 x).wf = true
  | 0, _ => by simp [rfL]
  | k + 1, hk => by
    have ih := rfL_wf hw a0 k (by omega)
    by_cases e : getK (woH h (a + 1 + k)) = 2
    · rw [rfL_yes e]
      intro x hx
      simp only [List.mem_append, List.mem_cons, List.not_mem_nil, or_false] at hx
      rcases hx with hx | rfl
      · exact ih x hx
      · exact get_wf (wo_wf hw (by omega) (by omega))
    · rw [rfL_no e]; exact ih
theorem rfH_wf {h : Hp} (hw : h.wf) (hF : formB h = true) (a : Int) : ∀ x ∈ rfH h a, (Lit.int .i64 x).wf = true := by
  unfold rfH
  cases ho : obB h a with
  | false => rw [(ob_no ho).2.2]; intro x hx; cases hx
  | true =>
    obtain ⟨-, -, a0, a1, a2, a3, -, -, a4, -⟩ := ob_spec hF ho
    have hN := gN_bound (X := woH h a)
    rw [← a4] at hN a2
    exact rfL_wf hw a0 _ (by omega)
/-- A variable of two cells. -/
structure Box2 (b : Nat) (x y : Value) (W : World) : Prop where
  lt : b < W.heap.size
  c0 : W.cell? ⟨b, 0, none⟩ = some x
  c1 : W.cell? ⟨b, 1, none⟩ = some y
theorem Box2.below {b : Nat} {x y : Value} {W W' : World} (h : Box2 b x y W) (hb : Below W.heap.size W W') : Box2 b x y W' :=
  ⟨Nat.lt_of_lt_of_le h.lt hb.size, (hb.cell (p := ⟨b, 0, none⟩) h.lt).trans h.c0, (hb.cell (p := ⟨b, 1, none⟩) h.lt).trans h.c1⟩
theorem Box2.other {b : Nat} {x y : Value} {W : World} (h : Box2 b x y W) {g : Nat} (hg : ¬ g = b) (o : Nat) (u : Value) : Box2 b x y (W.setCell ⟨g, o, none⟩ u) := by
  refine ⟨by simpa [World.setCell] using h.lt, ?_, ?_⟩
  · rw [World.cell?_of_block (w := W) (a := ⟨b, 0, none⟩) (Below.heap_setCell W ⟨g, o, none⟩ u b (fun e => hg e.symm))]; exact h.c0
  · rw [World.cell?_of_block (w := W) (a := ⟨b, 1, none⟩) (Below.heap_setCell W ⟨g, o, none⟩ u b (fun e => hg e.symm))]; exact h.c1
theorem Box2.new (W : World) (x y : Value) (t : TypeId) : Box2 W.heap.size x y (W.alloc (.cells #[x, y] t)) := by
  have hg := heap_alloc_new W (.cells #[x, y] t)
  exact ⟨by simp, by rw [cell_of_row _ _ _ _ _ _ hg]; rfl, by rw [cell_of_row _ _ _ _ _ _ hg]; rfl⟩
theorem NumRow.setCell {B : Nat} {L : List Int} {W : World} {p : Option Addr} {c : Nat} (r : NumRow B L W p c) {g : Nat} (hg : g < B) (o : Nat) (u : Value) : NumRow B L (W.setCell ⟨g, o, none⟩ u) p c :=
  ⟨r.ints.setCell (fun b off e => by have := r.new b off none e; omega) o u, r.new⟩
section
variable {p : Option Addr} {n c : Nat} {q : Option Addr} {m d : Nat} {b : Bool} {h : Hp} {w : World}
theorem oget_in {a : Int} (hS : Sz w) (hh : HpIn w p n c q m d b h) (hF : formB h = true) :
    Calls Tryd.prog 53 #[.agg #[.slice p n c, .slice q m d, .bool b], .int .i64 a] w fun e w' => e = .returned (.tuple #[.agg #[.bool (obB h a), .bool (obC h a), .int .i64 (obK h a), .int .i64 (obN h a)], .bool (obB h a)]) ∧ Below w.heap.size w w' := by
  obtain ⟨rfl, rfl, rfl, hh⟩ := hh
  exact oget_any _ _ _ _ _ _ _ hS hh hF
theorem ofield_in {a i : Int} (hS : Sz w) (hh : HpIn w p n c q m d b h) (hF : formB h = true) :
    Calls Tryd.prog 52 #[.agg #[.slice p n c, .slice q m d, .bool b], .int .i64 a, .int .i64 i] w fun e w' => e = .returned (.tuple #[.agg #[.int .i64 (getK (fdX h a i)), .int .i64 (getN (fdX h a i))], .int .i64 (fdE h a i)]) ∧ Below w.heap.size w w' := by
  obtain ⟨rfl, rfl, rfl, hh⟩ := hh
  exact ofield_any _ _ _ _ _ _ _ _ hS hh hF
theorem oblack_in {a : Int} (hS : Sz w) (hh : HpIn w p n c q m d b h) (hF : formB h = true) :
    Calls Tryd.prog 56 #[.agg #[.slice p n c, .slice q m d, .bool b], .int .i64 a] w fun e w' => e = .returned (.bool (blB h a)) ∧ Below w.heap.size w w' := by
  obtain ⟨rfl, rfl, rfl, hh⟩ := hh
  exact oblack_any _ _ _ _ _ _ _ hS hh hF
theorem opaint_in {a : Int} (hS : Sz w) (hh : HpIn w p n c q m d b h) (hF : formB h = true) :
    Calls Tryd.prog 87 #[.agg #[.slice p n c, .slice q m d, .bool b], .int .i64 a] w fun e w' => ∃ p' c' q' d', e = .returned (.tuple #[.agg #[.slice p' n c', .slice q' m d', .bool b], .bool (obB h a)]) ∧
      HpIn w' p' n c' q' m d' b (paH h a) ∧ Src w.heap.size (obB h a) n m p c q d p' c' q' d' ∧ Below w.heap.size w w' := by
  obtain ⟨rfl, rfl, rfl, hh⟩ := hh
  refine Calls.mono (opaint_any _ _ _ _ _ a _ hS hh hF) ?_
  rintro e w' ⟨p', c', q', d', rfl, h1, h2, h3⟩
  obtain ⟨a1, a2, a3⟩ := pa_n h a
  exact ⟨p', c', q', d', rfl, ⟨a1.symm, a2.symm, a3.symm, h1⟩, h2, h3⟩
end
end Go.Proofs.YtiofeebiejkajaaDoor
