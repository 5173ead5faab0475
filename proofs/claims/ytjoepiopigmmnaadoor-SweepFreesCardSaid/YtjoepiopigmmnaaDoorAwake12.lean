/- The awake test of layer 12's laws. -/
import Derived.Test.YtjoepiopigmmnaaDoorSweepO
import Derived.Test.YtjoepiopigmmnaaDoorMade
import Derived.Test.YtjoepiopigmmnaaDoorLate
namespace Go.Proofs.YtjoepiopigmmnaaDoor
set_option linter.unusedSimpArgs false
set_option linter.unusedVariables false
open Go.ChangeShapes Go.WideShapes Go.ChangeAt Go.RowKit Go.Joins

def dd12 : Nat → Dd := fun i => if i = 0 then ⟨0, 0, 3⟩ else if i = 1 then ⟨1, 0, 9⟩ else if i = 2 then ⟨5, 0, 0⟩ else ⟨1, 0, 8⟩
def h12 : Hp := maH (newH 1) dd12 4
def g12 : Hp := bgH h12
def y12 : Nat → Int := fun j => if j = 3 then 0 else -1
theorem made12_facts : formB h12 = true ∧ h12.b = true := by decide +kernel
theorem awake12_facts : formB g12 = true ∧ drH g12 = 1 ∧ onP g12 = some 0 ∧ onW g12 = 16 ∧ formB (onH g12 0 (fun _ => 0)) = true ∧ onP (onH g12 0 (fun _ => 0)) = none ∧ sameH (onH g12 0 (fun _ => 0)) (onH g12 1 y12) = true ∧
    obL (onH g12 0 (fun _ => 0)) (onH g12 0 (fun _ => 0)).n = [16] ∧ ((onH g12 0 (fun _ => 0)).s 0).st = 1 ∧ ((onH g12 0 (fun _ => 0)).s 0).cl = 3 ∧ ((onH g12 0 (fun _ => 0)).s 0).fr = 1 := by decide +kernel
theorem deeds12 (w : World) (t : TypeId) : Deeds (w.alloc (.cells #[.int .i64 0, .int .i64 0, .int .i64 3, .int .i64 1, .int .i64 0, .int .i64 9, .int .i64 5, .int .i64 0, .int .i64 0, .int .i64 1, .int .i64 0, .int .i64 8] t)) (some ⟨w.heap.size, 0, none⟩) 4 dd12 := by
  have hg := heap_alloc_new w (.cells #[.int .i64 0, .int .i64 0, .int .i64 3, .int .i64 1, .int .i64 0, .int .i64 9, .int .i64 5, .int .i64 0, .int .i64 0, .int .i64 1, .int .i64 0, .int .i64 8] t)
  intro i hi
  match i, hi with
  | 0, _ => exact ⟨⟨w.heap.size, 0, rfl, by simp, by rw [cell_of_row _ _ _ _ _ _ hg]; rfl, by rw [cell_of_row _ _ _ _ _ _ hg]; rfl, by rw [cell_of_row _ _ _ _ _ _ hg]; rfl⟩, by show (⟨0, 0, 3⟩ : Dd).wf; simp [Dd.wf, In64]⟩
  | 1, _ => exact ⟨⟨w.heap.size, 0, rfl, by simp, by rw [cell_of_row _ _ _ _ _ _ hg]; rfl, by rw [cell_of_row _ _ _ _ _ _ hg]; rfl, by rw [cell_of_row _ _ _ _ _ _ hg]; rfl⟩, by show (⟨1, 0, 9⟩ : Dd).wf; simp [Dd.wf, In64]⟩
  | 2, _ => exact ⟨⟨w.heap.size, 0, rfl, by simp, by rw [cell_of_row _ _ _ _ _ _ hg]; rfl, by rw [cell_of_row _ _ _ _ _ _ hg]; rfl, by rw [cell_of_row _ _ _ _ _ _ hg]; rfl⟩, by show (⟨5, 0, 0⟩ : Dd).wf; simp [Dd.wf, In64]⟩
  | 3, _ => exact ⟨⟨w.heap.size, 0, rfl, by simp, by rw [cell_of_row _ _ _ _ _ _ hg]; rfl, by rw [cell_of_row _ _ _ _ _ _ hg]; rfl, by rw [cell_of_row _ _ _ _ _ _ hg]; rfl⟩, by show (⟨1, 0, 8⟩ : Dd).wf; simp [Dd.wf, In64]⟩
theorem rmade12 (p : Option Addr) (cap : Nat) (w : World) (hin : Deeds w p 4 dd12) :
    Calls Tryd.prog 43 #[.int .i64 1, .slice p 4 cap] w fun e w' => ∃ p' c' q' d', e = .returned (.agg #[.slice p' 32 c', .slice q' 1 d', .bool true]) ∧ HpIn w' p' 32 c' q' 1 d' true h12 ∧ Below w.heap.size w w' := by
  refine Calls.mono (rmade_any 1 p 4 cap dd12 w (by decide) (by decide) hin (by decide)) ?_
  rintro e w' ⟨p', c', q', d', rfl, h1, -, -, -, hb⟩
  have e0 : (maH (newH (Int.toNat 1)) dd12 4).b = true := made12_facts.2
  rw [e0] at h1 ⊢
  exact ⟨p', c', q', d', rfl, h1, hb⟩
set_option maxHeartbeats 4000000 in
theorem small12_any (w : World) :
    Calls Tryd.prog 22 #[] w fun e w' => ∃ p' c' q' d', e = .returned (.agg #[.slice p' 32 c', .slice q' 1 d', .bool true]) ∧ HpIn w' p' 32 c' q' 1 d' true g12 ∧ Below w.heap.size w w' := by
  obtain ⟨w0, hw0⟩ : ∃ w0, w0 = w.alloc (.cells #[.slice none 0 0, .slice none 0 0, .bool false] 25) := ⟨_, rfl⟩
  have gR : Box3 w.heap.size (.slice none 0 0) (.slice none 0 0) (.bool false) w0 := by rw [hw0]; exact Box3.new _ _ _ _ _
  have hb0 : Below w.heap.size w w0 := by rw [hw0]; exact (Below.refl _ _).alloc (Nat.le_refl _) _
  have hF := made12_facts.1
  have hM := fun p cap W hin => rmade12 p cap W hin
  have hB : ∀ W p c q d, HpIn W p 32 c q 1 d true h12 → Calls Tryd.prog 24 #[.agg #[.slice p 32 c, .slice q 1 d, .bool true]] W fun e w' => ∃ p' c' q' d', e = .returned (.agg #[.slice p' 32 c', .slice q' 1 d', .bool true]) ∧ HpIn w' p' 32 c' q' 1 d' true g12 ∧ NewV W.heap.size (.slice p' 32 c') ∧ NewV W.heap.size (.slice q' 1 d') ∧ Below W.heap.size W w' := fun W p c q d hh => rbegin_in hh hF
  generalize h12 = h at *
  generalize g12 = g at *
  go_enter Tryd.func22, Tryd.ntmps22
  go_upto_region 1 with fail
  rw [← hw0]
  clear hw0
  obtain ⟨lR, y0, y1, y2, f0, f1, f2⟩ := id gR
  go_wp2_with (first
    | (go_at_call 43; refine Calls.mono (hM _ _ _ (deeds12 _ _)) ?_; rintro e w' ⟨p0, c0, q0, d0, rfl, hh0, hb⟩; obtain ⟨hc, hf, hb, hz⟩ := bstep hb (w := w0) (by go_grown); try simp only [World.size_alloc, World.size_setCell, World.size_drew] at hc hf hz)
    | (go_at_call 24; refine Calls.mono (hB _ _ _ _ _ hh0) ?_; rintro e w' ⟨p1, c1, q1, d1, rfl, hh1, hn1, hn2, hb⟩; obtain ⟨hc, hf, hb, hz⟩ := bstep hb (w := w0) (by go_grown); try simp only [World.size_alloc, World.size_setCell, World.size_drew] at hc hf hz)
  )
  refine bodyPost_ret (by simp [results, Tryd.results22, go_sem, *]; try rfl) rfl ?_
  exact ⟨p1, c1, q1, d1, rfl, hh1.stores (newV_clear hn1 hn2 (by omega)) _ _ _, below_stores (bjoin hb hb0) (Nat.le_refl _) _ _ _⟩
theorem one_ints (w : World) (x : Int) (t : TypeId) (hx : (Lit.int .i64 x).wf = true) : Ints .i64 (w.alloc (.cells #[.int .i64 x] t)) (some ⟨w.heap.size, 0, none⟩) 1 (fun _ => x) := fun i hi => by
  obtain rfl : i = 0 := by omega
  have hg := heap_alloc_new w (.cells #[.int .i64 x] t)
  exact ⟨⟨w.heap.size, 0, rfl, by simp, by rw [cell_of_row _ _ _ _ _ _ hg]; rfl⟩, hx⟩
theorem lit12 (w : World) (t : TypeId) : Ints .i64 (w.alloc (.cells #[.int .i64 (-1), .int .i64 (-1), .int .i64 (-1), .int .i64 0] t)) (some ⟨w.heap.size, 0, none⟩) (1 * 4) y12 := fun i hi => by
  have hg := heap_alloc_new w (.cells #[.int .i64 (-1), .int .i64 (-1), .int .i64 (-1), .int .i64 0] t)
  have : i = 0 ∨ i = 1 ∨ i = 2 ∨ i = 3 := by omega
  rcases this with rfl | rfl | rfl | rfl <;> exact ⟨⟨w.heap.size, 0, rfl, by simp, by rw [cell_of_row _ _ _ _ _ _ hg]; rfl⟩, by decide⟩
theorem rints12_one {p q : Option Addr} {c d : Nat} {z y : Nat → Int} {w : World} (hz : Ints .i64 w p 1 z) (hy : Ints .i64 w q 1 y) (e : z 0 = y 0) :
    Calls Tryd.prog 17 #[.slice p 1 c, .slice q 1 d] w fun e w' => e = .returned (.bool true) ∧ Below w.heap.size w w' := by
  refine Calls.mono (rints8_any p q 1 c 1 d z y w hz hy (by decide) (by decide)) ?_
  rintro e' w' ⟨rfl, hb⟩
  refine ⟨?_, hb⟩
  have : sameZ 1 z 1 y = true := by
    simp only [sameZ, decide_eq_true_eq]
    refine ⟨trivial, fun t ht => ?_⟩
    obtain rfl : t = 0 := by omega
    exact e
  rw [this]
set_option maxHeartbeats 16000000 in
set_option maxRecDepth 20000 in
theorem awake12_any (w : World) (hS : Sz w) (hT : Tab w) :
    Calls Tryd.prog 7 #[] w fun e w' => e = .returned (.bool true) ∧ Below w.heap.size w w' := by
  obtain ⟨F0, D0, P0, W0, FA, PA, SAB, LA, s0, s1, s2⟩ := awake12_facts
  have hSm := small12_any w
  generalize g12 = g at *
  generalize ea : onH g 0 (fun _ => 0) = a at *
  go_enter Tryd.func7, Tryd.ntmps7
  go_upto_region 2 with (first
    | (go_at_call 22; refine Calls.mono (hSm) ?_; rintro e w' ⟨p0, c0, q0, d0, rfl, hh0, hb⟩; obtain ⟨hc, hf, hb, hz⟩ := bstep hb (w := w) (by go_grown); try simp only [World.size_alloc, World.size_setCell, World.size_drew] at hc hf hz)
  )
  obtain ⟨w1, hw1⟩ : ∃ W, W = w'.alloc (.cells #[.slice p0 32 c0, .slice q0 1 d0, .bool true] 25) := ⟨_, rfl⟩
  have hB1 : Below w'.heap.size w' w1 := by rw [hw1]; exact (Below.refl _ _).alloc (Nat.le_refl _) _
  have gH : Box3 w'.heap.size (.slice p0 32 c0) (.slice q0 1 d0) (.bool true) w1 := by rw [hw1]; exact Box3.new _ _ _ _ _
  replace hh0 := hh0.below hB1
  have hbW := bjoin hB1 hb
  replace hS := hS.below hbW
  replace hT := hT.below hbW
  rw [← hw1]
  clear hw1 hB1 hb hc hf hz hSm
  generalize w'.heap.size = BH at *
  have hwf := hh0.at'.wf
  have eal : alA g 1 y12 17 = (onH g 1 y12, 16) := by
    rw [al_all F0 hwf (i := 1) (by omega) (by decide), al_one]
    have e0 : alA g 1 y12 0 = (g, 0) := rfl
    rw [e0]
    simp only [W0, Int.zero_add]
  generalize onH g 1 y12 = b at *
  have hOne := sone_in (pc := none) (k := 0) (cc := 0) (y := fun _ => 0) hS hT hh0 F0 (fun i hi => by omega) (by decide)
  rw [ea, P0, W0] at hOne
  simp only [Option.getD_some, Option.isSome_some] at hOne
  obtain ⟨lH, x0, x1, x2, -, -, -⟩ := id gH
  go_upto_region 3 with (first
    | (go_at_call 19; refine Calls.mono (hOne) ?_; rintro e w' ⟨p1, c1, q1, d1, rfl, hh1, -, hb⟩; obtain ⟨hc, hf, hb, hz⟩ := bstep hb (w := w1) (by go_grown); try simp only [World.size_alloc, World.size_setCell, World.size_drew] at hc hf hz)
  )
  obtain ⟨w2, hw2⟩ : ∃ W, W = w'.alloc (.cells #[.slice p1 32 c1, .slice q1 1 d1, .bool true] 25) := ⟨_, rfl⟩
  have hB2 : Below w'.heap.size w' w2 := by rw [hw2]; exact (Below.refl _ _).alloc (Nat.le_refl _) _
  have gA : Box3 w'.heap.size (.slice p1 32 c1) (.slice q1 1 d1) (.bool true) w2 := by rw [hw2]; exact Box3.new _ _ _ _ _
  have hb2 := bjoin hB2 hb
  replace hh1 := hh1.below hB2
  replace hh0 := hh0.below hb2
  replace gH := gH.below hb2
  replace hS := hS.below hb2
  replace hT := hT.below hb2
  replace hbW := bjoin hb2 hbW
  rw [← hw2]
  clear hw2 hB2 hb2 hb hc hf hz hOne x0 x1 x2 lH
  generalize w'.heap.size = BA at *
  have hOne := sone_in (pc := none) (k := 0) (cc := 0) (y := fun _ => 0) hS hT hh1 FA (fun i hi => by omega) (by decide)
  rw [PA] at hOne
  simp only [Option.getD_none, Option.isSome_none] at hOne
  obtain ⟨lA, x0, x1, x2, -, -, -⟩ := id gA
  go_upto_region 4 with (first
    | (go_at_call 19; refine Calls.mono (hOne) ?_; rintro e w' ⟨p2, c2, q2, d2, rfl, -, -, hb⟩; obtain ⟨hc, hf, hb, hz⟩ := bstep hb (w := w2) (by go_grown); try simp only [World.size_alloc, World.size_setCell, World.size_drew] at hc hf hz)
  )
  obtain ⟨w3, hw3⟩ : ∃ W, W = w'.alloc (.cells #[.slice p2 32 c2, .slice q2 1 d2, .bool true] 25) := ⟨_, rfl⟩
  have hB3 : Below w'.heap.size w' w3 := by rw [hw3]; exact (Below.refl _ _).alloc (Nat.le_refl _) _
  have hb3 := bjoin hB3 hb
  replace hh1 := hh1.below hb3
  replace hh0 := hh0.below hb3
  replace gH := gH.below hb3
  replace gA := gA.below hb3
  replace hS := hS.below hb3
  replace hT := hT.below hb3
  replace hbW := bjoin hb3 hbW
  rw [← hw3]
  clear hw3 hB3 hb3 hb hc hf hz hOne x0 x1 x2 lA
  generalize w'.heap.size = BN at *
  have hAll : ∀ t, Calls Tryd.prog 10 #[.agg #[.slice p0 32 c0, .slice q0 1 d0, .bool true], .slice (some ⟨w3.heap.size, 0, none⟩) 1 1] (w3.alloc (.cells #[.int .i64 (-1), .int .i64 (-1), .int .i64 (-1), .int .i64 0] t)) fun e w' => ∃ p' c' q' d', e = .returned (.tuple #[.agg #[.slice p' 32 c', .slice q' 1 d', .bool true], .int .i64 16]) ∧ HpIn w' p' 32 c' q' 1 d' true b ∧ Below w3.heap.size w3 w' := fun t => by
    have hb := (Below.refl w3.heap.size w3).alloc (Nat.le_refl _) (.cells #[.int .i64 (-1), .int .i64 (-1), .int .i64 (-1), .int .i64 0] t)
    refine Calls.mono (sall_in (hS.below hb) (hT.below hb) (hh0.below hb) F0 (lit12 w3 t) (by decide)) ?_
    rintro e w' ⟨p', c', q', d', rfl, hh, hb2⟩
    rw [eal] at hh ⊢
    exact ⟨p', c', q', d', rfl, hh, bjoin hb2 hb⟩
  obtain ⟨lH, x0, x1, x2, -, -, -⟩ := id gH
  go_upto_region 5 with (first
    | (go_at_call 10; refine Calls.mono (hAll _) ?_; rintro e w' ⟨p3, c3, q3, d3, rfl, hh3, hb⟩)
  )
  obtain ⟨w4, hw4⟩ : ∃ W, W = w'.alloc (.cells #[.slice p3 32 c3, .slice q3 1 d3, .bool true] 25) := ⟨_, rfl⟩
  have hB4 : Below w'.heap.size w' w4 := by rw [hw4]; exact (Below.refl _ _).alloc (Nat.le_refl _) _
  have gB : Box3 w'.heap.size (.slice p3 32 c3) (.slice q3 1 d3) (.bool true) w4 := by rw [hw4]; exact Box3.new _ _ _ _ _
  have hb4 := bjoin hB4 hb
  replace hh3 := hh3.below hB4
  replace hh1 := hh1.below hb4
  replace hh0 := hh0.below hb4
  replace gH := gH.below hb4
  replace gA := gA.below hb4
  replace hS := hS.below hb4
  replace hT := hT.below hb4
  replace hbW := bjoin hb4 hbW
  rw [← hw4]
  clear hw4 hB4 hb4 hb x0 x1 x2 lH hAll
  generalize w'.heap.size = BB at *
  obtain ⟨⟨gs, os, eq, ls, u0, u1, u2⟩, -⟩ := hh1.at'.spans 0 (by rw [← hh1.m_eq]; decide)
  subst eq
  rw [s0] at u0
  rw [s1] at u1
  rw [s2] at u2
  simp only [Nat.zero_mul, Nat.add_zero] at u0 u1 u2
  have hDr := fun W (hW : Below w4.heap.size w4 W) => sdirty_in (hS.below hW) (hT.below hW) (hh0.below hW) F0
  rw [D0] at hDr
  obtain ⟨Z, eZ, hz0⟩ : ∃ Z : Nat → Int, (fun i => (obL a a.n)[i]?.getD 0) = Z ∧ Z 0 = 16 := ⟨_, rfl, by simp [LA]⟩
  have hLi := fun W (hW : Below w4.heap.size w4 W) => rlist12_row (hh1.below hW) FA (M := 1) (by rw [LA]; rfl) eZ
  have hS1 := fun W (hW : Below w4.heap.size w4 W) => rsame_in (hh1.below hW) (hh3.below hW)
  rw [SAB] at hS1
  have hS2 : ∀ W p' c' q' d' p'' c'' q'' d'', HpIn W p' 32 c' q' 1 d' true (bgH a) → HpIn W p'' 32 c'' q'' 1 d'' true (bgH a) → Calls Tryd.prog 20 #[.agg #[.slice p' 32 c', .slice q' 1 d', .bool true], .agg #[.slice p'' 32 c'', .slice q'' 1 d'', .bool true]] W fun e w' => e = .returned (.bool true) ∧ Below W.heap.size W w' := fun W p' c' q' d' p'' c'' q'' d'' h1 h2 => by
    have := rsame_in h1 h2
    rw [sameH_self] at this
    exact this
  have hBg := fun W (hW : Below w4.heap.size w4 W) => sbegin_in (hS.below hW) (hT.below hW) (hh1.below hW) FA
  have hBr := fun W (hW : Below w4.heap.size w4 W) => rbegin_in (hh1.below hW) FA
  have hn0 : 0 < 32 := by decide
  have hm0 : 0 < 1 := by decide
  clear hwf eal ea P0 W0 D0 PA SAB LA s0 s1 s2 eZ
  refine wp_late (ds := [some 34, some 35, some 36, some 37, some 38, some 39, some 40, some 41, some 42, some 43, some 44, some 45, some 46, some 47, some 48, some 49, some 50, some 51, some 52, some 53, some 54, some 55, some 56, some 57, some 58, some 59, some 60, some 61, some 62, some 63, some 64, some 65, some 66, some 67, some 68, some 69, some 70, some 71, some 72, some 73, some 74, some 75, some 76, some 77, some 78, some 79, some 80, some 81, some 0]) (ts := [34, 35, 36, 37, 38, 39, 40, 41, 42, 43, 44, 45, 46, 47, 48, 49, 50, 51, 52, 53, 54, 55, 56, 57, 58, 59, 60, 61, 62, 63, 64, 65, 66, 67, 68, 69, 70, 71, 72, 73, 74, 75, 76, 77, 78, 79, 80, 81, 0]) (pv := [(fun v _ => v = .agg #[.slice p0 32 c0, .slice q0 1 d0, .bool true]), (fun v _ => v = .int .i64 1), (fun v _ => v = .bool true), (fun v _ => v = .bool true), (fun v _ => v = .int .i64 0), (fun v _ => v = .bool true), (fun v _ => v = .bool true), (fun v _ => v = .bool true), (fun v _ => v = .int .i64 16), (fun v _ => v = .bool true), (fun v _ => v = .bool true), (fun v _ => v = .bool true), (fun v _ => v = .bool true), (fun v _ => v = .bool true), (fun v _ => v = .bool true), (fun v _ => v = .bool false), (fun v _ => v = .bool true), (fun v _ => v = .bool true), (fun v _ => v = .bool true), (fun v _ => v = .int .i64 16), (fun v _ => v = .bool true), (fun v _ => v = .bool true), (fun v _ => v = .bool true), (fun v _ => v = .agg #[.slice p1 32 c1, .slice (some ⟨gs, os, none⟩) 1 d1, .bool true]), (fun v _ => v = .agg #[.slice p3 32 c3, .slice q3 1 d3, .bool true]), (fun v _ => v = .bool true), (fun v _ => v = .bool true), (fun v _ => v = .bool true), (fun v _ => v = .agg #[.slice p1 32 c1, .slice (some ⟨gs, os, none⟩) 1 d1, .bool true]), RowV (1) (Z), RowV (1) (fun _ => 16), (fun v _ => v = .bool true), (fun v _ => v = .bool true), (fun v _ => v = .bool true), (fun v _ => v = .pointer (some ⟨BA, 1, none⟩)), (fun v _ => v = .slice (some ⟨gs, os, none⟩) 1 d1), (fun v _ => v = .pointer (some ⟨gs, os, none⟩)), (fun v _ => v = .agg #[.int .i64 1, .int .i64 3, .int .u32 1]), (fun v _ => v = .agg #[.int .i64 1, .int .i64 3, .int .u32 1]), (fun v _ => v = .bool true), (fun v _ => v = .bool true), (fun v _ => v = .bool true), (fun v _ => v = .agg #[.slice p1 32 c1, .slice (some ⟨gs, os, none⟩) 1 d1, .bool true]), HpV (32) (1) (true) (bgH a), (fun v _ => v = .agg #[.slice p1 32 c1, .slice (some ⟨gs, os, none⟩) 1 d1, .bool true]), HpV (32) (1) (true) (bgH a), (fun v _ => v = .bool true), (fun v _ => v = .bool true), (fun v _ => v = .bool true)]) (skip := fun i => ([] : List Nat).contains i) (ia := 1000) (is := 1000) (k := 82) (Shape := (fun _ _ => True)) (Full := (fun _ _ => True)) (by kernel_rfl) (by kernel_rfl) rfl rfl (by decide) (by decide) (by simp) ?_ (by decide) (fun _ _ _ _ _ => trivial) (fun _ _ _ _ _ => trivial) ?_ ?_ ?_ ?_
  · exact .inl rfl
  · exact ⟨fun _ _ _ h _ => h, fun _ _ _ h _ => h, fun _ _ _ h _ => h, fun _ _ _ h _ => h, fun _ _ _ h _ => h, fun _ _ _ h _ => h, fun _ _ _ h _ => h, fun _ _ _ h _ => h, fun _ _ _ h _ => h, fun _ _ _ h _ => h, fun _ _ _ h _ => h, fun _ _ _ h _ => h, fun _ _ _ h _ => h, fun _ _ _ h _ => h, fun _ _ _ h _ => h, fun _ _ _ h _ => h, fun _ _ _ h _ => h, fun _ _ _ h _ => h, fun _ _ _ h _ => h, fun _ _ _ h _ => h, fun _ _ _ h _ => h, fun _ _ _ h _ => h, fun _ _ _ h _ => h, fun _ _ _ h _ => h, fun _ _ _ h _ => h, fun _ _ _ h _ => h, fun _ _ _ h _ => h, fun _ _ _ h _ => h, fun _ _ _ h _ => h, fun _ _ _ h hb => h.below hb, fun _ _ _ h hb => h.below hb, fun _ _ _ h _ => h, fun _ _ _ h _ => h, fun _ _ _ h _ => h, fun _ _ _ h _ => h, fun _ _ _ h _ => h, fun _ _ _ h _ => h, fun _ _ _ h _ => h, fun _ _ _ h _ => h, fun _ _ _ h _ => h, fun _ _ _ h _ => h, fun _ _ _ h _ => h, fun _ _ _ h _ => h, fun _ _ _ h hb => h.below hb, fun _ _ _ h _ => h, fun _ _ _ h hb => h.below hb, fun _ _ _ h _ => h, fun _ _ _ h _ => h, fun _ _ _ h _ => h, trivial⟩
  · exact ⟨rfl, rfl, rfl, rfl, ⟨rfl, ⟨_, rfl⟩, by decide, by decide, fun _ _ h => h⟩, ⟨rfl, ⟨_, rfl⟩, by decide, by decide, fun _ _ h => h⟩, rfl, rfl, ⟨rfl, ⟨_, rfl⟩, by decide, by decide, fun _ _ h => h⟩, ⟨rfl, ⟨_, rfl⟩, by decide, by decide, fun _ _ h => h⟩, rfl, rfl, ⟨rfl, ⟨_, rfl⟩, by decide, by decide, fun _ _ h => h⟩, rfl, rfl, ⟨rfl, ⟨_, rfl⟩, by decide, by decide, fun _ _ h => h⟩, ⟨rfl, ⟨_, rfl⟩, by decide, by decide, fun _ _ h => h⟩, rfl, rfl, ⟨rfl, ⟨_, rfl⟩, by decide, by decide, fun _ _ h => h⟩, ⟨rfl, ⟨_, rfl⟩, by decide, by decide, fun _ _ h => h⟩, rfl, rfl, ⟨rfl, ⟨_, rfl⟩, by decide, by decide, fun _ _ h => h⟩, ⟨rfl, ⟨_, rfl⟩, by decide, by decide, fun _ _ h => h⟩, ⟨rfl, ⟨_, rfl⟩, by decide, by decide, fun _ _ h => h⟩, rfl, rfl, ⟨rfl, ⟨_, rfl⟩, by decide, by decide, fun _ _ h => h⟩, ⟨rfl, ⟨_, rfl⟩, by decide, by decide, fun _ _ h => h⟩, ⟨rfl, ⟨_, rfl⟩, by decide, by decide, fun _ _ h => h⟩, ⟨rfl, ⟨_, rfl⟩, by decide, by decide, fun _ _ h => h⟩, rfl, rfl, ⟨rfl, ⟨_, rfl⟩, by decide, by decide, fun _ _ h => h⟩, ⟨rfl, ⟨_, rfl⟩, by decide, by decide, fun _ _ h => h⟩, ⟨rfl, ⟨_, rfl⟩, by decide, by decide, fun _ _ h => h⟩, ⟨rfl, ⟨_, rfl⟩, by decide, by decide, fun _ _ h => h⟩, ⟨rfl, ⟨_, rfl⟩, by decide, by decide, fun _ _ h => h⟩, ⟨rfl, ⟨_, rfl⟩, by decide, by decide, fun _ _ h => h⟩, rfl, rfl, ⟨rfl, ⟨_, rfl⟩, by decide, by decide, fun _ _ h => h⟩, ⟨rfl, ⟨_, rfl⟩, by decide, by decide, fun _ _ h => h⟩, ⟨rfl, ⟨_, rfl⟩, by decide, by decide, fun _ _ h => h⟩, ⟨rfl, ⟨_, rfl⟩, by decide, by decide, fun _ _ h => h⟩, ⟨rfl, ⟨_, rfl⟩, by decide, by decide, fun _ _ h => h⟩, rfl, rfl, trivial⟩
  · refine ⟨?_, ?_, ?_, ?_, ?_, ?_, ?_, ?_, ?_, ?_, ?_, ?_, ?_, ?_, ?_, ?_, ?_, ?_, ?_, ?_, ?_, ?_, ?_, ?_, ?_, ?_, ?_, ?_, ?_, ?_, ?_, ?_, ?_, ?_, ?_, ?_, ?_, ?_, ?_, ?_, ?_, ?_, ?_, ?_, ?_, ?_, ?_, ?_, ?_, trivial⟩
    · intro _ a' w' hb' hs hd hn Kc hK
      have f1 : a'.tmps[1]?.getD undef = .pointer (some ⟨BH, 0, none⟩) := (hs 1 (by decide)).trans rfl
      clear hs hd hn
      rw [if_neg (by decide), if_neg (by decide)] at hK
      obtain ⟨lH, x0, x1, x2, -, -, -⟩ := gH.below hb'
      obtain ⟨lA, y0, y1, y2, -, -, -⟩ := gA.below hb'
      obtain ⟨lB, z0, z1, z2, -, -, -⟩ := gB.below hb'
      have u0' := (hb'.cell (p := ⟨gs, os, none⟩) ls).trans u0
      have u1' := (hb'.cell (p := ⟨gs, os + 1, none⟩) ls).trans u1
      have u2' := (hb'.cell (p := ⟨gs, os + 2, none⟩) ls).trans u2
      unfold Oper.wp
      go_simp
      try go_bits
      exact hK _ _ (Below.refl _ _) (by first | rfl | (show Value.int _ _ = Value.int _ _; go_num; done) | (simp [valOf, *]; done) | (simp [valOf]; omega))
    · intro _ a' w' hb' hs hd hn Kc hK
      have f34 : a'.tmps[34]?.getD undef = .agg #[.slice p0 32 c0, .slice q0 1 d0, .bool true] := hd 0 34 (by first | rfl | decide | simp [Region.binds]) rfl (by decide) (by decide) rfl
      clear hs hd hn
      rw [if_neg (by decide), if_neg (by decide)] at hK
      obtain ⟨lH, x0, x1, x2, -, -, -⟩ := gH.below hb'
      obtain ⟨lA, y0, y1, y2, -, -, -⟩ := gA.below hb'
      obtain ⟨lB, z0, z1, z2, -, -, -⟩ := gB.below hb'
      have u0' := (hb'.cell (p := ⟨gs, os, none⟩) ls).trans u0
      have u1' := (hb'.cell (p := ⟨gs, os + 1, none⟩) ls).trans u1
      have u2' := (hb'.cell (p := ⟨gs, os + 2, none⟩) ls).trans u2
      unfold Oper.wp
      go_simp
      try go_bits
      refine Calls.mono (hDr _ hb') ?_
      rintro e w'' ⟨rfl, hb2⟩
      exact hK _ _ hb2 rfl
    · intro _ a' w' hb' hs hd hn Kc hK
      have f35 : a'.tmps[35]?.getD undef = .int .i64 1 := hd 1 35 (by first | rfl | decide | simp [Region.binds]) rfl (by decide) (by decide) rfl
      clear hs hd hn
      rw [if_neg (by decide), if_neg (by decide)] at hK
      obtain ⟨lH, x0, x1, x2, -, -, -⟩ := gH.below hb'
      obtain ⟨lA, y0, y1, y2, -, -, -⟩ := gA.below hb'
      obtain ⟨lB, z0, z1, z2, -, -, -⟩ := gB.below hb'
      have u0' := (hb'.cell (p := ⟨gs, os, none⟩) ls).trans u0
      have u1' := (hb'.cell (p := ⟨gs, os + 1, none⟩) ls).trans u1
      have u2' := (hb'.cell (p := ⟨gs, os + 2, none⟩) ls).trans u2
      unfold Oper.wp
      go_simp
      try go_bits
      exact hK _ _ (Below.refl _ _) (by first | rfl | (show Value.int _ _ = Value.int _ _; go_num; done) | (simp [valOf, *]; done) | (simp [valOf]; omega))
    · intro _ a' w' hb' hs hd hn Kc hK
      have f36 : a'.tmps[36]?.getD undef = .bool true := hd 2 36 (by first | rfl | decide | simp [Region.binds]) rfl (by decide) (by decide) rfl
      clear hs hd hn
      rw [if_neg (by decide), if_neg (by decide)] at hK
      obtain ⟨lH, x0, x1, x2, -, -, -⟩ := gH.below hb'
      obtain ⟨lA, y0, y1, y2, -, -, -⟩ := gA.below hb'
      obtain ⟨lB, z0, z1, z2, -, -, -⟩ := gB.below hb'
      have u0' := (hb'.cell (p := ⟨gs, os, none⟩) ls).trans u0
      have u1' := (hb'.cell (p := ⟨gs, os + 1, none⟩) ls).trans u1
      have u2' := (hb'.cell (p := ⟨gs, os + 2, none⟩) ls).trans u2
      unfold Oper.wp
      go_simp
      try go_bits
      exact hK _ _ (Below.refl _ _) (by first | rfl | (show Value.int _ _ = Value.int _ _; go_num; done) | (simp [valOf, *]; done) | (simp [valOf]; omega))
    · intro _ a' w' hb' hs hd hn Kc hK
      have f3 : a'.tmps[3]?.getD undef = .int .i64 0 := (hs 3 (by decide)).trans rfl
      clear hs hd hn
      rw [if_neg (by decide), if_neg (by decide)] at hK
      obtain ⟨lH, x0, x1, x2, -, -, -⟩ := gH.below hb'
      obtain ⟨lA, y0, y1, y2, -, -, -⟩ := gA.below hb'
      obtain ⟨lB, z0, z1, z2, -, -, -⟩ := gB.below hb'
      have u0' := (hb'.cell (p := ⟨gs, os, none⟩) ls).trans u0
      have u1' := (hb'.cell (p := ⟨gs, os + 1, none⟩) ls).trans u1
      have u2' := (hb'.cell (p := ⟨gs, os + 2, none⟩) ls).trans u2
      unfold Oper.wp
      go_simp
      try go_bits
      exact hK _ _ (Below.refl _ _) (by first | rfl | (show Value.int _ _ = Value.int _ _; go_num; done) | (simp [valOf, *]; done) | (simp [valOf]; omega))
    · intro _ a' w' hb' hs hd hn Kc hK
      have f38 : a'.tmps[38]?.getD undef = .int .i64 0 := hd 4 38 (by first | rfl | decide | simp [Region.binds]) rfl (by decide) (by decide) rfl
      clear hs hd hn
      rw [if_neg (by decide), if_neg (by decide)] at hK
      obtain ⟨lH, x0, x1, x2, -, -, -⟩ := gH.below hb'
      obtain ⟨lA, y0, y1, y2, -, -, -⟩ := gA.below hb'
      obtain ⟨lB, z0, z1, z2, -, -, -⟩ := gB.below hb'
      have u0' := (hb'.cell (p := ⟨gs, os, none⟩) ls).trans u0
      have u1' := (hb'.cell (p := ⟨gs, os + 1, none⟩) ls).trans u1
      have u2' := (hb'.cell (p := ⟨gs, os + 2, none⟩) ls).trans u2
      unfold Oper.wp
      go_simp
      try go_bits
      exact hK _ _ (Below.refl _ _) (by first | rfl | (show Value.int _ _ = Value.int _ _; go_num; done) | (simp [valOf, *]; done) | (simp [valOf]; omega))
    · intro _ a' w' hb' hs hd hn Kc hK
      have f37 : a'.tmps[37]?.getD undef = .bool true := hd 3 37 (by first | rfl | decide | simp [Region.binds]) rfl (by decide) (by decide) rfl
      have f39 : a'.tmps[39]?.getD undef = .bool true := hd 5 39 (by first | rfl | decide | simp [Region.binds]) rfl (by decide) (by decide) rfl
      clear hs hd hn
      rw [if_neg (by decide), if_neg (by decide)] at hK
      obtain ⟨lH, x0, x1, x2, -, -, -⟩ := gH.below hb'
      obtain ⟨lA, y0, y1, y2, -, -, -⟩ := gA.below hb'
      obtain ⟨lB, z0, z1, z2, -, -, -⟩ := gB.below hb'
      have u0' := (hb'.cell (p := ⟨gs, os, none⟩) ls).trans u0
      have u1' := (hb'.cell (p := ⟨gs, os + 1, none⟩) ls).trans u1
      have u2' := (hb'.cell (p := ⟨gs, os + 2, none⟩) ls).trans u2
      unfold Oper.wp
      go_simp
      try go_bits
      exact hK _ _ (Below.refl _ _) (by first | rfl | (show Value.int _ _ = Value.int _ _; go_num; done) | (simp [valOf, *]; done) | (simp [valOf]; omega))
    · intro _ a' w' hb' hs hd hn Kc hK
      have f40 : a'.tmps[40]?.getD undef = .bool true := hd 6 40 (by first | rfl | decide | simp [Region.binds]) rfl (by decide) (by decide) rfl
      clear hs hd hn
      rw [if_neg (by decide), if_neg (by decide)] at hK
      obtain ⟨lH, x0, x1, x2, -, -, -⟩ := gH.below hb'
      obtain ⟨lA, y0, y1, y2, -, -, -⟩ := gA.below hb'
      obtain ⟨lB, z0, z1, z2, -, -, -⟩ := gB.below hb'
      have u0' := (hb'.cell (p := ⟨gs, os, none⟩) ls).trans u0
      have u1' := (hb'.cell (p := ⟨gs, os + 1, none⟩) ls).trans u1
      have u2' := (hb'.cell (p := ⟨gs, os + 2, none⟩) ls).trans u2
      unfold Oper.wp
      go_simp
      try go_bits
      exact hK _ _ (Below.refl _ _) (by first | rfl | (show Value.int _ _ = Value.int _ _; go_num; done) | (simp [valOf, *]; done) | (simp [valOf]; omega))
    · intro _ a' w' hb' hs hd hn Kc hK
      have f4 : a'.tmps[4]?.getD undef = .int .i64 16 := (hs 4 (by decide)).trans rfl
      clear hs hd hn
      rw [if_neg (by decide), if_neg (by decide)] at hK
      obtain ⟨lH, x0, x1, x2, -, -, -⟩ := gH.below hb'
      obtain ⟨lA, y0, y1, y2, -, -, -⟩ := gA.below hb'
      obtain ⟨lB, z0, z1, z2, -, -, -⟩ := gB.below hb'
      have u0' := (hb'.cell (p := ⟨gs, os, none⟩) ls).trans u0
      have u1' := (hb'.cell (p := ⟨gs, os + 1, none⟩) ls).trans u1
      have u2' := (hb'.cell (p := ⟨gs, os + 2, none⟩) ls).trans u2
      unfold Oper.wp
      go_simp
      try go_bits
      exact hK _ _ (Below.refl _ _) (by first | rfl | (show Value.int _ _ = Value.int _ _; go_num; done) | (simp [valOf, *]; done) | (simp [valOf]; omega))
    · intro _ a' w' hb' hs hd hn Kc hK
      have f42 : a'.tmps[42]?.getD undef = .int .i64 16 := hd 8 42 (by first | rfl | decide | simp [Region.binds]) rfl (by decide) (by decide) rfl
      clear hs hd hn
      rw [if_neg (by decide), if_neg (by decide)] at hK
      obtain ⟨lH, x0, x1, x2, -, -, -⟩ := gH.below hb'
      obtain ⟨lA, y0, y1, y2, -, -, -⟩ := gA.below hb'
      obtain ⟨lB, z0, z1, z2, -, -, -⟩ := gB.below hb'
      have u0' := (hb'.cell (p := ⟨gs, os, none⟩) ls).trans u0
      have u1' := (hb'.cell (p := ⟨gs, os + 1, none⟩) ls).trans u1
      have u2' := (hb'.cell (p := ⟨gs, os + 2, none⟩) ls).trans u2
      unfold Oper.wp
      go_simp
      try go_bits
      exact hK _ _ (Below.refl _ _) (by first | rfl | (show Value.int _ _ = Value.int _ _; go_num; done) | (simp [valOf, *]; done) | (simp [valOf]; omega))
    · intro _ a' w' hb' hs hd hn Kc hK
      have f41 : a'.tmps[41]?.getD undef = .bool true := hd 7 41 (by first | rfl | decide | simp [Region.binds]) rfl (by decide) (by decide) rfl
      have f43 : a'.tmps[43]?.getD undef = .bool true := hd 9 43 (by first | rfl | decide | simp [Region.binds]) rfl (by decide) (by decide) rfl
      clear hs hd hn
      rw [if_neg (by decide), if_neg (by decide)] at hK
      obtain ⟨lH, x0, x1, x2, -, -, -⟩ := gH.below hb'
      obtain ⟨lA, y0, y1, y2, -, -, -⟩ := gA.below hb'
      obtain ⟨lB, z0, z1, z2, -, -, -⟩ := gB.below hb'
      have u0' := (hb'.cell (p := ⟨gs, os, none⟩) ls).trans u0
      have u1' := (hb'.cell (p := ⟨gs, os + 1, none⟩) ls).trans u1
      have u2' := (hb'.cell (p := ⟨gs, os + 2, none⟩) ls).trans u2
      unfold Oper.wp
      go_simp
      try go_bits
      exact hK _ _ (Below.refl _ _) (by first | rfl | (show Value.int _ _ = Value.int _ _; go_num; done) | (simp [valOf, *]; done) | (simp [valOf]; omega))
    · intro _ a' w' hb' hs hd hn Kc hK
      have f44 : a'.tmps[44]?.getD undef = .bool true := hd 10 44 (by first | rfl | decide | simp [Region.binds]) rfl (by decide) (by decide) rfl
      clear hs hd hn
      rw [if_neg (by decide), if_neg (by decide)] at hK
      obtain ⟨lH, x0, x1, x2, -, -, -⟩ := gH.below hb'
      obtain ⟨lA, y0, y1, y2, -, -, -⟩ := gA.below hb'
      obtain ⟨lB, z0, z1, z2, -, -, -⟩ := gB.below hb'
      have u0' := (hb'.cell (p := ⟨gs, os, none⟩) ls).trans u0
      have u1' := (hb'.cell (p := ⟨gs, os + 1, none⟩) ls).trans u1
      have u2' := (hb'.cell (p := ⟨gs, os + 2, none⟩) ls).trans u2
      unfold Oper.wp
      go_simp
      try go_bits
      exact hK _ _ (Below.refl _ _) (by first | rfl | (show Value.int _ _ = Value.int _ _; go_num; done) | (simp [valOf, *]; done) | (simp [valOf]; omega))
    · intro _ a' w' hb' hs hd hn Kc hK
      have f5 : a'.tmps[5]?.getD undef = .bool true := (hs 5 (by decide)).trans rfl
      clear hs hd hn
      rw [if_neg (by decide), if_neg (by decide)] at hK
      obtain ⟨lH, x0, x1, x2, -, -, -⟩ := gH.below hb'
      obtain ⟨lA, y0, y1, y2, -, -, -⟩ := gA.below hb'
      obtain ⟨lB, z0, z1, z2, -, -, -⟩ := gB.below hb'
      have u0' := (hb'.cell (p := ⟨gs, os, none⟩) ls).trans u0
      have u1' := (hb'.cell (p := ⟨gs, os + 1, none⟩) ls).trans u1
      have u2' := (hb'.cell (p := ⟨gs, os + 2, none⟩) ls).trans u2
      unfold Oper.wp
      go_simp
      try go_bits
      exact hK _ _ (Below.refl _ _) (by first | rfl | (show Value.int _ _ = Value.int _ _; go_num; done) | (simp [valOf, *]; done) | (simp [valOf]; omega))
    · intro _ a' w' hb' hs hd hn Kc hK
      have f45 : a'.tmps[45]?.getD undef = .bool true := hd 11 45 (by first | rfl | decide | simp [Region.binds]) rfl (by decide) (by decide) rfl
      have f46 : a'.tmps[46]?.getD undef = .bool true := hd 12 46 (by first | rfl | decide | simp [Region.binds]) rfl (by decide) (by decide) rfl
      clear hs hd hn
      rw [if_neg (by decide), if_neg (by decide)] at hK
      obtain ⟨lH, x0, x1, x2, -, -, -⟩ := gH.below hb'
      obtain ⟨lA, y0, y1, y2, -, -, -⟩ := gA.below hb'
      obtain ⟨lB, z0, z1, z2, -, -, -⟩ := gB.below hb'
      have u0' := (hb'.cell (p := ⟨gs, os, none⟩) ls).trans u0
      have u1' := (hb'.cell (p := ⟨gs, os + 1, none⟩) ls).trans u1
      have u2' := (hb'.cell (p := ⟨gs, os + 2, none⟩) ls).trans u2
      unfold Oper.wp
      go_simp
      try go_bits
      exact hK _ _ (Below.refl _ _) (by first | rfl | (show Value.int _ _ = Value.int _ _; go_num; done) | (simp [valOf, *]; done) | (simp [valOf]; omega))
    · intro _ a' w' hb' hs hd hn Kc hK
      have f47 : a'.tmps[47]?.getD undef = .bool true := hd 13 47 (by first | rfl | decide | simp [Region.binds]) rfl (by decide) (by decide) rfl
      clear hs hd hn
      rw [if_neg (by decide), if_neg (by decide)] at hK
      obtain ⟨lH, x0, x1, x2, -, -, -⟩ := gH.below hb'
      obtain ⟨lA, y0, y1, y2, -, -, -⟩ := gA.below hb'
      obtain ⟨lB, z0, z1, z2, -, -, -⟩ := gB.below hb'
      have u0' := (hb'.cell (p := ⟨gs, os, none⟩) ls).trans u0
      have u1' := (hb'.cell (p := ⟨gs, os + 1, none⟩) ls).trans u1
      have u2' := (hb'.cell (p := ⟨gs, os + 2, none⟩) ls).trans u2
      unfold Oper.wp
      go_simp
      try go_bits
      exact hK _ _ (Below.refl _ _) (by first | rfl | (show Value.int _ _ = Value.int _ _; go_num; done) | (simp [valOf, *]; done) | (simp [valOf]; omega))
    · intro _ a' w' hb' hs hd hn Kc hK
      have f9 : a'.tmps[9]?.getD undef = .bool false := (hs 9 (by decide)).trans rfl
      clear hs hd hn
      rw [if_neg (by decide), if_neg (by decide)] at hK
      obtain ⟨lH, x0, x1, x2, -, -, -⟩ := gH.below hb'
      obtain ⟨lA, y0, y1, y2, -, -, -⟩ := gA.below hb'
      obtain ⟨lB, z0, z1, z2, -, -, -⟩ := gB.below hb'
      have u0' := (hb'.cell (p := ⟨gs, os, none⟩) ls).trans u0
      have u1' := (hb'.cell (p := ⟨gs, os + 1, none⟩) ls).trans u1
      have u2' := (hb'.cell (p := ⟨gs, os + 2, none⟩) ls).trans u2
      unfold Oper.wp
      go_simp
      try go_bits
      exact hK _ _ (Below.refl _ _) (by first | rfl | (show Value.int _ _ = Value.int _ _; go_num; done) | (simp [valOf, *]; done) | (simp [valOf]; omega))
    · intro _ a' w' hb' hs hd hn Kc hK
      have f49 : a'.tmps[49]?.getD undef = .bool false := hd 15 49 (by first | rfl | decide | simp [Region.binds]) rfl (by decide) (by decide) rfl
      clear hs hd hn
      rw [if_neg (by decide), if_neg (by decide)] at hK
      obtain ⟨lH, x0, x1, x2, -, -, -⟩ := gH.below hb'
      obtain ⟨lA, y0, y1, y2, -, -, -⟩ := gA.below hb'
      obtain ⟨lB, z0, z1, z2, -, -, -⟩ := gB.below hb'
      have u0' := (hb'.cell (p := ⟨gs, os, none⟩) ls).trans u0
      have u1' := (hb'.cell (p := ⟨gs, os + 1, none⟩) ls).trans u1
      have u2' := (hb'.cell (p := ⟨gs, os + 2, none⟩) ls).trans u2
      unfold Oper.wp
      go_simp
      try go_bits
      exact hK _ _ (Below.refl _ _) (by first | rfl | (show Value.int _ _ = Value.int _ _; go_num; done) | (simp [valOf, *]; done) | (simp [valOf]; omega))
    · intro _ a' w' hb' hs hd hn Kc hK
      have f48 : a'.tmps[48]?.getD undef = .bool true := hd 14 48 (by first | rfl | decide | simp [Region.binds]) rfl (by decide) (by decide) rfl
      have f50 : a'.tmps[50]?.getD undef = .bool true := hd 16 50 (by first | rfl | decide | simp [Region.binds]) rfl (by decide) (by decide) rfl
      clear hs hd hn
      rw [if_neg (by decide), if_neg (by decide)] at hK
      obtain ⟨lH, x0, x1, x2, -, -, -⟩ := gH.below hb'
      obtain ⟨lA, y0, y1, y2, -, -, -⟩ := gA.below hb'
      obtain ⟨lB, z0, z1, z2, -, -, -⟩ := gB.below hb'
      have u0' := (hb'.cell (p := ⟨gs, os, none⟩) ls).trans u0
      have u1' := (hb'.cell (p := ⟨gs, os + 1, none⟩) ls).trans u1
      have u2' := (hb'.cell (p := ⟨gs, os + 2, none⟩) ls).trans u2
      unfold Oper.wp
      go_simp
      try go_bits
      exact hK _ _ (Below.refl _ _) (by first | rfl | (show Value.int _ _ = Value.int _ _; go_num; done) | (simp [valOf, *]; done) | (simp [valOf]; omega))
    · intro _ a' w' hb' hs hd hn Kc hK
      have f51 : a'.tmps[51]?.getD undef = .bool true := hd 17 51 (by first | rfl | decide | simp [Region.binds]) rfl (by decide) (by decide) rfl
      clear hs hd hn
      rw [if_neg (by decide), if_neg (by decide)] at hK
      obtain ⟨lH, x0, x1, x2, -, -, -⟩ := gH.below hb'
      obtain ⟨lA, y0, y1, y2, -, -, -⟩ := gA.below hb'
      obtain ⟨lB, z0, z1, z2, -, -, -⟩ := gB.below hb'
      have u0' := (hb'.cell (p := ⟨gs, os, none⟩) ls).trans u0
      have u1' := (hb'.cell (p := ⟨gs, os + 1, none⟩) ls).trans u1
      have u2' := (hb'.cell (p := ⟨gs, os + 2, none⟩) ls).trans u2
      unfold Oper.wp
      go_simp
      try go_bits
      exact hK _ _ (Below.refl _ _) (by first | rfl | (show Value.int _ _ = Value.int _ _; go_num; done) | (simp [valOf, *]; done) | (simp [valOf]; omega))
    · intro _ a' w' hb' hs hd hn Kc hK
      have f11 : a'.tmps[11]?.getD undef = .int .i64 16 := (hs 11 (by decide)).trans rfl
      clear hs hd hn
      rw [if_neg (by decide), if_neg (by decide)] at hK
      obtain ⟨lH, x0, x1, x2, -, -, -⟩ := gH.below hb'
      obtain ⟨lA, y0, y1, y2, -, -, -⟩ := gA.below hb'
      obtain ⟨lB, z0, z1, z2, -, -, -⟩ := gB.below hb'
      have u0' := (hb'.cell (p := ⟨gs, os, none⟩) ls).trans u0
      have u1' := (hb'.cell (p := ⟨gs, os + 1, none⟩) ls).trans u1
      have u2' := (hb'.cell (p := ⟨gs, os + 2, none⟩) ls).trans u2
      unfold Oper.wp
      go_simp
      try go_bits
      exact hK _ _ (Below.refl _ _) (by first | rfl | (show Value.int _ _ = Value.int _ _; go_num; done) | (simp [valOf, *]; done) | (simp [valOf]; omega))
    · intro _ a' w' hb' hs hd hn Kc hK
      have f53 : a'.tmps[53]?.getD undef = .int .i64 16 := hd 19 53 (by first | rfl | decide | simp [Region.binds]) rfl (by decide) (by decide) rfl
      clear hs hd hn
      rw [if_neg (by decide), if_neg (by decide)] at hK
      obtain ⟨lH, x0, x1, x2, -, -, -⟩ := gH.below hb'
      obtain ⟨lA, y0, y1, y2, -, -, -⟩ := gA.below hb'
      obtain ⟨lB, z0, z1, z2, -, -, -⟩ := gB.below hb'
      have u0' := (hb'.cell (p := ⟨gs, os, none⟩) ls).trans u0
      have u1' := (hb'.cell (p := ⟨gs, os + 1, none⟩) ls).trans u1
      have u2' := (hb'.cell (p := ⟨gs, os + 2, none⟩) ls).trans u2
      unfold Oper.wp
      go_simp
      try go_bits
      exact hK _ _ (Below.refl _ _) (by first | rfl | (show Value.int _ _ = Value.int _ _; go_num; done) | (simp [valOf, *]; done) | (simp [valOf]; omega))
    · intro _ a' w' hb' hs hd hn Kc hK
      have f52 : a'.tmps[52]?.getD undef = .bool true := hd 18 52 (by first | rfl | decide | simp [Region.binds]) rfl (by decide) (by decide) rfl
      have f54 : a'.tmps[54]?.getD undef = .bool true := hd 20 54 (by first | rfl | decide | simp [Region.binds]) rfl (by decide) (by decide) rfl
      clear hs hd hn
      rw [if_neg (by decide), if_neg (by decide)] at hK
      obtain ⟨lH, x0, x1, x2, -, -, -⟩ := gH.below hb'
      obtain ⟨lA, y0, y1, y2, -, -, -⟩ := gA.below hb'
      obtain ⟨lB, z0, z1, z2, -, -, -⟩ := gB.below hb'
      have u0' := (hb'.cell (p := ⟨gs, os, none⟩) ls).trans u0
      have u1' := (hb'.cell (p := ⟨gs, os + 1, none⟩) ls).trans u1
      have u2' := (hb'.cell (p := ⟨gs, os + 2, none⟩) ls).trans u2
      unfold Oper.wp
      go_simp
      try go_bits
      exact hK _ _ (Below.refl _ _) (by first | rfl | (show Value.int _ _ = Value.int _ _; go_num; done) | (simp [valOf, *]; done) | (simp [valOf]; omega))
    · intro _ a' w' hb' hs hd hn Kc hK
      have f55 : a'.tmps[55]?.getD undef = .bool true := hd 21 55 (by first | rfl | decide | simp [Region.binds]) rfl (by decide) (by decide) rfl
      clear hs hd hn
      rw [if_neg (by decide), if_neg (by decide)] at hK
      obtain ⟨lH, x0, x1, x2, -, -, -⟩ := gH.below hb'
      obtain ⟨lA, y0, y1, y2, -, -, -⟩ := gA.below hb'
      obtain ⟨lB, z0, z1, z2, -, -, -⟩ := gB.below hb'
      have u0' := (hb'.cell (p := ⟨gs, os, none⟩) ls).trans u0
      have u1' := (hb'.cell (p := ⟨gs, os + 1, none⟩) ls).trans u1
      have u2' := (hb'.cell (p := ⟨gs, os + 2, none⟩) ls).trans u2
      unfold Oper.wp
      go_simp
      try go_bits
      exact hK _ _ (Below.refl _ _) (by first | rfl | (show Value.int _ _ = Value.int _ _; go_num; done) | (simp [valOf, *]; done) | (simp [valOf]; omega))
    · intro _ a' w' hb' hs hd hn Kc hK
      have f2 : a'.tmps[2]?.getD undef = .pointer (some ⟨BA, 0, none⟩) := (hs 2 (by decide)).trans rfl
      clear hs hd hn
      rw [if_neg (by decide), if_neg (by decide)] at hK
      obtain ⟨lH, x0, x1, x2, -, -, -⟩ := gH.below hb'
      obtain ⟨lA, y0, y1, y2, -, -, -⟩ := gA.below hb'
      obtain ⟨lB, z0, z1, z2, -, -, -⟩ := gB.below hb'
      have u0' := (hb'.cell (p := ⟨gs, os, none⟩) ls).trans u0
      have u1' := (hb'.cell (p := ⟨gs, os + 1, none⟩) ls).trans u1
      have u2' := (hb'.cell (p := ⟨gs, os + 2, none⟩) ls).trans u2
      unfold Oper.wp
      go_simp
      try go_bits
      exact hK _ _ (Below.refl _ _) (by first | rfl | (show Value.int _ _ = Value.int _ _; go_num; done) | (simp [valOf, *]; done) | (simp [valOf]; omega))
    · intro _ a' w' hb' hs hd hn Kc hK
      have f10 : a'.tmps[10]?.getD undef = .pointer (some ⟨BB, 0, none⟩) := (hs 10 (by decide)).trans rfl
      clear hs hd hn
      rw [if_neg (by decide), if_neg (by decide)] at hK
      obtain ⟨lH, x0, x1, x2, -, -, -⟩ := gH.below hb'
      obtain ⟨lA, y0, y1, y2, -, -, -⟩ := gA.below hb'
      obtain ⟨lB, z0, z1, z2, -, -, -⟩ := gB.below hb'
      have u0' := (hb'.cell (p := ⟨gs, os, none⟩) ls).trans u0
      have u1' := (hb'.cell (p := ⟨gs, os + 1, none⟩) ls).trans u1
      have u2' := (hb'.cell (p := ⟨gs, os + 2, none⟩) ls).trans u2
      unfold Oper.wp
      go_simp
      try go_bits
      exact hK _ _ (Below.refl _ _) (by first | rfl | (show Value.int _ _ = Value.int _ _; go_num; done) | (simp [valOf, *]; done) | (simp [valOf]; omega))
    · intro _ a' w' hb' hs hd hn Kc hK
      have f57 : a'.tmps[57]?.getD undef = .agg #[.slice p1 32 c1, .slice (some ⟨gs, os, none⟩) 1 d1, .bool true] := hd 23 57 (by first | rfl | decide | simp [Region.binds]) rfl (by decide) (by decide) rfl
      have f58 : a'.tmps[58]?.getD undef = .agg #[.slice p3 32 c3, .slice q3 1 d3, .bool true] := hd 24 58 (by first | rfl | decide | simp [Region.binds]) rfl (by decide) (by decide) rfl
      clear hs hd hn
      rw [if_neg (by decide), if_neg (by decide)] at hK
      obtain ⟨lH, x0, x1, x2, -, -, -⟩ := gH.below hb'
      obtain ⟨lA, y0, y1, y2, -, -, -⟩ := gA.below hb'
      obtain ⟨lB, z0, z1, z2, -, -, -⟩ := gB.below hb'
      have u0' := (hb'.cell (p := ⟨gs, os, none⟩) ls).trans u0
      have u1' := (hb'.cell (p := ⟨gs, os + 1, none⟩) ls).trans u1
      have u2' := (hb'.cell (p := ⟨gs, os + 2, none⟩) ls).trans u2
      unfold Oper.wp
      go_simp
      try go_bits
      refine Calls.mono ((by (try exact hS2 _ _ _ _ _ _ _ _ _ (by assumption) (by assumption)); (try exact hS1 _ hb'))) ?_
      rintro e w'' ⟨rfl, hb2⟩
      exact hK _ _ hb2 rfl
    · intro _ a' w' hb' hs hd hn Kc hK
      have f56 : a'.tmps[56]?.getD undef = .bool true := hd 22 56 (by first | rfl | decide | simp [Region.binds]) rfl (by decide) (by decide) rfl
      have f59 : a'.tmps[59]?.getD undef = .bool true := hd 25 59 (by first | rfl | decide | simp [Region.binds]) rfl (by decide) (by decide) rfl
      clear hs hd hn
      rw [if_neg (by decide), if_neg (by decide)] at hK
      obtain ⟨lH, x0, x1, x2, -, -, -⟩ := gH.below hb'
      obtain ⟨lA, y0, y1, y2, -, -, -⟩ := gA.below hb'
      obtain ⟨lB, z0, z1, z2, -, -, -⟩ := gB.below hb'
      have u0' := (hb'.cell (p := ⟨gs, os, none⟩) ls).trans u0
      have u1' := (hb'.cell (p := ⟨gs, os + 1, none⟩) ls).trans u1
      have u2' := (hb'.cell (p := ⟨gs, os + 2, none⟩) ls).trans u2
      unfold Oper.wp
      go_simp
      try go_bits
      exact hK _ _ (Below.refl _ _) (by first | rfl | (show Value.int _ _ = Value.int _ _; go_num; done) | (simp [valOf, *]; done) | (simp [valOf]; omega))
    · intro _ a' w' hb' hs hd hn Kc hK
      have f60 : a'.tmps[60]?.getD undef = .bool true := hd 26 60 (by first | rfl | decide | simp [Region.binds]) rfl (by decide) (by decide) rfl
      clear hs hd hn
      rw [if_neg (by decide), if_neg (by decide)] at hK
      obtain ⟨lH, x0, x1, x2, -, -, -⟩ := gH.below hb'
      obtain ⟨lA, y0, y1, y2, -, -, -⟩ := gA.below hb'
      obtain ⟨lB, z0, z1, z2, -, -, -⟩ := gB.below hb'
      have u0' := (hb'.cell (p := ⟨gs, os, none⟩) ls).trans u0
      have u1' := (hb'.cell (p := ⟨gs, os + 1, none⟩) ls).trans u1
      have u2' := (hb'.cell (p := ⟨gs, os + 2, none⟩) ls).trans u2
      unfold Oper.wp
      go_simp
      try go_bits
      exact hK _ _ (Below.refl _ _) (by first | rfl | (show Value.int _ _ = Value.int _ _; go_num; done) | (simp [valOf, *]; done) | (simp [valOf]; omega))
    · intro _ a' w' hb' hs hd hn Kc hK
      have f2 : a'.tmps[2]?.getD undef = .pointer (some ⟨BA, 0, none⟩) := (hs 2 (by decide)).trans rfl
      clear hs hd hn
      rw [if_neg (by decide), if_neg (by decide)] at hK
      obtain ⟨lH, x0, x1, x2, -, -, -⟩ := gH.below hb'
      obtain ⟨lA, y0, y1, y2, -, -, -⟩ := gA.below hb'
      obtain ⟨lB, z0, z1, z2, -, -, -⟩ := gB.below hb'
      have u0' := (hb'.cell (p := ⟨gs, os, none⟩) ls).trans u0
      have u1' := (hb'.cell (p := ⟨gs, os + 1, none⟩) ls).trans u1
      have u2' := (hb'.cell (p := ⟨gs, os + 2, none⟩) ls).trans u2
      unfold Oper.wp
      go_simp
      try go_bits
      exact hK _ _ (Below.refl _ _) (by first | rfl | (show Value.int _ _ = Value.int _ _; go_num; done) | (simp [valOf, *]; done) | (simp [valOf]; omega))
    · intro _ a' w' hb' hs hd hn Kc hK
      have f62 : a'.tmps[62]?.getD undef = .agg #[.slice p1 32 c1, .slice (some ⟨gs, os, none⟩) 1 d1, .bool true] := hd 28 62 (by first | rfl | decide | simp [Region.binds]) rfl (by decide) (by decide) rfl
      clear hs hd hn
      rw [if_neg (by decide), if_neg (by decide)] at hK
      obtain ⟨lH, x0, x1, x2, -, -, -⟩ := gH.below hb'
      obtain ⟨lA, y0, y1, y2, -, -, -⟩ := gA.below hb'
      obtain ⟨lB, z0, z1, z2, -, -, -⟩ := gB.below hb'
      have u0' := (hb'.cell (p := ⟨gs, os, none⟩) ls).trans u0
      have u1' := (hb'.cell (p := ⟨gs, os + 1, none⟩) ls).trans u1
      have u2' := (hb'.cell (p := ⟨gs, os + 2, none⟩) ls).trans u2
      unfold Oper.wp
      go_simp
      try go_bits
      refine Calls.mono (hLi _ hb') ?_
      rintro e w'' ⟨pm, cm, rfl, hA, hb2⟩
      exact hK _ _ hb2 ⟨_, _, rfl, hA⟩
    · intro _ a' w' hb' hs hd hn Kc hK
      clear hs hd hn
      rw [if_neg (by decide), if_neg (by decide)] at hK
      obtain ⟨lH, x0, x1, x2, -, -, -⟩ := gH.below hb'
      obtain ⟨lA, y0, y1, y2, -, -, -⟩ := gA.below hb'
      obtain ⟨lB, z0, z1, z2, -, -, -⟩ := gB.below hb'
      have u0' := (hb'.cell (p := ⟨gs, os, none⟩) ls).trans u0
      have u1' := (hb'.cell (p := ⟨gs, os + 1, none⟩) ls).trans u1
      have u2' := (hb'.cell (p := ⟨gs, os + 2, none⟩) ls).trans u2
      unfold Oper.wp
      go_simp
      try go_bits
      exact hK _ _ ((Below.refl _ _).alloc (Nat.le_refl _) _) ⟨_, _, rfl, one_ints _ _ _ (by decide)⟩
    · intro _ a' w' hb' hs hd hn Kc hK
      obtain ⟨pm, cm, f63, hA⟩ := hd 29 63 (by first | rfl | decide | simp [Region.binds]) rfl (by decide) (by decide) rfl
      obtain ⟨pm, cm, f64, hA⟩ := hd 30 64 (by first | rfl | decide | simp [Region.binds]) rfl (by decide) (by decide) rfl
      clear hs hd hn
      rw [if_neg (by decide), if_neg (by decide)] at hK
      obtain ⟨lH, x0, x1, x2, -, -, -⟩ := gH.below hb'
      obtain ⟨lA, y0, y1, y2, -, -, -⟩ := gA.below hb'
      obtain ⟨lB, z0, z1, z2, -, -, -⟩ := gB.below hb'
      have u0' := (hb'.cell (p := ⟨gs, os, none⟩) ls).trans u0
      have u1' := (hb'.cell (p := ⟨gs, os + 1, none⟩) ls).trans u1
      have u2' := (hb'.cell (p := ⟨gs, os + 2, none⟩) ls).trans u2
      unfold Oper.wp
      go_simp
      try go_bits
      refine Calls.mono (rints12_one (z := Z) (y := fun _ => 16) (by assumption) (by assumption) hz0) ?_
      rintro e w'' ⟨rfl, hb2⟩
      exact hK _ _ hb2 rfl
    · intro _ a' w' hb' hs hd hn Kc hK
      have f61 : a'.tmps[61]?.getD undef = .bool true := hd 27 61 (by first | rfl | decide | simp [Region.binds]) rfl (by decide) (by decide) rfl
      have f65 : a'.tmps[65]?.getD undef = .bool true := hd 31 65 (by first | rfl | decide | simp [Region.binds]) rfl (by decide) (by decide) rfl
      clear hs hd hn
      rw [if_neg (by decide), if_neg (by decide)] at hK
      obtain ⟨lH, x0, x1, x2, -, -, -⟩ := gH.below hb'
      obtain ⟨lA, y0, y1, y2, -, -, -⟩ := gA.below hb'
      obtain ⟨lB, z0, z1, z2, -, -, -⟩ := gB.below hb'
      have u0' := (hb'.cell (p := ⟨gs, os, none⟩) ls).trans u0
      have u1' := (hb'.cell (p := ⟨gs, os + 1, none⟩) ls).trans u1
      have u2' := (hb'.cell (p := ⟨gs, os + 2, none⟩) ls).trans u2
      unfold Oper.wp
      go_simp
      try go_bits
      exact hK _ _ (Below.refl _ _) (by first | rfl | (show Value.int _ _ = Value.int _ _; go_num; done) | (simp [valOf, *]; done) | (simp [valOf]; omega))
    · intro _ a' w' hb' hs hd hn Kc hK
      have f66 : a'.tmps[66]?.getD undef = .bool true := hd 32 66 (by first | rfl | decide | simp [Region.binds]) rfl (by decide) (by decide) rfl
      clear hs hd hn
      rw [if_neg (by decide), if_neg (by decide)] at hK
      obtain ⟨lH, x0, x1, x2, -, -, -⟩ := gH.below hb'
      obtain ⟨lA, y0, y1, y2, -, -, -⟩ := gA.below hb'
      obtain ⟨lB, z0, z1, z2, -, -, -⟩ := gB.below hb'
      have u0' := (hb'.cell (p := ⟨gs, os, none⟩) ls).trans u0
      have u1' := (hb'.cell (p := ⟨gs, os + 1, none⟩) ls).trans u1
      have u2' := (hb'.cell (p := ⟨gs, os + 2, none⟩) ls).trans u2
      unfold Oper.wp
      go_simp
      try go_bits
      exact hK _ _ (Below.refl _ _) (by first | rfl | (show Value.int _ _ = Value.int _ _; go_num; done) | (simp [valOf, *]; done) | (simp [valOf]; omega))
    · intro _ a' w' hb' hs hd hn Kc hK
      have f2 : a'.tmps[2]?.getD undef = .pointer (some ⟨BA, 0, none⟩) := (hs 2 (by decide)).trans rfl
      clear hs hd hn
      rw [if_neg (by decide), if_neg (by decide)] at hK
      obtain ⟨lH, x0, x1, x2, -, -, -⟩ := gH.below hb'
      obtain ⟨lA, y0, y1, y2, -, -, -⟩ := gA.below hb'
      obtain ⟨lB, z0, z1, z2, -, -, -⟩ := gB.below hb'
      have u0' := (hb'.cell (p := ⟨gs, os, none⟩) ls).trans u0
      have u1' := (hb'.cell (p := ⟨gs, os + 1, none⟩) ls).trans u1
      have u2' := (hb'.cell (p := ⟨gs, os + 2, none⟩) ls).trans u2
      unfold Oper.wp
      go_simp
      try go_bits
      exact hK _ _ (Below.refl _ _) (by first | rfl | (show Value.int _ _ = Value.int _ _; go_num; done) | (simp [valOf, *]; done) | (simp [valOf]; omega))
    · intro _ a' w' hb' hs hd hn Kc hK
      have f68 : a'.tmps[68]?.getD undef = .pointer (some ⟨BA, 1, none⟩) := hd 34 68 (by first | rfl | decide | simp [Region.binds]) rfl (by decide) (by decide) rfl
      clear hs hd hn
      rw [if_neg (by decide), if_neg (by decide)] at hK
      obtain ⟨lH, x0, x1, x2, -, -, -⟩ := gH.below hb'
      obtain ⟨lA, y0, y1, y2, -, -, -⟩ := gA.below hb'
      obtain ⟨lB, z0, z1, z2, -, -, -⟩ := gB.below hb'
      have u0' := (hb'.cell (p := ⟨gs, os, none⟩) ls).trans u0
      have u1' := (hb'.cell (p := ⟨gs, os + 1, none⟩) ls).trans u1
      have u2' := (hb'.cell (p := ⟨gs, os + 2, none⟩) ls).trans u2
      unfold Oper.wp
      go_simp
      try go_bits
      exact hK _ _ (Below.refl _ _) (by first | rfl | (show Value.int _ _ = Value.int _ _; go_num; done) | (simp [valOf, *]; done) | (simp [valOf]; omega))
    · intro _ a' w' hb' hs hd hn Kc hK
      have f69 : a'.tmps[69]?.getD undef = .slice (some ⟨gs, os, none⟩) 1 d1 := hd 35 69 (by first | rfl | decide | simp [Region.binds]) rfl (by decide) (by decide) rfl
      clear hs hd hn
      rw [if_neg (by decide), if_neg (by decide)] at hK
      obtain ⟨lH, x0, x1, x2, -, -, -⟩ := gH.below hb'
      obtain ⟨lA, y0, y1, y2, -, -, -⟩ := gA.below hb'
      obtain ⟨lB, z0, z1, z2, -, -, -⟩ := gB.below hb'
      have u0' := (hb'.cell (p := ⟨gs, os, none⟩) ls).trans u0
      have u1' := (hb'.cell (p := ⟨gs, os + 1, none⟩) ls).trans u1
      have u2' := (hb'.cell (p := ⟨gs, os + 2, none⟩) ls).trans u2
      unfold Oper.wp
      go_simp
      try go_bits
      exact hK _ _ (Below.refl _ _) (by first | rfl | (show Value.int _ _ = Value.int _ _; go_num; done) | (simp [valOf, *]; done) | (simp [valOf]; omega))
    · intro _ a' w' hb' hs hd hn Kc hK
      have f70 : a'.tmps[70]?.getD undef = .pointer (some ⟨gs, os, none⟩) := hd 36 70 (by first | rfl | decide | simp [Region.binds]) rfl (by decide) (by decide) rfl
      clear hs hd hn
      rw [if_neg (by decide), if_neg (by decide)] at hK
      obtain ⟨lH, x0, x1, x2, -, -, -⟩ := gH.below hb'
      obtain ⟨lA, y0, y1, y2, -, -, -⟩ := gA.below hb'
      obtain ⟨lB, z0, z1, z2, -, -, -⟩ := gB.below hb'
      have u0' := (hb'.cell (p := ⟨gs, os, none⟩) ls).trans u0
      have u1' := (hb'.cell (p := ⟨gs, os + 1, none⟩) ls).trans u1
      have u2' := (hb'.cell (p := ⟨gs, os + 2, none⟩) ls).trans u2
      unfold Oper.wp
      go_simp
      try go_bits
      exact hK _ _ (Below.refl _ _) (by first | rfl | (show Value.int _ _ = Value.int _ _; go_num; done) | (simp [valOf, *]; done) | (simp [valOf]; omega))
    · intro _ a' w' hb' hs hd hn Kc hK
      clear hs hd hn
      rw [if_neg (by decide), if_neg (by decide)] at hK
      obtain ⟨lH, x0, x1, x2, -, -, -⟩ := gH.below hb'
      obtain ⟨lA, y0, y1, y2, -, -, -⟩ := gA.below hb'
      obtain ⟨lB, z0, z1, z2, -, -, -⟩ := gB.below hb'
      have u0' := (hb'.cell (p := ⟨gs, os, none⟩) ls).trans u0
      have u1' := (hb'.cell (p := ⟨gs, os + 1, none⟩) ls).trans u1
      have u2' := (hb'.cell (p := ⟨gs, os + 2, none⟩) ls).trans u2
      unfold Oper.wp
      go_simp
      try go_bits
      exact hK _ _ (Below.refl _ _) (by first | rfl | (show Value.int _ _ = Value.int _ _; go_num; done) | (simp [valOf, *]; done) | (simp [valOf]; omega))
    · intro _ a' w' hb' hs hd hn Kc hK
      have f71 : a'.tmps[71]?.getD undef = .agg #[.int .i64 1, .int .i64 3, .int .u32 1] := hd 37 71 (by first | rfl | decide | simp [Region.binds]) rfl (by decide) (by decide) rfl
      have f72 : a'.tmps[72]?.getD undef = .agg #[.int .i64 1, .int .i64 3, .int .u32 1] := hd 38 72 (by first | rfl | decide | simp [Region.binds]) rfl (by decide) (by decide) rfl
      clear hs hd hn
      rw [if_neg (by decide), if_neg (by decide)] at hK
      obtain ⟨lH, x0, x1, x2, -, -, -⟩ := gH.below hb'
      obtain ⟨lA, y0, y1, y2, -, -, -⟩ := gA.below hb'
      obtain ⟨lB, z0, z1, z2, -, -, -⟩ := gB.below hb'
      have u0' := (hb'.cell (p := ⟨gs, os, none⟩) ls).trans u0
      have u1' := (hb'.cell (p := ⟨gs, os + 1, none⟩) ls).trans u1
      have u2' := (hb'.cell (p := ⟨gs, os + 2, none⟩) ls).trans u2
      unfold Oper.wp
      go_simp
      try go_bits
      exact hK _ _ (Below.refl _ _) (by first | rfl | (show Value.int _ _ = Value.int _ _; go_num; done) | (simp [valOf, *]; done) | (simp [valOf]; omega))
    · intro _ a' w' hb' hs hd hn Kc hK
      have f67 : a'.tmps[67]?.getD undef = .bool true := hd 33 67 (by first | rfl | decide | simp [Region.binds]) rfl (by decide) (by decide) rfl
      have f73 : a'.tmps[73]?.getD undef = .bool true := hd 39 73 (by first | rfl | decide | simp [Region.binds]) rfl (by decide) (by decide) rfl
      clear hs hd hn
      rw [if_neg (by decide), if_neg (by decide)] at hK
      obtain ⟨lH, x0, x1, x2, -, -, -⟩ := gH.below hb'
      obtain ⟨lA, y0, y1, y2, -, -, -⟩ := gA.below hb'
      obtain ⟨lB, z0, z1, z2, -, -, -⟩ := gB.below hb'
      have u0' := (hb'.cell (p := ⟨gs, os, none⟩) ls).trans u0
      have u1' := (hb'.cell (p := ⟨gs, os + 1, none⟩) ls).trans u1
      have u2' := (hb'.cell (p := ⟨gs, os + 2, none⟩) ls).trans u2
      unfold Oper.wp
      go_simp
      try go_bits
      exact hK _ _ (Below.refl _ _) (by first | rfl | (show Value.int _ _ = Value.int _ _; go_num; done) | (simp [valOf, *]; done) | (simp [valOf]; omega))
    · intro _ a' w' hb' hs hd hn Kc hK
      have f74 : a'.tmps[74]?.getD undef = .bool true := hd 40 74 (by first | rfl | decide | simp [Region.binds]) rfl (by decide) (by decide) rfl
      clear hs hd hn
      rw [if_neg (by decide), if_neg (by decide)] at hK
      obtain ⟨lH, x0, x1, x2, -, -, -⟩ := gH.below hb'
      obtain ⟨lA, y0, y1, y2, -, -, -⟩ := gA.below hb'
      obtain ⟨lB, z0, z1, z2, -, -, -⟩ := gB.below hb'
      have u0' := (hb'.cell (p := ⟨gs, os, none⟩) ls).trans u0
      have u1' := (hb'.cell (p := ⟨gs, os + 1, none⟩) ls).trans u1
      have u2' := (hb'.cell (p := ⟨gs, os + 2, none⟩) ls).trans u2
      unfold Oper.wp
      go_simp
      try go_bits
      exact hK _ _ (Below.refl _ _) (by first | rfl | (show Value.int _ _ = Value.int _ _; go_num; done) | (simp [valOf, *]; done) | (simp [valOf]; omega))
    · intro _ a' w' hb' hs hd hn Kc hK
      have f2 : a'.tmps[2]?.getD undef = .pointer (some ⟨BA, 0, none⟩) := (hs 2 (by decide)).trans rfl
      clear hs hd hn
      rw [if_neg (by decide), if_neg (by decide)] at hK
      obtain ⟨lH, x0, x1, x2, -, -, -⟩ := gH.below hb'
      obtain ⟨lA, y0, y1, y2, -, -, -⟩ := gA.below hb'
      obtain ⟨lB, z0, z1, z2, -, -, -⟩ := gB.below hb'
      have u0' := (hb'.cell (p := ⟨gs, os, none⟩) ls).trans u0
      have u1' := (hb'.cell (p := ⟨gs, os + 1, none⟩) ls).trans u1
      have u2' := (hb'.cell (p := ⟨gs, os + 2, none⟩) ls).trans u2
      unfold Oper.wp
      go_simp
      try go_bits
      exact hK _ _ (Below.refl _ _) (by first | rfl | (show Value.int _ _ = Value.int _ _; go_num; done) | (simp [valOf, *]; done) | (simp [valOf]; omega))
    · intro _ a' w' hb' hs hd hn Kc hK
      have f76 : a'.tmps[76]?.getD undef = .agg #[.slice p1 32 c1, .slice (some ⟨gs, os, none⟩) 1 d1, .bool true] := hd 42 76 (by first | rfl | decide | simp [Region.binds]) rfl (by decide) (by decide) rfl
      clear hs hd hn
      rw [if_neg (by decide), if_neg (by decide)] at hK
      obtain ⟨lH, x0, x1, x2, -, -, -⟩ := gH.below hb'
      obtain ⟨lA, y0, y1, y2, -, -, -⟩ := gA.below hb'
      obtain ⟨lB, z0, z1, z2, -, -, -⟩ := gB.below hb'
      have u0' := (hb'.cell (p := ⟨gs, os, none⟩) ls).trans u0
      have u1' := (hb'.cell (p := ⟨gs, os + 1, none⟩) ls).trans u1
      have u2' := (hb'.cell (p := ⟨gs, os + 2, none⟩) ls).trans u2
      unfold Oper.wp
      go_simp
      try go_bits
      refine Calls.mono (hBg _ hb') ?_
      rintro e w'' ⟨p', c', q', d', rfl, hA, -, -, hb2⟩
      exact hK _ _ hb2 ⟨_, _, _, _, rfl, hA⟩
    · intro _ a' w' hb' hs hd hn Kc hK
      have f2 : a'.tmps[2]?.getD undef = .pointer (some ⟨BA, 0, none⟩) := (hs 2 (by decide)).trans rfl
      clear hs hd hn
      rw [if_neg (by decide), if_neg (by decide)] at hK
      obtain ⟨lH, x0, x1, x2, -, -, -⟩ := gH.below hb'
      obtain ⟨lA, y0, y1, y2, -, -, -⟩ := gA.below hb'
      obtain ⟨lB, z0, z1, z2, -, -, -⟩ := gB.below hb'
      have u0' := (hb'.cell (p := ⟨gs, os, none⟩) ls).trans u0
      have u1' := (hb'.cell (p := ⟨gs, os + 1, none⟩) ls).trans u1
      have u2' := (hb'.cell (p := ⟨gs, os + 2, none⟩) ls).trans u2
      unfold Oper.wp
      go_simp
      try go_bits
      exact hK _ _ (Below.refl _ _) (by first | rfl | (show Value.int _ _ = Value.int _ _; go_num; done) | (simp [valOf, *]; done) | (simp [valOf]; omega))
    · intro _ a' w' hb' hs hd hn Kc hK
      have f78 : a'.tmps[78]?.getD undef = .agg #[.slice p1 32 c1, .slice (some ⟨gs, os, none⟩) 1 d1, .bool true] := hd 44 78 (by first | rfl | decide | simp [Region.binds]) rfl (by decide) (by decide) rfl
      clear hs hd hn
      rw [if_neg (by decide), if_neg (by decide)] at hK
      obtain ⟨lH, x0, x1, x2, -, -, -⟩ := gH.below hb'
      obtain ⟨lA, y0, y1, y2, -, -, -⟩ := gA.below hb'
      obtain ⟨lB, z0, z1, z2, -, -, -⟩ := gB.below hb'
      have u0' := (hb'.cell (p := ⟨gs, os, none⟩) ls).trans u0
      have u1' := (hb'.cell (p := ⟨gs, os + 1, none⟩) ls).trans u1
      have u2' := (hb'.cell (p := ⟨gs, os + 2, none⟩) ls).trans u2
      unfold Oper.wp
      go_simp
      try go_bits
      refine Calls.mono (hBr _ hb') ?_
      rintro e w'' ⟨p', c', q', d', rfl, hA, -, -, hb2⟩
      exact hK _ _ hb2 ⟨_, _, _, _, rfl, hA⟩
    · intro _ a' w' hb' hs hd hn Kc hK
      obtain ⟨p', c', q', d', f77, hA⟩ := hd 43 77 (by first | rfl | decide | simp [Region.binds]) rfl (by decide) (by decide) rfl
      obtain ⟨p', c', q', d', f79, hA⟩ := hd 45 79 (by first | rfl | decide | simp [Region.binds]) rfl (by decide) (by decide) rfl
      clear hs hd hn
      rw [if_neg (by decide), if_neg (by decide)] at hK
      obtain ⟨lH, x0, x1, x2, -, -, -⟩ := gH.below hb'
      obtain ⟨lA, y0, y1, y2, -, -, -⟩ := gA.below hb'
      obtain ⟨lB, z0, z1, z2, -, -, -⟩ := gB.below hb'
      have u0' := (hb'.cell (p := ⟨gs, os, none⟩) ls).trans u0
      have u1' := (hb'.cell (p := ⟨gs, os + 1, none⟩) ls).trans u1
      have u2' := (hb'.cell (p := ⟨gs, os + 2, none⟩) ls).trans u2
      unfold Oper.wp
      go_simp
      try go_bits
      refine Calls.mono ((by (try exact hS2 _ _ _ _ _ _ _ _ _ (by assumption) (by assumption)); (try exact hS1 _ hb'))) ?_
      rintro e w'' ⟨rfl, hb2⟩
      exact hK _ _ hb2 rfl
    · intro _ a' w' hb' hs hd hn Kc hK
      have f75 : a'.tmps[75]?.getD undef = .bool true := hd 41 75 (by first | rfl | decide | simp [Region.binds]) rfl (by decide) (by decide) rfl
      have f80 : a'.tmps[80]?.getD undef = .bool true := hd 46 80 (by first | rfl | decide | simp [Region.binds]) rfl (by decide) (by decide) rfl
      clear hs hd hn
      rw [if_neg (by decide), if_neg (by decide)] at hK
      obtain ⟨lH, x0, x1, x2, -, -, -⟩ := gH.below hb'
      obtain ⟨lA, y0, y1, y2, -, -, -⟩ := gA.below hb'
      obtain ⟨lB, z0, z1, z2, -, -, -⟩ := gB.below hb'
      have u0' := (hb'.cell (p := ⟨gs, os, none⟩) ls).trans u0
      have u1' := (hb'.cell (p := ⟨gs, os + 1, none⟩) ls).trans u1
      have u2' := (hb'.cell (p := ⟨gs, os + 2, none⟩) ls).trans u2
      unfold Oper.wp
      go_simp
      try go_bits
      exact hK _ _ (Below.refl _ _) (by first | rfl | (show Value.int _ _ = Value.int _ _; go_num; done) | (simp [valOf, *]; done) | (simp [valOf]; omega))
    · intro _ a' w' hb' hs hd hn Kc hK
      have f81 : a'.tmps[81]?.getD undef = .bool true := hd 47 81 (by first | rfl | decide | simp [Region.binds]) rfl (by decide) (by decide) rfl
      clear hs hd hn
      rw [if_neg (by decide), if_neg (by decide)] at hK
      obtain ⟨lH, x0, x1, x2, -, -, -⟩ := gH.below hb'
      obtain ⟨lA, y0, y1, y2, -, -, -⟩ := gA.below hb'
      obtain ⟨lB, z0, z1, z2, -, -, -⟩ := gB.below hb'
      have u0' := (hb'.cell (p := ⟨gs, os, none⟩) ls).trans u0
      have u1' := (hb'.cell (p := ⟨gs, os + 1, none⟩) ls).trans u1
      have u2' := (hb'.cell (p := ⟨gs, os + 2, none⟩) ls).trans u2
      unfold Oper.wp
      go_simp
      try go_bits
      exact hK _ _ (Below.refl _ _) (by first | rfl | (show Value.int _ _ = Value.int _ _; go_num; done) | (simp [valOf, *]; done) | (simp [valOf]; omega))
  intro Xf g w' hX hb hv
  have q0 : Xf 0 = .bool true := hv 48 0 rfl rfl (by decide) (by decide)
  clear hX hv
  simp only [List.map_cons, List.map_nil, q0, puts, Act.put, Nat.reduceAdd, List.setIfInBounds_toArray, List.set_cons_succ, List.set_cons_zero]
  go_wp2
  go_returns
  exact ⟨rfl, bjoin hb hbW⟩
end Go.Proofs.YtjoepiopigmmnaaDoor
