/- The awake test of layer 13's laws. -/
import Derived.Test.YtffcekjkgeiccaaGrey
namespace Go.Proofs.Ytffcekjkgeiccaa
set_option linter.unusedSimpArgs false
set_option linter.unusedVariables false
open Go.ChangeShapes Go.WideShapes Go.ChangeAt Go.RowKit Go.Joins

theorem sameI_of {n : Nat} {z y : Nat → Int} (h : ∀ i, i < n → z i = y i) : sameI n z n y = true := by simp [sameI]; exact h
/-- A variable that holds a row. -/
def GBox (B : Nat) (r : Int) (p : Option Addr) (n c : Nat) (W : World) : Prop := B < W.heap.size ∧ W.cell? ⟨B, 0, none⟩ = some (.int .i64 r) ∧ W.cell? ⟨B, 1, none⟩ = some (.slice p n c)
theorem GBox.below {B : Nat} {r : Int} {p : Option Addr} {n c : Nat} {W W' : World} (h : GBox B r p n c W) (hb : Below W.heap.size W W') : GBox B r p n c W' :=
  ⟨Nat.lt_of_lt_of_le h.1 hb.size, (hb.cell (p := ⟨B, 0, none⟩) h.1).trans h.2.1, (hb.cell (p := ⟨B, 1, none⟩) h.1).trans h.2.2⟩
theorem GBox.new (W : World) (r : Int) (p : Option Addr) (n c : Nat) (t : TypeId) : GBox W.heap.size r p n c (W.alloc (.cells #[.int .i64 r, .slice p n c] t)) := by
  refine ⟨by simp, ?_, ?_⟩ <;> simp [go_sem]
theorem gr_one (W : World) (x : Int) (t : TypeId) (hx : (Lit.int .i64 x).wf = true) : GrAt (W.alloc (.cells #[.int .i64 x] t)) (some ⟨W.heap.size, 0, none⟩) 1 1 (fun _ => x) :=
  ⟨fun i hi => by
    obtain rfl : i = 0 := by omega
    exact ⟨⟨W.heap.size, 0, rfl, by simp, by rw [cell_of_row _ _ _ _ _ _ (heap_alloc_new W (.cells #[.int .i64 x] t))]; rfl⟩, hx⟩, by decide, fun e => (by cases e), Nat.le_refl _, by decide⟩
set_option maxHeartbeats 8000000 in
set_option maxRecDepth 20000 in
theorem awake13_any (w : World) : Calls Try.prog 7 #[] w fun e w' => e = .returned (.bool true) ∧ Below w.heap.size w w' := by
  have hN := fun W => gnew_any 1 W
  have hN17 := fun W => gnew_any 17 W
  simp only [show gnR 1 = 1 from by decide, show gnB 1 = true from by decide] at hN
  simp only [show gnR 17 = 0 from by decide, show gnB 17 = false from by decide] at hN17
  have hP5 := fun W => gpush_any 1 5 none 0 0 (fun _ => 0) W (gr_nil W _) (by decide) (by decide)
  simp only [show gpN 1 0 5 = 1 from by decide, show gpB 1 0 5 = true from by decide] at hP5
  have hz5 : gpZ 1 0 (fun _ => 0) 5 0 = 5 := by decide
  generalize gpZ 1 0 (fun _ => 0) 5 = za at *
  have hQ0 := fun W => gpop_any 1 none 0 0 (fun _ => 0) W (gr_nil W _) (by decide)
  simp only [show gqX 0 (fun _ => 0) = 0 from rfl, show decide (0 < 0) = false from rfl] at hQ0
  have eR0 : rightG 0 1 (fun _ => 1) = false := by decide
  have hRg : ∀ W r p n c z b, GrAt W p c n z → rightG r n z = b → Calls Try.prog 8 #[.agg #[.int .i64 r, .slice p n c]] W fun e w' => e = .returned (.bool b) ∧ Below W.heap.size W w' := fun W r p n c z b h e => by
    rw [← e]; exact gright_any r p n c z W h
  go_enter Try.func7, Try.ntmps7
  go_upto_region 2 with (first
    | (go_at_call 10; refine Calls.mono (hN _) ?_; rintro e w1 ⟨rfl, hb1⟩)
  )
  obtain ⟨w2, hw2⟩ : ∃ W, W = w1.alloc (.cells #[.int .i64 1, .slice none 0 0] 24) := ⟨_, rfl⟩
  have gG : w1.heap.size < w2.heap.size ∧ w2.cell? ⟨w1.heap.size, 0, none⟩ = some (.int .i64 1) ∧ w2.cell? ⟨w1.heap.size, 1, none⟩ = some (.slice none 0 0) := by rw [hw2]; simp [go_sem]
  have hb2 : Below w.heap.size w w2 := by rw [hw2]; exact bjoin ((Below.refl _ _).alloc (Nat.le_refl _) _) hb1
  rw [← hw2]
  clear hw2 hN hb1
  generalize w1.heap.size = BG at *
  obtain ⟨lG, x0, x1⟩ := id gG
  go_upto_region 3 with (first
    | (go_at_call 12; refine Calls.mono (hP5 _) ?_; rintro e w3 ⟨p1, c1, rfl, hA, -, hb3⟩)
  )
  obtain ⟨w4, hw4⟩ : ∃ W, W = w3.alloc (.cells #[.int .i64 1, .slice p1 1 c1] 24) := ⟨_, rfl⟩
  have gA : w3.heap.size < w4.heap.size ∧ w4.cell? ⟨w3.heap.size, 0, none⟩ = some (.int .i64 1) ∧ w4.cell? ⟨w3.heap.size, 1, none⟩ = some (.slice p1 1 c1) := by rw [hw4]; simp [go_sem]
  have hb34 : Below w3.heap.size w3 w4 := by rw [hw4]; exact (Below.refl _ _).alloc (Nat.le_refl _) _
  have hb24 := bjoin hb34 hb3
  have hb4 := bjoin hb24 hb2
  replace hA := hA.below hb34
  have x0' := (hb24.cell (p := ⟨BG, 0, none⟩) lG).trans x0
  have x1' := (hb24.cell (p := ⟨BG, 1, none⟩) lG).trans x1
  have lG' : BG < w4.heap.size := Nat.lt_of_lt_of_le lG hb24.size
  rw [← hw4]
  clear hw4 hP5 hb2 hb24 hb34 hb3 lG x0 x1 gG
  generalize w3.heap.size = BA at *
  obtain ⟨lA, y0, y1⟩ := id gA
  have hP6 := gpush_any 1 6 p1 1 c1 za w4 hA (by decide) (by decide)
  simp only [show gpN 1 1 6 = 1 from by decide, show gpB 1 1 6 = false from by decide] at hP6
  have hQa := fun W (hW : Below w4.heap.size w4 W) => gpop_any 1 p1 1 c1 za W (hA.below hW) (by decide)
  simp only [show gqX 1 za = 5 from hz5, show decide (0 < 1) = true from rfl, show 1 - 1 = 0 from rfl] at hQa
  have eR : rightG 1 1 za = true := rightG_iff.2 ⟨by decide, fun i hi => by
    obtain rfl : i = 0 := by omega
    rw [hz5]; decide⟩
  have hSm := fun (W : World) (p c) (hW : GrAt W p c 0 za) => rgsame_any 1 1 p none 0 c 0 0 za (fun _ => 0) W hW (gr_nil W _)
  simp only [show sameG 1 0 za 1 0 (fun _ => 0) = true from by simp [sameG, sameI]] at hSm
  go_upto_region 4 with (first
    | (go_at_call 12; refine Calls.mono hP6 ?_; rintro e w5 ⟨p2, c2, rfl, -, -, hb5⟩)
  )
  have hb6 : Below w4.heap.size w4 (w5.alloc (.cells #[.int .i64 1, .slice p2 1 c2] 24)) := bjoin ((Below.refl w5.heap.size w5).alloc (Nat.le_refl _) _) hb5
  generalize w5.alloc (.cells #[.int .i64 1, .slice p2 1 c2] 24) = w6 at *
  have z0 := (hb6.cell (p := ⟨BA, 0, none⟩) lA).trans y0
  have z1 := (hb6.cell (p := ⟨BA, 1, none⟩) lA).trans y1
  go_upto_region 5 with (first
    | (go_at_call 14; refine Calls.mono (hQa _ hb6) ?_; rintro e w7 ⟨p3, c3, rfl, hB, -, hb7⟩)
  )
  obtain ⟨w8, hw8⟩ : ∃ W, W = w7.alloc (.cells #[.int .i64 1, .slice p3 0 c3] 24) := ⟨_, rfl⟩
  have gB : w7.heap.size < w8.heap.size ∧ w8.cell? ⟨w7.heap.size, 0, none⟩ = some (.int .i64 1) ∧ w8.cell? ⟨w7.heap.size, 1, none⟩ = some (.slice p3 0 c3) := by rw [hw8]; simp [go_sem]
  have hb78 : Below w7.heap.size w7 w8 := by rw [hw8]; exact (Below.refl _ _).alloc (Nat.le_refl _) _
  have hb8 := bjoin hb78 (bjoin hb7 hb6)
  replace hB := hB.below hb78
  rw [← hw8]
  clear hw8 hb78 hb7 hb6 hb5 z0 z1 y0 y1 hP6 hQa
  generalize w7.heap.size = BB at *
  obtain ⟨lB, v0, v1⟩ := id gB
  have x0'' := (hb8.cell (p := ⟨BG, 0, none⟩) lG').trans x0'
  have x1'' := (hb8.cell (p := ⟨BG, 1, none⟩) lG').trans x1'
  have y0 := (hb8.cell (p := ⟨BA, 0, none⟩) lA).trans gA.2.1
  have y1 := (hb8.cell (p := ⟨BA, 1, none⟩) lA).trans gA.2.2
  have lG8 : BG < w8.heap.size := Nat.lt_of_lt_of_le lG' hb8.size
  have lA8 : BA < w8.heap.size := Nat.lt_of_lt_of_le lA hb8.size
  have hA8 := hA.below hb8
  have hSm8 := fun W (hW : Below w8.heap.size w8 W) => hSm W _ _ (hB.below hW)
  have hbW := bjoin hb8 hb4
  clear hSm x0' x1' lG' lA gA hb8 hb4 hB hA
  go_upto_region 7 with (first
    | (go_at_call 14; refine Calls.mono (hQ0 _) ?_; rintro e w9 ⟨p4, c4, rfl, -, -, hb9⟩)
    | (go_at_call 10; refine Calls.mono (hN17 _) ?_; rintro e w10 ⟨rfl, hb10⟩)
  )
  have hbE := bjoin ((Below.refl w10.heap.size w10).alloc (Nat.le_refl _) (.cells #[.int .i64 0, .slice none 0 0] 24)) (bjoin hb10 (bjoin ((Below.refl w9.heap.size w9).alloc (Nat.le_refl _) (.cells #[.int .i64 1, .slice p4 0 c4] 24)) hb9))
  generalize w10.alloc (.cells #[.int .i64 0, .slice none 0 0] 24) = w11 at *
  have k0 := (hbE.cell (p := ⟨BG, 0, none⟩) lG8).trans x0''
  have k1 := (hbE.cell (p := ⟨BG, 1, none⟩) lG8).trans x1''
  have k2 := (hbE.cell (p := ⟨BA, 0, none⟩) lA8).trans y0
  have k3 := (hbE.cell (p := ⟨BA, 1, none⟩) lA8).trans y1
  have k4 := (hbE.cell (p := ⟨BB, 0, none⟩) lB).trans v0
  have k5 := (hbE.cell (p := ⟨BB, 1, none⟩) lB).trans v1
  have lG11 : BG < w11.heap.size := Nat.lt_of_lt_of_le lG8 hbE.size
  have lA11 : BA < w11.heap.size := Nat.lt_of_lt_of_le lA8 hbE.size
  clear x0'' x1'' y0 y1 v0 v1
  go_wp2_with (first
    | (go_at_call 11; refine Calls.mono (hSm8 _ hbE) ?_; rintro e w12 ⟨rfl, hb12⟩; have k2' := (hb12.cell (p := ⟨BA, 0, none⟩) lA11).trans k2; have k3' := (hb12.cell (p := ⟨BA, 1, none⟩) lA11).trans k3)
    | (go_at_call 8; refine Calls.mono (hRg _ _ _ _ _ _ _ (by first | exact hA8.below (bjoin hb12 hbE) | exact gr_one _ _ _ (by decide)) (by first | exact eR | exact eR0)) ?_; rintro e w13 ⟨rfl, hb13⟩)
  )
  go_returns
  exact ⟨rfl, bjoin (bjoin hb13 ((Below.refl _ _).alloc (Nat.le_refl _) _)) (bjoin (by assumption) (bjoin hb12 (bjoin hbE hbW)))⟩
end Go.Proofs.Ytffcekjkgeiccaa
