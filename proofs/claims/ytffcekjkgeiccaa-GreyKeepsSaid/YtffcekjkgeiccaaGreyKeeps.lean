/- GreyKeeps: of whatever right row, and number: what is handed in stays, the room behind it, too; what is answered is new memory. No condition. -/
import Derived.Test.YtffcekjkgeiccaaRows
import Derived.Test.YtffcekjkgeiccaaAwake13
import Derived.Laws.CopyOwn
namespace Go.Proofs.Ytffcekjkgeiccaa
set_option linter.unusedSimpArgs false
set_option linter.unusedVariables false
open Go.ChangeShapes Go.WideShapes Go.ChangeAt Go.RowKit Go.Joins

theorem GrAt.setCell0 {W : World} {p : Option Addr} {c n : Nat} {z : Nat → Int} (h : GrAt W p c n z) {g : Nat} (hg : 0 < n → ∀ b off, p = some ⟨b, off, none⟩ → b ≠ g) (j : Nat) (u : Value) : GrAt (W.setCell ⟨g, j, none⟩ u) p c n z := by
  refine ⟨?_, h.nle, h.pnil, h.ncap⟩
  by_cases h0 : 0 < n
  · exact h.ints.setCell (hg h0) j u
  · exact fun i hi => absurd hi (by omega)
theorem GBox.setCell {B : Nat} {r : Int} {p : Option Addr} {n c : Nat} {W : World} (h : GBox B r p n c W) {g : Nat} (hg : ¬ g = B) (j : Nat) (u : Value) : GBox B r p n c (W.setCell ⟨g, j, none⟩ u) :=
  ⟨by simpa [World.setCell] using h.1, (World.cell?_setCell_other W _ _ _ (fun e => hg (congrArg Addr.block e))).trans h.2.1, (World.cell?_setCell_other W _ _ _ (fun e => hg (congrArg Addr.block e))).trans h.2.2⟩
/-- The numbers, and two noughts. -/
def czZ (n : Nat) (z : Nat → Int) : Nat → Int := fun j => if j < n then z j else 0
theorem splice_cz (n : Nat) (z : Nat → Int) : splice (vals .i64 (n + 2) (fun _ => 0)) 0 (vals .i64 n z) = vals .i64 (n + 2) (czZ n z) := by
  unfold splice
  simp only [List.take_zero, List.nil_append, Nat.zero_add, vals_length]
  apply List.ext_getElem?
  intro j
  rw [List.getElem?_append, vals_length, List.getElem?_drop]
  by_cases h : j < n
  · rw [if_pos h, vals_get .i64 z h, vals_get .i64 (czZ n z) (by omega)]
    unfold czZ; rw [if_pos h]
  · rw [if_neg h, show n + (j - n) = j by omega]
    by_cases h2 : j < n + 2
    · rw [vals_get .i64 (fun _ => 0) h2, vals_get .i64 (czZ n z) h2]
      unfold czZ; rw [if_neg h]
    · rw [List.getElem?_eq_none (by rw [vals_length]; omega), List.getElem?_eq_none (by rw [vals_length]; omega)]
set_option maxHeartbeats 16000000 in
set_option maxRecDepth 20000 in
theorem keeps13_walk (r a : Int) (p : Option Addr) (n c : Nat) (z : Nat → Int) (w : World) (hGr : GrAt w p c n z) (ha : (Lit.int .i64 a).wf = true) :
    Calls Try.prog 5 #[.agg #[.int .i64 r, .slice p n c], .int .i64 a] w fun e w' => e = .returned (.bool true) ∧ Below w.heap.size w w' := by
  obtain ⟨w0, hw0⟩ : ∃ w0, w0 = w.alloc (.cells #[.int .i64 r, .slice p n c] 24) := ⟨_, rfl⟩
  have hB0 : Below w.heap.size w w0 := by rw [hw0]; exact (Below.refl _ _).alloc (Nat.le_refl _) _
  have g2 : GBox w.heap.size r p n c w0 := by rw [hw0]; exact GBox.new _ _ _ _ _ _
  have hlow : 0 < n → ∀ b off, p = some ⟨b, off, none⟩ → b < w.heap.size := fun h b off e => by
    obtain ⟨⟨b', off', e', hl, -⟩, -⟩ := hGr.ints 0 h
    rw [e] at e'
    injection e' with e'
    injection e' with e1
    omega
  replace hGr := hGr.below hB0
  obtain ⟨l0, x0, x1⟩ := id g2
  have hR := fun W (hW : Below w0.heap.size w0 W) => rgright_any r p n c z W (hGr.below hW)
  cases eR : rightG r n z with
  | false =>
    simp only [eR] at hR
    clear eR
    go_enter Try.func5, Try.ntmps5
    go_upto_region 1 with fail
    rw [← hw0]
    clear hw0
    go_wp2_with (first
    | (go_at_call 7; refine Calls.mono (awake13_any _) ?_; rintro e w' ⟨rfl, hb⟩; obtain ⟨hc, hf, hb, hz⟩ := bstep hb (w := w0) (by go_grown); try simp only [World.size_alloc, World.size_setCell, World.size_drew] at hc hf hz)
    | (go_at_call 9; refine Calls.mono (hR _ (by go_grown)) ?_; rintro e w' ⟨rfl, hb⟩; obtain ⟨hc, hf, hb, hz⟩ := bstep hb (w := w0) (by go_grown); try simp only [World.size_alloc, World.size_setCell, World.size_drew] at hc hf hz)
    )
    go_returns
    exact ⟨rfl, bjoin hb hB0⟩
  | true =>
    simp only [eR] at hR
    obtain ⟨⟨r0, r1, r2⟩, hpos⟩ := rightG_iff.1 eR
    have hn : n ≤ 16 := by omega
    obtain ⟨i0, hi, hq0, hq1, hq2⟩ := info_parts int_infoG
    clear eR hpos
    go_enter Try.func5, Try.ntmps5
    go_upto_region 1 with fail
    rw [← hw0]
    clear hw0
    go_upto_region 4 with (first
    | (go_at_call 7; refine Calls.mono (awake13_any _) ?_; rintro e w' ⟨rfl, hb⟩; obtain ⟨hc, hf, hb, hz⟩ := bstep hb (w := w0) (by go_grown); try simp only [World.size_alloc, World.size_setCell, World.size_drew] at hc hf hz)
    | (go_at_call 9; refine Calls.mono (hR _ (by go_grown)) ?_; rintro e w' ⟨rfl, hb⟩; obtain ⟨hc, hf, hb, hz⟩ := bstep hb (w := w0) (by go_grown); try simp only [World.size_alloc, World.size_setCell, World.size_drew] at hc hf hz)
    )
    replace g2 := g2.below hb
    replace hGr := hGr.below hb
    have hl3 := g2.1
    have hbW := bjoin hb hB0
    clear hb hc hf hz hR x0 x1 l0
    generalize w' = w3 at *
    obtain ⟨l0, x0, x1⟩ := id g2
    go_upto_region 5 with (first
      | (at_make; refine wpList_make_full _ rfl (.tmp 31) (.tmp 31) 22 rfl w3.heap.size 3 i0 (.int .i64 0) 1 Try.underlying22 hi hq0 hq1 _ _ _ _ (n + 2) rfl rfl rfl rfl (by rw [hq2]; omega) (by simp only [maxLen]; omega) (by simp) ?_; intro w4 hown4 hgrow4)
    )
    have hm : (madeCells (Value.int IntKind.i64 0).cells ((n + 2) * 1)).toList = vals .i64 (n + 2) (fun _ => 0) := by rw [Nat.mul_one, ← vals_const]; exact toList_madeCells_one _ _
    rw [hm] at hown4
    have row1 := rowAt_owned hown4
    have hb4 : Below w3.heap.size w3 w4 := (Below.refl _ _).grown hgrow4 (Nat.le_refl _) (by simp)
    have hG4 := hGr.below hb4
    have g3 := g2
    replace g2 := g2.below hb4
    have hgw : w.heap.size < w3.heap.size := hl3
    have hlt4 := row1.lt
    have hgE : w3.heap.size ≤ w3.heap.size := Nat.le_refl _
    obtain ⟨l0, x0, x1⟩ := id g2
    clear hm hown4 hgrow4
    have hlen : (vals .i64 n z).length = Nat.min n (n + 2) := by rw [vals_length]; exact (Nat.min_eq_left (by omega)).symm
    have hsrc : 0 < (vals .i64 n z).length → (some ⟨w3.heap.size, 0, none⟩ : Option Addr) = some ⟨w3.heap.size, 0, none⟩ ∧ ∃ ad, p = some ad ∧ ∀ j v, (vals .i64 n z)[j]? = some v → w4.cell? (ad.add j) = some v := fun h => ⟨rfl, hG4.ints.cells (by simpa [vals_length] using h)⟩
    have hfit : 0 + (vals .i64 n z).length ≤ (vals .i64 (n + 2) (fun _ => 0)).length := by simp [vals_length]
    go_upto_region 6 with (first
      | (refine wpList_copy_splice (o := ⟨some 36, _, _, _, _, _⟩) rfl (.tmp 33) (.tmp 35) 22 22 rfl 3 Try.underlying22 (by kernel_rfl) _ _ _ _ _ _ rfl rfl w3.heap.size 0 (vals .i64 (n + 2) (fun _ => 0)) 3 row1 (vals .i64 n z) hlen hsrc hfit (vals_one _ _ _) w3.heap.size w3 hb4 hgE ?_; intro w5 hS5 hB5)
    )
    have row2 : RowAt .i64 3 w5 w3.heap.size (n + 2) (czZ n z) := by
      have := hS5.out
      rw [splice_cz] at this
      exact this
    have hwf : ∀ i, i < n → (Lit.int .i64 (z i)).wf = true := hG4.ints.wf
    have hOw : GrAt w5 (some ⟨w3.heap.size, 0, none⟩) (n + 2) n z := by
      refine ⟨fun i hi => ?_, by simp only [maxLen]; omega, nofun, by omega, by simp only [maxLen]; omega⟩
      have h := row2.cell (i := i) (by omega)
      unfold czZ at h
      rw [if_pos hi] at h
      exact ⟨⟨w3.heap.size, 0, rfl, row2.lt, by simpa using h⟩, hwf i hi⟩
    have hG5 := hGr.below hB5
    have g5 := g3.below hB5
    have hbW5 := bjoin hB5 hbW
    clear hB5 hb4 hG4 hS5 hlen hsrc hfit row1 hlt4 hgE g2 g3 x0 x1 l0 hGr hbW hi hq0 hq1 hq2 hl3 hwf
    generalize w3.heap.size = g at *
    have hng : (0 : Int) ≤ n := by omega
    have hnc : n ≤ n + 2 := by omega
    obtain ⟨l5, y0, y1⟩ := id g5
    simp only [vals_length]
    simp only [Act.put, Nat.reduceAdd, List.setIfInBounds_toArray, List.set_cons_succ, List.set_cons_zero]
    have hc1 : (n : Int) ≤ (n + 2 : Nat) := by omega
    have hc2 : (n : Int) ≤ (n : Int) + 2 := by omega
    go_region
    clear hc1 hc2
    go_upto_region 7 with fail
    obtain ⟨w6, hw6⟩ : ∃ W, W = (w5.alloc (.cells #[.int .i64 r, .slice (some ⟨g, 0, none⟩) n (n + 2)] 24)).drew := ⟨_, rfl⟩
    have gO : GBox w5.heap.size r (some ⟨g, 0, none⟩) n (n + 2) w6 := by rw [hw6]; exact GBox.new _ _ _ _ _ _
    have hb6 := ((Below.refl w5.heap.size w5).alloc (Nat.le_refl _) (.cells #[.int .i64 r, .slice (some ⟨g, 0, none⟩) n (n + 2)] 24)).drew
    rw [← hw6] at hb6 ⊢
    have hg5 : g < w5.heap.size := row2.lt
    have g6 := g5.below hb6
    have row6 := row2.below hb6
    have hO6 := hOw.below hb6
    have hG6 := hG5.below hb6
    have hbW6 := bjoin hb6 hbW5
    have hg6 : g < w6.heap.size := row6.lt
    clear hw6 hb6 g5 row2 hOw hG5 hbW5
    generalize w5.heap.size = BO at *
    have hPc := fun W (hW : Below w6.heap.size w6 W) => gpush_any r a _ n _ z W (hO6.below hW) (by omega) ha
    have hQc := fun W (hW : Below w6.heap.size w6 W) => gpop_any r _ n _ z W (hO6.below hW) (by omega)
    have hPr := fun W (h : GrAt W p c n z) => rgpush_any r a p n c z W h (by omega) ha
    have hQr := fun W (h : GrAt W p c n z) => rgpop_any r p n c z W h (by omega)
    obtain ⟨N, eN⟩ : ∃ N, gpN r n a = N := ⟨_, rfl⟩
    obtain ⟨Z, eZ⟩ : ∃ Z, gpZ r n z a = Z := ⟨_, rfl⟩
    obtain ⟨PB, eB⟩ : ∃ PB, gpB r n a = PB := ⟨_, rfl⟩
    obtain ⟨X, eX⟩ : ∃ X, gqX n z = X := ⟨_, rfl⟩
    obtain ⟨PD, eD⟩ : ∃ PD, decide (0 < n) = PD := ⟨_, rfl⟩
    obtain ⟨N1, eN1⟩ : ∃ N1, n - 1 = N1 := ⟨_, rfl⟩
    simp only [eN, eZ, eB] at hPc hPr
    simp only [eX, eD, eN1] at hQc hQr
    have hD0 : PD = true → 0 < n := fun h => by rw [← eD] at h; simpa using h
    clear eN eZ eB eX eD eN1
    obtain ⟨l0, x0, x1⟩ := id gO
    go_upto_region 8 with (first
      | (go_at_call 12; refine Calls.mono (hPc _ (Below.refl _ _)) ?_; rintro e w7 ⟨p1, c1, rfl, hA, nA, hb7⟩)
    )
    have nA2 : PB = true → ∀ b off, p1 = some ⟨b, off, none⟩ → b ≠ g := fun h b off e => by
      have := nA h b off none e
      omega
    obtain ⟨w8, hw8⟩ : ∃ W, W = w7.alloc (.cells #[.int .i64 r, .slice p1 N c1] 24) := ⟨_, rfl⟩
    have gA : GBox w7.heap.size r p1 N c1 w8 := by rw [hw8]; exact GBox.new _ _ _ _ _ _
    have hgA : g < w7.heap.size := Nat.lt_of_lt_of_le hg6 hb7.size
    have hb8 := bjoin ((Below.refl w7.heap.size w7).alloc (Nat.le_refl _) (.cells #[.int .i64 r, .slice p1 N c1] 24)) hb7
    replace hA := hA.below ((Below.refl w7.heap.size w7).alloc (Nat.le_refl _) (.cells #[.int .i64 r, .slice p1 N c1] 24))
    rw [← hw8] at hb8 hA ⊢
    have gO8 := gO.below hb8
    clear hw8 nA hb7 gO x0 x1 l0 hPc
    generalize w7.heap.size = BA at *
    obtain ⟨l0, x0, x1⟩ := id gO8
    go_upto_region 9 with (first
      | (go_at_call 14; refine Calls.mono (hQc _ hb8) ?_; rintro e w9 ⟨p3, c3, rfl, hC, nC, hb9⟩)
    )
    have nC2 : PD = true → ∀ b off, p3 = some ⟨b, off, none⟩ → b ≠ g := fun h b off e => by
      have := nC (hD0 h) b off none e
      have := hb8.size
      omega
    obtain ⟨w10, hw10⟩ : ∃ W, W = w9.alloc (.cells #[.int .i64 r, .slice p3 N1 c3] 24) := ⟨_, rfl⟩
    have gC : GBox w9.heap.size r p3 N1 c3 w10 := by rw [hw10]; exact GBox.new _ _ _ _ _ _
    have hgC : g < w9.heap.size := Nat.lt_of_lt_of_le (Nat.lt_of_lt_of_le hg6 hb8.size) hb9.size
    have hb10 := bjoin ((Below.refl w9.heap.size w9).alloc (Nat.le_refl _) (.cells #[.int .i64 r, .slice p3 N1 c3] 24)) hb9
    replace hC := hC.below ((Below.refl w9.heap.size w9).alloc (Nat.le_refl _) (.cells #[.int .i64 r, .slice p3 N1 c3] 24))
    rw [← hw10] at hb10 hC ⊢
    replace hA := hA.below hb10
    replace gA := gA.below hb10
    replace gO8 := gO8.below hb10
    have hb610 := bjoin hb10 hb8
    have g10 := g6.below hb610
    have row10 := row6.below hb610
    have hO10 := hO6.below hb610
    have hG10 := hG6.below hb610
    have hbW10 := bjoin hb610 hbW6
    clear hw10 nC hb9 hb8 hb10 hb610 x0 x1 l0 hQc g6 row6 hO6 hG6 hbW6
    generalize w9.heap.size = BC at *
    obtain ⟨l0, x0, x1⟩ := id gO8
    obtain ⟨l1, y0, y1⟩ := id g10
    have hcell : w10.cell? ⟨g, n, none⟩ = some (.int .i64 0) := by
      have h := row10.cell (i := n) (by omega)
      unfold czZ at h
      rw [if_neg (by omega)] at h
      exact h
    have hfz := row10.frozen n
    have hlt := row10.lt
    have hn2 : n < n + 2 := by omega
    have hSame := rgsame_any r r _ p n _ n c z z w10 hO10 hG10
    rw [sameG_self] at hSame
    go_upto_region 11 with (first
      | (go_at_call 11; refine Calls.mono hSame ?_; rintro e w11 ⟨rfl, hb11⟩; have hcell' := (hb11.cell (p := ⟨g, n, none⟩) hlt).trans hcell)
    )
    have hAw := fun _ : PB = true => hA.below hb11
    have hCw := fun _ : PD = true => hC.below hb11
    have gA11 := gA.below hb11
    have gC11 := gC.below hb11
    have g11 := g10.below hb11
    have row11 := row10.below hb11
    have hG11 := hG10.below hb11
    have hbW11 := bjoin hb11 hbW10
    clear hb11 hA hC gA gC g10 row10 hG10 hO10 hbW10 hcell hcell' hfz hlt x0 x1 l0 y0 y1 l1 hSame gO8 hn2
    generalize w11 = w12 at *
    go_wp2
    go_loopg [13] (n + 2) (fun m jv wr => ∃ j : Nat, j ≤ n + 2 ∧ m = n + 2 - j ∧ jv = .int .i64 j ∧ (∃ Y, RowAt .i64 3 wr g (n + 2) Y) ∧ (PB = true → GrAt wr p1 c1 N Z) ∧ (PD = true → GrAt wr p3 c3 N1 z) ∧ GrAt wr p c n z ∧ GBox BA r p1 N c1 wr ∧ GBox BC r p3 N1 c3 wr ∧ GBox w.heap.size r p n c wr ∧ Below w.heap.size w wr)
    case atStart => exact ⟨0, by omega, by omega, rfl, ⟨_, row11⟩, hAw, hCw, hG11, gA11, gC11, g11, hbW11⟩
    case round =>
      obtain ⟨j, jh, rfl, rfl, ⟨Y, row⟩, hAr, hCr, hGr, gAr, gCr, gr, hbr⟩ := hrel
      clear row11 hAw hCw hG11 gA11 gC11 g11 hbW11
      by_cases hj : j < n + 2
      · have hcell := row.cell hj
        have hfz := row.frozen j
        have hst := row.set j 99
        have hA2 : PB = true → GrAt (wr.setCell ⟨g, j, none⟩ (.int .i64 99)) p1 c1 N Z := fun h => (hAr h).setCell0 (fun _ => nA2 h) j _
        have hC2 : PD = true → GrAt (wr.setCell ⟨g, j, none⟩ (.int .i64 99)) p3 c3 N1 z := fun h => (hCr h).setCell0 (fun _ => nC2 h) j _
        have hG2 : GrAt (wr.setCell ⟨g, j, none⟩ (.int .i64 99)) p c n z := hGr.setCell0 (fun h b off e => by have := hlow h b off e; omega) j _
        have gA2 := gAr.setCell (g := g) (by omega) j (.int .i64 99)
        have gC2 := gCr.setCell (g := g) (by omega) j (.int .i64 99)
        have g2 := gr.setCell (g := g) (by omega) j (.int .i64 99)
        have hb2 : Below w.heap.size w (wr.setCell ⟨g, j, none⟩ (.int .i64 99)) := hbr.setCell (Nat.le_of_lt hgw) _
        clear row hAr hCr hGr gAr gCr gr hbr hPr hQr
        go_wp2
        go_roundg (n + 2 - (j + 1))
        case measure => omega
        case rel => exact ⟨j + 1, by omega, rfl, by go_num, ⟨_, hst⟩, hA2, hC2, hG2, gA2, gC2, g2, hb2⟩
      · obtain ⟨l0, x0, x1⟩ := id gr
        clear row
        go_upto_region 16 with (first
          | (go_at_call 13; refine Calls.mono (hPr _ hGr) ?_; rintro e w14 ⟨p2, c2, rfl, hB, hb14⟩)
        )
        obtain ⟨w15, hw15⟩ : ∃ W, W = w14.alloc (.cells #[.int .i64 r, .slice p2 N c2] 24) := ⟨_, rfl⟩
        have gB : GBox w14.heap.size r p2 N c2 w15 := by rw [hw15]; exact GBox.new _ _ _ _ _ _
        have hb15 := bjoin ((Below.refl w14.heap.size w14).alloc (Nat.le_refl _) (.cells #[.int .i64 r, .slice p2 N c2] 24)) hb14
        replace hB := hB.below ((Below.refl w14.heap.size w14).alloc (Nat.le_refl _) (.cells #[.int .i64 r, .slice p2 N c2] 24))
        rw [← hw15] at hb15 hB ⊢
        have hA15 := fun h => (hAr h).below hb15
        have hC15 := fun h => (hCr h).below hb15
        have hG15 := hGr.below hb15
        have gA15 := gAr.below hb15
        have gC15 := gCr.below hb15
        have g15 := gr.below hb15
        have hbW15 := bjoin hb15 hbr
        clear hw15 hb14 hb15 x0 x1 l0 hAr hCr hGr gAr gCr gr hbr hPr
        generalize w14.heap.size = BB at *
        obtain ⟨l0, x0, x1⟩ := id g15
        go_upto_region 17 with (first
          | (go_at_call 15; refine Calls.mono (hQr _ hG15) ?_; rintro e w16 ⟨p4, c4, rfl, hD, hb16⟩)
        )
        obtain ⟨w17, hw17⟩ : ∃ W, W = w16.alloc (.cells #[.int .i64 r, .slice p4 N1 c4] 24) := ⟨_, rfl⟩
        have gD : GBox w16.heap.size r p4 N1 c4 w17 := by rw [hw17]; exact GBox.new _ _ _ _ _ _
        have hb17 := bjoin ((Below.refl w16.heap.size w16).alloc (Nat.le_refl _) (.cells #[.int .i64 r, .slice p4 N1 c4] 24)) hb16
        replace hD := hD.below ((Below.refl w16.heap.size w16).alloc (Nat.le_refl _) (.cells #[.int .i64 r, .slice p4 N1 c4] 24))
        rw [← hw17] at hb17 hD ⊢
        have hA17 := fun h => (hA15 h).below hb17
        have hC17 := fun h => (hC15 h).below hb17
        have gA17 := gA15.below hb17
        have gB17 := gB.below hb17
        have gC17 := gC15.below hb17
        have hB17 := hB.below hb17
        have hbW17 := bjoin hb17 hbW15
        clear hw17 hb16 hb17 x0 x1 l0 hA15 hC15 hG15 gA15 gC15 g15 hbW15 hQr gB hB
        generalize w16.heap.size = BD at *
        obtain ⟨lA, a0, a1⟩ := id gA17
        obtain ⟨lB, b0, b1⟩ := id gB17
        obtain ⟨lC, e0, e1⟩ := id gC17
        obtain ⟨lD, f0, f1⟩ := id gD
        have hSg : ∀ W r1 p1 n1 c1 z1 r2 p2 n2 c2 z2, GrAt W p1 c1 n1 z1 → GrAt W p2 c2 n2 z2 → sameG r1 n1 z1 r2 n2 z2 = true → Calls Try.prog 11 #[.agg #[.int .i64 r1, .slice p1 n1 c1], .agg #[.int .i64 r2, .slice p2 n2 c2]] W fun e w' => e = .returned (.bool true) ∧ Below W.heap.size W w' := fun W r1 p1 n1 c1 z1 r2 p2 n2 c2 z2 h1 h2 e => by
          rw [← e]; exact rgsame_any r1 r2 p1 p2 n1 c1 n2 c2 z1 z2 W h1 h2
        cases PB with
        | false =>
          cases PD with
          | false =>
            go_wp2
            go_returns
            exact ⟨rfl, hbW17⟩
          | true =>
            replace hC17 := hC17 rfl
            go_wp2_with (first
              | (go_at_call 11; refine Calls.mono (hSg _ _ _ _ _ _ _ _ _ _ _ hC17 hD (sameG_self _ _ _)) ?_; rintro e w18 ⟨rfl, hb18⟩)
            )
            go_returns
            exact ⟨rfl, bjoin hb18 hbW17⟩
        | true =>
          replace hA17 := hA17 rfl
          cases PD with
          | false =>
            go_wp2_with (first
              | (go_at_call 11; refine Calls.mono (hSg _ _ _ _ _ _ _ _ _ _ _ hA17 hB17 (sameG_self _ _ _)) ?_; rintro e w18 ⟨rfl, hb18⟩)
            )
            go_returns
            exact ⟨rfl, bjoin hb18 hbW17⟩
          | true =>
            replace hC17 := hC17 rfl
            go_wp2_with (first
              | (go_at_call 11; refine Calls.mono (hSg _ _ _ _ _ _ _ _ _ _ _ hA17 hB17 (sameG_self _ _ _)) ?_; rintro e w18 ⟨rfl, hb18⟩; obtain ⟨lC, e0, e1⟩ := gC17.below hb18; obtain ⟨lD, f0, f1⟩ := gD.below hb18)
              | (go_at_call 11; refine Calls.mono (hSg _ _ _ _ _ _ _ _ _ _ _ (hC17.below hb18) (hD.below hb18) (sameG_self _ _ _)) ?_; rintro e w19 ⟨rfl, hb19⟩)
            )
            go_returns
            exact ⟨rfl, bjoin hb19 (bjoin hb18 hbW17)⟩
namespace GreyKeeps
theorem own : ownKnob Try.prog.godebug = none := by kernel_rfl
set_option maxRecDepth 100000 in
theorem lifted (os : Os) (started : os.Started) (H : Type) (enc : TypeId × Value → H) :
    ReturnsInHanded {} Try.checked os 5 .any (Rows.greyKeepsSpec.pre6 enc Try.prog Try.f5 Rows.greyKeepsRow.domain false) (Rows.greyKeepsSpec.post enc Try.prog Try.f5 false true false false) := by
  refine law_lifted (C := Try.checked) own started (by kernel_rfl) Try.func5 (by kernel_rfl) (of_decide_eq_true (by kernel_rfl)) rfl
    (fun ds hd => by have hd' : ds.length = 2 := hd; match ds, hd' with | [d0, d1], _ => rfl) rfl Try.underlying4
    (ChangeSpec.witness6 (enc := enc) (C := Try.checked) false ⟨#[], #[.agg #[.int .i64 0, .slice none 0 0], .int .i64 0], []⟩ 8 (by kernel_rfl) (by kernel_rfl) (by kernel_rfl) (by kernel_rfl)) ?_
  intro W base args ds p hval hA hlt
  rw [Try.params5] at hA hval
  obtain ⟨v0, v1, d0, d1, p0, p1, rfl, rfl, rfl, h0, h1⟩ := trodAll_two hA
  obtain ⟨r0, q0, n0, c0, z0, rfl, hr0, hg0⟩ := open_grey Try.underlying24 (by kernel_rfl) (by kernel_rfl) (by kernel_rfl) Try.underlying22 (by kernel_rfl) (by kernel_rfl) (hval 0 24 v0 rfl rfl) h0
  obtain ⟨a1, rfl, ha1⟩ := open_i64 Try.underlying3 (hval 1 3 v1 rfl rfl) h1
  exact keeps13_walk r0 a1 q0 n0 c0 z0 W hg0 (by simp [Lit.wf, IntKind.min, IntKind.max, IntKind.signed, IntKind.bits]; omega)

/-- The statement. -/
theorem holds : Rows.GreyKeepsSaid :=
  OpenClaim.holds_of_wide 5 Try.f5 rfl rfl rfl rfl rfl rfl rfl ⟨rfl, rfl, rfl, rfl, rfl⟩ rfl rfl rfl rfl rfl (by kernel_rfl) Try.func5 (by kernel_rfl)
    (of_decide_eq_true (by kernel_rfl)) (by unfold Func.isWrapper; first | (rw [if_pos (by decide +kernel)]; kernel_rfl) | (rw [if_neg (by decide +kernel)]; exact ⟨rfl, rfl⟩))
    (fun os started H enc _ => lifted os started H enc)
#print axioms holds
end GreyKeeps
end Go.Proofs.Ytffcekjkgeiccaa
