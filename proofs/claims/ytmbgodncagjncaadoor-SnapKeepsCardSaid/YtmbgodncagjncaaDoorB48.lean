/- Contracts of the code's marking (chapter 17): New. -/
import Derived.Test.YtmbgodncagjncaaDoorB45
import Derived.Test.YtmbgodncagjncaaDoorB47
import Derived.Test.YtmbgodncagjncaaDoorB32
import Derived.Test.YtmbgodncagjncaaDoorB39
import Derived.OwnWalk
import Derived.Deep.CutRange
namespace Go.Proofs.YtmbgodncagjncaaDoor
set_option linter.unusedSimpArgs false
set_option linter.unusedVariables false
open Go.ChangeShapes Go.WideShapes Go.ChangeAt Go.RowKit Go.Joins

/-- Rows without items, of these rooms. -/
def rmL (rr : Nat → Int) (k : Nat) : List Value := ((List.range k).map fun i => [Value.int .i64 (rr i), .slice none 0 0]).flatten
theorem rmL_snoc (rr : Nat → Int) (k : Nat) : rmL rr (k + 1) = rmL rr k ++ [.int .i64 (rr k), .slice none 0 0] := by
  simp [rmL, List.range_succ]
theorem rmL_length (rr : Nat → Int) : ∀ k, (rmL rr k).length = k * 2
  | 0 => rfl
  | k + 1 => by rw [rmL_snoc, List.length_append, rmL_length rr k]; simp; omega
theorem rmL_get (rr : Nat → Int) : ∀ (k i : Nat), i < k → (rmL rr k)[i * 2]? = some (.int .i64 (rr i)) ∧ (rmL rr k)[i * 2 + 1]? = some (.slice none 0 0)
  | 0, i, h => absurd h (Nat.not_lt_zero i)
  | k + 1, i, h => by
    rw [rmL_snoc]
    have hl := rmL_length rr k
    by_cases e : i < k
    · obtain ⟨h1, h2⟩ := rmL_get rr k i e
      rw [List.getElem?_append_left (by omega), List.getElem?_append_left (by omega)]
      exact ⟨h1, h2⟩
    · obtain rfl : i = k := by omega
      rw [List.getElem?_append_right (by omega), List.getElem?_append_right (by omega), hl]
      simp
/-- The marker's room, and then the mutators'. -/
def rrF (r : Int) (br : Nat → Int) : Nat → Int := fun i => if i = 0 then r else br (i - 1)
theorem rr_vals (r : Int) (nb : Nat) (br : Nat → Int) : vals .i64 1 (fun _ => r) ++ vals .i64 nb br = vals .i64 (1 + nb) (rrF r br) := by
  refine List.ext_getElem? fun i => ?_
  by_cases h : i < 1 + nb
  · rw [vals_get .i64 _ h]
    by_cases h0 : i = 0
    · subst h0
      rw [List.getElem?_append_left (by simp [vals_length]), vals_get .i64 _ (by omega)]
      simp [rrF]
    · rw [List.getElem?_append_right (by simp [vals_length]; omega), vals_length, vals_get .i64 _ (by omega)]
      simp [rrF, h0]
  · rw [List.getElem?_eq_none (by simp [vals_length]; omega), List.getElem?_eq_none (by simp [vals_length]; omega)]
theorem one_row {B : Nat} {x : Int} {T : TypeId} {w : World} (h : TBox T B #[.int .i64 x] w) (hx : (Lit.int .i64 x).wf = true) : Ints .i64 w (some ⟨B, 0, none⟩) 1 (fun _ => x) := fun i hi => by
  obtain rfl : i = 0 := by omega
  exact ⟨⟨B, 0, rfl, h.lt, h.cell 0⟩, hx⟩
theorem two_newG {B : Nat} (w : World) (x y : Value) (t : TypeId) (hB : B = w.heap.size) : ∀ j u, [x, y][j]? = some u → (w.alloc (.cells #[x, y] t)).cell? ((⟨B, 0, none⟩ : Addr).add j) = some u := by
  intro j u h
  subst hB
  match j, h with
  | 0, h =>
    obtain rfl : x = u := by simpa using h
    exact cell_of_row _ _ _ _ _ _ (heap_alloc_new w (.cells #[x, y] t))
  | 1, h =>
    obtain rfl : y = u := by simpa using h
    exact cell_of_row _ _ _ _ _ _ (heap_alloc_new w (.cells #[x, y] t))
theorem ints_none {w : World} {p : Option Addr} {n : Nat} {z : Nat → Int} (h : Ints .i64 w p n z) (e : p = none) : n = 0 := by
  rcases Nat.eq_zero_or_pos n with h0 | h0
  · exact h0
  · obtain ⟨⟨b, off, e1, -⟩, -⟩ := h 0 h0
    rw [e] at e1
    cases e1
theorem aside_grown {g : Nat} {w w' : World} (h : w.grownBy w' (some g)) : Aside (fun k => k = g) w w' :=
  ⟨h.os, h.tape, h.output, h.size, fun k hk hne => h.block k hk (fun e => hne (by injection e))⟩
theorem own_cur {w : World} {N g n c s : Nat} {E : TypeId} {xs : List Value} (h : w.ownsRow N E s (.slice (some ⟨g, 0, none⟩) n c) n xs) (h0 : 0 < n) : ∃ cur : Array Value, TBox E g cur w ∧ ∀ (t : Nat) (u : Value), xs[t]? = some u → cur[t]? = some u := by
  rcases h.2 with ⟨hv, -⟩ | ⟨g', cap, cur, hv, -, hg, -, -, -, ht⟩
  · injection hv with hv; cases hv
  · injection hv with hv
    injection hv with hv
    injection hv with hv
    subst hv
    refine ⟨cur, hg, fun t u hu => ?_⟩
    rw [← ht, List.getElem?_take] at hu
    split at hu
    · simpa using hu
    · cases hu
theorem mk_all {T g : Nat} {x0 x1 x2 x3 x4 x5 x6 x7 : Value} {w : World} (h : TBox T g #[x0, x1, x2, x3, x4, x5, x6, x7] w) : g < w.heap.size ∧ w.cell? ⟨g, 0, none⟩ = some x0 ∧ w.cell? ⟨g, 1, none⟩ = some x1 ∧ w.cell? ⟨g, 2, none⟩ = some x2 ∧ w.cell? ⟨g, 3, none⟩ = some x3 ∧ w.cell? ⟨g, 4, none⟩ = some x4 ∧ w.cell? ⟨g, 5, none⟩ = some x5 ∧ w.cell? ⟨g, 6, none⟩ = some x6 ∧ w.cell? ⟨g, 7, none⟩ = some x7 :=
  ⟨h.lt, h.cell 0, h.cell 1, h.cell 2, h.cell 3, h.cell 4, h.cell 5, h.cell 6, h.cell 7⟩
theorem plain_mkN : PlainC #[.int .i64 0, .slice none 0 0, .slice none 0 0, .slice none 0 0, .int .i64 0, .int .i64 0, .int .i64 0, .bool false] := ⟨by decide, fun i x e => by
  match i, e with
  | 0, e => simp at e
  | 1, e => simp at e
  | 2, e => simp at e
  | 3, e => simp at e
  | 4, e => simp at e
  | 5, e => simp at e
  | 6, e => simp at e
  | 7, e => simp at e
  | i + 8, e => simp at e⟩
theorem gnew_ok {k : Int} (h0 : 0 ≤ k ∧ k ≤ 16) (w : World) : Calls Tryd.prog 51 #[.int .i64 k] w fun e w' => e = .returned (.tuple #[.agg #[.int .i64 k, .slice none 0 0], .bool true]) ∧ Below w.heap.size w w' := by
  have := gnew_any k w
  have e1 : gnB k = true := by simp [gnB]; omega
  have e2 : gnR k = k := by simp [gnR, e1]
  rwa [e1, e2] at this
set_option maxHeartbeats 8000000 in
set_option maxRecDepth 20000 in
/-- New, of rooms that may be: its roots are new memory. -/
theorem mnew_new (N : Nat) (r : Int) {pb : Option Addr} {nb cb : Nat} {br : Nat → Int} {pv : Option Addr} {nr cv : Nat} {ro : Nat → Vl} {w : World} (hN : N ≤ w.heap.size)
    (hb : Ints .i64 w pb nb br) (hn : nb ≤ 1000) (hv : VAt w pv cv nr ro) (hr : nr ≤ 1000000) (h0 : 0 ≤ r ∧ r ≤ 16) (h1 : ∀ i, i < nb → 0 ≤ br i ∧ br i ≤ 16) (hq : pb = none → cb = 0 := by first | (intro e; cases e; done) | (intro _; rfl)) :
    Calls Tryd.prog 29 #[.int .i64 r, .slice pb nb cb, .slice pv nr cv] w fun e w' => ∃ pg' cg' pb' cb' pr' cr', e = .returned (.tuple #[.agg #[.int .i64 r, .slice pg' 0 cg', .slice pb' nb cb', .slice pr' nr cr', .int .i64 (-1), .int .i64 0, .int .i64 (-1), .bool false], .bool true]) ∧
      MAtE N w' (newM r nb br nr ro) pg' cg' pb' cb' pr' cr' ∧ (∀ b off sp, pr' = some ⟨b, off, sp⟩ → w.heap.size ≤ b) ∧ (∀ b off sp, pb' = some ⟨b, off, sp⟩ → w.heap.size ≤ b) ∧ Below w.heap.size w w' := by
  obtain ⟨w0, hw0⟩ : ∃ w0, w0 = w.alloc (.cells #[.int .i64 0, .slice none 0 0, .slice none 0 0, .slice none 0 0, .int .i64 0, .int .i64 0, .int .i64 0, .bool false] 37) := ⟨_, rfl⟩
  have gR : TBox 37 w.heap.size #[.int .i64 0, .slice none 0 0, .slice none 0 0, .slice none 0 0, .int .i64 0, .int .i64 0, .int .i64 0, .bool false] w0 := by rw [hw0]; exact TBox.new _ _ _
  have hb0 : Below w.heap.size w w0 := by rw [hw0]; exact (Below.refl _ _).alloc (Nat.le_refl _) _
  have hsz0' : Hid (w0.heap.size = w.heap.size + 1) := by show w0.heap.size = w.heap.size + 1; rw [hw0]; simp
  obtain ⟨i0, hi, hz0, hz1, hz2⟩ := info_parts grey_info
  have hr64 : (Lit.int .i64 r).wf = true := wf_i64_of (by omega) (by omega)
  have hb2 : i0.bytes * (1 + nb) ≤ 281474976710656 := by rw [hz2]; omega
  have hb3 : 1 + nb ≤ maxLen := by simp only [maxLen]; omega
  go_enter Tryd.func29, Tryd.ntmps29
  go_upto_region 1 with fail
  rw [← hw0]
  clear hw0
  go_upto_region 2 with (first
    | (at_make; refine wpList_make_own w0 rfl (.const (.int .i64 0)) (.tmp 15) 34 rfl w0.heap.size 33 i0 (.agg #[.int .i64 0, .slice none 0 0]) 2 Tryd.underlying34 hi hz0 hz1 .i64 .i64 (1 + nb) (1 + nb) rfl rfl (by omega) hb2 hb3 (Nat.le_refl _) ?_; intro w1 hown1 hgrow1)
  )
  have hbw1 : Below w.heap.size w w1 := hb0.grown hgrow1 hb0.size (fun k hk => by cases hk)
  have gR1 := gR.below ((Below.refl w0.heap.size w0).grown hgrow1 (Nat.le_refl _) (fun k hk => by cases hk))
  have hgl := (hown1.lt _ rfl).2
  obtain ⟨w2, hw2⟩ : ∃ W, W = (w1.alloc (.cells #[.int .i64 r] 3)).alloc (.cells #[.slice (some ⟨w1.heap.size, 0, none⟩) 1 1, .slice pb nb cb] 31) := ⟨_, rfl⟩
  obtain ⟨t1, t2, hb2'⟩ := tbox_two hw2
  have hbw2 := bjoin hb2' hbw1
  have hC := concatI_any (w1.heap.size + 1) (some ⟨w1.heap.size, 0, none⟩) pb 1 1 nb cb (fun _ => r) br w2 t2.lt (t2.cell 0) (t2.cell 1) (one_row t1 hr64) (hb.below hbw2) (fun e => by cases e) (fun e => ⟨ints_none hb e, hq e⟩) (by omega) (by omega)
  rw [rr_vals] at hC
  have hown2 := owned_below hown1 hb2'
  have gR2 := gR1.below hb2'
  have hs2 := hb2'.size
  go_upto_region 3 with (first
    | (go_at_call 50; rw [← hw2]; refine Calls.mono hC ?_; rintro e w3 ⟨pc, cc, rfl, ho3, hb3⟩)
  )
  have hrr : ∀ i, i < 1 + nb → 0 ≤ rrF r br i ∧ rrF r br i ≤ 16 := fun i hi => by
    unfold rrF
    split
    · exact h0
    · exact h1 _ (by omega)
  have hZ3 : Ints .i64 w3 pc (1 + nb) (rrF r br) := ints_owned ho3 fun i hi => by
    have := hrr i hi
    exact wf_i64_of (by omega) (by omega)
  have hnew3 := (owned_info ho3)
  have hown3 := owned_below hown2 hb3
  have gR3 := gR2.below hb3
  have hbw3 := bjoin hb3 hbw2
  have hs3 := hb3.size
  clear hC hw2 t1 t2 hb2' ho3 hown2 hown1 gR1 gR2 gR hgrow1 hb3 hbw1 hbw2
  have hw0g : w.heap.size ≤ w0.heap.size := hb0.size
  have hgw : w.heap.size < w0.heap.size := by
    have := gR3
    have h1 : w0.heap.size = w.heap.size + 1 := hsz0'.out
    omega
  generalize w0.heap.size = g at *
  have hg3 : g < w2.heap.size := by omega
  go_loopg [8, 23] (1 + nb) (fun gh rv iv wr => ∃ j : Nat, j ≤ 1 + nb ∧ gh = 1 + nb - j ∧ rv = .slice (some ⟨g, 0, none⟩) j (1 + nb) ∧ iv = .int .i64 j ∧ wr.ownsRow g 33 2 (.slice (some ⟨g, 0, none⟩) j (1 + nb)) j (rmL (rrF r br) j) ∧ Aside (fun k => k = g) w3 wr)
  case atStart => exact ⟨0, by omega, by omega, rfl, rfl, hown3, Aside.of (Below.refl _ _)⟩
  case round =>
    clear hown3
    obtain ⟨j, hj, rfl, rfl, rfl, hown, hA⟩ := hrel
    have hsr := hA.size
    have hZ := hZ3.aside hA (fun k hk b off sp e => by
      obtain ⟨h1, -⟩ := hnew3 b off sp e
      have : k = g := hk
      omega)
    by_cases hlt : j < 1 + nb
    · obtain ⟨⟨b, off, rfl, hl, hc⟩, hwf⟩ := hZ j hlt
      have hrj := hrr j hlt
      have hG := fun W => gnew_ok hrj W
      have hsn := rmL_snoc (rrF r br) j
      generalize rrF r br j = R at *
      generalize hXS1 : rmL (rrF r br) (j + 1) = XS1 at *
      generalize rmL (rrF r br) j = XS at *
      have hb1 : j + 1 ≤ 1 + nb := hlt
      have hone : ∀ u ∈ ([.int .i64 R, .slice none 0 0] : List Value), u.oneCell' = true := fun u hu => by
        simp only [List.mem_cons, List.not_mem_nil, or_false] at hu
        rcases hu with rfl | rfl <;> rfl
      go_upto_region 6 with (first
    | (go_at_call 51; refine Calls.mono (hG _) ?_; rintro e w' ⟨rfl, hb⟩; obtain ⟨hc, hf, hb, hz⟩ := bstep hb (w := wr) (by go_grown); try simp only [World.size_alloc, World.size_setCell, World.size_drew] at hc hf hz)
      )
      obtain ⟨w4, hw4⟩ : ∃ W, W = w'.alloc (.cells #[.int .i64 R, .slice none 0 0] 33) := ⟨_, rfl⟩
      have hb4 : Below w'.heap.size w' w4 := by rw [hw4]; exact (Below.refl _ _).alloc (Nat.le_refl _) _
      have gX : TBox 33 w'.heap.size #[.int .i64 R, .slice none 0 0] w4 := by rw [hw4]; exact TBox.new _ _ _
      rw [← hw4]
      have hbr4 := bjoin hb4 hb
      have x0 := gX.cell 0
      have x1 := gX.cell 1
      simp only [List.getElem?_toArray, List.getElem?_cons_zero, List.getElem?_cons_succ] at x0 x1
      have lX := gX.lt
      obtain ⟨w5, hw5⟩ : ∃ W, W = w4.alloc (.cells #[.int .i64 R, .slice none 0 0] 33) := ⟨_, rfl⟩
      have hb5 : Below w4.heap.size w4 w5 := by rw [hw5]; exact (Below.refl _ _).alloc (Nat.le_refl _) _
      have hcell5 : ∀ j u, ([.int .i64 R, .slice none 0 0] : List Value)[j]? = some u → w5.cell? ((⟨w4.heap.size, 0, none⟩ : Addr).add j) = some u := by rw [hw5]; exact two_newG w4 _ _ _ rfl
      have hbr5 := bjoin hb5 hbr4
      have hown5 := owned_below hown hbr5
      clear hw4 hc hf hb hz hb4 gX hown
      generalize w'.heap.size = X at *
      go_wp2_with (first
        | (at_builtin; go_loud (rw [← hw5]); go_loud (refine wpList_append_fits w5 rfl (.tmp 35) (.tmp 37) 34 rfl g 33 i0 2 Tryd.underlying34 hi hz1 g j (1 + nb) XS rfl hown5 ⟨w4.heap.size, 0, none⟩ 1 1 [.int .i64 R, .slice none 0 0] rfl rfl hcell5 hone hb1 ?_); intro w9 hown9 hgrow9)
      )
      rw [← hsn] at hown9
      have hA9 := (hA.trans (Aside.of hbr5)).trans (aside_grown hgrow9)
      go_roundg (1 + nb - (j + 1))
      case measure => omega
      case rel => exact ⟨j + 1, by omega, rfl, rfl, by go_num, by rw [hXS1]; exact hown9, hA9⟩
    · obtain rfl : j = 1 + nb := by omega
      obtain ⟨cur, hcur, hget⟩ := own_cur hown (by omega)
      have gR6 := gR3.of_block (hA.block _ gR3.lt (by show ¬ w.heap.size = g; omega))
      have hbr : Below w.heap.size w wr := hbw3.trans (hA.below hbw3.size (fun k e => by rw [e]; exact hw0g))
      have hvr := hv.below hbr
      have hCl := fun W (hW : Below wr.heap.size wr W) => clone_vals pv nr cv ro W (hvr.below hW) hr
      have y0 : wr.cell? ⟨g, 0, none⟩ = some (.int .i64 r) := (hcur.cell 0).trans (hget 0 _ (rmL_get (rrF r br) (1 + nb) 0 (by omega)).1)
      have y1 : wr.cell? ⟨g, 1, none⟩ = some (.slice none 0 0) := (hcur.cell 1).trans (hget 1 _ (rmL_get (rrF r br) (1 + nb) 0 (by omega)).2)
      have lg := hcur.lt
      have hrows : RAt (GrE N) 2 wr (some ⟨g, 2, none⟩) nb nb (fun i => ⟨br i, 0, fun _ => 0⟩) := ⟨fun i hi => by
        obtain ⟨e1, e2⟩ := rmL_get (rrF r br) (1 + nb) (i + 1) (by omega)
        have hb1 := h1 i hi
        rw [show rrF r br (i + 1) = br i by simp [rrF]] at e1
        refine ⟨g, 2, [.int .i64 (br i), .slice none 0 0], rfl, lg, rfl, fun k u hk => ?_, none, 0, rfl, gr_nil _ _, rowE_nil _ _ _ _, show In64 (br i) from ⟨by omega, by omega⟩⟩
        match k, hk with
        | 0, hk => obtain rfl : Value.int .i64 (br i) = u := by simpa using hk
                   rw [Nat.add_zero, show 2 + i * 2 = (i + 1) * 2 by omega]; exact (hcur.cell _).trans (hget _ _ e1)
        | 1, hk => obtain rfl : Value.slice none 0 0 = u := by simpa using hk
                   rw [show 2 + i * 2 + 1 = (i + 1) * 2 + 1 by omega]; exact (hcur.cell _).trans (hget _ _ e2), by simp only [maxLen]; omega, (fun e => by cases e), Nat.le_refl _, by simp only [maxLen]; omega⟩
      obtain ⟨hl6, x0, x1, x2, x3, x4, x5, x6, x7⟩ := mk_all gR6
      have fx := mk_frozen gR6
      obtain ⟨f0, f1, f2, f3, f4, f5, f6, f7⟩ := fx
      clear hown hA hZ hZ3 hnew3 hrr gR3
      have hgtag : RowE N 33 nb (some ⟨g, 2, none⟩) wr := fun _ b1 off sp e => by
        injection e with e
        injection e with e
        subst e
        exact ⟨lg, .inr ⟨cur, hcur⟩⟩
      have hgl2 : ¬ g = w.heap.size := by omega
      have hgN : ∀ o b off sp, (some ⟨g, o, none⟩ : Option Addr) = some ⟨b, off, sp⟩ → w.heap.size ≤ b := fun o b off sp e => by
        injection e with e
        injection e with e
        omega
      clear hget hcur hbw3 hsr hs3 hs2
      go_upto_region 10 with fail
      go_cut [7] from 40 to 47 (fun bv wx => bv = .bool true ∧ ∃ pb' cb' p9 c9, MAtE N wx (newM r nb br nr ro) none 0 pb' cb' p9 c9 ∧ (∀ b off sp, p9 = some ⟨b, off, sp⟩ → w.heap.size ≤ b) ∧ (∀ b off sp, pb' = some ⟨b, off, sp⟩ → w.heap.size ≤ b) ∧ Below w.heap.size w wx ∧ TBox 37 w.heap.size #[.int .i64 r, .slice none 0 0, .slice pb' nb cb', .slice p9 nr c9, .int .i64 (-1), .int .i64 0, .int .i64 (-1), .bool false] wx)
      case first =>
        by_cases hnb0 : nb = 0
        · clear hrows hgtag
          subst hnb0
          simp only [Nat.add_zero, Int.ofNat_zero, Int.add_zero] at *
          go_region_with (first
    | (go_at_call 52; refine Calls.mono (hCl _ (by go_grown)) ?_; rintro e w' ⟨p9, c9, rfl, hV9, ht9, hb⟩; obtain ⟨hc, hf, hb, hz⟩ := bstep hb (w := wr) (by go_grown); try simp only [World.size_alloc, World.size_setCell, World.size_drew] at hc hf hz)
          )
          all_goals
            replace gR6 := gR6.below hb
            have v6 : VarT 37 8 w.heap.size w' := ⟨_, rfl, plain_mkN, gR6⟩
            have hnew9 : ∀ b off sp, p9 = some ⟨b, off, sp⟩ → w.heap.size ≤ b := fun b1 off sp e => by have h := (ht9 b1 off sp e).1; have h2 := hbr.size; (try simp only [World.size_drew] at h); omega
            have hR9 : RowE N 46 nr p9 w' := fun _ b1 off sp e => by
              obtain ⟨-, cs, h1⟩ := ht9 b1 off sp e
              exact ⟨(Array.getElem?_eq_some_iff.1 h1).1, .inr ⟨cs, h1⟩⟩
            have hrat0 : RAt (GrE N) 2 w' (some ⟨g, 0, none⟩) 0 0 (fun i => (⟨br i, 0, fun _ => 0⟩ : Gy)) := ⟨fun i hi => absurd hi (Nat.not_lt_zero i), by decide, (fun e => by cases e), Nat.le_refl _, by decide⟩
            have hrow0 : RowE N 33 0 (some ⟨g, 0, none⟩) w' := fun h0 => absurd h0 (Nat.lt_irrefl 0)
            have hM := MAtE.puts (m := newM r 0 br nr ro) (⟨gr_nil _ _, rowE_nil _ _ _ _, hrat0, hrow0, hV9, hR9⟩ : MAtE N w' (newM r 0 br nr ro) none 0 (some ⟨g, 0, none⟩) 0 p9 c9) v6 (by decide) (by decide) (by decide) hN [.int .i64 r, .slice none 0 0, .slice (some ⟨g, 0, none⟩) 0 0, .slice p9 nr c9, .int .i64 (-1), .int .i64 0, .int .i64 (-1), .bool false]
            have hbE := (bjoin hb hbr).trans (putsL_below (Nat.le_refl w.heap.size) [.int .i64 r, .slice none 0 0, .slice (some ⟨g, 0, none⟩) 0 0, .slice p9 nr c9, .int .i64 (-1), .int .i64 0, .int .i64 (-1), .bool false] 0 w')
            have g9 : TBox 37 w.heap.size #[.int .i64 r, .slice none 0 0, .slice (some ⟨g, 0, none⟩) 0 0, .slice p9 nr c9, .int .i64 (-1), .int .i64 0, .int .i64 (-1), .bool false] _ := v6.full8
            simp only [putsL, Nat.reduceAdd] at hM hbE g9
            have hdr : ∀ W : World, Below W.heap.size W W.drew := fun W => (Below.refl _ _).drew
            go_wp2_with fail
            go_meet
            first
              | exact ⟨rfl, (some ⟨g, 0, none⟩), 0, p9, c9, hM, hnew9, hgN _, hbE, g9⟩
              | exact ⟨rfl, (some ⟨g, 0, none⟩), 0, p9, c9, hM.below (hdr _), hnew9, hgN _, hbE.drew, g9.below (hdr _)⟩
              | exact ⟨rfl, (some ⟨g, 0, none⟩), 0, p9, c9, (hM.below (hdr _)).below (hdr _), hnew9, hgN _, hbE.drew.drew, (g9.below (hdr _)).below (hdr _)⟩
        · have hnb1 : ¬ 1 + nb = 1 := by omega
          go_region_with (first
    | (go_at_call 52; refine Calls.mono (hCl _ (by go_grown)) ?_; rintro e w' ⟨p9, c9, rfl, hV9, ht9, hb⟩; obtain ⟨hc, hf, hb, hz⟩ := bstep hb (w := wr) (by go_grown); try simp only [World.size_alloc, World.size_setCell, World.size_drew] at hc hf hz)
          )
          all_goals
            replace gR6 := gR6.below hb
            have v6 : VarT 37 8 w.heap.size w' := ⟨_, rfl, plain_mkN, gR6⟩
            have hnew9 : ∀ b off sp, p9 = some ⟨b, off, sp⟩ → w.heap.size ≤ b := fun b1 off sp e => by have h := (ht9 b1 off sp e).1; have h2 := hbr.size; (try simp only [World.size_drew] at h); omega
            have hR9 : RowE N 46 nr p9 w' := fun _ b1 off sp e => by
              obtain ⟨-, cs, h1⟩ := ht9 b1 off sp e
              exact ⟨(Array.getElem?_eq_some_iff.1 h1).1, .inr ⟨cs, h1⟩⟩
            have hM := MAtE.puts (m := newM r nb br nr ro) (⟨gr_nil _ _, rowE_nil _ _ _ _, hrows.below grE_below hb, hgtag.below hb, hV9, hR9⟩ : MAtE N w' (newM r nb br nr ro) none 0 (some ⟨g, 2, none⟩) nb p9 c9) v6 (by decide) (by decide) (by decide) hN [.int .i64 r, .slice none 0 0, .slice (some ⟨g, 2, none⟩) nb nb, .slice p9 nr c9, .int .i64 (-1), .int .i64 0, .int .i64 (-1), .bool false]
            have hbE := (bjoin hb hbr).trans (putsL_below (Nat.le_refl w.heap.size) [.int .i64 r, .slice none 0 0, .slice (some ⟨g, 2, none⟩) nb nb, .slice p9 nr c9, .int .i64 (-1), .int .i64 0, .int .i64 (-1), .bool false] 0 w')
            have g9 : TBox 37 w.heap.size #[.int .i64 r, .slice none 0 0, .slice (some ⟨g, 2, none⟩) nb nb, .slice p9 nr c9, .int .i64 (-1), .int .i64 0, .int .i64 (-1), .bool false] _ := v6.full8
            simp only [putsL, Nat.reduceAdd] at hM hbE g9
            have hdr : ∀ W : World, Below W.heap.size W W.drew := fun W => (Below.refl _ _).drew
            go_wp2_with fail
            go_meet
            first
              | exact ⟨rfl, (some ⟨g, 2, none⟩), nb, p9, c9, hM, hnew9, hgN _, hbE, g9⟩
              | exact ⟨rfl, (some ⟨g, 2, none⟩), nb, p9, c9, hM.below (hdr _), hnew9, hgN _, hbE.drew, g9.below (hdr _)⟩
              | exact ⟨rfl, (some ⟨g, 2, none⟩), nb, p9, c9, (hM.below (hdr _)).below (hdr _), hnew9, hgN _, hbE.drew.drew, (g9.below (hdr _)).below (hdr _)⟩
      obtain ⟨rfl, pb', cb', p9, c9, hM, hnew9, hgN9, hbE, g9⟩ := hcut
      clear x0 x1 x2 x3 x4 x5 x6 x7 f0 f1 f2 f3 f4 f5 f6 f7 y0 y1 hl6 lg
      obtain ⟨hl6, x0, x1, x2, x3, x4, x5, x6, x7⟩ := mk_all g9
      go_wp2
      refine bodyPost_ret (by simp [results, Tryd.results29, go_sem, *]; try rfl) rfl ?_
      exact ⟨none, 0, pb', cb', p9, c9, rfl, hM, hnew9, hgN9, hbE⟩
end Go.Proofs.YtmbgodncagjncaaDoor
