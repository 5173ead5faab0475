/- ReachLeast: from two rows of values together what is reached from either; from what is reached itself no more. No condition. -/
import Derived.Test.YtmkcjolaboggnaaDoorRows
import Derived.Test.YtmkcjolaboggnaaDoorCards
import Derived.Test.YtmkcjolaboggnaaDoorTie
import Derived.Test.YtmkcjolaboggnaaDoorAwake15
import Derived.SevenTiedAt
namespace Go.Proofs.YtmkcjolaboggnaaDoor
set_option linter.unusedSimpArgs false
set_option linter.unusedVariables false
open Go.ChangeShapes Go.WideShapes Go.ChangeAt Go.RowKit Go.Joins

theorem vrL_congr {z y : Nat → Vl} : ∀ {n : Nat}, (∀ i, i < n → z i = y i) → vrL z n = vrL y n
  | 0, _ => rfl
  | n + 1, e => by
    have ih := vrL_congr (n := n) fun i hi => e i (by omega)
    show (if (z n).k = 2 then vrL z n ++ [(z n).n] else vrL z n) = (if (y n).k = 2 then vrL y n ++ [(y n).n] else vrL y n)
    rw [ih, e n (by omega)]
theorem vrL_cat (n : Nat) (z y : Nat → Vl) : ∀ m, vrL (catV n z y) (n + m) = vrL z n ++ vrL y m
  | 0 => by
    show vrL (catV n z y) n = vrL z n ++ []
    rw [List.append_nil]
    exact vrL_congr fun i hi => by unfold catV; rw [if_pos hi]
  | m + 1 => by
    have ih := vrL_cat n z y m
    have e : catV n z y (n + m) = y m := by unfold catV; rw [if_neg (by omega)]; congr 1; omega
    show (if (catV n z y (n + m)).k = 2 then vrL (catV n z y) (n + m) ++ [(catV n z y (n + m)).n] else vrL (catV n z y) (n + m)) = vrL z n ++ (if (y m).k = 2 then vrL y m ++ [(y m).n] else vrL y m)
    rw [ih, e]
    split
    · rw [List.append_assoc]
    · rfl
/-- Values that refer to the addresses of a list. -/
def reV (L : List Int) : Nat → Vl := fun i => ⟨2, L[i]?.getD 0⟩
theorem vrL_re (L : List Int) : ∀ k, k ≤ L.length → vrL (reV L) k = L.take k
  | 0, _ => rfl
  | k + 1, h => by
    have ih := vrL_re L k (by omega)
    show (if (2 : Int) = 2 then vrL (reV L) k ++ [L[k]?.getD 0] else vrL (reV L) k) = _
    rw [if_pos rfl, ih, List.take_add_one, List.getElem?_eq_getElem (by omega)]
    rfl
theorem in_list {L : List Int} {x : Int} : inZ L.length (fun i => L[i]?.getD 0) x = decide (x ∈ L) := by
  rw [Bool.eq_iff_iff, inZ_iff, decide_eq_true_eq]
  constructor
  · rintro ⟨i, hi, e⟩
    rw [List.getElem?_eq_getElem hi] at e
    have : L[i] = x := e
    rw [← this]
    exact List.getElem_mem hi
  · intro hx
    obtain ⟨i, hi, e⟩ := List.getElem_of_mem hx
    exact ⟨i, hi, by rw [List.getElem?_eq_getElem hi]; exact e⟩
set_option maxHeartbeats 16000000 in
set_option maxRecDepth 20000 in
theorem least15_walk {p : Option Addr} {c : Nat} {q : Option Addr} {d : Nat} {h : Hp} (p1 : Option Addr) (n1 c1 : Nat) (z1 : Nat → Vl) (p2 : Option Addr) (n2 c2 : Nat) (z2 : Nat → Vl) (w : World) (hat : HpAt w p c q d h) (hv1 : VAt w p1 c1 n1 z1) (hv2 : VAt w p2 c2 n2 z2) (hS : Sz w) :
    Calls Tryd.prog 3 #[.agg #[.slice p h.n c, .slice q h.m d, .bool h.b], .slice p1 n1 c1, .slice p2 n2 c2] w fun e w' => e = .returned (.bool true) ∧ Below w.heap.size w w' := by
  obtain ⟨w0, hw0⟩ : ∃ w0, w0 = w.alloc (.cells #[.slice p h.n c, .slice q h.m d, .bool h.b] 25) := ⟨_, rfl⟩
  have g3 : Box3 w.heap.size (.slice p h.n c) (.slice q h.m d) (.bool h.b) w0 := by rw [hw0]; exact Box3.new _ _ _ _ _
  have hB0 : Below w.heap.size w w0 := by rw [hw0]; exact (Below.refl _ _).alloc (Nat.le_refl _) _
  replace hat := hat.below hB0
  replace hS := hS.below hB0
  replace hv1 := hv1.below hB0
  replace hv2 := hv2.below hB0
  obtain ⟨l3, x0, x1, x2, -, -, -⟩ := id g3
  have hFo := fun W (hW : Below w0.heap.size w0 W) => rform_any _ _ _ _ _ W (hat.below hW)
  have m1 := hv1.nle
  have m2 := hv2.nle
  simp only [maxLen] at m1 m2
  by_cases hgo : formB h = true ∧ n1 ≤ 100 ∧ n2 ≤ 100
  · obtain ⟨hF, k1, k2⟩ := hgo
    rw [hF] at hFo
    have d1 : decide (100 < (n1 : Int)) = false := by simp; omega
    have d2 : decide (100 < (n2 : Int)) = false := by simp; omega
    have hF' : Hid (formB h = true) := hF
    clear hF
    go_enter Tryd.func3, Tryd.ntmps3
    go_upto_region 1 with fail
    rw [← hw0]
    clear hw0
    go_upto_region 3 with (first
    | (go_at_call 4; refine Calls.mono (awake15_any _ (hS.below (by go_grown))) ?_; rintro e w' ⟨rfl, hb⟩; obtain ⟨hc, hf, hb, hz⟩ := bstep hb (w := w0) (by go_grown); try simp only [World.size_alloc, World.size_setCell, World.size_drew] at hc hf hz)
    | (go_at_call 5; refine Calls.mono (hFo _ (by go_grown)) ?_; rintro e w' ⟨rfl, hb⟩; obtain ⟨hc, hf, hb, hz⟩ := bstep hb (w := w0) (by go_grown); try simp only [World.size_alloc, World.size_setCell, World.size_drew] at hc hf hz)
    )
    replace hat := hat.below hb
    replace hS := hS.below hb
    replace hv1 := hv1.below hb
    replace hv2 := hv2.below hb
    replace g3 := g3.below hb
    have hbW := bjoin hb hB0
    clear hb hc hf hz hFo hB0 x0 x1 x2 l3 m1 m2 d1 d2
    generalize w' = w3 at *
    obtain ⟨l3, x0, x1, x2, -, -, -⟩ := id g3
    have hn512 : h.n ≤ 512 := by have := form_iff.1 hF'.out; omega
    have hA := fun W (hW : Below w3.heap.size w3 W) => afrom_in (hS.below hW) (hat.below hW).in hF'.out (hv1.below hW) (by omega)
    have hB := fun W (hW : Below w3.heap.size w3 W) => afrom_in (hS.below hW) (hat.below hW).in hF'.out (hv2.below hW) (by omega)
    generalize hL1 : rcL h (vrL z1 n1) = L1 at hA
    generalize hL2 : rcL h (vrL z2 n2) = L2 at hB
    go_upto_region 4 with (first
      | (go_at_call 6; refine Calls.mono (hA _ (Below.refl _ _)) ?_; rintro e w4 ⟨pa, ca, rfl, hR1, hb4⟩)
    )
    replace g3 := g3.below hb4
    obtain ⟨l3, x0, x1, x2, -, -, -⟩ := id g3
    go_upto_region 5 with (first
      | (go_at_call 6; refine Calls.mono (hB _ hb4) ?_; rintro e w5 ⟨pb, cb, rfl, hR2, hb5⟩)
    )
    have hb35 := bjoin hb5 hb4
    replace g3 := g3.below hb5
    replace hR1 := hR1.below hb5
    replace hat := hat.below hb35
    replace hS := hS.below hb35
    replace hv1 := hv1.below hb35
    replace hv2 := hv2.below hb35
    replace hbW := bjoin hb35 hbW
    clear hb4 hb5 hb35 hA hB
    obtain ⟨l3, x0, x1, x2, -, -, -⟩ := id g3
    have hC := fun W pv cv (hW : Below w5.heap.size w5 W) (hV : VAt W pv cv (n1 + n2) (catV n1 z1 z2)) => afrom_in (hS.below hW) (hat.below hW).in hF'.out hV (by omega)
    rw [vrL_cat] at hC
    generalize hL3 : rcL h (vrL z1 n1 ++ vrL z2 n2) = L3 at hC
    have hPBx : allP (fun p => ∀ v w w', p v w → Below w.heap.size w w' → p v w') ([(fun v _ => v = .agg #[.slice p h.n c, .slice q h.m d, .bool h.b]), (NilB (w5.heap.size) 33), (fun v _ => v = .slice p1 n1 c1), (CopyB (w5.heap.size) 33 2 (n1) (vlVals n1 z1)), (fun v _ => v = .slice p2 n2 c2), (OwnV (w5.heap.size) 33 2 (n1 + n2) (vlVals n1 z1 ++ vlVals n2 z2))] : List (Value → World → Prop)) := ⟨fun _ _ _ h _ => h, fun _ _ _ h hb => h.below hb, fun _ _ _ h _ => h, fun _ _ _ h hb => h.below hb, fun _ _ _ h _ => h, fun _ _ _ h hb => h.below hb, trivial⟩
    have hSBx : ∀ s1 s2 : World, (fun _ : World => True) s1 → Below s1.heap.size s1 s2 → (fun _ : World => True) s2 := fun _ _ _ _ => trivial
    refine wp_toldhead_pv 6 [38, 39, 40, 41, 42, 43] ([(fun v _ => v = .agg #[.slice p h.n c, .slice q h.m d, .bool h.b]), (NilB (w5.heap.size) 33), (fun v _ => v = .slice p1 n1 c1), (CopyB (w5.heap.size) 33 2 (n1) (vlVals n1 z1)), (fun v _ => v = .slice p2 n2 c2), (OwnV (w5.heap.size) 33 2 (n1 + n2) (vlVals n1 z1 ++ vlVals n2 z2))] : List (Value → World → Prop)) (by kernel_rfl) (by kernel_rfl) (by kernel_rfl) (by decide) (by kernel_rfl) (by kernel_rfl) rfl rfl (by decide) (by simp) ?_ ?_
    · refine ⟨?_, ?_, ?_, ?_, ?_, ?_, trivial⟩
      · intro a' w' hb' hsz hsh hs hd Kc hK
        have f3 : a'.tmps[3]?.getD undef = .pointer (some ⟨w.heap.size, 0, none⟩) := (hs 3 (by decide)).trans rfl
        clear hs hd
        have x0' := (hb'.cell (p := ⟨w.heap.size, 0, none⟩) l3).trans x0
        have x1' := (hb'.cell (p := ⟨w.heap.size, 1, none⟩) l3).trans x1
        have x2' := (hb'.cell (p := ⟨w.heap.size, 2, none⟩) l3).trans x2
        unfold Oper.wp
        go_simp
        exact hK _ _ (toldS_below hSBx hPBx hsz (Below.refl _ _)) (by first | rfl | (show Value.int _ _ = Value.int _ _; go_num; done) | (simp [valOf, *]; done) | (simp [valOf]; omega))
      · intro a' w' hb' hsz hsh hs hd Kc hK
        clear hs hd
        have x0' := (hb'.cell (p := ⟨w.heap.size, 0, none⟩) l3).trans x0
        have x1' := (hb'.cell (p := ⟨w.heap.size, 1, none⟩) l3).trans x1
        have x2' := (hb'.cell (p := ⟨w.heap.size, 2, none⟩) l3).trans x2
        unfold Oper.wp
        go_simp
        exact hK _ _ (toldS_below hSBx hPBx hsz ((Below.refl _ _).alloc (Nat.le_refl _) _)) (nilB_new _ _ hsz)
      · intro a' w' hb' hsz hsh hs hd Kc hK
        have f1 : a'.tmps[1]?.getD undef = .slice p1 n1 c1 := (hs 1 (by decide)).trans rfl
        clear hs hd
        have x0' := (hb'.cell (p := ⟨w.heap.size, 0, none⟩) l3).trans x0
        have x1' := (hb'.cell (p := ⟨w.heap.size, 1, none⟩) l3).trans x1
        have x2' := (hb'.cell (p := ⟨w.heap.size, 2, none⟩) l3).trans x2
        unfold Oper.wp
        go_simp
        exact hK _ _ (toldS_below hSBx hPBx hsz (Below.refl _ _)) (by first | rfl | (show Value.int _ _ = Value.int _ _; go_num; done) | (simp [valOf, *]; done) | (simp [valOf]; omega))
      · intro a' w' hb' hsz hsh hs hd Kc hK
        have f39 : NilB (w5.heap.size) 33 (a'.tmps[39]?.getD undef) w' := hd 1 39 (by first | rfl | decide | simp [Region.binds]) rfl
        have f40 : a'.tmps[40]?.getD undef = .slice p1 n1 c1 := hd 2 40 (by first | rfl | decide | simp [Region.binds]) rfl
        clear hs hd
        have x0' := (hb'.cell (p := ⟨w.heap.size, 0, none⟩) l3).trans x0
        have x1' := (hb'.cell (p := ⟨w.heap.size, 1, none⟩) l3).trans x1
        have x2' := (hb'.cell (p := ⟨w.heap.size, 2, none⟩) l3).trans x2
        obtain ⟨i0, hj0, hj1, hj2, hj3⟩ := info_parts val_info
        refine step_copy rfl (.tmp 39) (.tmp 40) 26 rfl 33 i0 (.agg #[.int .i64 0, .int .i64 0]) 2 16 Tryd.underlying26 hj0 hj1 hj2 hj3 rfl (by decide) (w5.heap.size) (a'.tmps[39]?.getD undef) (by simp [Act.eval]) (f39.owns 2) (p1) (n1) (c1) (vlVals n1 z1) (by rw [← f40]; simp [Act.eval]) (by simp [vlVals_length, vals_length]) ((fun e => (hv1.pnil e).1)) ((hv1.row.below hb').cells) (vlVals_one _ _) (by simp only [maxLen]; omega) (by omega) hsz fun v' w2 ho hbo => ?_
        exact hK _ _ (toldS_below hSBx hPBx hsz hbo) ho
      · intro a' w' hb' hsz hsh hs hd Kc hK
        have f2 : a'.tmps[2]?.getD undef = .slice p2 n2 c2 := (hs 2 (by decide)).trans rfl
        clear hs hd
        have x0' := (hb'.cell (p := ⟨w.heap.size, 0, none⟩) l3).trans x0
        have x1' := (hb'.cell (p := ⟨w.heap.size, 1, none⟩) l3).trans x1
        have x2' := (hb'.cell (p := ⟨w.heap.size, 2, none⟩) l3).trans x2
        unfold Oper.wp
        go_simp
        exact hK _ _ (toldS_below hSBx hPBx hsz (Below.refl _ _)) (by first | rfl | (show Value.int _ _ = Value.int _ _; go_num; done) | (simp [valOf, *]; done) | (simp [valOf]; omega))
      · intro a' w' hb' hsz hsh hs hd Kc hK
        have f41 : CopyB (w5.heap.size) 33 2 (n1) (vlVals n1 z1) (a'.tmps[41]?.getD undef) w' := hd 3 41 (by first | rfl | decide | simp [Region.binds]) rfl
        have f42 : a'.tmps[42]?.getD undef = .slice p2 n2 c2 := hd 4 42 (by first | rfl | decide | simp [Region.binds]) rfl
        clear hs hd
        have x0' := (hb'.cell (p := ⟨w.heap.size, 0, none⟩) l3).trans x0
        have x1' := (hb'.cell (p := ⟨w.heap.size, 1, none⟩) l3).trans x1
        have x2' := (hb'.cell (p := ⟨w.heap.size, 2, none⟩) l3).trans x2
        obtain ⟨i0, hj0, hj1, hj2, hj3⟩ := info_parts val_info
        refine step_many rfl (.tmp 41) (.tmp 42) 26 rfl 33 i0 (.agg #[.int .i64 0, .int .i64 0]) 2 16 Tryd.underlying26 hj0 hj1 hj2 hj3 rfl (by decide) (w5.heap.size) (a'.tmps[41]?.getD undef) (n1) (vlVals n1 z1) (by simp [Act.eval]) f41 (p2) (n2) (c2) (vlVals n2 z2) (by rw [← f42]; simp [Act.eval]) (by simp [vlVals_length, vals_length]) ((fun e => (hv2.pnil e).1)) ((hv2.row.below hb').cells) (vlVals_one _ _) (by simp only [maxLen]; omega) (by omega) hsz fun v' w2 ho hch => ?_
        refine hK _ _ ?_ ho
        rcases hch with hch | hch
        · exact (toldS_below hSBx hPBx hsz hch)
        · refine ⟨hch.lower, fun h => trivial, fun i v => ?_⟩
          match i with
          | 0 => exact fun h => h
          | 1 => show NilB (w5.heap.size) 33 v w' → NilB (w5.heap.size) 33 v _; intro h; exact h.inPl hch (by decide)
          | 2 => exact fun h => h
          | 3 => show CopyB (w5.heap.size) 33 2 (n1) (vlVals n1 z1) v w' → CopyB (w5.heap.size) 33 2 (n1) (vlVals n1 z1) v _; intro h; exact h.inPl hch (by simp [vlVals_length, vals_length])
          | 4 => exact fun h => h
          | 5 => show OwnV (w5.heap.size) 33 2 (n1 + n2) (vlVals n1 z1 ++ vlVals n2 z2) v w' → OwnV (w5.heap.size) 33 2 (n1 + n2) (vlVals n1 z1 ++ vlVals n2 z2) v _; intro h; exact own_inPl h hch (by simp [vlVals_length, vals_length]) (.inr ⟨_, rfl, rfl⟩)
          | _ + 6 => exact fun _ => trivial
    intro Xf w' hb hv
    have q38 : Xf 38 = .agg #[.slice p h.n c, .slice q h.m d, .bool h.b] := hv 0 38 rfl
    have o5 : OwnV (w5.heap.size) 33 2 (n1 + n2) (vlVals n1 z1 ++ vlVals n2 z2) (Xf 43) w' := hv 5 43 rfl
    clear hv hPBx hSBx
    simp only [List.map_cons, List.map_nil, q38, puts, Act.put, Nat.reduceAdd, List.setIfInBounds_toArray, List.set_cons_succ, List.set_cons_zero, List.drop_succ_cons, List.drop_zero]
    obtain ⟨pv, cv, ff, -⟩ := owned_new o5
    unfold OwnV at o5
    rw [ff, cat_vals] at o5
    rw [ff]
    have hV : VAt w' pv cv (n1 + n2) (catV n1 z1 z2) := va_owned o5 (by simp only [maxLen]; omega) fun i hi => by
      unfold catV
      split
      · exact hv1.row.wf i (by omega)
      · exact hv2.row.wf (i - n1) (by omega)
    clear ff o5
    go_upto_region 6 with (first
      | (go_at_call 6; refine Calls.mono (hC _ _ _ hb hV) ?_; rintro e w6 ⟨pc, cc, rfl, hR3, hb6⟩)
    )
    replace hR3 := hR3
    have hb56 := bjoin hb6 hb
    replace g3 := g3.below hb56
    replace hR1 := hR1.below hb56
    replace hR2 := hR2.below hb56
    replace hat := hat.below hb56
    replace hS := hS.below hb56
    replace hbW := bjoin hb56 hbW
    clear hb6 hb hb56 hC hV l3 x0 x1 x2 hv1 hv2
    have e3 : ∀ x, x ∈ L3 → x ∈ L1 ∨ x ∈ L2 := fun x hx => by
      rw [← hL3, mem_rc hF'.out] at hx
      rw [← hL1, ← hL2, mem_rc hF'.out, mem_rc hF'.out]
      exact hx.cases
    have e1 : ∀ x, x ∈ L1 → x ∈ L3 := fun x hx => by
      rw [← hL1, mem_rc hF'.out] at hx
      rw [← hL3, mem_rc hF'.out]
      exact hx.mono fun y hy => List.mem_append_left _ hy
    have e2 : ∀ x, x ∈ L2 → x ∈ L3 := fun x hx => by
      rw [← hL2, mem_rc hF'.out] at hx
      rw [← hL3, mem_rc hF'.out]
      exact hx.mono fun y hy => List.mem_append_right _ hy
    have q1 : L1.length ≤ 512 := by rw [← hL1]; exact Nat.le_trans (rc_len _) hn512
    have q2 : L2.length ≤ 512 := by rw [← hL2]; exact Nat.le_trans (rc_len _) hn512
    have q3 : L3.length ≤ 512 := by rw [← hL3]; exact Nat.le_trans (rc_len _) hn512
    have w1 : ∀ x ∈ L1, (Lit.int .i64 x).wf = true := by rw [← hL1]; exact rc_wf hn512 _
    have e4 : rcL h L1 = L1 := by rw [← hL1]; exact rc_again hF'.out
    have e5 : wdL h L1 ≤ wdL h L3 := wd_mono e1
    clear hL1 hL2 hL3
    have hIn : ∀ (W : World) (p : Option Addr) (c : Nat) (L : List Int) (x : Int) (r : Bool), L.length ≤ 512 → (Ints .i64 W p L.length fun i => L[i]?.getD 0) → decide (x ∈ L) = r → Calls Tryd.prog 7 #[.slice p L.length c, .int .i64 x] W fun e w' => e = .returned (.bool r) ∧ Below W.heap.size W w' := fun W p c L x r hl hi e => by
      have := rin8_any p L.length c (fun i => L[i]?.getD 0) x W hi (by simp only [maxLen]; omega)
      rwa [in_list, e] at this
    have i1 := hR1.ints
    have i2 := hR2.ints
    have i3 := hR3.ints
    clear hR1 hR2 hR3 q38 k1 k2
    have hgi : ∀ (L : List Int) (i : Nat), i < L.length → L[i]?.getD 0 ∈ L := fun L i hi => by
      rw [List.getElem?_eq_getElem hi]
      exact List.getElem_mem hi
    go_wp2
    go_loopg [10] L3.length (fun g iv wr => ∃ i : Nat, i ≤ L3.length ∧ g = L3.length - i ∧ iv = .int .i64 i ∧ Below w6.heap.size w6 wr)
    case atStart => exact ⟨0, by omega, by omega, rfl, Below.refl _ _⟩
    case round =>
      obtain ⟨i, ih, rfl, rfl, hbr⟩ := hrel
      by_cases hi : i < L3.length
      · have j1 := i1.below hbr
        have j2 := i2.below hbr
        obtain ⟨⟨b3, o3, rfl, hl3, v3⟩, -⟩ := (i3.below hbr) i hi
        have hm := hgi L3 i hi
        dsimp only at v3
        have hcs := e3 _ hm
        have hin : (i : Int) < L3.length := by omega
        generalize L3[i]?.getD 0 = V at *
        have hcs2 : (decide (V ∈ L1) = true) ∨ (decide (V ∈ L1) = false ∧ decide (V ∈ L2) = true) := by
          by_cases h1 : V ∈ L1
          · exact .inl (by simpa using h1)
          · exact .inr ⟨by simpa using h1, by simpa using hcs.resolve_left h1⟩
        clear hcs hm e1 e2 e3 e4 e5 w1
        rcases hcs2 with r1 | ⟨r1, r2⟩
        all_goals
          go_wp2_with (first
    | (go_at_call 7; refine Calls.mono (hIn _ _ _ _ _ _ (by assumption) (by assumption) (by assumption)) ?_; rintro e w' ⟨rfl, hb⟩; (first | replace j1 := j1.below hb | replace j1 := (j1.below (by go_grown)).below hb | skip); (first | replace j2 := j2.below hb | replace j2 := (j2.below (by go_grown)).below hb | skip); obtain ⟨hc, hf, hb, hz⟩ := bstep hb (w := wr) (by go_grown); try simp only [World.size_alloc, World.size_setCell, World.size_drew] at hc hf hz)
          )
          go_roundg (L3.length - (i + 1))
          case measure => omega
          case rel => exact ⟨i + 1, by omega, rfl, by go_num, bjoin hb hbr⟩
      · obtain rfl : i = L3.length := by omega
        clear e3
        replace hat := hat.below hbr
        replace hS := hS.below hbr
        replace g3 := g3.below hbr
        replace i1 := i1.below hbr
        replace i2 := i2.below hbr
        replace i3 := i3.below hbr
        replace hbW := bjoin hbr hbW
        clear hbr
        generalize wr = w7 at *
        obtain ⟨t0, hq0, hq1, hq2, hq3⟩ := info_parts val_info
        go_wp2
        go_loopg [11, 12] L1.length (fun g ov iv wr => ∃ j : Nat, j ≤ L1.length ∧ g = L1.length - j ∧ iv = .int .i64 j ∧ wr.ownsRow w7.heap.size 33 2 ov j (vlVals j (reV L1)) ∧ Below w7.heap.size w7 wr)
        case atStart => exact ⟨0, by omega, by omega, rfl, World.ownsRow_nil _ _ _ _, Below.refl _ _⟩
        case round =>
          obtain ⟨j, jh, rfl, rfl, hown, hbr⟩ := hrel
          have hsz : w7.heap.size ≤ wr.heap.size := hbr.size
          by_cases hj : j < L1.length
          · have hm := hgi L1 j hj
            have hin : (j : Int) < L1.length := by omega
            have hsn := vlVals_snoc j (reV L1)
            have j3 := i3.below hbr
            obtain ⟨⟨b1, o1, rfl, hl1, v1⟩, -⟩ := (i1.below hbr) j hj
            dsimp only at v1
            have r3 : decide (L1[j]?.getD 0 ∈ L3) = true := by simpa using e1 _ hm
            have hvs : (reV L1 j).vals = [.int .i64 2, .int .i64 (L1[j]?.getD 0)] := rfl
            rw [hvs] at hsn
            clear hvs hm e1 e2 e4 e5 w1
            generalize L1[j]?.getD 0 = V at *
            generalize vlVals j (reV L1) = X1 at *
            generalize hX2 : vlVals (j + 1) (reV L1) = X2 at *
            go_upto_region 16 with (first
              | (at_builtin; refine wpList_append_own _ rfl (.tmp 73) (.tmp 79) 26 rfl w7.heap.size 33 t0 (.agg #[.int .i64 0, .int .i64 0]) 2 16 Tryd.underlying26 hq0 hq1 hq2 hq3 rfl (by decide) _ _ _ rfl (hown.alloc _) ⟨wr.heap.size, 0, none⟩ 1 1 [.int .i64 2, .int .i64 V] rfl rfl (two_new _ _ _ _) (by simp [Value.oneCell']) (by simp only [maxLen]; omega) (by omega) (by simp; omega) ?_; intro ov w8 hown' hgrow _)
            )
            have hb2 := (hbr.alloc hsz (.cells #[.int .i64 2, .int .i64 V] 33)).grown hgrow (by simp; omega) (fun k hk => (hown.lt k hk).1)
            rw [hsn] at hown'
            have hl8 : b1 < w8.heap.size := Nat.lt_of_lt_of_le hl1 (Nat.le_trans (by simp) hgrow.size)
            have v8 : w8.cell? ⟨b1, o1 + j, none⟩ = some (.int .i64 V) := by
              obtain ⟨⟨b', o', e, -, v'⟩, -⟩ := (i1.below hb2) j hj
              injection e with e
              injection e with e1 e2
              subst e1 e2
              obtain ⟨⟨b'', o'', e, -, v''⟩, -⟩ := (i1.below hbr) j hj
              injection e with e
              injection e with e1 e2
              subst e1 e2
              exact v'.trans (v''.symm.trans v1)
            have k3 := i3.below hb2
            clear hown hgrow hbr hsz hl1 v1 j3 hsn
            go_wp2_with (first
    | (go_at_call 7; refine Calls.mono (hIn _ _ _ _ _ _ (by assumption) k3 (by assumption)) ?_; rintro e w' ⟨rfl, hb⟩; obtain ⟨hc, hf, hb, hz⟩ := bstep hb (w := w8) (by go_grown); try simp only [World.size_alloc, World.size_setCell, World.size_drew] at hc hf hz)
            )
            go_roundg (L1.length - (j + 1))
            case measure => omega
            case rel => exact ⟨j + 1, by omega, rfl, by go_num, by rw [hX2]; exact owned_below hown' hb, bjoin hb hb2⟩
          · obtain rfl : j = L1.length := by omega
            obtain ⟨pv2, cv2, ff, -⟩ := owned_new hown
            rw [ff] at hown
            rw [ff]
            have hV : VAt wr pv2 cv2 L1.length (reV L1) := va_owned hown (by simp only [maxLen]; omega) fun i hi => ⟨by show (Lit.int .i64 2).wf = true; decide, w1 _ (hgi L1 i hi)⟩
            clear ff hown hsz e1 hq0 hq1 hq2 hq3 w1
            replace hat := hat.below hbr
            replace hS := hS.below hbr
            replace g3 := g3.below hbr
            replace i1 := i1.below hbr
            replace i2 := i2.below hbr
            replace i3 := i3.below hbr
            replace hbW := bjoin hbr hbW
            clear hbr
            generalize wr = w9 at *
            go_wp2
            go_loopg [13] L2.length (fun g iv wr => ∃ i : Nat, i ≤ L2.length ∧ g = L2.length - i ∧ iv = .int .i64 i ∧ Below w9.heap.size w9 wr)
            case atStart => exact ⟨0, by omega, by omega, rfl, Below.refl _ _⟩
            case round =>
              obtain ⟨i, ih, rfl, rfl, hbr⟩ := hrel
              by_cases hi : i < L2.length
              · have j3 := i3.below hbr
                obtain ⟨⟨b2, o2, rfl, hl2, v2⟩, -⟩ := (i2.below hbr) i hi
                dsimp only at v2
                have r3 : decide (L2[i]?.getD 0 ∈ L3) = true := by simpa using e2 _ (hgi L2 i hi)
                have hin : (i : Int) < L2.length := by omega
                generalize L2[i]?.getD 0 = V at *
                clear e2 e4 e5
                go_wp2_with (first
    | (go_at_call 7; refine Calls.mono (hIn _ _ _ _ _ _ (by assumption) j3 (by assumption)) ?_; rintro e w' ⟨rfl, hb⟩; obtain ⟨hc, hf, hb, hz⟩ := bstep hb (w := wr) (by go_grown); try simp only [World.size_alloc, World.size_setCell, World.size_drew] at hc hf hz)
                )
                go_roundg (L2.length - (i + 1))
                case measure => omega
                case rel => exact ⟨i + 1, by omega, rfl, by go_num, bjoin hb hbr⟩
              · obtain rfl : i = L2.length := by omega
                replace hat := hat.below hbr
                replace hS := hS.below hbr
                replace g3 := g3.below hbr
                replace i1 := i1.below hbr
                replace i3 := i3.below hbr
                replace hV := hV.below hbr
                replace hbW := bjoin hbr hbW
                clear hbr e2 i2 hIn hgi
                generalize wr = w10 at *
                obtain ⟨l3, x0, x1, x2, -, -, -⟩ := id g3
                have hFr : ∀ (W : World) (pv : Option Addr) (cv k : Nat) (z : Nat → Vl) (L : List Int), Below w10.heap.size w10 W → k ≤ 1000 → VAt W pv cv k z → rcL h (vrL z k) = L → Calls Tryd.prog 6 #[.agg #[.slice p h.n c, .slice q h.m d, .bool h.b], .slice pv k cv] W fun e w' => ∃ pl cl, e = .returned (.slice pl L.length cl) ∧ (Ints .i64 w' pl L.length fun i => L[i]?.getD 0) ∧ Below W.heap.size W w' := fun W pv cv k z L hW hk hV e => by
                  have := afrom_in (hS.below hW) (hat.below hW).in hF'.out hV hk
                  rw [e] at this
                  refine Calls.mono this ?_
                  rintro e w' ⟨pl, cl, rfl, hR, hb⟩
                  exact ⟨pl, cl, rfl, hR.ints, hb⟩
                have hWd : ∀ (W : World) (pv : Option Addr) (cv : Nat) (L : List Int) (X : Int), Below w10.heap.size w10 W → L.length ≤ 512 → (Ints .i64 W pv L.length fun i => L[i]?.getD 0) → wdL h L = X → Calls Tryd.prog 9 #[.agg #[.slice p h.n c, .slice q h.m d, .bool h.b], .slice pv L.length cv] W fun e w' => e = .returned (.int .i64 X) ∧ Below W.heap.size W w' := fun W pv cv L X hW hl hi e => by
                  have := awords_in (cl := cv) (hS.below hW) (hat.below hW).in hF'.out hi (by omega)
                  rwa [e] at this
                have hIs : ∀ (W : World) (pv pw : Option Addr) (cv cw n : Nat) (z : Nat → Int), n ≤ 512 → Ints .i64 W pv n z → Ints .i64 W pw n z → Calls Tryd.prog 8 #[.slice pv n cv, .slice pw n cw] W fun e w' => e = .returned (.bool true) ∧ Below W.heap.size W w' := fun W pv pw cv cw n z hn h1 h2 => by
                  have := rintsG_any pv pw n cv n cw z z W h1 h2 (by simp only [maxLen]; omega) (by simp only [maxLen]; omega)
                  rwa [sameI_self] at this
                have eA : rcL h (vrL (reV L1) L1.length) = L1 := by rw [vrL_re L1 _ (Nat.le_refl _), List.take_length]; exact e4
                have eN : rcL h (vrL (fun _ => ⟨0, 0⟩) 0) = [] := rc_nil
                obtain ⟨X1, eX1⟩ : ∃ X, wdL h L1 = X := ⟨_, rfl⟩
                obtain ⟨X3, eX3⟩ : ∃ X, wdL h L3 = X := ⟨_, rfl⟩
                rw [eX1, eX3] at e5
                have hd5 : decide (X1 ≤ X3) = true := by simpa using e5
                have hzL : ((fun i => ([] : List Int)[i]?.getD 0) : Nat → Int) = fun _ => 0 := by funext i; rfl
                clear e4
                go_upto_region 23 with fail
                refine wp_late (ds := [some 101, some 102, some 103, some 104, some 105, some 106, some 107, some 108, some 109, some 110, some 111, some 112, some 113, some 114, some 115, some 116, some 117, some 118, some 119, some 120, some 6]) (ts := [101, 102, 103, 104, 105, 106, 107, 108, 109, 110, 111, 112, 113, 114, 115, 116, 117, 118, 119, 120, 6]) (pv := [(fun v _ => v = .agg #[.slice p h.n c, .slice q h.m d, .bool h.b]), (fun v _ => v = .slice pv2 L1.length cv2), RowV (L1.length) (fun i => L1[i]?.getD 0), (fun v _ => v = .slice pa L1.length ca), (fun v _ => v = .bool true), (fun v _ => v = .bool true), (fun v _ => v = .agg #[.slice p h.n c, .slice q h.m d, .bool h.b]), RowV (0) (fun _ => 0), (fun v _ => v = .int .i64 0), (fun v _ => v = .bool true), (fun v _ => v = .bool true), (fun v _ => v = .bool true), (fun v _ => v = .agg #[.slice p h.n c, .slice q h.m d, .bool h.b]), (fun v _ => v = .slice pa L1.length ca), (fun v _ => v = .int .i64 X1), (fun v _ => v = .agg #[.slice p h.n c, .slice q h.m d, .bool h.b]), (fun v _ => v = .slice pc L3.length cc), (fun v _ => v = .int .i64 X3), (fun v _ => v = .bool true), (fun v _ => v = .bool true), (fun v _ => v = .bool true)]) (skip := fun i => ([] : List Nat).contains i) (ia := 1000) (is := 1000) (k := 121) (Shape := (fun _ _ => True)) (Full := (fun _ _ => True)) (by kernel_rfl) (by kernel_rfl) rfl rfl (by decide) (by decide) (by simp) ?_ (by decide) (fun _ _ _ _ _ => trivial) (fun _ _ _ _ _ => trivial) ?_ ?_ ?_ ?_
                · exact .inl rfl
                · exact ⟨fun _ _ _ h _ => h, fun _ _ _ h _ => h, fun _ _ _ h hb => h.below hb, fun _ _ _ h _ => h, fun _ _ _ h _ => h, fun _ _ _ h _ => h, fun _ _ _ h _ => h, fun _ _ _ h hb => h.below hb, fun _ _ _ h _ => h, fun _ _ _ h _ => h, fun _ _ _ h _ => h, fun _ _ _ h _ => h, fun _ _ _ h _ => h, fun _ _ _ h _ => h, fun _ _ _ h _ => h, fun _ _ _ h _ => h, fun _ _ _ h _ => h, fun _ _ _ h _ => h, fun _ _ _ h _ => h, fun _ _ _ h _ => h, fun _ _ _ h _ => h, trivial⟩
                · exact ⟨rfl, rfl, rfl, rfl, rfl, rfl, ⟨rfl, ⟨_, rfl⟩, by decide, by decide, fun _ _ h => h⟩, ⟨rfl, ⟨_, rfl⟩, by decide, by decide, fun _ _ h => h⟩, ⟨rfl, ⟨_, rfl⟩, by decide, by decide, fun _ _ h => h⟩, ⟨rfl, ⟨_, rfl⟩, by decide, by decide, fun _ _ h => h⟩, rfl, rfl, ⟨rfl, ⟨_, rfl⟩, by decide, by decide, fun _ _ h => h⟩, ⟨rfl, ⟨_, rfl⟩, by decide, by decide, fun _ _ h => h⟩, ⟨rfl, ⟨_, rfl⟩, by decide, by decide, fun _ _ h => h⟩, ⟨rfl, ⟨_, rfl⟩, by decide, by decide, fun _ _ h => h⟩, ⟨rfl, ⟨_, rfl⟩, by decide, by decide, fun _ _ h => h⟩, ⟨rfl, ⟨_, rfl⟩, by decide, by decide, fun _ _ h => h⟩, ⟨rfl, ⟨_, rfl⟩, by decide, by decide, fun _ _ h => h⟩, rfl, rfl, trivial⟩
                · refine ⟨?_, ?_, ?_, ?_, ?_, ?_, ?_, ?_, ?_, ?_, ?_, ?_, ?_, ?_, ?_, ?_, ?_, ?_, ?_, ?_, ?_, trivial⟩
                  · intro _ a' w' hb' hs hd hn Kc hK
                    have f3 : a'.tmps[3]?.getD undef = .pointer (some ⟨w.heap.size, 0, none⟩) := (hs 3 (by decide)).trans rfl
                    clear hs hd hn
                    rw [if_neg (by decide), if_neg (by decide)] at hK
                    have x0' := (hb'.cell (p := ⟨w.heap.size, 0, none⟩) l3).trans x0
                    have x1' := (hb'.cell (p := ⟨w.heap.size, 1, none⟩) l3).trans x1
                    have x2' := (hb'.cell (p := ⟨w.heap.size, 2, none⟩) l3).trans x2
                    have hV' := hV.below hb'
                    have hN' : VAt w' none 0 0 (fun _ => ⟨0, 0⟩) := va_nil _ _
                    have hI1 := i1.below hb'
                    have hI3 := i3.below hb'
                    unfold Oper.wp
                    go_simp
                    try go_bits
                    exact hK _ _ (Below.refl _ _) (by first | rfl | (show Value.int _ _ = Value.int _ _; go_num; done) | (simp [valOf, *]; done) | (simp [valOf]; omega))
                  · intro _ a' w' hb' hs hd hn Kc hK
                    have f11 : a'.tmps[11]?.getD undef = .slice pv2 L1.length cv2 := (hs 11 (by decide)).trans rfl
                    clear hs hd hn
                    rw [if_neg (by decide), if_neg (by decide)] at hK
                    have x0' := (hb'.cell (p := ⟨w.heap.size, 0, none⟩) l3).trans x0
                    have x1' := (hb'.cell (p := ⟨w.heap.size, 1, none⟩) l3).trans x1
                    have x2' := (hb'.cell (p := ⟨w.heap.size, 2, none⟩) l3).trans x2
                    have hV' := hV.below hb'
                    have hN' : VAt w' none 0 0 (fun _ => ⟨0, 0⟩) := va_nil _ _
                    have hI1 := i1.below hb'
                    have hI3 := i3.below hb'
                    unfold Oper.wp
                    go_simp
                    try go_bits
                    exact hK _ _ (Below.refl _ _) (by first | rfl | (show Value.int _ _ = Value.int _ _; go_num; done) | (simp [valOf, *]; done) | (simp [valOf]; omega))
                  · intro _ a' w' hb' hs hd hn Kc hK
                    have f101 : a'.tmps[101]?.getD undef = .agg #[.slice p h.n c, .slice q h.m d, .bool h.b] := hd 0 101 (by first | rfl | decide | simp [Region.binds]) rfl (by decide) (by decide) rfl
                    have f102 : a'.tmps[102]?.getD undef = .slice pv2 L1.length cv2 := hd 1 102 (by first | rfl | decide | simp [Region.binds]) rfl (by decide) (by decide) rfl
                    clear hs hd hn
                    rw [if_neg (by decide), if_neg (by decide)] at hK
                    have x0' := (hb'.cell (p := ⟨w.heap.size, 0, none⟩) l3).trans x0
                    have x1' := (hb'.cell (p := ⟨w.heap.size, 1, none⟩) l3).trans x1
                    have x2' := (hb'.cell (p := ⟨w.heap.size, 2, none⟩) l3).trans x2
                    have hV' := hV.below hb'
                    have hN' : VAt w' none 0 0 (fun _ => ⟨0, 0⟩) := va_nil _ _
                    have hI1 := i1.below hb'
                    have hI3 := i3.below hb'
                    unfold Oper.wp
                    go_simp
                    try go_bits
                    refine Calls.mono (hFr _ _ _ _ _ _ hb' (by omega) (by assumption) (by assumption)) ?_
                    rintro e w'' ⟨pm, cm, rfl, hA, hb2⟩
                    exact hK _ _ hb2 ⟨_, _, rfl, hA⟩
                  · intro _ a' w' hb' hs hd hn Kc hK
                    have f7 : a'.tmps[7]?.getD undef = .slice pa L1.length ca := (hs 7 (by decide)).trans rfl
                    clear hs hd hn
                    rw [if_neg (by decide), if_neg (by decide)] at hK
                    have x0' := (hb'.cell (p := ⟨w.heap.size, 0, none⟩) l3).trans x0
                    have x1' := (hb'.cell (p := ⟨w.heap.size, 1, none⟩) l3).trans x1
                    have x2' := (hb'.cell (p := ⟨w.heap.size, 2, none⟩) l3).trans x2
                    have hV' := hV.below hb'
                    have hN' : VAt w' none 0 0 (fun _ => ⟨0, 0⟩) := va_nil _ _
                    have hI1 := i1.below hb'
                    have hI3 := i3.below hb'
                    unfold Oper.wp
                    go_simp
                    try go_bits
                    exact hK _ _ (Below.refl _ _) (by first | rfl | (show Value.int _ _ = Value.int _ _; go_num; done) | (simp [valOf, *]; done) | (simp [valOf]; omega))
                  · intro _ a' w' hb' hs hd hn Kc hK
                    obtain ⟨pm, cm, f103, hA⟩ := hd 2 103 (by first | rfl | decide | simp [Region.binds]) rfl (by decide) (by decide) rfl
                    have f104 : a'.tmps[104]?.getD undef = .slice pa L1.length ca := hd 3 104 (by first | rfl | decide | simp [Region.binds]) rfl (by decide) (by decide) rfl
                    clear hs hd hn
                    rw [if_neg (by decide), if_neg (by decide)] at hK
                    have x0' := (hb'.cell (p := ⟨w.heap.size, 0, none⟩) l3).trans x0
                    have x1' := (hb'.cell (p := ⟨w.heap.size, 1, none⟩) l3).trans x1
                    have x2' := (hb'.cell (p := ⟨w.heap.size, 2, none⟩) l3).trans x2
                    have hV' := hV.below hb'
                    have hN' : VAt w' none 0 0 (fun _ => ⟨0, 0⟩) := va_nil _ _
                    have hI1 := i1.below hb'
                    have hI3 := i3.below hb'
                    unfold Oper.wp
                    go_simp
                    try go_bits
                    refine Calls.mono (hIs _ _ _ _ _ _ _ q1 hA (i1.below hb')) ?_
                    rintro e w'' ⟨rfl, hb2⟩
                    exact hK _ _ hb2 rfl
                  · intro _ a' w' hb' hs hd hn Kc hK
                    have f105 : a'.tmps[105]?.getD undef = .bool true := hd 4 105 (by first | rfl | decide | simp [Region.binds]) rfl (by decide) (by decide) rfl
                    clear hs hd hn
                    rw [if_neg (by decide), if_neg (by decide)] at hK
                    have x0' := (hb'.cell (p := ⟨w.heap.size, 0, none⟩) l3).trans x0
                    have x1' := (hb'.cell (p := ⟨w.heap.size, 1, none⟩) l3).trans x1
                    have x2' := (hb'.cell (p := ⟨w.heap.size, 2, none⟩) l3).trans x2
                    have hV' := hV.below hb'
                    have hN' : VAt w' none 0 0 (fun _ => ⟨0, 0⟩) := va_nil _ _
                    have hI1 := i1.below hb'
                    have hI3 := i3.below hb'
                    unfold Oper.wp
                    go_simp
                    try go_bits
                    exact hK _ _ (Below.refl _ _) (by first | rfl | (show Value.int _ _ = Value.int _ _; go_num; done) | (simp [valOf, *]; done) | (simp [valOf]; omega))
                  · intro _ a' w' hb' hs hd hn Kc hK
                    have f3 : a'.tmps[3]?.getD undef = .pointer (some ⟨w.heap.size, 0, none⟩) := (hs 3 (by decide)).trans rfl
                    clear hs hd hn
                    rw [if_neg (by decide), if_neg (by decide)] at hK
                    have x0' := (hb'.cell (p := ⟨w.heap.size, 0, none⟩) l3).trans x0
                    have x1' := (hb'.cell (p := ⟨w.heap.size, 1, none⟩) l3).trans x1
                    have x2' := (hb'.cell (p := ⟨w.heap.size, 2, none⟩) l3).trans x2
                    have hV' := hV.below hb'
                    have hN' : VAt w' none 0 0 (fun _ => ⟨0, 0⟩) := va_nil _ _
                    have hI1 := i1.below hb'
                    have hI3 := i3.below hb'
                    unfold Oper.wp
                    go_simp
                    try go_bits
                    exact hK _ _ (Below.refl _ _) (by first | rfl | (show Value.int _ _ = Value.int _ _; go_num; done) | (simp [valOf, *]; done) | (simp [valOf]; omega))
                  · intro _ a' w' hb' hs hd hn Kc hK
                    have f107 : a'.tmps[107]?.getD undef = .agg #[.slice p h.n c, .slice q h.m d, .bool h.b] := hd 6 107 (by first | rfl | decide | simp [Region.binds]) rfl (by decide) (by decide) rfl
                    clear hs hd hn
                    rw [if_neg (by decide), if_neg (by decide)] at hK
                    have x0' := (hb'.cell (p := ⟨w.heap.size, 0, none⟩) l3).trans x0
                    have x1' := (hb'.cell (p := ⟨w.heap.size, 1, none⟩) l3).trans x1
                    have x2' := (hb'.cell (p := ⟨w.heap.size, 2, none⟩) l3).trans x2
                    have hV' := hV.below hb'
                    have hN' : VAt w' none 0 0 (fun _ => ⟨0, 0⟩) := va_nil _ _
                    have hI1 := i1.below hb'
                    have hI3 := i3.below hb'
                    unfold Oper.wp
                    go_simp
                    try go_bits
                    refine Calls.mono (hFr _ _ _ _ _ _ hb' (by omega) (by assumption) (by assumption)) ?_
                    rintro e w'' ⟨pm, cm, rfl, hA, hb2⟩
                    exact hK _ _ hb2 ⟨_, _, rfl, hA⟩
                  · intro _ a' w' hb' hs hd hn Kc hK
                    obtain ⟨pm, cm, f108, hA⟩ := hd 7 108 (by first | rfl | decide | simp [Region.binds]) rfl (by decide) (by decide) rfl
                    clear hs hd hn
                    rw [if_neg (by decide), if_neg (by decide)] at hK
                    have x0' := (hb'.cell (p := ⟨w.heap.size, 0, none⟩) l3).trans x0
                    have x1' := (hb'.cell (p := ⟨w.heap.size, 1, none⟩) l3).trans x1
                    have x2' := (hb'.cell (p := ⟨w.heap.size, 2, none⟩) l3).trans x2
                    have hV' := hV.below hb'
                    have hN' : VAt w' none 0 0 (fun _ => ⟨0, 0⟩) := va_nil _ _
                    have hI1 := i1.below hb'
                    have hI3 := i3.below hb'
                    unfold Oper.wp
                    go_simp
                    try go_bits
                    exact hK _ _ (Below.refl _ _) (by first | rfl | (show Value.int _ _ = Value.int _ _; go_num; done) | (simp [valOf, *]; done) | (simp [valOf]; omega))
                  · intro _ a' w' hb' hs hd hn Kc hK
                    have f109 : a'.tmps[109]?.getD undef = .int .i64 0 := hd 8 109 (by first | rfl | decide | simp [Region.binds]) rfl (by decide) (by decide) rfl
                    clear hs hd hn
                    rw [if_neg (by decide), if_neg (by decide)] at hK
                    have x0' := (hb'.cell (p := ⟨w.heap.size, 0, none⟩) l3).trans x0
                    have x1' := (hb'.cell (p := ⟨w.heap.size, 1, none⟩) l3).trans x1
                    have x2' := (hb'.cell (p := ⟨w.heap.size, 2, none⟩) l3).trans x2
                    have hV' := hV.below hb'
                    have hN' : VAt w' none 0 0 (fun _ => ⟨0, 0⟩) := va_nil _ _
                    have hI1 := i1.below hb'
                    have hI3 := i3.below hb'
                    unfold Oper.wp
                    go_simp
                    try go_bits
                    exact hK _ _ (Below.refl _ _) (by first | rfl | (show Value.int _ _ = Value.int _ _; go_num; done) | (simp [valOf, *]; done) | (simp [valOf]; omega))
                  · intro _ a' w' hb' hs hd hn Kc hK
                    have f106 : a'.tmps[106]?.getD undef = .bool true := hd 5 106 (by first | rfl | decide | simp [Region.binds]) rfl (by decide) (by decide) rfl
                    have f110 : a'.tmps[110]?.getD undef = .bool true := hd 9 110 (by first | rfl | decide | simp [Region.binds]) rfl (by decide) (by decide) rfl
                    clear hs hd hn
                    rw [if_neg (by decide), if_neg (by decide)] at hK
                    have x0' := (hb'.cell (p := ⟨w.heap.size, 0, none⟩) l3).trans x0
                    have x1' := (hb'.cell (p := ⟨w.heap.size, 1, none⟩) l3).trans x1
                    have x2' := (hb'.cell (p := ⟨w.heap.size, 2, none⟩) l3).trans x2
                    have hV' := hV.below hb'
                    have hN' : VAt w' none 0 0 (fun _ => ⟨0, 0⟩) := va_nil _ _
                    have hI1 := i1.below hb'
                    have hI3 := i3.below hb'
                    unfold Oper.wp
                    go_simp
                    try go_bits
                    exact hK _ _ (Below.refl _ _) (by first | rfl | (show Value.int _ _ = Value.int _ _; go_num; done) | (simp [valOf, *]; done) | (simp [valOf]; omega))
                  · intro _ a' w' hb' hs hd hn Kc hK
                    have f111 : a'.tmps[111]?.getD undef = .bool true := hd 10 111 (by first | rfl | decide | simp [Region.binds]) rfl (by decide) (by decide) rfl
                    clear hs hd hn
                    rw [if_neg (by decide), if_neg (by decide)] at hK
                    have x0' := (hb'.cell (p := ⟨w.heap.size, 0, none⟩) l3).trans x0
                    have x1' := (hb'.cell (p := ⟨w.heap.size, 1, none⟩) l3).trans x1
                    have x2' := (hb'.cell (p := ⟨w.heap.size, 2, none⟩) l3).trans x2
                    have hV' := hV.below hb'
                    have hN' : VAt w' none 0 0 (fun _ => ⟨0, 0⟩) := va_nil _ _
                    have hI1 := i1.below hb'
                    have hI3 := i3.below hb'
                    unfold Oper.wp
                    go_simp
                    try go_bits
                    exact hK _ _ (Below.refl _ _) (by first | rfl | (show Value.int _ _ = Value.int _ _; go_num; done) | (simp [valOf, *]; done) | (simp [valOf]; omega))
                  · intro _ a' w' hb' hs hd hn Kc hK
                    have f3 : a'.tmps[3]?.getD undef = .pointer (some ⟨w.heap.size, 0, none⟩) := (hs 3 (by decide)).trans rfl
                    clear hs hd hn
                    rw [if_neg (by decide), if_neg (by decide)] at hK
                    have x0' := (hb'.cell (p := ⟨w.heap.size, 0, none⟩) l3).trans x0
                    have x1' := (hb'.cell (p := ⟨w.heap.size, 1, none⟩) l3).trans x1
                    have x2' := (hb'.cell (p := ⟨w.heap.size, 2, none⟩) l3).trans x2
                    have hV' := hV.below hb'
                    have hN' : VAt w' none 0 0 (fun _ => ⟨0, 0⟩) := va_nil _ _
                    have hI1 := i1.below hb'
                    have hI3 := i3.below hb'
                    unfold Oper.wp
                    go_simp
                    try go_bits
                    exact hK _ _ (Below.refl _ _) (by first | rfl | (show Value.int _ _ = Value.int _ _; go_num; done) | (simp [valOf, *]; done) | (simp [valOf]; omega))
                  · intro _ a' w' hb' hs hd hn Kc hK
                    have f7 : a'.tmps[7]?.getD undef = .slice pa L1.length ca := (hs 7 (by decide)).trans rfl
                    clear hs hd hn
                    rw [if_neg (by decide), if_neg (by decide)] at hK
                    have x0' := (hb'.cell (p := ⟨w.heap.size, 0, none⟩) l3).trans x0
                    have x1' := (hb'.cell (p := ⟨w.heap.size, 1, none⟩) l3).trans x1
                    have x2' := (hb'.cell (p := ⟨w.heap.size, 2, none⟩) l3).trans x2
                    have hV' := hV.below hb'
                    have hN' : VAt w' none 0 0 (fun _ => ⟨0, 0⟩) := va_nil _ _
                    have hI1 := i1.below hb'
                    have hI3 := i3.below hb'
                    unfold Oper.wp
                    go_simp
                    try go_bits
                    exact hK _ _ (Below.refl _ _) (by first | rfl | (show Value.int _ _ = Value.int _ _; go_num; done) | (simp [valOf, *]; done) | (simp [valOf]; omega))
                  · intro _ a' w' hb' hs hd hn Kc hK
                    have f113 : a'.tmps[113]?.getD undef = .agg #[.slice p h.n c, .slice q h.m d, .bool h.b] := hd 12 113 (by first | rfl | decide | simp [Region.binds]) rfl (by decide) (by decide) rfl
                    have f114 : a'.tmps[114]?.getD undef = .slice pa L1.length ca := hd 13 114 (by first | rfl | decide | simp [Region.binds]) rfl (by decide) (by decide) rfl
                    clear hs hd hn
                    rw [if_neg (by decide), if_neg (by decide)] at hK
                    have x0' := (hb'.cell (p := ⟨w.heap.size, 0, none⟩) l3).trans x0
                    have x1' := (hb'.cell (p := ⟨w.heap.size, 1, none⟩) l3).trans x1
                    have x2' := (hb'.cell (p := ⟨w.heap.size, 2, none⟩) l3).trans x2
                    have hV' := hV.below hb'
                    have hN' : VAt w' none 0 0 (fun _ => ⟨0, 0⟩) := va_nil _ _
                    have hI1 := i1.below hb'
                    have hI3 := i3.below hb'
                    unfold Oper.wp
                    go_simp
                    try go_bits
                    refine Calls.mono (hWd _ _ _ _ _ hb' (by assumption) (by assumption) (by assumption)) ?_
                    rintro e w'' ⟨rfl, hb2⟩
                    exact hK _ _ hb2 rfl
                  · intro _ a' w' hb' hs hd hn Kc hK
                    have f3 : a'.tmps[3]?.getD undef = .pointer (some ⟨w.heap.size, 0, none⟩) := (hs 3 (by decide)).trans rfl
                    clear hs hd hn
                    rw [if_neg (by decide), if_neg (by decide)] at hK
                    have x0' := (hb'.cell (p := ⟨w.heap.size, 0, none⟩) l3).trans x0
                    have x1' := (hb'.cell (p := ⟨w.heap.size, 1, none⟩) l3).trans x1
                    have x2' := (hb'.cell (p := ⟨w.heap.size, 2, none⟩) l3).trans x2
                    have hV' := hV.below hb'
                    have hN' : VAt w' none 0 0 (fun _ => ⟨0, 0⟩) := va_nil _ _
                    have hI1 := i1.below hb'
                    have hI3 := i3.below hb'
                    unfold Oper.wp
                    go_simp
                    try go_bits
                    exact hK _ _ (Below.refl _ _) (by first | rfl | (show Value.int _ _ = Value.int _ _; go_num; done) | (simp [valOf, *]; done) | (simp [valOf]; omega))
                  · intro _ a' w' hb' hs hd hn Kc hK
                    have f9 : a'.tmps[9]?.getD undef = .slice pc L3.length cc := (hs 9 (by decide)).trans rfl
                    clear hs hd hn
                    rw [if_neg (by decide), if_neg (by decide)] at hK
                    have x0' := (hb'.cell (p := ⟨w.heap.size, 0, none⟩) l3).trans x0
                    have x1' := (hb'.cell (p := ⟨w.heap.size, 1, none⟩) l3).trans x1
                    have x2' := (hb'.cell (p := ⟨w.heap.size, 2, none⟩) l3).trans x2
                    have hV' := hV.below hb'
                    have hN' : VAt w' none 0 0 (fun _ => ⟨0, 0⟩) := va_nil _ _
                    have hI1 := i1.below hb'
                    have hI3 := i3.below hb'
                    unfold Oper.wp
                    go_simp
                    try go_bits
                    exact hK _ _ (Below.refl _ _) (by first | rfl | (show Value.int _ _ = Value.int _ _; go_num; done) | (simp [valOf, *]; done) | (simp [valOf]; omega))
                  · intro _ a' w' hb' hs hd hn Kc hK
                    have f116 : a'.tmps[116]?.getD undef = .agg #[.slice p h.n c, .slice q h.m d, .bool h.b] := hd 15 116 (by first | rfl | decide | simp [Region.binds]) rfl (by decide) (by decide) rfl
                    have f117 : a'.tmps[117]?.getD undef = .slice pc L3.length cc := hd 16 117 (by first | rfl | decide | simp [Region.binds]) rfl (by decide) (by decide) rfl
                    clear hs hd hn
                    rw [if_neg (by decide), if_neg (by decide)] at hK
                    have x0' := (hb'.cell (p := ⟨w.heap.size, 0, none⟩) l3).trans x0
                    have x1' := (hb'.cell (p := ⟨w.heap.size, 1, none⟩) l3).trans x1
                    have x2' := (hb'.cell (p := ⟨w.heap.size, 2, none⟩) l3).trans x2
                    have hV' := hV.below hb'
                    have hN' : VAt w' none 0 0 (fun _ => ⟨0, 0⟩) := va_nil _ _
                    have hI1 := i1.below hb'
                    have hI3 := i3.below hb'
                    unfold Oper.wp
                    go_simp
                    try go_bits
                    refine Calls.mono (hWd _ _ _ _ _ hb' (by assumption) (by assumption) (by assumption)) ?_
                    rintro e w'' ⟨rfl, hb2⟩
                    exact hK _ _ hb2 rfl
                  · intro _ a' w' hb' hs hd hn Kc hK
                    have f115 : a'.tmps[115]?.getD undef = .int .i64 X1 := hd 14 115 (by first | rfl | decide | simp [Region.binds]) rfl (by decide) (by decide) rfl
                    have f118 : a'.tmps[118]?.getD undef = .int .i64 X3 := hd 17 118 (by first | rfl | decide | simp [Region.binds]) rfl (by decide) (by decide) rfl
                    clear hs hd hn
                    rw [if_neg (by decide), if_neg (by decide)] at hK
                    have x0' := (hb'.cell (p := ⟨w.heap.size, 0, none⟩) l3).trans x0
                    have x1' := (hb'.cell (p := ⟨w.heap.size, 1, none⟩) l3).trans x1
                    have x2' := (hb'.cell (p := ⟨w.heap.size, 2, none⟩) l3).trans x2
                    have hV' := hV.below hb'
                    have hN' : VAt w' none 0 0 (fun _ => ⟨0, 0⟩) := va_nil _ _
                    have hI1 := i1.below hb'
                    have hI3 := i3.below hb'
                    unfold Oper.wp
                    go_simp
                    try go_bits
                    exact hK _ _ (Below.refl _ _) (by first | rfl | (show Value.int _ _ = Value.int _ _; go_num; done) | (simp [valOf, *]; done) | (simp [valOf]; omega))
                  · intro _ a' w' hb' hs hd hn Kc hK
                    have f112 : a'.tmps[112]?.getD undef = .bool true := hd 11 112 (by first | rfl | decide | simp [Region.binds]) rfl (by decide) (by decide) rfl
                    have f119 : a'.tmps[119]?.getD undef = .bool true := hd 18 119 (by first | rfl | decide | simp [Region.binds]) rfl (by decide) (by decide) rfl
                    clear hs hd hn
                    rw [if_neg (by decide), if_neg (by decide)] at hK
                    have x0' := (hb'.cell (p := ⟨w.heap.size, 0, none⟩) l3).trans x0
                    have x1' := (hb'.cell (p := ⟨w.heap.size, 1, none⟩) l3).trans x1
                    have x2' := (hb'.cell (p := ⟨w.heap.size, 2, none⟩) l3).trans x2
                    have hV' := hV.below hb'
                    have hN' : VAt w' none 0 0 (fun _ => ⟨0, 0⟩) := va_nil _ _
                    have hI1 := i1.below hb'
                    have hI3 := i3.below hb'
                    unfold Oper.wp
                    go_simp
                    try go_bits
                    exact hK _ _ (Below.refl _ _) (by first | rfl | (show Value.int _ _ = Value.int _ _; go_num; done) | (simp [valOf, *]; done) | (simp [valOf]; omega))
                  · intro _ a' w' hb' hs hd hn Kc hK
                    have f120 : a'.tmps[120]?.getD undef = .bool true := hd 19 120 (by first | rfl | decide | simp [Region.binds]) rfl (by decide) (by decide) rfl
                    clear hs hd hn
                    rw [if_neg (by decide), if_neg (by decide)] at hK
                    have x0' := (hb'.cell (p := ⟨w.heap.size, 0, none⟩) l3).trans x0
                    have x1' := (hb'.cell (p := ⟨w.heap.size, 1, none⟩) l3).trans x1
                    have x2' := (hb'.cell (p := ⟨w.heap.size, 2, none⟩) l3).trans x2
                    have hV' := hV.below hb'
                    have hN' : VAt w' none 0 0 (fun _ => ⟨0, 0⟩) := va_nil _ _
                    have hI1 := i1.below hb'
                    have hI3 := i3.below hb'
                    unfold Oper.wp
                    go_simp
                    try go_bits
                    exact hK _ _ (Below.refl _ _) (by first | rfl | (show Value.int _ _ = Value.int _ _; go_num; done) | (simp [valOf, *]; done) | (simp [valOf]; omega))
                intro Xf g w' hX hb hv
                have q6 : Xf 6 = .bool true := hv 20 6 rfl rfl (by decide) (by decide)
                clear hX hv
                simp only [List.map_cons, List.map_nil, q6, puts, Act.put, Nat.reduceAdd, List.setIfInBounds_toArray, List.set_cons_succ, List.set_cons_zero]
                go_wp2
                go_returns
                exact ⟨rfl, bjoin hb hbW⟩
  · cases hF : formB h with
    | false =>
      rw [hF] at hFo
      clear hgo hF
      go_enter Tryd.func3, Tryd.ntmps3
      go_upto_region 1 with fail
      rw [← hw0]
      clear hw0
      go_wp2_with (first
    | (go_at_call 4; refine Calls.mono (awake15_any _ (hS.below (by go_grown))) ?_; rintro e w' ⟨rfl, hb⟩; obtain ⟨hc, hf, hb, hz⟩ := bstep hb (w := w0) (by go_grown); try simp only [World.size_alloc, World.size_setCell, World.size_drew] at hc hf hz)
    | (go_at_call 5; refine Calls.mono (hFo _ (by go_grown)) ?_; rintro e w' ⟨rfl, hb⟩; obtain ⟨hc, hf, hb, hz⟩ := bstep hb (w := w0) (by go_grown); try simp only [World.size_alloc, World.size_setCell, World.size_drew] at hc hf hz)
      )
      go_returns
      exact ⟨rfl, bjoin hb hB0⟩
    | true =>
      rw [hF] at hFo
      by_cases k1 : n1 ≤ 100
      · have k2 : ¬ n2 ≤ 100 := fun k2 => hgo ⟨hF, k1, k2⟩
        have d1 : decide (100 < (n1 : Int)) = false := by simp; omega
        have d2 : decide (100 < (n2 : Int)) = true := by simp; omega
        clear hgo hF
        go_enter Tryd.func3, Tryd.ntmps3
        go_upto_region 1 with fail
        rw [← hw0]
        clear hw0
        go_wp2_with (first
    | (go_at_call 4; refine Calls.mono (awake15_any _ (hS.below (by go_grown))) ?_; rintro e w' ⟨rfl, hb⟩; obtain ⟨hc, hf, hb, hz⟩ := bstep hb (w := w0) (by go_grown); try simp only [World.size_alloc, World.size_setCell, World.size_drew] at hc hf hz)
    | (go_at_call 5; refine Calls.mono (hFo _ (by go_grown)) ?_; rintro e w' ⟨rfl, hb⟩; obtain ⟨hc, hf, hb, hz⟩ := bstep hb (w := w0) (by go_grown); try simp only [World.size_alloc, World.size_setCell, World.size_drew] at hc hf hz)
        )
        go_returns
        exact ⟨rfl, bjoin hb hB0⟩
      · have d1 : decide (100 < (n1 : Int)) = true := by simp; omega
        clear hgo hF
        go_enter Tryd.func3, Tryd.ntmps3
        go_upto_region 1 with fail
        rw [← hw0]
        clear hw0
        go_wp2_with (first
    | (go_at_call 4; refine Calls.mono (awake15_any _ (hS.below (by go_grown))) ?_; rintro e w' ⟨rfl, hb⟩; obtain ⟨hc, hf, hb, hz⟩ := bstep hb (w := w0) (by go_grown); try simp only [World.size_alloc, World.size_setCell, World.size_drew] at hc hf hz)
    | (go_at_call 5; refine Calls.mono (hFo _ (by go_grown)) ?_; rintro e w' ⟨rfl, hb⟩; obtain ⟨hc, hf, hb, hz⟩ := bstep hb (w := w0) (by go_grown); try simp only [World.size_alloc, World.size_setCell, World.size_drew] at hc hf hz)
        )
        go_returns
        exact ⟨rfl, bjoin hb hB0⟩
namespace ReachLeast
/-- What the row lists. -/
def lists : List (String × DataW Unit) := [("flotsam/class.sizes", Rows.laid_flotsam_class_sizes)]
set_option maxRecDepth 100000 in
theorem lifted (os : Os) (started : os.Started) (H : Type) (enc : TypeId × Value → H) :
    ReturnsInHanded {} Tryd.checked os 3 .any (fun w args => (Rows.reachLeastSpec.pre enc Tryd.prog Tryd.f3 Rows.reachLeastRow.domain false w args ∧ laidMetH Tryd.prog lists w) ∧ sizedMet enc Tryd.prog Tryd.f3 (OpenSpec.ofChange Rows.reachLeastSpec) false w args) (Rows.reachLeastSpec.post enc Tryd.prog Tryd.f3 false true false false) := by
  refine law_lifted_laid (C := Tryd.checked) seat_own started (by kernel_rfl) Tryd.func3 (by kernel_rfl) (of_decide_eq_true (by kernel_rfl)) rfl
    (fun ds hd => by have hd' : ds.length = 3 := hd; match ds, hd' with | [d0, d1, d2], _ => rfl) rfl Tryd.underlying4
    (ChangeSpec.witness_shaped (enc := enc) (C := Tryd.checked) (os := os) (X := fun w _ => laidMetH Tryd.prog lists w) false (World.laidAll Tryd.prog os lists) #[.agg #[.slice none 0 0, .slice none 0 0, .bool false], .slice none 0 0, .slice none 0 0] 8 (World.laidAll_os _ _ _)
      (World.shaped_of_ZipB (by kernel_rfl) (by kernel_rfl)) (by kernel_rfl) (by kernel_rfl) (by kernel_rfl)
      (by rw [MakeChecks.laidMetH_plain _ _ _ (by kernel_rfl)]; exact laidMet_laidAll _ (by kernel_rfl) (by kernel_rfl))) ?_
  intro W base args ds p hval hA hlt hL
  have hS : Sz W := sizes_of hL (by kernel_rfl) rfl
  rw [Tryd.params3] at hA hval
  obtain ⟨v0, v1, v2, d0, d1, d2, p0, p1, p2, rfl, rfl, rfl, h0, h1, h2⟩ := trodAll_three hA
  obtain ⟨x0, q0, c0, s0, e0, rfl, hh0⟩ := open_heap Tryd.underlying25 (by kernel_rfl) (by kernel_rfl) Tryd.underlying22 (by kernel_rfl) (by kernel_rfl) Tryd.underlying23 Tryd.underlying42 (by kernel_rfl) (by kernel_rfl) (by kernel_rfl) (by kernel_rfl) (by kernel_rfl) (by kernel_rfl) (hval 0 25 v0 rfl rfl) h0
  obtain ⟨q1, n1, cap1, z1, rfl, hv1⟩ := open_vals Tryd.underlying26 Tryd.underlying33 (by kernel_rfl) (by kernel_rfl) (by kernel_rfl) (by kernel_rfl) (hval 1 26 v1 rfl rfl) h1
  obtain ⟨q2, n2, cap2, z2, rfl, hv2⟩ := open_vals Tryd.underlying26 Tryd.underlying33 (by kernel_rfl) (by kernel_rfl) (by kernel_rfl) (by kernel_rfl) (hval 2 26 v2 rfl rfl) h2
  exact least15_walk q1 n1 cap1 z1 q2 n2 cap2 z2 W hh0 hv1 hv2 hS

theorem row_holds : Rows.ReachLeastSaid :=
  OpenClaim.holds_of_wide 3 Tryd.f3 rfl rfl rfl rfl rfl rfl rfl ⟨rfl, rfl, rfl, rfl, rfl⟩ rfl rfl rfl rfl rfl (by kernel_rfl) Tryd.func3 (by kernel_rfl)
    (of_decide_eq_true (by kernel_rfl)) (by unfold Func.isWrapper; first | (rw [if_pos (by decide +kernel)]; kernel_rfl) | (rw [if_neg (by decide +kernel)]; exact ⟨rfl, rfl⟩))
    (fun os started H enc _ => lifted os started H enc)
/-- The tied card. -/
theorem holds : Rows.ReachLeastCardSaid :=
  Claim7.holds_tied_plain_at .later [] [.data] true (true, "84cc71b3e15b7c73742cd6211338d6124beb43c5b9842a43e08e225da945c725") false row_holds (fun _ h => by cases h) (by kernel_rfl) (fun _ h => by cases h) reachLeast_row_tie rfl ⟨rfl, rfl⟩ (by kernel_rfl) rfl
    (fun f fn hf hfn => by
      obtain rfl : f = 3 := Option.some.inj ((show Tryd.prog.funcNamed "flotsam/flotsamlaw15.ReachLeast" = some 3 by kernel_rfl).symm.trans hf) |>.symm
      obtain rfl : fn = Tryd.f3 := (Option.some.inj (Tryd.func3.symm.trans hfn)).symm
      exact ⟨by kernel_rfl, fun j t ht => by
        rw [Tryd.params3] at ht
        have hm : t ∈ [25, 26, 26] := by simpa using Array.mem_of_getElem? ht
        have hall : ([25, 26, 26].all fun u => !Tryd.prog.wantsStandIn u) = true := by kernel_rfl
        exact (show Tryd.prog.wantsStandIn t = false by simpa using List.all_eq_true.1 hall t hm)⟩)
    (by kernel_rfl)
#print axioms holds
end ReachLeast
end Go.Proofs.YtmkcjolaboggnaaDoor
