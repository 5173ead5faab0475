/- Contracts of the reference's grey (chapter 13), and of its comparison of numbers. -/
import Derived.Test.YtokbggokkjefhaaDoorGreyFn
namespace Go.Proofs.YtokbggokkjefhaaDoor
set_option linter.unusedSimpArgs false
set_option linter.unusedVariables false
open Go.ChangeShapes Go.WideShapes Go.ChangeAt Go.RowKit Go.Joins

theorem rgsame_any (r r' : Int) (p q : Option Addr) (n c m d : Nat) (z y : Nat → Int) (w : World) (hz : GrAt w p c n z) (hy : GrAt w q d m y) :
    Calls Tryd.prog 18 #[.agg #[.int .i64 r, .slice p n c], .agg #[.int .i64 r', .slice q m d]] w fun e w' => e = .returned (.bool (sameG r n z r' m y)) ∧ Below w.heap.size w w' := by
  by_cases e : r = r'
  · subst e
    have hI := fun W (hW : Below w.heap.size w W) => rintsG_any p q n c m d z y W (hz.ints.below hW) (hy.ints.below hW) hz.nle hy.nle
    have e' : sameG r n z r m y = sameI n z m y := by simp [sameG]
    rw [e']
    generalize sameI n z m y = S at *
    go_enter Tryd.func18, Tryd.ntmps18
    go_wp2_with (first
    | (go_at_call 12; refine Calls.mono (hI _ (by go_grown)) ?_; rintro e w' ⟨rfl, hb⟩; obtain ⟨hc, hf, hb, hz⟩ := bstep hb (w := w) (by go_grown); try simp only [World.size_alloc, World.size_setCell, World.size_drew] at hc hf hz)
    )
    go_returns
    exact ⟨ret_bool (by simp), hb⟩
  · have e' : sameG r n z r' m y = false := by simp [sameG, e]
    rw [e']
    have d0 : (r == r') = false := by simp [e]
    go_enter Tryd.func18, Tryd.ntmps18
    go_wp2
    go_returns
    exact ⟨rfl, by go_grown⟩
set_option maxHeartbeats 1000000 in
theorem rgright_any (r : Int) (p : Option Addr) (n c : Nat) (z : Nat → Int) (w : World) (hz : GrAt w p c n z) :
    Calls Tryd.prog 9 #[.agg #[.int .i64 r, .slice p n c]] w fun e w' => e = .returned (.bool (rightG r n z)) ∧ Below w.heap.size w w' := by
  by_cases h0 : r < 0
  · have e : rightG r n z = false := by simp [rightG]; omega
    rw [e]
    go_enter Tryd.func9, Tryd.ntmps9
    go_wp2
    go_returns
    exact ⟨rfl, by go_grown⟩
  by_cases h1 : 16 < r
  · have e : rightG r n z = false := by simp [rightG]; omega
    rw [e]
    go_enter Tryd.func9, Tryd.ntmps9
    go_wp2
    go_returns
    exact ⟨rfl, by go_grown⟩
  by_cases h2 : r < n
  · have e : rightG r n z = false := by simp [rightG]; omega
    rw [e]
    go_enter Tryd.func9, Tryd.ntmps9
    go_wp2
    go_returns
    exact ⟨rfl, by go_grown⟩
  obtain ⟨w0, hw0⟩ : ∃ w0, w0 = w.alloc (.cells #[.int .i64 r, .slice p n c] 28) := ⟨_, rfl⟩
  have hB0 : Below w.heap.size w w0 := by rw [hw0]; exact (Below.refl _ _).alloc (Nat.le_refl _) _
  have g2 : w.heap.size < w0.heap.size ∧ w0.cell? ⟨w.heap.size, 0, none⟩ = some (.int .i64 r) ∧ w0.cell? ⟨w.heap.size, 1, none⟩ = some (.slice p n c) := by rw [hw0]; simp [go_sem]
  have hin := hz.ints.below hB0
  obtain ⟨l0, x0, x1⟩ := g2
  go_enter Tryd.func9, Tryd.ntmps9
  go_upto_region 1 with fail
  rw [← hw0]
  clear hw0
  go_wp2
  go_loopg [3] n (fun g iv wr => ∃ i : Nat, i ≤ n ∧ g = n - i ∧ iv = .int .i64 i ∧ (∀ j, j < i → 0 ≤ z j) ∧ Below w0.heap.size w0 wr)
  case atStart => exact ⟨0, by omega, by omega, rfl, fun j hj => absurd hj (Nat.not_lt_zero _), Below.refl _ _⟩
  case round =>
    obtain ⟨i, ih, rfl, rfl, hall, hbw⟩ := hrel
    have x1' := (hbw.cell (p := ⟨w.heap.size, 1, none⟩) l0).trans x1
    by_cases hi : i < n
    · obtain ⟨⟨b, off, rfl, hlt, v0⟩, -⟩ := (hin.below hbw) i hi
      by_cases e : 0 ≤ z i
      · have hnx : Hid (∀ j, j < i + 1 → 0 ≤ z j) := fun j hj => by
          by_cases e' : j = i
          · subst e'; exact e
          · exact hall j (by omega)
        clear hall
        generalize z i = x at *
        go_wp2
        go_roundg (n - (i + 1))
        case measure => omega
        case rel => exact ⟨i + 1, by omega, rfl, by go_num, hnx.out, hbw⟩
      · have hno : Hid (rightG r n z = false) := by
          show rightG r n z = false
          simp only [rightG, Bool.and_eq_false_iff, decide_eq_false_iff_not]
          exact .inr fun h => e (h i hi)
        clear hall
        generalize z i = x at *
        go_wp2
        go_returns
        exact ⟨ret_bool hno.out.symm, bjoin hbw hB0⟩
    · obtain rfl : i = n := by omega
      have hyes : Hid (rightG r i z = true) := rightG_iff.2 ⟨by omega, hall⟩
      clear hall
      go_wp2
      go_returns
      exact ⟨ret_bool hyes.out.symm, bjoin hbw hB0⟩
/-- A box of two cells that holds a row. -/
theorem boxed2g {w : World} {v0 v1 u0 u1 : Value} {t : TypeId} : ∃ w0, w0 = (w.alloc (.cells #[v0, v1] t)).alloc (.cells #[u0, u1] t) ∧ (w.heap.size < w0.heap.size ∧ w0.cell? ⟨w.heap.size, 0, none⟩ = some v0 ∧ w0.cell? ⟨w.heap.size, 1, none⟩ = some v1) ∧ (w.heap.size + 1 < w0.heap.size ∧ w0.cell? ⟨w.heap.size + 1, 0, none⟩ = some u0 ∧ w0.cell? ⟨w.heap.size + 1, 1, none⟩ = some u1 ∧ w0.frozen? ⟨w.heap.size + 1, 0, none⟩ = false ∧ w0.frozen? ⟨w.heap.size + 1, 1, none⟩ = false) ∧ Below w.heap.size w w0 := by
  refine ⟨_, rfl, ?_, ?_, ((Below.refl _ _).alloc (Nat.le_refl _) _).alloc (by simp) _⟩
  · have h1 := heap_alloc_new w (.cells #[v0, v1] t)
    refine ⟨by simp; omega, ?_, ?_⟩
    · exact (((Below.refl _ _).alloc (Nat.le_refl _) _).cell (p := ⟨w.heap.size, 0, none⟩) (by simp)).trans (cell_of_row _ _ _ _ _ _ h1)
    · exact (((Below.refl _ _).alloc (Nat.le_refl _) _).cell (p := ⟨w.heap.size, 1, none⟩) (by simp)).trans (cell_of_row _ _ _ _ _ _ h1)
  · have h1 := heap_alloc_new (w.alloc (.cells #[v0, v1] t)) (.cells #[u0, u1] t)
    rw [World.size_alloc] at h1
    exact ⟨by simp, cell_of_row _ _ _ _ _ _ h1, cell_of_row _ _ _ _ _ _ h1, frozen_of_row _ _ _ _ _ h1, frozen_of_row _ _ _ _ _ h1⟩
set_option maxHeartbeats 2000000 in
set_option maxRecDepth 20000 in
theorem rgpush_tag (r a : Int) (p : Option Addr) (n c : Nat) (z : Nat → Int) (w : World) (hz : GrAt w p c n z) (hr : r ≤ 1000000) (ha : (Lit.int .i64 a).wf = true) :
    Calls Tryd.prog 40 #[.agg #[.int .i64 r, .slice p n c], .int .i64 a] w fun e w' => ∃ p' c', e = .returned (.tuple #[.agg #[.int .i64 r, .slice p' (gpN r n a) c'], .bool (gpB r n a)]) ∧ GrAt w' p' c' (gpN r n a) (gpZ r n z a) ∧ Below w.heap.size w w' ∧ (∀ b off sp, p' = some ⟨b, off, sp⟩ → (gpB r n a = false ∧ p' = p) ∨ ∃ cs, w'.heap[b]? = some (.cells cs 3 (0, 0))) := by
  obtain ⟨w0, hw0, ⟨l0, x0, x1⟩, ⟨l1, y0, y1, f0, f1⟩, hb0⟩ := boxed2g (w := w) (v0 := .int .i64 r) (v1 := .slice p n c) (u0 := .int .i64 0) (u1 := .slice none 0 0) (t := 28)
  have hz0 := hz.below hb0
  cases e : gpB r n a with
  | false =>
    have eN : gpN r n a = n := by unfold gpN; rw [if_neg (by simp [e])]
    have eZ : gpZ r n z a = z := by unfold gpZ; rw [if_neg (by simp [e])]
    rw [eN, eZ]
    have hbb : Below w.heap.size w ((w0.setCell ⟨w.heap.size + 1, 0, none⟩ (.int .i64 r)).setCell ⟨w.heap.size + 1, 1, none⟩ (.slice p n c)) := (hb0.setCell (Nat.le_succ _) _).setCell (Nat.le_succ _) _
    by_cases h0 : a < 0
    · clear e eN eZ
      go_enter Tryd.func40, Tryd.ntmps40
      go_upto_region 1 with fail
      rw [← hw0]
      clear hw0
      go_wp2
      refine bodyPost_ret (by simp [results, Tryd.results40, go_sem, *]; try rfl) rfl ?_
      exact ⟨p, c, rfl, hz.below hbb, hbb, fun _ _ _ _ => by first | exact .inl ⟨rfl, rfl⟩ | exact .inl ⟨trivial, rfl⟩ | exact .inl rfl⟩
    · have h1 : r ≤ n := by simp [gpB] at e; omega
      clear e eN eZ
      go_enter Tryd.func40, Tryd.ntmps40
      go_upto_region 1 with fail
      rw [← hw0]
      clear hw0
      go_wp2
      refine bodyPost_ret (by simp [results, Tryd.results40, go_sem, *]; try rfl) rfl ?_
      exact ⟨p, c, rfl, hz.below hbb, hbb, fun _ _ _ _ => by first | exact .inl ⟨rfl, rfl⟩ | exact .inl ⟨trivial, rfl⟩ | exact .inl rfl⟩
  | true =>
    have eN : gpN r n a = n + 1 := by unfold gpN; rw [if_pos e]
    have eZ : gpZ r n z a = pzZ z n a := by unfold gpZ; rw [if_pos e]
    rw [eN, eZ]
    have h01 : 0 ≤ a ∧ (n : Int) < r := by simpa [gpB] using e
    obtain ⟨h0, h1⟩ := h01
    clear e eN eZ
    go_enter Tryd.func40, Tryd.ntmps40
    go_upto_region 3 with fail
    rw [← hw0]
    clear hw0
    have hsh0 : ShapeN (w.heap.size + 1) 2 w0 := shape_2 l1 y0 y1 f0 f1
    have hPBx : allP (fun p => ∀ v w w', p v w → Below w.heap.size w w' → p v w') ([(fun v _ => v = .pointer (some ⟨w.heap.size, 0, none⟩)), (fun v _ => v = .int .i64 r), (NilsV (w0.heap.size) 3 1), (fun v _ => v = .pointer (some ⟨w.heap.size, 1, none⟩)), (fun v _ => v = .slice p n c), (OwnV (w0.heap.size) 3 1 (n) (vals .i64 (n) (z))), (fun v _ => v = .int .i64 a), (OneV (w0.heap.size) (.int .i64 a)), (OwnV (w0.heap.size) 3 1 (n + 1) (vals .i64 n z ++ [.int .i64 a])), (PutV (w0.heap.size) 3 1 (n + 1) (vals .i64 n z ++ [.int .i64 a]) ([.int .i64 r]) ([])), (StoreV (w.heap.size + 1) (w0.heap.size) 3 1 (n + 1) (vals .i64 n z ++ [.int .i64 a]) ([.int .i64 r]) ([])), (fun v _ => v = .bool true)] : List (Value → World → Prop)) := ⟨fun _ _ _ h _ => h, fun _ _ _ h _ => h, fun _ _ _ h hb => h.below hb, fun _ _ _ h _ => h, fun _ _ _ h _ => h, fun _ _ _ h hb => h.below hb, fun _ _ _ h _ => h, fun _ _ _ h hb => h.below hb, fun _ _ _ h hb => h.below hb, fun _ _ _ h hb => h.below hb, fun _ _ _ h hb => h.below hb, fun _ _ _ h _ => h, trivial⟩
    have hSBx : ∀ s1 s2 : World, (ShapeN (w.heap.size + 1) 2) s1 → Below s1.heap.size s1 s2 → (ShapeN (w.heap.size + 1) 2) s2 := fun _ _ h hb => h.below hb
    refine wp_told_pv (w.heap.size + 1) (ShapeN (w.heap.size + 1) 2) [some 17, some 18, some 19, some 20, some 21, some 22, some 23, some 24, some 25, some 26, none, some 5] [17, 18, 19, 20, 21, 22, 23, 24, 25, 26, 5] ([(fun v _ => v = .pointer (some ⟨w.heap.size, 0, none⟩)), (fun v _ => v = .int .i64 r), (NilsV (w0.heap.size) 3 1), (fun v _ => v = .pointer (some ⟨w.heap.size, 1, none⟩)), (fun v _ => v = .slice p n c), (OwnV (w0.heap.size) 3 1 (n) (vals .i64 (n) (z))), (fun v _ => v = .int .i64 a), (OneV (w0.heap.size) (.int .i64 a)), (OwnV (w0.heap.size) 3 1 (n + 1) (vals .i64 n z ++ [.int .i64 a])), (PutV (w0.heap.size) 3 1 (n + 1) (vals .i64 n z ++ [.int .i64 a]) ([.int .i64 r]) ([])), (StoreV (w.heap.size + 1) (w0.heap.size) 3 1 (n + 1) (vals .i64 n z ++ [.int .i64 a]) ([.int .i64 r]) ([])), (fun v _ => v = .bool true)] : List (Value → World → Prop)) 27 (by kernel_rfl) (by kernel_rfl) rfl rfl (by decide) (by decide) (by simp) (show (ShapeN (w.heap.size + 1) 2) _ from hSBx _ _ (hsh0) (Below.refl _ _).drew) ?_ ?_
    · refine ⟨?_, ?_, ?_, ?_, ?_, ?_, ?_, ?_, ?_, ?_, ?_, ?_, trivial⟩
      · intro a' w' hb' hsz hsh hs hd Kc hK
        have f2 : a'.tmps[2]?.getD undef = .pointer (some ⟨w.heap.size, 0, none⟩) := (hs 2 (by decide)).trans rfl
        clear hs hd
        have x0' := (hb'.cell (p := ⟨w.heap.size, 0, none⟩) (Nat.lt_succ_self _)).trans x0
        have x1' := (hb'.cell (p := ⟨w.heap.size, 1, none⟩) (Nat.lt_succ_self _)).trans x1
        unfold Oper.wp
        go_simp
        exact hK _ _ (toldS_below hSBx hPBx (Nat.le_of_lt hsh.1) (Below.refl _ _)) (by first | rfl | (show Value.int _ _ = Value.int _ _; go_num; done) | (simp [valOf, *]; done) | (simp [valOf]; omega))
      · intro a' w' hb' hsz hsh hs hd Kc hK
        have f17 : a'.tmps[17]?.getD undef = .pointer (some ⟨w.heap.size, 0, none⟩) := hd 0 17 (by first | rfl | decide | simp [Region.binds]) rfl
        clear hs hd
        have x0' := (hb'.cell (p := ⟨w.heap.size, 0, none⟩) (Nat.lt_succ_self _)).trans x0
        have x1' := (hb'.cell (p := ⟨w.heap.size, 1, none⟩) (Nat.lt_succ_self _)).trans x1
        unfold Oper.wp
        go_simp
        exact hK _ _ (toldS_below hSBx hPBx (Nat.le_of_lt hsh.1) (Below.refl _ _)) (by first | rfl | (show Value.int _ _ = Value.int _ _; go_num; done) | (simp [valOf, *]; done) | (simp [valOf]; omega))
      · intro a' w' hb' hsz hsh hs hd Kc hK
        clear hs hd
        have x0' := (hb'.cell (p := ⟨w.heap.size, 0, none⟩) (Nat.lt_succ_self _)).trans x0
        have x1' := (hb'.cell (p := ⟨w.heap.size, 1, none⟩) (Nat.lt_succ_self _)).trans x1
        unfold Oper.wp
        go_simp
        exact hK _ _ (toldS_below hSBx hPBx (Nat.le_of_lt hsh.1) ((Below.refl _ _).alloc (Nat.le_refl _) _)) (nilsV_new _ _ _ hsz)
      · intro a' w' hb' hsz hsh hs hd Kc hK
        have f2 : a'.tmps[2]?.getD undef = .pointer (some ⟨w.heap.size, 0, none⟩) := (hs 2 (by decide)).trans rfl
        clear hs hd
        have x0' := (hb'.cell (p := ⟨w.heap.size, 0, none⟩) (Nat.lt_succ_self _)).trans x0
        have x1' := (hb'.cell (p := ⟨w.heap.size, 1, none⟩) (Nat.lt_succ_self _)).trans x1
        unfold Oper.wp
        go_simp
        exact hK _ _ (toldS_below hSBx hPBx (Nat.le_of_lt hsh.1) (Below.refl _ _)) (by first | rfl | (show Value.int _ _ = Value.int _ _; go_num; done) | (simp [valOf, *]; done) | (simp [valOf]; omega))
      · intro a' w' hb' hsz hsh hs hd Kc hK
        have f20 : a'.tmps[20]?.getD undef = .pointer (some ⟨w.heap.size, 1, none⟩) := hd 3 20 (by first | rfl | decide | simp [Region.binds]) rfl
        clear hs hd
        have x0' := (hb'.cell (p := ⟨w.heap.size, 0, none⟩) (Nat.lt_succ_self _)).trans x0
        have x1' := (hb'.cell (p := ⟨w.heap.size, 1, none⟩) (Nat.lt_succ_self _)).trans x1
        unfold Oper.wp
        go_simp
        exact hK _ _ (toldS_below hSBx hPBx (Nat.le_of_lt hsh.1) (Below.refl _ _)) (by first | rfl | (show Value.int _ _ = Value.int _ _; go_num; done) | (simp [valOf, *]; done) | (simp [valOf]; omega))
      · intro a' w' hb' hsz hsh hs hd Kc hK
        have f19 : NilsV (w0.heap.size) 3 1 (a'.tmps[19]?.getD undef) w' := hd 2 19 (by first | rfl | decide | simp [Region.binds]) rfl
        have f21 : a'.tmps[21]?.getD undef = .slice p n c := hd 4 21 (by first | rfl | decide | simp [Region.binds]) rfl
        clear hs hd
        have x0' := (hb'.cell (p := ⟨w.heap.size, 0, none⟩) (Nat.lt_succ_self _)).trans x0
        have x1' := (hb'.cell (p := ⟨w.heap.size, 1, none⟩) (Nat.lt_succ_self _)).trans x1
        obtain ⟨i0, hj0, hj1, hj2, hj3⟩ := info_parts int_infoG
        refine step_append_nil rfl (.tmp 19) (.tmp 21) 26 rfl 3 i0 (.int .i64 0) 8 Tryd.underlying26 hj0 hj1 hj2 hj3 rfl (w0.heap.size) (a'.tmps[19]?.getD undef) (by simp [Act.eval]) f19 .i64 (p) (n) (c) (z) (by rw [← f21]; simp [Act.eval]) ((hz.ints.below (hb0.trans (hb'.mono (Nat.le_succ _))))) (by simp only [maxLen]; omega) (by omega) hsz fun v' w2 ho hbo => ?_
        exact hK _ _ (toldS_below hSBx hPBx (Nat.le_of_lt hsh.1) hbo) ho
      · intro a' w' hb' hsz hsh hs hd Kc hK
        have f1 : a'.tmps[1]?.getD undef = .int .i64 a := (hs 1 (by decide)).trans rfl
        clear hs hd
        have x0' := (hb'.cell (p := ⟨w.heap.size, 0, none⟩) (Nat.lt_succ_self _)).trans x0
        have x1' := (hb'.cell (p := ⟨w.heap.size, 1, none⟩) (Nat.lt_succ_self _)).trans x1
        unfold Oper.wp
        go_simp
        exact hK _ _ (toldS_below hSBx hPBx (Nat.le_of_lt hsh.1) (Below.refl _ _)) (by first | rfl | (show Value.int _ _ = Value.int _ _; go_num; done) | (simp [valOf, *]; done) | (simp [valOf]; omega))
      · intro a' w' hb' hsz hsh hs hd Kc hK
        have f23 : a'.tmps[23]?.getD undef = .int .i64 a := hd 6 23 (by first | rfl | decide | simp [Region.binds]) rfl
        clear hs hd
        have x0' := (hb'.cell (p := ⟨w.heap.size, 0, none⟩) (Nat.lt_succ_self _)).trans x0
        have x1' := (hb'.cell (p := ⟨w.heap.size, 1, none⟩) (Nat.lt_succ_self _)).trans x1
        unfold Oper.wp
        go_simp
        exact hK _ _ (toldS_below hSBx hPBx (Nat.le_of_lt hsh.1) ((Below.refl _ _).alloc (Nat.le_refl _) _)) (oneV_new _ _ _ hsz)
      · intro a' w' hb' hsz hsh hs hd Kc hK
        have f22 : OwnV (w0.heap.size) 3 1 (n) (vals .i64 (n) (z)) (a'.tmps[22]?.getD undef) w' := hd 5 22 (by first | rfl | decide | simp [Region.binds]) rfl
        have f24 : OneV (w0.heap.size) (.int .i64 a) (a'.tmps[24]?.getD undef) w' := hd 7 24 (by first | rfl | decide | simp [Region.binds]) rfl
        clear hs hd
        have x0' := (hb'.cell (p := ⟨w.heap.size, 0, none⟩) (Nat.lt_succ_self _)).trans x0
        have x1' := (hb'.cell (p := ⟨w.heap.size, 1, none⟩) (Nat.lt_succ_self _)).trans x1
        obtain ⟨i0, hj0, hj1, hj2, hj3⟩ := info_parts int_infoG
        obtain ⟨ad, fx, hlx, hcx⟩ := f24
        refine step_append_one rfl (.tmp 22) (.tmp 24) 26 rfl 3 i0 (.int .i64 0) 8 Tryd.underlying26 hj0 hj1 hj2 hj3 rfl (w0.heap.size) (a'.tmps[22]?.getD undef) (n) (vals .i64 n z) (by simp [Act.eval]) f22 ad (.int .i64 a) (by rw [← fx]; simp [Act.eval]) hcx (by simp [Value.oneCell']) (by simp only [maxLen]; omega) (by omega) hsz fun v' w2 ho hch => ?_
        refine hK _ _ ?_ ho
        rcases hch with hch | ⟨gg, hgg, rfl⟩
        · exact (toldS_below hSBx hPBx (Nat.le_of_lt hsh.1) hch)
        · refine ⟨(Below.refl _ _).setCell (Nat.le_trans (Nat.le_of_lt (l1)) hgg) _, fun h => h.set _ _ _, fun i v => ?_⟩
          match i with
          | 0 => exact fun h => h
          | 1 => exact fun h => h
          | 2 => show NilsV (w0.heap.size) 3 1 v w' → NilsV (w0.heap.size) 3 1 v _; intro h; exact h.set _ _ _
          | 3 => exact fun h => h
          | 4 => exact fun h => h
          | 5 => show OwnV (w0.heap.size) 3 1 (n) (vals .i64 (n) (z)) v w' → OwnV (w0.heap.size) 3 1 (n) (vals .i64 (n) (z)) v _; intro h; exact h.set fun y hy => (by rw [List.getElem?_eq_none (by simp [vals_length])] at hy; cases hy)
          | 6 => exact fun h => h
          | 7 => show OneV (w0.heap.size) (.int .i64 a) v w' → OneV (w0.heap.size) (.int .i64 a) v _; intro h; exact h.set _ _
          | 8 => show OwnV (w0.heap.size) 3 1 (n + 1) (vals .i64 n z ++ [.int .i64 a]) v w' → OwnV (w0.heap.size) 3 1 (n + 1) (vals .i64 n z ++ [.int .i64 a]) v _; intro h; exact h.set fun y hy => (by rw [List.getElem?_append_right (by simp [vals_length])] at hy; simpa [vals_length, eq_comm] using hy)
          | 9 => show PutV (w0.heap.size) 3 1 (n + 1) (vals .i64 n z ++ [.int .i64 a]) ([.int .i64 r]) ([]) v w' → PutV (w0.heap.size) 3 1 (n + 1) (vals .i64 n z ++ [.int .i64 a]) ([.int .i64 r]) ([]) v _; intro h; exact h.set fun y hy => (by rw [List.getElem?_append_right (by simp [vals_length])] at hy; simpa [vals_length, eq_comm] using hy)
          | 10 => show StoreV (w.heap.size + 1) (w0.heap.size) 3 1 (n + 1) (vals .i64 n z ++ [.int .i64 a]) ([.int .i64 r]) ([]) v w' → StoreV (w.heap.size + 1) (w0.heap.size) 3 1 (n + 1) (vals .i64 n z ++ [.int .i64 a]) ([.int .i64 r]) ([]) v _; intro h; exact h.far (fun e => by have := l1; omega) fun y hy => (by rw [List.getElem?_append_right (by simp [vals_length])] at hy; simpa [vals_length, eq_comm] using hy)
          | 11 => exact fun h => h
          | _ + 12 => exact fun _ => trivial
      · intro a' w' hb' hsz hsh hs hd Kc hK
        have f18 : a'.tmps[18]?.getD undef = .int .i64 r := hd 1 18 (by first | rfl | decide | simp [Region.binds]) rfl
        have f25 : OwnV (w0.heap.size) 3 1 (n + 1) (vals .i64 n z ++ [.int .i64 a]) (a'.tmps[25]?.getD undef) w' := hd 8 25 (by first | rfl | decide | simp [Region.binds]) rfl
        clear hs hd
        have x0' := (hb'.cell (p := ⟨w.heap.size, 0, none⟩) (Nat.lt_succ_self _)).trans x0
        have x1' := (hb'.cell (p := ⟨w.heap.size, 1, none⟩) (Nat.lt_succ_self _)).trans x1
        obtain ⟨pp, cc, ff, -⟩ := owned_new f25
        unfold OwnV at f25
        rw [ff] at f25
        unfold Oper.wp
        go_simp
        exact hK _ _ (toldS_below hSBx hPBx (Nat.le_of_lt hsh.1) (Below.refl _ _)) ⟨pp, cc, rfl, f25⟩
      · intro a' w' hb' hsz hsh hs hd Kc hK
        have f4 : a'.tmps[4]?.getD undef = .pointer (some ⟨w.heap.size + 1, 0, none⟩) := (hs 4 (by decide)).trans rfl
        have f26 : PutV (w0.heap.size) 3 1 (n + 1) (vals .i64 n z ++ [.int .i64 a]) ([.int .i64 r]) ([]) (a'.tmps[26]?.getD undef) w' := hd 9 26 (by first | rfl | decide | simp [Region.binds]) rfl
        clear hs hd
        have x0' := (hb'.cell (p := ⟨w.heap.size, 0, none⟩) (Nat.lt_succ_self _)).trans x0
        have x1' := (hb'.cell (p := ⟨w.heap.size, 1, none⟩) (Nat.lt_succ_self _)).trans x1
        obtain ⟨p', c', fp, hown⟩ := f26
        simp only [List.cons_append, List.nil_append, List.append_nil] at fp
        obtain ⟨⟨y0, s0⟩, t0⟩ := hsh.2 0 (by decide)
        obtain ⟨⟨y1, s1⟩, t1⟩ := hsh.2 1 (by decide)
        have hG := hsh.1
        unfold Oper.wp
        go_simp
        refine hK (.tuple #[]) _ ⟨((Below.refl _ _).setCell (p := ⟨w.heap.size + 1, 0, none⟩) (Nat.le_refl _) _).setCell (p := ⟨w.heap.size + 1, 1, none⟩) (Nat.le_refl _) _, fun h => ((h).set _ _ _).set _ _ _, fun i v => ?_⟩ ⟨p', c', cellsV_2 hsh _ _ undef, OwnV.under (OwnV.under (hown) (l1) _ _) (l1) _ _⟩
        match i with
        | 0 => exact fun h => h
        | 1 => exact fun h => h
        | 2 => show NilsV (w0.heap.size) 3 1 v w' → NilsV (w0.heap.size) 3 1 v _; intro h; exact ((h).under (l1) _ _).under (l1) _ _
        | 3 => exact fun h => h
        | 4 => exact fun h => h
        | 5 => show OwnV (w0.heap.size) 3 1 (n) (vals .i64 (n) (z)) v w' → OwnV (w0.heap.size) 3 1 (n) (vals .i64 (n) (z)) v _; intro h; exact ((h).under (l1) _ _).under (l1) _ _
        | 6 => exact fun h => h
        | 7 => show OneV (w0.heap.size) (.int .i64 a) v w' → OneV (w0.heap.size) (.int .i64 a) v _; intro h; exact ((h).under (l1) _ _).under (l1) _ _
        | 8 => show OwnV (w0.heap.size) 3 1 (n + 1) (vals .i64 n z ++ [.int .i64 a]) v w' → OwnV (w0.heap.size) 3 1 (n + 1) (vals .i64 n z ++ [.int .i64 a]) v _; intro h; exact ((h).under (l1) _ _).under (l1) _ _
        | 9 => show PutV (w0.heap.size) 3 1 (n + 1) (vals .i64 n z ++ [.int .i64 a]) ([.int .i64 r]) ([]) v w' → PutV (w0.heap.size) 3 1 (n + 1) (vals .i64 n z ++ [.int .i64 a]) ([.int .i64 r]) ([]) v _; intro h; exact ((h).under (l1) _ _).under (l1) _ _
        | 10 => show StoreV (w.heap.size + 1) (w0.heap.size) 3 1 (n + 1) (vals .i64 n z ++ [.int .i64 a]) ([.int .i64 r]) ([]) v w' → StoreV (w.heap.size + 1) (w0.heap.size) 3 1 (n + 1) (vals .i64 n z ++ [.int .i64 a]) ([.int .i64 r]) ([]) v _; intro _; exact ⟨p', c', cellsV_2 hsh _ _ undef, OwnV.under (OwnV.under (hown) (l1) _ _) (l1) _ _⟩
        | 11 => exact fun h => h
        | _ + 12 => exact fun _ => trivial
      · intro a' w' hb' hsz hsh hs hd Kc hK
        clear hs hd
        have x0' := (hb'.cell (p := ⟨w.heap.size, 0, none⟩) (Nat.lt_succ_self _)).trans x0
        have x1' := (hb'.cell (p := ⟨w.heap.size, 1, none⟩) (Nat.lt_succ_self _)).trans x1
        unfold Oper.wp
        go_simp
        exact hK _ _ (toldS_below hSBx hPBx (Nat.le_of_lt hsh.1) (Below.refl _ _)) (by first | rfl | (show Value.int _ _ = Value.int _ _; go_num; done) | (simp [valOf, *]; done) | (simp [valOf]; omega))
    intro Xf w' hb hsz hv hn
    have o10 : StoreV (w.heap.size + 1) (w0.heap.size) 3 1 (n + 1) (vals .i64 n z ++ [.int .i64 a]) ([.int .i64 r]) ([]) undef w' := hn 10 rfl
    have q5 : Xf 5 = .bool true := hv 11 5 rfl
    clear hv hn hPBx hSBx
    simp only [List.map_cons, List.map_nil, q5, puts, Act.put, Nat.reduceAdd, List.setIfInBounds_toArray, List.set_cons_succ, List.set_cons_zero]
    obtain ⟨p', c', hc, hown⟩ := o10
    have z0' : w'.cell? ⟨w.heap.size + 1, 0, none⟩ = some (.int .i64 r) := hc.2 0 _ rfl
    have z1' : w'.cell? ⟨w.heap.size + 1, 1, none⟩ = some (.slice p' (n + 1) c') := hc.2 1 _ rfl
    have hbb : Below w.heap.size w w' := hb0.trans (hb.mono (Nat.le_succ _))
    rw [pz_vals] at hown
    have hg : GrAt w' p' c' (n + 1) (pzZ z n a) := gr_owned hown (by simp only [maxLen]; omega) (pz_wf hz.ints.wf ha)
    have htag := owned_tag hown
    clear hown hc
    go_wp2
    refine bodyPost_ret (by simp [results, Tryd.results40, go_sem, *]; try rfl) rfl ?_
    exact ⟨p', c', rfl, hg, hbb, fun b off sp e => .inr (htag b off sp e)⟩
theorem rgpush_any (r a : Int) (p : Option Addr) (n c : Nat) (z : Nat → Int) (w : World) (hz : GrAt w p c n z) (hr : r ≤ 1000000) (ha : (Lit.int .i64 a).wf = true) :
    Calls Tryd.prog 40 #[.agg #[.int .i64 r, .slice p n c], .int .i64 a] w fun e w' => ∃ p' c', e = .returned (.tuple #[.agg #[.int .i64 r, .slice p' (gpN r n a) c'], .bool (gpB r n a)]) ∧ GrAt w' p' c' (gpN r n a) (gpZ r n z a) ∧ Below w.heap.size w w' := by
  refine Calls.mono (rgpush_tag r a p n c z w hz hr ha) ?_
  rintro e w' ⟨p', c', h1, h2, h3, -⟩
  exact ⟨p', c', h1, h2, h3⟩
end Go.Proofs.YtokbggokkjefhaaDoor
