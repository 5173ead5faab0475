/- QueueOrder: numbers come out rising, each as often as it was put in; what was handed in stays, and isn't kept. No condition. -/
import Derived.Test.YthojihikihhbfaaRows
import Derived.Test.YthojihikihhbfaaAwake10
namespace Go.Proofs.Ythojihikihhbfaa
set_option linter.unusedSimpArgs false
set_option linter.unusedVariables false
open Go.ChangeShapes Go.WideShapes Go.ChangeAt Go.RowKit Go.Joins

theorem at_listO {n : Nat} {z : Nat → Int} {i : Nat} (h : i < n) : atL (listZ n z) i = z i := by rw [at_get (by rw [listZ_len]; exact h)]; simp [listZ]
/-- A row of the call's own, whatever numbers it holds. -/
structure OwnAt (G n : Nat) (po : Option Addr) (co : Nat) (W : World) : Prop where
  ex : ∃ xs : List Value, xs.length = n ∧ W.ownsRow G 3 1 (.slice po n co) n xs
theorem OwnAt.at {G n : Nat} {po : Option Addr} {co : Nat} {W : World} (h : OwnAt G n po co W) (h0 : 0 < n) : ∃ g, po = some ⟨g, 0, none⟩ ∧ G ≤ g ∧ g < W.heap.size ∧ ∀ j, j < n → (∃ u, W.cell? ⟨g, j, none⟩ = some u) ∧ W.frozen? ⟨g, j, none⟩ = false ∧ ∀ u, OwnAt G n po co (W.setCell ⟨g, j, none⟩ u) := by
  obtain ⟨xs, hl, hown⟩ := h.ex
  rcases hown.2 with ⟨hv, h1⟩ | ⟨g, cap, cur, hv, hb, -⟩
  · omega
  · injection hv with e1 _ e3
    subst e1 e3
    refine ⟨g, rfl, hb, (hown.lt g rfl).2, fun j hj => ⟨⟨xs[j]'(by omega), (hown.cellAt j (by omega)).trans (List.getElem?_eq_getElem _)⟩, hown.frozenAt j, fun u => ⟨xs.set j u, by simp [hl], (hown.stored j u).1⟩⟩⟩
theorem app_one {W : World} {base n : Nat} {v : Value} {A : List Int} (h : W.ownsRow base 3 1 v (0 + n) ([] ++ vals .i64 n (atL A))) (hA : A.length = n) (wA : ∀ x ∈ A, (Lit.int .i64 x).wf = true) :
    ∃ p c, v = .slice p n c ∧ Ints .i64 W p n (atL A) ∧ (p = none → n = 0 ∧ c = 0) ∧ OwnAt base n p c W ∧ ∀ g off sp, p = some ⟨g, off, sp⟩ → base ≤ g ∧ g < W.heap.size := by
  subst hA
  rw [Nat.zero_add, List.nil_append, ← vals_atL] at h
  obtain ⟨p, c, rfl, hI, hq, hb⟩ := row_ints h wA
  exact ⟨p, c, rfl, hI, hq, ⟨_, by simp, h⟩, fun g off sp e => ⟨hb g off sp e, by subst e; exact (h.lt g rfl).2⟩⟩
theorem Qu.aside {T : Nat → Prop} {base b : Nat} {R : List Int} {v : Value} {W W' : World} (q : Qu base b R v W) (hA : Aside T W W') (hT : ∀ k, T k → k < base) : Qu base b R v W' := by
  have hge := q.row.ge
  have hbk : W'.heap[b]? = W.heap[b]? := hA.block b q.row.lt fun t => by have := hT b t; omega
  exact ⟨⟨owned_aside q.row.own hA fun k hk t => by have := hT k t; have := (q.row.own.lt k hk).1; omega, (World.cell?_of_block (w := W) (a := ⟨b, 0, none⟩) hbk).trans q.row.cell, (World.frozen?_of_block (w := W) (a := ⟨b, 0, none⟩) hbk).trans q.row.frz, Nat.lt_of_lt_of_le q.row.lt hA.size, q.row.ge, q.row.ne, q.row.len⟩, q.heap⟩
/-- How often a number is in a list. -/
def cntL (x : Int) (L : List Int) : Int := (L.count x : Int)
theorem cnt_pos (x : Int) (L : List Int) : 0 ≤ cntL x L := by unfold cntL; omega
theorem cnt_le (x : Int) (L : List Int) : cntL x L ≤ L.length := by
  have := List.count_le_length (a := x) (l := L)
  unfold cntL; omega
theorem cnt_perm {x : Int} {A B : List Int} (h : A.Perm B) : cntL x A = cntL x B := by unfold cntL; rw [h.count_eq]
theorem cnt_app (x : Int) (A B : List Int) : cntL x (A ++ B) = cntL x A + cntL x B := by unfold cntL; rw [List.count_append]; omega
theorem cnt_hit (x : Int) : cntL x [x] = 1 := by simp [cntL]
theorem cnt_miss {x y : Int} (h : ¬ y = x) : cntL x [y] = 0 := by simp [cntL, h]
theorem take_at {A : List Int} {i : Nat} (h : i < A.length) : A.take (i + 1) = A.take i ++ [atL A i] := by
  rw [at_get h, List.take_append_getElem]
theorem drop_at {A : List Int} {i : Nat} (h : i < A.length) : A.drop i = [atL A i] ++ A.drop (i + 1) := by
  rw [at_get h]; exact List.drop_eq_getElem_cons h
theorem rise_at {S : List Int} (h : Rise S) {i j : Nat} (hij : i < j) (hj : j < S.length) : atL S i ≤ atL S j := by
  rw [at_get hj, at_get (Nat.lt_trans hij hj)]
  exact List.pairwise_iff_getElem.1 h i j (Nat.lt_trans hij hj) hj hij
set_option maxRecDepth 20000 in
set_option maxHeartbeats 32000000 in
theorem order_walk (p : Option Addr) (n c : Nat) (z : Nat → Int) (q : Option Addr) (m d : Nat) (y : Nat → Int) (N : Int) (w : World) (hin : Ints .i64 w p n z) (hn : n ≤ maxLen) (hq : p = none → n = 0 ∧ c = 0) (hin2 : Ints .i64 w q m y) (hm : m ≤ maxLen) (hq2 : q = none → m = 0 ∧ d = 0) :
    Calls Try.prog 5 #[.slice p n c, .slice q m d, .int .i64 N] w fun e w' => e = .returned (.bool true) ∧ Below w.heap.size w w' := by
  simp only [maxLen] at hn hm
  by_cases hl : n ≤ 200 ∧ m ≤ 200
  · obtain ⟨hl1, hl2⟩ := hl
    have hd1 : decide (200 < (n : Int)) = false := by simp; omega
    have hd2 : decide (200 < (m : Int)) = false := by simp; omega
    obtain ⟨A, hAl, hA, hAw⟩ : ∃ A : List Int, A.length = n ∧ Ints .i64 w p n (atL A) ∧ ∀ x ∈ A, (Lit.int .i64 x).wf = true := ⟨listZ n z, listZ_len _ _, hin.congr fun i hi => (at_listO hi).symm, listZ_wf hin n (Nat.le_refl _)⟩
    obtain ⟨B, hBl, hB⟩ : ∃ B : List Int, B.length = m ∧ Ints .i64 w q m (atL B) := ⟨listZ m y, listZ_len _ _, hin2.congr fun i hi => (at_listO hi).symm⟩
    clear hin hin2
    obtain ⟨i0, hi, hz0, hz1, hz2⟩ := info_parts int_infoQ
    have hsame : sameQ n (atL A) n (atL A) = true := by simp [sameQ]
    go_enter Try.func5, Try.ntmps5
    go_upto_region 4 with (first
      | (go_at_call 7; refine Calls.mono (awake10_any _) ?_; rintro e w1 ⟨rfl, hb1⟩)
      | (at_builtin; refine wpList_append_ints rfl (.tmp 33) (.tmp 34) 22 rfl w1.heap.size 3 i0 (.int .i64 0) 8 Try.underlying22 hi hz0 hz1 hz2 rfl (.slice (some ⟨w1.heap.size, 0, none⟩) 0 0) 0 [] rfl (World.ownsRow_lit w1 #[] 0 (Nat.le_refl _) (by simp only [maxLen]; omega) rfl) .i64 _ _ _ (atL A) rfl (hA.below (hb1.alloc hb1.size _)) hq (by simp only [maxLen]; omega) (by omega) (by first | (simp; done) | (simp; omega)) ?_; intro v3 w3 hown3 hgrow3)
    )
    have hb3 : Below w.heap.size w w3 := (hb1.alloc hb1.size (.cells #[] 3)).grown hgrow3 (by have := hb1.size; simp; omega) (by intro k hk; have := hb1.size; simp [Value.ownBlock] at hk; omega)
    obtain ⟨p3, c3, rfl, hI3, hq3, ho3, hp3⟩ := app_one hown3 hAl hAw
    have hg1 := hb1.size
    clear hown3 hgrow3 hb1
    generalize w1.heap.size = G at *
    have hN := qnew_any p3 n c3 (atL A) w3 hI3 hq3 (by omega)
    rw [show listZ n (atL A) = A by rw [← hAl]; exact listZ_atL A] at hN
    go_upto_region 5 with (first
      | (go_at_call 8; refine Calls.mono hN ?_; rintro e w4 ⟨b, v, R, rfl, r4, hp4, hh4, hb4⟩)
    )
    have q4 : Qu w3.heap.size b R v w4 := ⟨r4, hh4⟩
    replace hI3 := hI3.below hb4
    have ho4 : OwnAt G n p3 c3 w4 := by
      obtain ⟨xs, h1, h2⟩ := ho3.ex
      exact ⟨xs, h1, owned_below h2 hb4⟩
    have hb4W := bjoin hb4 hb3
    have hg3 := hb3.size
    clear hN r4 hh4 hb4 hb3 ho3 hq3
    generalize w3.heap.size = base at *
    have hA4 := hA.below hb4W
    go_upto_region 7 with (first
      | (go_at_call 15; refine Calls.mono (rintsQ_any p3 p n c3 n c _ _ w4 hI3 hA4 (by simp only [maxLen]; omega) (by simp only [maxLen]; omega)) ?_; rintro e w5 ⟨rfl, hb5⟩)
    )
    have q5 := q4.below hb5
    have ho5 : OwnAt G n p3 c3 w5 := by
      obtain ⟨xs, h1, h2⟩ := ho4.ex
      exact ⟨xs, h1, owned_below h2 hb5⟩
    have hb5W := bjoin hb5 hb4W
    clear hI3 hA4 q4 ho4 hb5 hb4W
    go_wp2
    go_loopg [9] n (fun g iv wr => ∃ i : Nat, i ≤ n ∧ g = n - i ∧ iv = .int .i64 i ∧ OwnAt G n p3 c3 wr ∧ Qu base b R v wr ∧ Below w.heap.size w wr)
    case atStart => exact ⟨0, by omega, by omega, rfl, ho5, q5, hb5W⟩
    case round =>
      clear ho5 q5 hb5W
      obtain ⟨i, ih, rfl, rfl, ho, qr, hbw⟩ := hrel
      by_cases hi0 : i < n
      · obtain ⟨g, rfl, hG, hgl, hat⟩ := ho.at (by omega)
        obtain ⟨⟨u, hu⟩, hfz, hst⟩ := hat i hi0
        have hst' := hst (.int .i64 N)
        have hgb := (hp3 g 0 none rfl).2
        have hAs : Aside (fun k => k = g) wr (wr.setCell ⟨g, i, none⟩ (.int .i64 N)) := (Aside.of (T := fun k => k = g) (Below.refl _ wr)).setCell (g := g) rfl i _
        have q7 : Qu base b R v (wr.setCell ⟨g, i, none⟩ (.int .i64 N)) := qr.aside hAs (fun k hk => by omega)
        have hb7 : Below w.heap.size w (wr.setCell ⟨g, i, none⟩ (.int .i64 N)) := hbw.trans (hAs.below (by omega) (fun k hk => by omega))
        go_wp2
        go_roundg (n - (i + 1))
        case measure => omega
        case rel => exact ⟨i + 1, by omega, rfl, by go_num, hst', q7, hb7⟩
      · obtain rfl : n = i := by omega
        clear ho hi0 ih
        go_upto_region 12 with fail
        go_loopg [10] m (fun g iv wr => ∃ (i : Nat) (R : List Int) (v : Value), i ≤ m ∧ g = m - i ∧ iv = .int .i64 i ∧ Qu base b R v wr ∧ R.Perm (B.take i ++ A) ∧ Below w.heap.size w wr)
        case atStart => exact ⟨0, R, v, by omega, by omega, rfl, qr, hp4, hbw⟩
        case round =>
          clear qr hp4 hbw
          obtain ⟨i, R, v, ih, rfl, rfl, qr, hp, hbw⟩ := hrel
          by_cases hi0 : i < m
          · obtain ⟨⟨bq, oq, rfl, hlq, hvq⟩, -⟩ := (hB.below hbw) i hi0
            have hl := hp.length_eq
            simp only [List.length_append, List.length_take] at hl
            have hP := qpushQ_any (atL B i) wr qr (by omega)
            have ht : B.take (i + 1) = B.take i ++ [atL B i] := take_at (by omega)
            go_wp2_with (first
              | (go_at_call 11; refine Calls.mono hP ?_; rintro e w8 ⟨rfl, R', v', q8, hp8, hv8, hA8⟩)
            )
            go_roundg (m - (i + 1))
            case measure => omega
            case rel => exact ⟨i + 1, R', v', by omega, rfl, by go_num, q8, hp8.trans (by rw [ht, List.append_assoc]; exact (hp.cons _).trans List.perm_middle.symm), hbw.trans ((qr.stays hA8).mono hg3)⟩
          · obtain rfl : m = i := by omega
            clear hi0 ih
            rw [show B.take m = B by rw [← hBl]; exact List.take_length] at hp
            go_upto_region 17 with fail
            generalize wr = w6 at *
            go_loopg [11, 12] n (fun g cv iv wr => ∃ i : Nat, i ≤ n ∧ g = n - i ∧ cv = .int .i64 (cntL N (A.take i)) ∧ iv = .int .i64 i ∧ Below w6.heap.size w6 wr)
            case atStart => exact ⟨0, by omega, by omega, rfl, rfl, Below.refl _ _⟩
            case round =>
              obtain ⟨i, ih, rfl, rfl, rfl, hb6⟩ := hrel
              by_cases hi0 : i < n
              · obtain ⟨⟨bq, oq, rfl, hlq, hvq⟩, -⟩ := (hA.below (bjoin hb6 hbw)) i hi0
                have ht : cntL N (A.take (i + 1)) = cntL N (A.take i) + cntL N [atL A i] := by rw [take_at (by omega), cnt_app]
                have hc0 := cnt_pos N (A.take i)
                have hc1 := cnt_le N (A.take i)
                have hc2 : (A.take i).length ≤ 200 := by rw [List.length_take]; omega
                have ht' : Hid (cntL N (A.take (i + 1)) = cntL N (A.take i) + cntL N [atL A i]) := ht
                clear ht
                generalize cntL N (A.take i) = C at *
                generalize atL A i = x at *
                by_cases hx : x = N
                · subst hx
                  go_wp2
                  go_roundg (n - (i + 1))
                  case measure => omega
                  case rel => exact ⟨i + 1, by omega, rfl, by rw [ht'.out, cnt_hit], by go_num, hb6⟩
                · go_wp2
                  go_roundg (n - (i + 1))
                  case measure => omega
                  case rel => exact ⟨i + 1, by omega, rfl, by rw [ht'.out, cnt_miss hx]; go_num, by go_num, hb6⟩
              · obtain rfl : n = i := by omega
                clear hi0 ih
                rw [show A.take n = A by rw [← hAl]; exact List.take_length]
                have q6 := qr.below hb6
                have hb6W := bjoin hb6 hbw
                clear qr hbw hb6
                have hcA := cnt_pos N A
                have hcA1 := cnt_le N A
                go_upto_region 22 with fail
                generalize wr = w7 at *
                go_loopg [11, 13] m (fun g cv iv wr => ∃ i : Nat, i ≤ m ∧ g = m - i ∧ cv = .int .i64 (cntL N A + cntL N (B.take i)) ∧ iv = .int .i64 i ∧ Below w7.heap.size w7 wr)
                case atStart => exact ⟨0, by omega, by omega, by simp [cntL], rfl, Below.refl _ _⟩
                case round =>
                  obtain ⟨i, ih, rfl, rfl, rfl, hb7⟩ := hrel
                  by_cases hi0 : i < m
                  · obtain ⟨⟨bq, oq, rfl, hlq, hvq⟩, -⟩ := (hB.below (bjoin hb7 hb6W)) i hi0
                    have ht : cntL N A + cntL N (B.take (i + 1)) = cntL N A + cntL N (B.take i) + cntL N [atL B i] := by rw [take_at (by omega), cnt_app]; omega
                    have hc0 := cnt_pos N (B.take i)
                    have hc1 := cnt_le N (B.take i)
                    have hc2 : (B.take i).length ≤ 200 := by rw [List.length_take]; omega
                    have hc3 : 0 ≤ cntL N A + cntL N (B.take i) := by omega
                    have hc4 : cntL N A + cntL N (B.take i) ≤ 400 := by omega
                    have ht' : Hid (cntL N A + cntL N (B.take (i + 1)) = cntL N A + cntL N (B.take i) + cntL N [atL B i]) := ht
                    clear ht hc0 hc1 hc2 hcA hcA1
                    generalize cntL N A + cntL N (B.take i) = C at *
                    generalize atL B i = x at *
                    by_cases hx : x = N
                    · subst hx
                      go_wp2
                      go_roundg (m - (i + 1))
                      case measure => omega
                      case rel => exact ⟨i + 1, by omega, rfl, by rw [ht'.out, cnt_hit], by go_num, hb7⟩
                    · go_wp2
                      go_roundg (m - (i + 1))
                      case measure => omega
                      case rel => exact ⟨i + 1, by omega, rfl, by rw [ht'.out, cnt_miss hx]; go_num, by go_num, hb7⟩
                  · obtain rfl : m = i := by omega
                    clear hi0 ih hcA hcA1
                    rw [show B.take m = B by rw [← hBl]; exact List.take_length]
                    have q7 := q6.below hb7
                    have hb7W := bjoin hb7 hb6W
                    clear q6 hb6W hb7
                    have hSl : (sortL (B ++ A)).length = n + m := by rw [sort_len]; simp; omega
                    have hSr := sort_rise (B ++ A)
                    have hSp : R.Perm ((sortL (B ++ A)).drop 0) := hp.trans (sort_perm _).symm
                    have hSc : cntL N A + cntL N B = cntL N ((sortL (B ++ A)).drop 0) := by
                      rw [show (sortL (B ++ A)).drop 0 = sortL (B ++ A) from rfl, cnt_perm (sort_perm (B ++ A)), cnt_app]; omega
                    rw [hSc]
                    clear hSc hp hA hB hAw hAl hBl hsame
                    generalize sortL (B ++ A) = S at *
                    go_upto_region 28 with fail
                    generalize wr = w8 at *
                    go_loopg [11, 14, 15] (n + m) (fun g cv lv iv wr => ∃ (i : Nat) (R : List Int) (v : Value) (la : Int), i ≤ n + m ∧ g = n + m - i ∧ cv = .int .i64 (cntL N (S.drop i)) ∧ lv = .int .i64 la ∧ iv = .int .i64 i ∧ Qu base b R v wr ∧ R.Perm (S.drop i) ∧ (0 < i → i < n + m → la ≤ atL S i) ∧ Below w.heap.size w wr)
                    case atStart => exact ⟨0, R, v, 0, by omega, by omega, rfl, rfl, rfl, q7, hSp, fun h => by omega, hb7W⟩
                    case round =>
                      clear q7 hSp hb7W
                      obtain ⟨i, R, v, la, ih, rfl, rfl, rfl, rfl, qr, hp, hla, hbw⟩ := hrel
                      by_cases hi0 : i < n + m
                      · have hP := qpop_next i wr qr hSr hp (by omega)
                        have ht : cntL N (S.drop i) = cntL N [atL S i] + cntL N (S.drop (i + 1)) := by rw [drop_at (by omega), cnt_app]
                        have hc0 := cnt_pos N (S.drop (i + 1))
                        have hc1 := cnt_le N (S.drop (i + 1))
                        have hc2 : (S.drop (i + 1)).length ≤ 400 := by rw [List.length_drop]; omega
                        have hnext : 0 < i + 1 → i + 1 < n + m → atL S i ≤ atL S (i + 1) := fun _ h => rise_at hSr (by omega) (by omega)
                        have hlt : ¬ i = 0 → ¬ atL S i < la := fun h => by have := hla (by omega) hi0; omega
                        rw [ht]
                        clear ht hp hla
                        go_upto_region 31 with (first
                          | (go_at_call 10; refine Calls.mono hP ?_; rintro e w9 ⟨rfl, R', v', q9, hp9, hv9, hA9⟩)
                        )
                        have hb9 := hbw.trans ((qr.stays hA9).mono hg3)
                        clear hP qr hA9 hbw
                        generalize hC : cntL N (S.drop (i + 1)) = C at *
                        have hC' : Hid (cntL N (S.drop (i + 1)) = C) := hC
                        clear hC
                        generalize atL S i = x at *
                        by_cases hk : i = 0
                        · subst hk
                          clear hlt
                          by_cases hx : x = N
                          · subst hx
                            rw [cnt_hit]
                            go_wp2
                            go_roundg (n + m - (0 + 1))
                            case measure => omega
                            case rel => exact ⟨0 + 1, R', v', x, by omega, rfl, by first | (rw [hC'.out]; done) | (rw [hC'.out]; go_num), rfl, by go_num, q9, hp9, hnext, hb9⟩
                          · rw [cnt_miss hx]
                            go_wp2
                            go_roundg (n + m - (0 + 1))
                            case measure => omega
                            case rel => exact ⟨0 + 1, R', v', x, by omega, rfl, by first | (rw [hC'.out]; done) | (rw [hC'.out]; go_num), rfl, by go_num, q9, hp9, hnext, hb9⟩
                        · have hk' : ¬ x < la := by have := hlt hk; omega
                          have hk0 : 0 < i := by omega
                          clear hlt hk
                          by_cases hx : x = N
                          · subst hx
                            rw [cnt_hit]
                            go_wp2
                            go_roundg (n + m - (i + 1))
                            case measure => omega
                            case rel => exact ⟨i + 1, R', v', x, by omega, rfl, by first | (rw [hC'.out]; done) | (rw [hC'.out]; go_num), rfl, by go_num, q9, hp9, hnext, hb9⟩
                          · rw [cnt_miss hx]
                            go_wp2
                            go_roundg (n + m - (i + 1))
                            case measure => omega
                            case rel => exact ⟨i + 1, R', v', x, by omega, rfl, by first | (rw [hC'.out]; done) | (rw [hC'.out]; go_num), rfl, by go_num, q9, hp9, hnext, hb9⟩
                      · obtain rfl : i = n + m := by omega
                        rw [← hSl, List.drop_length] at hp
                        have hP := qpop_end (S := S) wr qr (by rw [List.drop_length]; exact hp)
                        rw [show cntL N (S.drop (n + m)) = 0 by rw [← hSl, List.drop_length]; rfl]
                        go_wp2_with (first
                          | (go_at_call 10; refine Calls.mono hP ?_; rintro e w9 ⟨rfl, hb9⟩)
                        )
                        go_returns
                        exact ⟨rfl, bjoin hb9 hbw⟩
  · by_cases h1 : n ≤ 200
    · have hd1 : decide (200 < (n : Int)) = false := by simp; omega
      have hd2 : decide (200 < (m : Int)) = true := by simp; omega
      clear hl
      go_enter Try.func5, Try.ntmps5
      go_wp2_with (first
    | (go_at_call 7; refine Calls.mono (awake10_any _) ?_; rintro e w' ⟨rfl, hb⟩; obtain ⟨hc, hf, hb, hz⟩ := bstep hb (w := w) (by go_grown); try simp only [World.size_alloc, World.size_setCell, World.size_drew] at hc hf hz)
      )
      go_returns
      exact ⟨rfl, hb⟩
    · have hd1 : decide (200 < (n : Int)) = true := by simp; omega
      clear hl
      go_enter Try.func5, Try.ntmps5
      go_wp2_with (first
    | (go_at_call 7; refine Calls.mono (awake10_any _) ?_; rintro e w' ⟨rfl, hb⟩; obtain ⟨hc, hf, hb, hz⟩ := bstep hb (w := w) (by go_grown); try simp only [World.size_alloc, World.size_setCell, World.size_drew] at hc hf hz)
      )
      go_returns
      exact ⟨rfl, hb⟩

namespace QueueOrder
theorem own : ownKnob Try.prog.godebug = none := by kernel_rfl
set_option maxRecDepth 100000 in
theorem lifted (os : Os) (started : os.Started) (H : Type) (enc : TypeId × Value → H) :
    ReturnsInHanded {} Try.checked os 5 .any (Rows.queueOrderSpec.pre6 enc Try.prog Try.f5 Rows.queueOrderRow.domain false) (Rows.queueOrderSpec.post enc Try.prog Try.f5 false true false false) := by
  refine law_lifted (C := Try.checked) own started (by kernel_rfl) Try.func5 (by kernel_rfl) (of_decide_eq_true (by kernel_rfl)) rfl
    (fun ds hd => by have hd' : ds.length = 3 := hd; match ds, hd' with | [d0, d1, d2], _ => rfl) rfl Try.underlying4
    (ChangeSpec.witness6 (enc := enc) (C := Try.checked) false ⟨#[], #[.slice none 0 0, .slice none 0 0, .int .i64 0], []⟩ 8 (by kernel_rfl) (by kernel_rfl) (by kernel_rfl) (by kernel_rfl)) ?_
  intro W base args ds p hval hA hlt
  rw [Try.params5] at hA hval
  obtain ⟨v0, v1, v2, d0, d1, d2, p0, p1, p2, rfl, rfl, rfl, h0, h1, h2⟩ := trodAll_three hA
  obtain ⟨q0, n0, cap0, z0, rfl, hn0, hz0, hq0⟩ := open_slice_ints Try.underlying22 Try.underlying3 (by kernel_rfl) (hval 0 22 v0 rfl rfl) h0
  obtain ⟨q1, n1, cap1, z1, rfl, hn1, hz1, hq1⟩ := open_slice_ints Try.underlying22 Try.underlying3 (by kernel_rfl) (hval 1 22 v1 rfl rfl) h1
  obtain ⟨a2, rfl, ha2⟩ := open_i64 Try.underlying3 (hval 2 3 v2 rfl rfl) h2
  exact order_walk _ _ _ _ _ _ _ _ _ W hz0 hn0 hq0 hz1 hn1 hq1

/-- The statement. -/
theorem holds : Rows.QueueOrderSaid :=
  OpenClaim.holds_of_wide 5 Try.f5 rfl rfl rfl rfl rfl rfl rfl ⟨rfl, rfl, rfl, rfl, rfl⟩ rfl rfl rfl rfl rfl (by kernel_rfl) Try.func5 (by kernel_rfl)
    (of_decide_eq_true (by kernel_rfl)) (by unfold Func.isWrapper; first | (rw [if_pos (by decide +kernel)]; kernel_rfl) | (rw [if_neg (by decide +kernel)]; exact ⟨rfl, rfl⟩))
    (fun os started H enc _ => lifted os started H enc)
#print axioms holds
end QueueOrder
end Go.Proofs.Ythojihikihhbfaa
