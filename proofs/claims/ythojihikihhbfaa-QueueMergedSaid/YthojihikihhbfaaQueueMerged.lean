/- QueueMerged: numbers sorted twice are as sorted once; the numbers of two rows sorted together are those of both, sorted each, sorted together; a row turned about is sorted the same. No condition. -/
import Derived.Test.YthojihikihhbfaaRows
import Derived.Test.YthojihikihhbfaaAwake10
namespace Go.Proofs.Ythojihikihhbfaa
set_option linter.unusedSimpArgs false
set_option linter.unusedVariables false
open Go.ChangeShapes Go.WideShapes Go.ChangeAt Go.RowKit Go.Joins

theorem sort_eq {A B : List Int} (h : A.Perm B) : sortL A = sortL B := rise_unique (sort_rise A) (sort_rise B) ((sort_perm A).trans (h.trans (sort_perm B).symm))
theorem sort_twice (A : List Int) : sortL (sortL A) = sortL A := sort_eq (sort_perm A)
theorem at_listZ {n : Nat} {z : Nat → Int} {i : Nat} (h : i < n) : atL (listZ n z) i = z i := by rw [at_get (by rw [listZ_len]; exact h)]; simp [listZ]
/-- Sorted of a list's row. -/
theorem srt_any {L : List Int} {n : Nat} (p : Option Addr) (c : Nat) (w : World) (hI : Ints .i64 w p n (atL L)) (hn : L.length = n) (hq : p = none → n = 0 ∧ c = 0) (h1 : n ≤ 1000000) :
    Calls Try.prog 16 #[.slice p n c] w fun e w' => ∃ p' c', e = .returned (.slice p' n c') ∧ Ints .i64 w' p' n (atL (sortL L)) ∧ (p' = none → n = 0 ∧ c' = 0) ∧ Below w.heap.size w w' := by
  subst hn
  refine Calls.mono (qsorted_any p L.length c (atL L) w hI hq h1) ?_
  rintro e w' ⟨v, rfl, hown, hb⟩
  obtain ⟨p', c', rfl, hI', hq', -⟩ := row_ints hown (sort_wf (listZ_wf hI _ (Nat.le_refl _)))
  rw [sort_len, listZ_len] at hI' hq' ⊢
  rw [listZ_atL] at hI'
  exact ⟨p', c', rfl, hI', hq', hb⟩
/-- An operation whose guard is met. -/
theorem wpList_granted {P : Program} {ops : Array Oper} {Q : Exit → Act → World → Prop} {rest : List Oper} {o : Oper} {a : Act} {w : World} (hw : Region.wanted o (yielded ops a.tmps) = true) (h : wpList P ops Q ({ o with guard := none } :: rest) a w) : wpList P ops Q (o :: rest) a w := by
  unfold wpList at h ⊢
  rw [if_pos hw]
  rw [if_pos (by simp [Region.wanted])] at h
  exact h
/-- Two lists appended to nothing. -/
theorem app_row {W : World} {base n m : Nat} {e : TypeId} {v : Value} {A B : List Int} (h : W.ownsRow base e 1 v (0 + n + m) ([] ++ vals .i64 n (atL A) ++ vals .i64 m (atL B))) (hA : A.length = n) (hB : B.length = m) (wA : ∀ x ∈ A, (Lit.int .i64 x).wf = true) (wB : ∀ x ∈ B, (Lit.int .i64 x).wf = true) :
    ∃ p c, v = .slice p (n + m) c ∧ Ints .i64 W p (n + m) (atL (A ++ B)) ∧ (p = none → n + m = 0 ∧ c = 0) := by
  subst hA hB
  rw [Nat.zero_add, List.nil_append, ← vals_atL, ← vals_atL, ← List.map_append, ← List.length_append] at h
  obtain ⟨p, c, rfl, hI, hq, -⟩ := row_ints h (fun x hx => by rcases List.mem_append.1 hx with h | h; exact wA x h; exact wB x h)
  rw [List.length_append] at hI hq ⊢
  exact ⟨p, c, rfl, hI, hq⟩
theorem rev_next {A : List Int} {i : Nat} (h : i < A.length) : (A.drop (i + 1)).reverse ++ [atL A i] = (A.drop i).reverse := by
  rw [List.drop_eq_getElem_cons h, List.reverse_cons, at_get h]
set_option maxHeartbeats 16000000 in
theorem merged_walk (p : Option Addr) (n c : Nat) (z : Nat → Int) (q : Option Addr) (m d : Nat) (y : Nat → Int) (w : World) (hin : Ints .i64 w p n z) (hn : n ≤ maxLen) (hq : p = none → n = 0 ∧ c = 0) (hin2 : Ints .i64 w q m y) (hm : m ≤ maxLen) (hq2 : q = none → m = 0 ∧ d = 0) :
    Calls Try.prog 6 #[.slice p n c, .slice q m d] w fun e w' => e = .returned (.bool true) ∧ Below w.heap.size w w' := by
  simp only [maxLen] at hn hm
  by_cases hl : n ≤ 150 ∧ m ≤ 150
  · obtain ⟨hl1, hl2⟩ := hl
    have hd1 : decide (150 < (n : Int)) = false := by simp; omega
    have hd2 : decide (150 < (m : Int)) = false := by simp; omega
    obtain ⟨A, hAl, hA, hAw⟩ : ∃ A : List Int, A.length = n ∧ Ints .i64 w p n (atL A) ∧ ∀ x ∈ A, (Lit.int .i64 x).wf = true := ⟨listZ n z, listZ_len _ _, hin.congr fun i hi => (at_listZ hi).symm, listZ_wf hin n (Nat.le_refl _)⟩
    obtain ⟨B, hBl, hB, hBw⟩ : ∃ B : List Int, B.length = m ∧ Ints .i64 w q m (atL B) ∧ ∀ x ∈ B, (Lit.int .i64 x).wf = true := ⟨listZ m y, listZ_len _ _, hin2.congr fun i hi => (at_listZ hi).symm, listZ_wf hin2 m (Nat.le_refl _)⟩
    clear hin hin2
    obtain ⟨i0, hi, hz0, hz1, hz2⟩ := info_parts int_infoQ
    go_enter Try.func6, Try.ntmps6
    go_upto_region 4 with (first
      | (go_at_call 7; refine Calls.mono (awake10_any _) ?_; rintro e w1 ⟨rfl, hb1⟩)
      | (go_at_call 16; refine Calls.mono (srt_any p c _ (hA.below hb1) hAl hq (by omega)) ?_; rintro e w2 ⟨px, cx, rfl, hX, hqx, hb2⟩)
    )
    have hb2W := bjoin hb2 hb1
    clear hb1 hb2
    go_upto_region 5 with (first
      | (go_at_call 16; refine Calls.mono (srt_any q d _ (hB.below hb2W) hBl hq2 (by omega)) ?_; rintro e w3 ⟨py, cy, rfl, hY, hqy, hb3⟩)
    )
    have hb3W := bjoin hb3 hb2W
    replace hX := hX.below hb3
    clear hb3 hb2W
    have hsz3 := hb3W.size
    go_upto_region 6 with (first
      | (at_builtin; refine wpList_append_ints rfl (.tmp 27) (.tmp 28) 22 rfl w3.heap.size 3 i0 (.int .i64 0) 8 Try.underlying22 hi hz0 hz1 hz2 rfl (.slice (some ⟨w3.heap.size, 0, none⟩) 0 0) 0 [] rfl (World.ownsRow_lit w3 #[] 0 (Nat.le_refl _) (by simp only [maxLen]; omega) rfl) .i64 _ _ _ (atL A) rfl (hA.below (hb3W.alloc hsz3 _)) hq (by simp only [maxLen]; omega) (by omega) (by first | (simp; done) | (simp; omega)) ?_; intro v4 w4 hown4 hgrow4)
      | (at_builtin; refine wpList_append_ints rfl (.tmp 29) (.tmp 30) 22 rfl w3.heap.size 3 i0 (.int .i64 0) 8 Try.underlying22 hi hz0 hz1 hz2 rfl v4 _ _ rfl hown4 .i64 _ _ _ (atL B) rfl (hB.below ((hb3W.alloc hsz3 _).grown hgrow4 (by simp; omega) (by intro k hk; simp [Value.ownBlock] at hk; omega))) hq2 (by simp only [maxLen]; omega) (by omega) (by have := hgrow4.size; simp at this; omega) ?_; intro v5 w5 hown5 hgrow5; obtain ⟨p5, c5, rfl, hI5, hq5⟩ := app_row hown5 hAl hBl hAw hBw; have hb4 : Below w.heap.size w w4 := (hb3W.alloc hsz3 (.cells #[] 3)).grown hgrow4 (by simp; omega) (by intro k hk; simp [Value.ownBlock] at hk; omega); have hb5 : Below w.heap.size w w5 := hb4.grown hgrow5 (by have := hb4.size; omega) (fun k hk => Nat.le_trans hsz3 (hown4.lt k hk).1); have hb35 : Below w3.heap.size w3 w5 := (((Below.refl _ w3).alloc (Nat.le_refl _) (.cells #[] 3)).grown hgrow4 (by simp) (by intro k hk; simp [Value.ownBlock] at hk; omega)).grown hgrow5 (by have := hgrow4.size; simp at this; omega) (fun k hk => (hown4.lt k hk).1))
      | (go_at_call 16; refine Calls.mono (srt_any p5 c5 _ hI5 (show (A ++ B).length = n + m by simp [hAl, hBl]) hq5 (by omega)) ?_; rintro e w6 ⟨pb, cb, rfl, hBo, hqb, hb6⟩)
    )
    have hb6W := bjoin hb6 hb5
    have hb36 := bjoin hb6 hb35
    replace hX := hX.below hb36
    replace hY := hY.below hb36
    clear hown4 hgrow4 hown5 hgrow5 hI5 hq5 hb4 hb5 hb6 hb35 hb36 hb3W hsz3
    have hsz6 := hb6W.size
    go_wp2
    go_loopg [8, 9] n (fun g ov iv wr => ∃ i : Int, -1 ≤ i ∧ i < n ∧ g = (i + 1).toNat ∧ iv = .int .i64 i ∧ wr.ownsRow w6.heap.size 3 1 ov ((A.drop (i + 1).toNat).reverse).length (((A.drop (i + 1).toNat).reverse).map (Value.int .i64)) ∧ Below w6.heap.size w6 wr)
    case atStart => exact ⟨(n : Int) - 1, by omega, by omega, by omega, rfl, by rw [show ((n : Int) - 1 + 1).toNat = A.length by omega, List.drop_length]; exact World.ownsRow_nil _ _ _ _, Below.refl _ _⟩
    case round =>
      obtain ⟨i, i0', i1, rfl, rfl, hown, hbw⟩ := hrel
      have hsz := hbw.size
      by_cases h0 : 0 ≤ i
      · obtain ⟨⟨ba, oa, rfl, hlt, v0⟩, -⟩ := (hA.below (bjoin hbw hb6W)) i.toNat (by omega)
        have hrv := rev_next (A := A) (i := i.toNat) (by omega)
        rw [show i.toNat + 1 = (i + 1).toNat by omega] at hrv
        have hrl : ((A.drop (i + 1).toNat).reverse).length ≤ 150 := by simp; omega
        have hrv' : Hid ((A.drop (i + 1).toNat).reverse ++ [atL A i.toNat] = (A.drop i.toNat).reverse) := hrv
        clear hrv
        generalize (A.drop (i + 1).toNat).reverse = L1 at *
        generalize atL A i.toNat = x at *
        go_wp2_with (first
          | (at_builtin; refine wpList_append_own _ rfl (.tmp 40) (.tmp 45) 22 rfl w6.heap.size 3 i0 (.int .i64 0) 1 8 Try.underlying22 hi hz0 hz1 hz2 rfl (by decide) _ _ _ rfl (hown.alloc _) ⟨wr.heap.size, 0, none⟩ 1 1 [.int .i64 x] rfl rfl (one_new1 _ _ _) (by simp [Value.oneCell']) (by simp only [maxLen]; omega) (by omega) (by simp; omega) ?_; intro ov w1 hown' hgrow _)
        )
        have hown2 : w1.ownsRow w6.heap.size 3 1 ov (A.drop i.toNat).reverse.length ((A.drop i.toNat).reverse.map (Value.int .i64)) := by rw [← hrv'.out]; simpa using hown'
        have hb2 := (hbw.alloc hsz (.cells #[.int .i64 x] 3)).grown hgrow (by simp; omega) (fun k hk => (hown.lt k hk).1)
        go_roundg i.toNat
        case measure => omega
        case rel => exact ⟨i - 1, by omega, by omega, by omega, by go_num, by rw [show (i - 1 + 1).toNat = i.toNat by omega]; exact hown2, hb2⟩
      · rw [show (i + 1).toNat = 0 by omega, List.drop_zero] at hown
        obtain ⟨pt, ct, rfl, hT, hqt, -⟩ := row_ints hown (fun x hx => hAw x (by simpa using hx))
        have hTl : A.reverse.length = n := by simp [hAl]
        rw [hTl] at hT hqt ⊢
        have hXr := hX.below hbw
        have hYr := hY.below hbw
        have hBr := hBo.below hbw
        have hbWr := bjoin hbw hb6W
        have hXl : (sortL A).length = n := by rw [sort_len, hAl]
        have hYl : (sortL B).length = m := by rw [sort_len, hBl]
        have h7l : (sortL B ++ sortL A).length = m + n := by simp [hXl, hYl]
        have e1 : sameQ n (atL (sortL (sortL A))) n (atL (sortL A)) = true := by rw [sort_twice]; simp [sameQ]
        have e2 : sameQ (m + n) (atL (sortL (sortL B ++ sortL A))) (n + m) (atL (sortL (A ++ B))) = true := by
          rw [sort_eq (((sort_perm B).append (sort_perm A)).trans List.perm_append_comm), Nat.add_comm]; simp [sameQ]
        have e3 : sameQ n (atL (sortL A.reverse)) n (atL (sortL A)) = true := by rw [sort_eq (List.reverse_perm A)]; simp [sameQ]
        have hXw := sort_wf hAw
        have hYw := sort_wf hBw
        have hbC : Below wr.heap.size wr wr := Below.refl _ _
        clear hX hY hBo hbw hb6W hown hsz hsz6 hA hB
        go_wp2_with (first
          | (go_at_call 16; refine Calls.mono (srt_any _ _ _ (by first | exact hXr.below hbC | exact hT.below hbC | exact hI7) (by first | exact hXl | exact hTl | exact h7l) (by first | exact hqx | exact hqt | exact hq7) (by omega)) ?_; rintro e w8 ⟨pr, cr, rfl, hR, hqr, hb8⟩; replace hbC := bjoin hb8 hbC; clear hb8)
          | (go_at_call 15; refine Calls.mono (rintsQ_any _ _ _ _ _ _ _ _ _ hR (by first | exact hXr.below hbC | exact hBr.below hbC) (by simp only [maxLen]; omega) (by simp only [maxLen]; omega)) ?_; rintro e w9 ⟨rfl, hb9⟩; replace hbC := bjoin hb9 hbC; clear hb9 hR)
          | (at_builtin; refine wpList_granted (by simp [Region.wanted, yielded, *]) ?_; refine wpList_append_ints rfl (.tmp 52) (.tmp 53) 22 rfl w9.heap.size 3 i0 (.int .i64 0) 8 Try.underlying22 hi hz0 hz1 hz2 rfl (.slice (some ⟨w9.heap.size, 0, none⟩) 0 0) 0 [] rfl (World.ownsRow_lit w9 #[] 0 (Nat.le_refl _) (by simp only [maxLen]; omega) rfl) .i64 _ _ _ (atL (sortL B)) rfl (hYr.below (hbC.alloc hbC.size _)) hqy (by simp only [maxLen]; omega) (by omega) (by first | (simp; done) | (simp; omega)) ?_; intro v10 w10 hown10 hgrow10; have hb10 : Below wr.heap.size wr w10 := (hbC.alloc hbC.size (.cells #[] 3)).grown hgrow10 (by have := hbC.size; simp; omega) (by intro k hk; have := hbC.size; simp [Value.ownBlock] at hk; omega))
          | (at_builtin; refine wpList_granted (by simp [Region.wanted, yielded, *]) ?_; refine wpList_append_ints rfl (.tmp 54) (.tmp 55) 22 rfl w9.heap.size 3 i0 (.int .i64 0) 8 Try.underlying22 hi hz0 hz1 hz2 rfl v10 _ _ rfl hown10 .i64 _ _ _ (atL (sortL A)) rfl (hXr.below hb10) hqx (by simp only [maxLen]; omega) (by omega) (by have := hgrow10.size; simp at this; omega) ?_; intro v11 w11 hown11 hgrow11; obtain ⟨p7, c7, rfl, hI7, hq7⟩ := app_row hown11 hYl hXl hYw hXw; replace hbC : Below wr.heap.size wr w11 := hb10.grown hgrow11 (by have := hb10.size; omega) (fun k hk => Nat.le_trans hbC.size (hown10.lt k hk).1); clear hown10 hgrow10 hown11 hgrow11 hb10)
        )
        go_returns
        exact ⟨ret_bool (by simp [*]), bjoin hbC hbWr⟩
  · have hd : (decide (150 < (n : Int)) || decide (150 < (m : Int))) = true := by
      simp only [Bool.or_eq_true, decide_eq_true_eq]
      omega
    by_cases h1 : n ≤ 150
    · have hd1 : decide (150 < (n : Int)) = false := by simp; omega
      have hd2 : decide (150 < (m : Int)) = true := by simp; omega
      clear hd
      go_enter Try.func6, Try.ntmps6
      go_wp2_with (first
    | (go_at_call 7; refine Calls.mono (awake10_any _) ?_; rintro e w' ⟨rfl, hb⟩; obtain ⟨hc, hf, hb, hz⟩ := bstep hb (w := w) (by go_grown); try simp only [World.size_alloc, World.size_setCell, World.size_drew] at hc hf hz)
      )
      go_returns
      exact ⟨rfl, hb⟩
    · have hd1 : decide (150 < (n : Int)) = true := by simp; omega
      clear hd
      go_enter Try.func6, Try.ntmps6
      go_wp2_with (first
    | (go_at_call 7; refine Calls.mono (awake10_any _) ?_; rintro e w' ⟨rfl, hb⟩; obtain ⟨hc, hf, hb, hz⟩ := bstep hb (w := w) (by go_grown); try simp only [World.size_alloc, World.size_setCell, World.size_drew] at hc hf hz)
      )
      go_returns
      exact ⟨rfl, hb⟩

namespace QueueMerged
theorem own : ownKnob Try.prog.godebug = none := by kernel_rfl
set_option maxRecDepth 100000 in
theorem lifted (os : Os) (started : os.Started) (H : Type) (enc : TypeId × Value → H) :
    ReturnsInHanded {} Try.checked os 6 .any (Rows.queueMergedSpec.pre6 enc Try.prog Try.f6 Rows.queueMergedRow.domain false) (Rows.queueMergedSpec.post enc Try.prog Try.f6 false true false false) := by
  refine law_lifted (C := Try.checked) own started (by kernel_rfl) Try.func6 (by kernel_rfl) (of_decide_eq_true (by kernel_rfl)) rfl
    (fun ds hd => by have hd' : ds.length = 2 := hd; match ds, hd' with | [d0, d1], _ => rfl) rfl Try.underlying4
    (ChangeSpec.witness6 (enc := enc) (C := Try.checked) false ⟨#[], #[.slice none 0 0, .slice none 0 0], []⟩ 8 (by kernel_rfl) (by kernel_rfl) (by kernel_rfl) (by kernel_rfl)) ?_
  intro W base args ds p hval hA hlt
  rw [Try.params6] at hA hval
  obtain ⟨v0, v1, d0, d1, p0, p1, rfl, rfl, rfl, h0, h1⟩ := trodAll_two hA
  obtain ⟨q0, n0, cap0, z0, rfl, hn0, hz0, hq0⟩ := open_slice_ints Try.underlying22 Try.underlying3 (by kernel_rfl) (hval 0 22 v0 rfl rfl) h0
  obtain ⟨q1, n1, cap1, z1, rfl, hn1, hz1, hq1⟩ := open_slice_ints Try.underlying22 Try.underlying3 (by kernel_rfl) (hval 1 22 v1 rfl rfl) h1
  exact merged_walk _ _ _ _ _ _ _ _ W hz0 hn0 hq0 hz1 hn1 hq1

/-- The statement. -/
theorem holds : Rows.QueueMergedSaid :=
  OpenClaim.holds_of_wide 6 Try.f6 rfl rfl rfl rfl rfl rfl rfl ⟨rfl, rfl, rfl, rfl, rfl⟩ rfl rfl rfl rfl rfl (by kernel_rfl) Try.func6 (by kernel_rfl)
    (of_decide_eq_true (by kernel_rfl)) (by unfold Func.isWrapper; first | (rw [if_pos (by decide +kernel)]; kernel_rfl) | (rw [if_neg (by decide +kernel)]; exact ⟨rfl, rfl⟩))
    (fun os started H enc _ => lifted os started H enc)
#print axioms holds
end QueueMerged
end Go.Proofs.Ythojihikihhbfaa
