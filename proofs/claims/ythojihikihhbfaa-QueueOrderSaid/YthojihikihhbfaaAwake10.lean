/- The awake test of layer 10's laws; rows of numbers held against one another. -/
import Derived.Test.YthojihikihhbfaaQueueS
import Derived.Deep.Cut
namespace Go.Proofs.Ythojihikihhbfaa
set_option linter.unusedSimpArgs false
set_option linter.unusedVariables false
open Go.ChangeShapes Go.WideShapes Go.ChangeAt Go.RowKit Go.Joins

def sameQ (n : Nat) (z : Nat → Int) (m : Nat) (y : Nat → Int) : Bool := decide (n = m ∧ ∀ i, i < n → z i = y i)
theorem sameQ_lists (A B : List Int) : sameQ A.length (atL A) B.length (atL B) = decide (A = B) := by
  unfold sameQ
  by_cases e : A = B
  · subst e; simp
  · rw [decide_eq_false e, decide_eq_false]
    rintro ⟨h1, h2⟩
    refine e (List.ext_getElem? fun i => ?_)
    by_cases hi : i < A.length
    · have := h2 i hi
      rw [at_get hi, at_get (by omega)] at this
      rw [List.getElem?_eq_getElem hi, List.getElem?_eq_getElem (by omega), this]
    · rw [List.getElem?_eq_none (by omega), List.getElem?_eq_none (by omega)]
set_option maxHeartbeats 1000000 in
theorem rintsQ_any (p q : Option Addr) (n cap m cap' : Nat) (z y : Nat → Int) (w : World) (hz : Ints .i64 w p n z) (hy : Ints .i64 w q m y) (hn : n ≤ maxLen) (hm : m ≤ maxLen) :
    Calls Try.prog 15 #[.slice p n cap, .slice q m cap'] w fun e w' => e = .returned (.bool (sameQ n z m y)) ∧ Below w.heap.size w w' := by
  simp only [maxLen] at hn hm
  by_cases hnm : n = m
  · subst hnm
    go_enter Try.func15, Try.ntmps15
    go_wp2
    go_loopg [5] n (fun g jv wr => ∃ j : Int, 0 ≤ j ∧ j ≤ n ∧ g = (n - j).toNat ∧ jv = .int .i64 j ∧ (∀ t : Nat, t < j → z t = y t) ∧ Below w.heap.size w wr)
    case atStart => exact ⟨0, by omega, by omega, by omega, rfl, fun t ht => by omega, Below.refl _ _⟩
    case round =>
      obtain ⟨j, jl, jh, rfl, rfl, hall, hbw⟩ := hrel
      by_cases hj : j < n
      · obtain ⟨⟨b, off, rfl, hlt, hcell⟩, hwf⟩ := (hz.below hbw) j.toNat (by omega)
        obtain ⟨⟨b', off', rfl, hlt', hcell'⟩, hwf'⟩ := (hy.below hbw) j.toNat (by omega)
        by_cases e : z j.toNat = y j.toNat
        · go_wp2
          go_region
          all_goals
            go_wp2
            go_roundg ((n : Int) - (j + 1)).toNat
            case measure => omega
            case rel => exact ⟨j + 1, by omega, by omega, rfl, rfl, fun t ht => by
              by_cases ht' : (t : Int) < j
              · exact hall t ht'
              · obtain rfl : t = j.toNat := by omega
                exact e, by go_grown⟩
        · have e' : sameQ n z n y = false := by
            simp only [sameQ, decide_eq_false_iff_not]
            exact fun h => e (h.2 _ (by omega))
          go_wp2
          go_region
          all_goals
            go_wp2
            go_returns
            exact ⟨ret_bool (by simp [e']), by go_grown⟩
      · have e' : sameQ n z n y = true := by
          simp only [sameQ, decide_eq_true_eq]
          exact ⟨trivial, fun t ht => hall t (by omega)⟩
        go_wp2
        go_returns
        exact ⟨ret_bool (by simp [e']), by go_grown⟩
  · have e' : sameQ n z m y = false := by simp [sameQ, hnm]
    have hnm' : ¬ (n : Int) = m := by omega
    go_enter Try.func15, Try.ntmps15
    go_wp2
    go_returns
    exact ⟨ret_bool (by simp [e']), by go_grown⟩
/-- Three numbers written out. -/
theorem lit3 (W : World) (a b c : Int) (t : TypeId) (hw : ∀ x ∈ [a, b, c], (Lit.int .i64 x).wf = true) : Ints .i64 (W.alloc (.cells #[.int .i64 a, .int .i64 b, .int .i64 c] t)) (some ⟨W.heap.size, 0, none⟩) 3 (atL [a, b, c]) := fun i hi => by
  have hg := heap_alloc_new W (.cells #[.int .i64 a, .int .i64 b, .int .i64 c] t)
  refine ⟨⟨_, 0, rfl, by simp, ?_⟩, by rw [at_get (R := [a, b, c]) hi]; exact hw _ (List.getElem_mem hi)⟩
  rw [cell_of_row _ _ _ _ _ _ hg]
  match i, hi with
  | 0, _ => rfl
  | 1, _ => rfl
  | 2, _ => rfl
theorem qleast_next {base b : Nat} {R S : List Int} {v : Value} (k : Nat) (w : World) (q : Qu base b R v w) (hs : Rise S) (hp : R.Perm (S.drop k)) (hk : k < S.length) :
    Calls Try.prog 13 #[.pointer (some ⟨b, 0, none⟩)] w fun e w' => e = .returned (.tuple #[.int .i64 (atL S k), .bool true]) ∧ Below w.heap.size w w' := by
  have hl := hp.length_eq
  rw [List.length_drop] at hl
  have e : S.drop k = atL S k :: S.drop (k + 1) := by rw [at_get hk]; exact List.drop_eq_getElem_cons hk
  have h0 := heap_head q.heap (by rw [e] at hp; exact hp) (by rw [← e]; exact List.Pairwise.drop hs)
  have := qleast_some (R.length - 1) w q (by omega)
  rw [h0] at this
  exact this
set_option maxHeartbeats 8000000 in
theorem awake10_any (w : World) :
    Calls Try.prog 7 #[] w fun e w' => e = .returned (.bool true) ∧ Below w.heap.size w w' := by
  go_enter Try.func7, Try.ntmps7
  have hN := qnew_any (some ⟨w.heap.size, 0, none⟩) 3 3 (atL [3, 1, 2]) (w.alloc (.cells #[.int .i64 3, .int .i64 1, .int .i64 2] 3)) (lit3 w 3 1 2 _ (by decide)) (by simp) (by decide)
  go_upto_region 2 with (first
    | (go_at_call 8; refine Calls.mono hN ?_; rintro e w1 ⟨b, v, R, rfl, r1, hp, hh, hb⟩)
  )
  have hb1 : Below w.heap.size w w1 := bjoin hb ((Below.refl _ _).alloc (Nat.le_refl _) _)
  have q1 : Qu (w.alloc (.cells #[.int .i64 3, .int .i64 1, .int .i64 2] 3)).heap.size b R v w1 := ⟨r1, hh⟩
  have hp1 : R.Perm ([1, 2, 3].drop 0) := hp.trans (by rw [show listZ 3 (atL [3, 1, 2]) = [3, 1, 2] from rfl]; decide)
  have hl1 : R.length = 3 := hp1.length_eq
  have hbase : w.heap.size ≤ (w.alloc (.cells #[.int .i64 3, .int .i64 1, .int .i64 2] 3)).heap.size := by simp
  clear hN hp hh r1 hb
  generalize (w.alloc (.cells #[.int .i64 3, .int .i64 1, .int .i64 2] 3)).heap.size = base at *
  have hL := qlenQ_any w1 q1
  rw [hl1] at hL
  go_upto_region 4 with (first
    | (go_at_call 14; refine Calls.mono hL ?_; rintro e w2 ⟨rfl, hb2⟩)
  )
  have q2 := q1.below hb2
  have hb2W := bjoin hb2 hb1
  have hP := qpop_next (S := [1, 2, 3]) 0 w2 q2 (by unfold Rise; decide) hp1 (by decide)
  clear hL hb2 hb1 q1
  go_upto_region 5 with (first
    | (go_at_call 10; refine Calls.mono hP ?_; rintro e w3 ⟨rfl, R3, v3, q3, hp3, hv3, hA3⟩)
  )
  have hb3W : Below w.heap.size w w3 := hb2W.trans ((q2.stays hA3).mono hbase)
  have hPu := qpushQ_any 0 w3 q3 (by have := hp3.length_eq; simp at this; omega)
  clear hP q2 hb2W hA3 hv3
  go_upto_region 6 with (first
    | (go_at_call 11; refine Calls.mono hPu ?_; rintro e w4 ⟨rfl, R4, v4, q4, hp4, hv4, hA4⟩)
  )
  have hb4W : Below w.heap.size w w4 := hb3W.trans ((q3.stays hA4).mono hbase)
  have hp4' : R4.Perm ([0, 2, 3].drop 0) := hp4.trans (hp3.cons 0)
  have hLe := qleast_next (S := [0, 2, 3]) 0 w4 q4 (by unfold Rise; decide) hp4' (by decide)
  clear hPu q3 hb3W hA4 hv4 hp4 hp3
  go_upto_region 7 with (first
    | (go_at_call 13; refine Calls.mono hLe ?_; rintro e w5 ⟨rfl, hb5⟩)
  )
  have q5 := q4.below hb5
  have hb5W := bjoin hb5 hb4W
  have hP := qpop_next (S := [0, 2, 3]) 0 w5 q5 (by unfold Rise; decide) hp4' (by decide)
  clear hLe q4 hb4W hb5
  go_upto_region 8 with (first
    | (go_at_call 10; refine Calls.mono hP ?_; rintro e w6 ⟨rfl, R6, v6, q6, hp6, hv6, hA6⟩)
  )
  have hb6W : Below w.heap.size w w6 := hb5W.trans ((q5.stays hA6).mono hbase)
  have hl6 : R6.length = 2 := hp6.length_eq
  have hN := qnew_any none 0 0 (fun _ => 0) w6 (fun i hi => by omega) (fun _ => ⟨rfl, rfl⟩) (by decide)
  clear hP q5 hb5W hA6 hv6 hp6
  go_upto_region 11 with (first
    | (go_at_call 8; refine Calls.mono hN ?_; rintro e w7 ⟨b2, v7, R7, rfl, r7, hp7, hh7, hb7⟩)
  )
  have q6' := q6.below hb7
  have hb7W := bjoin hb7 hb6W
  have q7 : Qu w6.heap.size b2 R7 v7 w7 := ⟨r7, hh7⟩
  have hE := qpop_end (S := []) w7 q7 (by simpa [listZ] using hp7)
  clear hN q6 hb6W r7 hh7 hp7 hb7
  go_upto_region 12 with (first
    | (go_at_call 10; refine Calls.mono hE ?_; rintro e w8 ⟨rfl, hb8⟩)
  )
  have q8 := q6'.below hb8
  have hb8W := bjoin hb8 hb7W
  have hL := qlenQ_any w8 q8
  rw [hl6] at hL
  have hSo : ∀ (W : World) (t : TypeId), Calls Try.prog 16 #[.slice (some ⟨W.heap.size, 0, none⟩) 3 3] (W.alloc (.cells #[.int .i64 2, .int .i64 1, .int .i64 2] t)) fun e w' => ∃ p cap, e = .returned (.slice p 3 cap) ∧ Ints .i64 w' p 3 (atL [1, 2, 2]) ∧ Below (W.alloc (.cells #[.int .i64 2, .int .i64 1, .int .i64 2] t)).heap.size (W.alloc (.cells #[.int .i64 2, .int .i64 1, .int .i64 2] t)) w' := fun W t => by
    refine Calls.mono (qsorted_any _ 3 3 (atL [2, 1, 2]) _ (lit3 W 2 1 2 t (by decide)) (by simp) (by decide)) ?_
    rintro e w' ⟨v, rfl, hown, hb⟩
    obtain ⟨p, cap, rfl, hI, -, -⟩ := row_ints hown (by rw [show sortL (listZ 3 (atL [2, 1, 2])) = [1, 2, 2] from rfl]; decide)
    exact ⟨p, cap, rfl, hI, hb⟩
  clear hE q6' hb7W hb8 q7 q8
  go_wp2_with (first
    | (go_at_call 14; refine Calls.mono hL ?_; rintro e w9 ⟨rfl, hb9⟩)
    | (go_at_call 16; refine Calls.mono (hSo _ _) ?_; rintro e w10 ⟨ps, cs, rfl, hIs, hb10⟩)
    | (go_at_call 15; refine Calls.mono (rintsQ_any _ _ 3 _ 3 3 (atL [1, 2, 2]) (atL [1, 2, 2]) _ (hIs.below ((Below.refl _ _).alloc (Nat.le_refl _) _)) (lit3 _ 1 2 2 _ (by decide)) (by decide) (by decide)) ?_; rintro e w11 ⟨rfl, hb11⟩)
  )
  go_returns
  have h9 := bjoin hb9 hb8W
  have h10 := bjoin hb10 (h9.alloc h9.size _)
  exact ⟨ret_bool (by simp [sameQ]), bjoin hb11 (h10.alloc h10.size _)⟩
end Go.Proofs.Ythojihikihhbfaa
