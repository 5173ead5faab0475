/- Contract of queue.Sorted (chapter 10). -/
import Derived.Test.YthojihikihhbfaaRef10
import Derived.Maps.AppendAt
namespace Go.Proofs.Ythojihikihhbfaa
set_option linter.unusedSimpArgs false
set_option linter.unusedVariables false
open Go.ChangeShapes Go.WideShapes Go.ChangeAt Go.RowKit Go.Joins

theorem owned_aside {T : Nat → Prop} {W W' : World} {base : Nat} {e : TypeId} {size : Nat} {v : Value} {n : Nat} {xs : List Value} (h : W.ownsRow base e size v n xs) (hA : Aside T W W') (hT : ∀ k, v.ownBlock = some k → ¬ T k) : W'.ownsRow base e size v n xs := by
  refine ⟨h.1, ?_⟩
  rcases h.2 with h0 | ⟨g, cap, cur, rfl, hb, hh, r⟩
  · exact .inl h0
  · exact .inr ⟨g, cap, cur, rfl, hb, (hA.block g (h.lt g rfl).2 (hT g rfl)).trans hh, r⟩
theorem Qu.grown {base b : Nat} {R : List Int} {v : Value} {W W' : World} (q : Qu base b R v W) {row : Option Nat} (hg : W.grownBy W' row) (h1 : row ≠ some b) (h2 : ∀ k, v.ownBlock = some k → row ≠ some k) : Qu base b R v W' := by
  have hbk : W'.heap[b]? = W.heap[b]? := hg.block b q.row.lt fun e => h1 e.symm
  refine ⟨⟨?_, (World.cell?_of_block (w := W) (a := ⟨b, 0, none⟩) hbk).trans q.row.cell, (World.frozen?_of_block (w := W) (a := ⟨b, 0, none⟩) hbk).trans q.row.frz, Nat.lt_of_lt_of_le q.row.lt hg.size, q.row.ge, q.row.ne, q.row.len⟩, q.heap⟩
  have h := q.row.own
  refine ⟨h.1, ?_⟩
  rcases h.2 with h0 | ⟨g, cap, cur, rfl, hb, hh, r⟩
  · exact .inl h0
  · exact .inr ⟨g, cap, cur, rfl, hb, (hg.block g (h.lt g rfl).2 fun e => h2 g rfl e.symm).trans hh, r⟩
/-- The next one, of a rising list. -/
theorem pop_next {R R' S : List Int} {k : Nat} (h : HeapL R) (hs : Rise S) (hp : R.Perm (S.drop k)) (hk : k < S.length) (hr : (atL R 0 :: R').Perm R) : atL R 0 = atL S k ∧ R'.Perm (S.drop (k + 1)) := by
  have e : S.drop k = atL S k :: S.drop (k + 1) := by rw [at_get hk]; exact List.drop_eq_getElem_cons hk
  rw [e] at hp
  have hd : Rise (atL S k :: S.drop (k + 1)) := by rw [← e]; exact List.Pairwise.drop hs
  have h0 := heap_head h hp hd
  refine ⟨h0, ?_⟩
  have := hr.trans hp
  rw [h0] at this
  exact (List.perm_cons _).1 this
/-- The next one taken out, of a queue that holds what a rising list holds from k on. -/
theorem qpop_next {base b : Nat} {R S : List Int} {v : Value} (k : Nat) (w : World) (q : Qu base b R v w) (hs : Rise S) (hp : R.Perm (S.drop k)) (hk : k < S.length) :
    Calls Try.prog 10 #[.pointer (some ⟨b, 0, none⟩)] w fun e w' => e = .returned (.tuple #[.int .i64 (atL S k), .bool true]) ∧ ∃ R' v', Qu base b R' v' w' ∧ R'.Perm (S.drop (k + 1)) ∧ v'.ownBlock = v.ownBlock ∧ Aside (QT b v) w w' := by
  have hl := hp.length_eq
  rw [List.length_drop] at hl
  refine Calls.mono (qpopQ_some (R.length - 1) w q (by omega)) ?_
  rintro e w' ⟨rfl, R', v', q', hr, hv, hA⟩
  obtain ⟨e1, e2⟩ := pop_next q.heap hs hp hk hr
  rw [e1]
  exact ⟨rfl, R', v', q', e2, hv, hA⟩
theorem qpop_end {base b : Nat} {R S : List Int} {v : Value} (w : World) (q : Qu base b R v w) (hp : R.Perm (S.drop S.length)) :
    Calls Try.prog 10 #[.pointer (some ⟨b, 0, none⟩)] w fun e w' => e = .returned (.tuple #[.int .i64 0, .bool false]) ∧ Below w.heap.size w w' := by
  rw [List.drop_length] at hp
  obtain rfl : R = [] := List.perm_nil.1 hp
  exact qpopQ_none w q
/-- Where Sorted stands: k numbers are written, the next one is taken out, or there is none. -/
structure SortAt (base b : Nat) (S : List Int) (k : Nat) (ok : Bool) (y : Int) (R : List Int) (v ov : Value) (W : World) : Prop where
  qu : Qu base b R v W
  out : W.ownsRow base 3 1 ov (S.take k).length ((S.take k).map (Value.int .i64))
  neb : ov.ownBlock ≠ some b
  nev : ∀ g, v.ownBlock = some g → ov.ownBlock ≠ some g
  go : (ok = true ∧ k < S.length ∧ y = atL S k ∧ R.Perm (S.drop (k + 1))) ∨ (ok = false ∧ k = S.length)
theorem take_next {S : List Int} {k : Nat} (hk : k < S.length) : S.take (k + 1) = S.take k ++ [atL S k] := by
  rw [at_get hk, List.take_append_getElem]
theorem Rw.lower {base base' B o : Nat} {R : List Int} {v : Value} {W : World} (r : Rw base B o R v W) (h : base' ≤ base) : Rw base' B o R v W := ⟨owned_base r.own h, r.cell, r.frz, r.lt, Nat.le_trans h r.ge, r.ne, r.len⟩
set_option maxHeartbeats 8000000 in
theorem qsorted_any (p : Option Addr) (n c : Nat) (z : Nat → Int) (w : World) (hin : Ints .i64 w p n z) (hq : p = none → n = 0 ∧ c = 0) (hn : n ≤ 1000000) :
    Calls Try.prog 16 #[.slice p n c] w fun e w' => ∃ v, e = .returned v ∧ w'.ownsRow w.heap.size 3 1 v (sortL (listZ n z)).length ((sortL (listZ n z)).map (Value.int .i64)) ∧ Below w.heap.size w w' := by
  have hN := fun (W : World) (hW : Below w.heap.size w W) => qnew_any p n c z W (hin.below hW) hq hn
  obtain ⟨i0, hi, hz0, hz1, hz2⟩ := info_parts int_infoQ
  have hsl : (sortL (listZ n z)).length = n := by rw [sort_len, listZ_len]
  have hsr := sort_rise (listZ n z)
  have hsp := sort_perm (listZ n z)
  generalize sortL (listZ n z) = S at *
  have hmk : ∀ W : World, (Instr.makeSlice 22 (.int .i64 0) (.int .i64 (n : Int))).run Try.prog W = .ok (.slice (some ⟨W.heap.size, 0, none⟩) 0 n) (W.alloc (.cells (madeCells #[.int .i64 0] n) 3)) := fun W => by
    have h := run_make (P := Try.prog) W 22 3 i0 (.int .i64 0) Try.underlying22 hi hz0 .i64 .i64 0 n (Int.le_refl _) (by omega) (by rw [hz2]; omega) (by omega)
    rw [hz1, Int.toNat_natCast, Nat.mul_one] at h
    exact h
  go_enter Try.func16, Try.ntmps16
  go_upto_region 1 with fail
  go_region_with (first
    | (go_at_call 8; refine Calls.mono (hN _ (by go_grown)) ?_; rintro e w1 ⟨b, v, R, rfl, rw1, hp, hh, hb⟩)
  )
  case' refine_3.refine_3.refine_3.refine_1.refine_3.refine_1.refine_3 =>
    obtain ⟨w4, hw4⟩ : ∃ W, W = w1.alloc (.cells (madeCells #[.int .i64 0] n) 3) := ⟨_, rfl⟩
    obtain ⟨G, hG⟩ : ∃ G, G = w1.heap.size := ⟨_, rfl⟩
    have hB4 : Below w1.heap.size w1 w4 := by rw [hw4]; exact (Below.refl _ _).alloc (Nat.le_refl _) _
    have hbd : Below w.heap.size w w1 := bjoin hb (Below.refl _ _).drew
    have qu : Qu w.heap.size b R v w4 := (⟨rw1, hh⟩ : Qu w.heap.size b R v w1).below hB4
    have hown : w4.ownsRow w.heap.size 3 1 (.slice (some ⟨G, 0, none⟩) 0 n) 0 [] := by
      rw [hw4, hG]
      exact World.ownsRow_made w1 _ n hbd.size (by simp only [maxLen]; omega) (by rw [size_madeCells, Nat.mul_one])
    have hne : ∀ g, v.ownBlock = some g → (Value.slice (some ⟨G, 0, none⟩) 0 n).ownBlock ≠ some g := fun g hg e => by
      have := (rw1.own.lt g hg).2
      simp [Value.ownBlock] at e
      omega
    have hneb : (Value.slice (some ⟨G, 0, none⟩) 0 n).ownBlock ≠ some b := fun e => by
      have := rw1.lt
      simp [Value.ownBlock] at e
      omega
    have hbW := bjoin hB4 hbd
    rw [← hw4, ← hG]
    clear hw4 hG hB4 hbd hb rw1
  case' refine_3.refine_3.refine_3.refine_2.refine_1.refine_1.refine_3.refine_3 =>
    obtain ⟨w0, hw0⟩ : ∃ W, W = w.alloc (.cells (madeCells #[.int .i64 0] n) 3) := ⟨_, rfl⟩
    obtain ⟨G, hG⟩ : ∃ G, G = w.heap.size := ⟨_, rfl⟩
    rw [← hw0] at rw1 hb
    have hb0 : Below w.heap.size w w0 := by rw [hw0]; exact (Below.refl _ _).alloc (Nat.le_refl _) _
    have hb' : Below w0.heap.size w0 w1 := bjoin hb (Below.refl _ _).drew
    have rw' : Rw w0.heap.size b 0 R v w1 := rw1
    have h0 : w0.ownsRow w.heap.size 3 1 (.slice (some ⟨G, 0, none⟩) 0 n) 0 [] := by
      rw [hw0, hG]
      exact World.ownsRow_made w _ n (Nat.le_refl _) (by simp only [maxLen]; omega) (by rw [size_madeCells, Nat.mul_one])
    have hl0 : G < w0.heap.size := (h0.lt _ rfl).2
    obtain ⟨w4, hw4⟩ : ∃ W, W = w1 := ⟨_, rfl⟩
    rw [← hw4] at rw' hb' ⊢
    have qu : Qu w.heap.size b R v w4 := ⟨rw'.lower hb0.size, hh⟩
    have hown : w4.ownsRow w.heap.size 3 1 (.slice (some ⟨G, 0, none⟩) 0 n) 0 [] := owned_below h0 hb'
    have hne : ∀ g, v.ownBlock = some g → (Value.slice (some ⟨G, 0, none⟩) 0 n).ownBlock ≠ some g := fun g hg e => by
      have := (rw'.own.lt g hg).1
      simp [Value.ownBlock] at e
      omega
    have hneb : (Value.slice (some ⟨G, 0, none⟩) 0 n).ownBlock ≠ some b := fun e => by
      have := rw'.ge
      simp [Value.ownBlock] at e
      omega
    have hbW := bjoin hb' hb0
    rw [← hG]
    clear hw4 hG hb0 hb' hb rw1 rw' h0 hl0 hw0
  all_goals
    have hp0 : R.Perm (S.drop 0) := hp.trans hsp.symm
    clear hN hmk hp hsp hh
    have hPop : Calls Try.prog 10 #[.pointer (some ⟨b, 0, none⟩)] w4 fun e w' => ∃ y ok R' v', e = .returned (.tuple #[.int .i64 y, .bool ok]) ∧ SortAt w.heap.size b S 0 ok y R' v' (.slice (some ⟨G, 0, none⟩) 0 n) w' ∧ Below w.heap.size w w' := by
      by_cases hn0 : 0 < S.length
      · refine Calls.mono (qpop_next 0 w4 qu hsr hp0 hn0) ?_
        rintro e w' ⟨rfl, R', v', q', hp', hv', hA⟩
        refine ⟨_, _, R', v', rfl, ⟨q', owned_aside hown hA fun k hk ht => ?_, hneb, fun g hg => hne g (hv' ▸ hg), .inl ⟨rfl, hn0, rfl, hp'⟩⟩, hbW.trans (qu.stays hA)⟩
        rcases ht with rfl | ht
        · exact hneb hk
        · exact hne k ht hk
      · have hS0 : S = [] := List.eq_nil_of_length_eq_zero (by omega)
        subst hS0
        refine Calls.mono (qpop_end (S := []) w4 qu hp0) ?_
        rintro e w' ⟨rfl, hb⟩
        exact ⟨_, _, R, v, rfl, ⟨qu.below hb, owned_below hown hb, hneb, hne, .inr ⟨rfl, rfl⟩⟩, bjoin hb hbW⟩
    clear qu hown hneb hne hp0 hbW
    go_upto_region 3 with (first
      | (go_at_call 10; refine Calls.mono hPop ?_; rintro e w5 ⟨y, ok, R', v', rfl, hs, hbW⟩)
    )
    clear hPop
    go_loopg [4, 5, 6] n (fun g ov nv kv wr => ∃ (k : Nat) (ok : Bool) (y : Int) (R' : List Int) (v' : Value), g = n - k ∧ nv = .int .i64 y ∧ kv = .bool ok ∧ SortAt w.heap.size b S k ok y R' v' ov wr ∧ Below w.heap.size w wr)
    case atStart => exact ⟨0, ok, y, R', v', by omega, rfl, rfl, hs, hbW⟩
    case round =>
      clear hs hbW
      obtain ⟨k, ok, y, R', v', rfl, rfl, rfl, hs, hbW⟩ := hrel
      rcases hs.go with ⟨rfl, hk, hy, hp⟩ | ⟨rfl, hk⟩
      · have hsz := hbW.size
        have hown := hs.out
        have hkl : (S.take k).length ≤ 1000000 := by simp; omega
        have hy' : Hid (y = atL S k) := hy
        clear hy
        go_upto_region 4 with (first
          | (at_builtin; (refine wpList_append_own_at _ rfl (.tmp 23) (.tmp 25) 22 rfl w.heap.size 3 i0 (.int .i64 0) 1 8 Try.underlying22 hi hz0 hz1 hz2 rfl (by decide) _ _ _ rfl (hown.alloc _) ⟨wr.heap.size, 0, none⟩ 1 1 [.int .i64 y] rfl rfl (one_new1 _ _ _) (by simp [Value.oneCell']) (by simp only [maxLen]; omega) (by omega) (by simp; omega) ?_); intro ov2 w6 hown' hgrow _ hat)
        )
        have hst : Below wr.heap.size wr (wr.alloc (.cells #[.int .i64 y] 3)) := (Below.refl _ _).alloc (Nat.le_refl _) _
        have qu6 : Qu w.heap.size b R' v' w6 := (hs.qu.below hst).grown hgrow hs.neb hs.nev
        have hown2 : w6.ownsRow w.heap.size 3 1 ov2 (S.take (k + 1)).length ((S.take (k + 1)).map (Value.int .i64)) := by
          rw [take_next hk, ← hy'.out]
          simpa using hown'
        have hb6 : Below w.heap.size w w6 := (hbW.alloc hsz (.cells #[.int .i64 y] 3)).grown hgrow (by simp; omega) (fun k hk => (hown.lt k hk).1)
        have hqb := hs.qu.row.lt
        have hqv : ∀ g, v'.ownBlock = some g → g < wr.heap.size := fun g hg => (hs.qu.row.own.lt g hg).2
        have hneb2 : ov2.ownBlock ≠ some b := fun e => by
          rcases hat with h | h
          · exact hs.neb (h.symm.trans e)
          · rw [h] at e
            simp at e
            omega
        have hnev2 : ∀ g, v'.ownBlock = some g → ov2.ownBlock ≠ some g := fun g hg e => by
          rcases hat with h | h
          · exact hs.nev g hg (h.symm.trans e)
          · rw [h] at e
            have := hqv g hg
            simp at e
            omega
        clear hown hown' hgrow hat hs hst hbW hsz hqb hqv
        have hPop : Calls Try.prog 10 #[.pointer (some ⟨b, 0, none⟩)] w6 fun e w' => ∃ y ok R' v', e = .returned (.tuple #[.int .i64 y, .bool ok]) ∧ SortAt w.heap.size b S (k + 1) ok y R' v' ov2 w' ∧ Below w.heap.size w w' := by
          by_cases hn0 : k + 1 < S.length
          · refine Calls.mono (qpop_next (k + 1) w6 qu6 hsr hp hn0) ?_
            rintro e w' ⟨rfl, R2, v2, q', hp', hv', hA⟩
            refine ⟨_, _, R2, v2, rfl, ⟨q', owned_aside hown2 hA fun k hk ht => ?_, hneb2, fun g hg => hnev2 g (hv' ▸ hg), .inl ⟨rfl, hn0, rfl, hp'⟩⟩, hb6.trans (qu6.stays hA)⟩
            rcases ht with rfl | ht
            · exact hneb2 hk
            · exact hnev2 k ht hk
          · have hkl : k + 1 = S.length := by omega
            rw [hkl] at hp hown2 ⊢
            refine Calls.mono (qpop_end w6 qu6 hp) ?_
            rintro e w' ⟨rfl, hb⟩
            exact ⟨_, _, R', v', rfl, ⟨qu6.below hb, owned_below hown2 hb, hneb2, hnev2, .inr ⟨rfl, rfl⟩⟩, bjoin hb hb6⟩
        clear qu6 hown2 hneb2 hnev2 hp hy'
        go_wp2_with (first
          | (go_at_call 10; refine Calls.mono hPop ?_; rintro e w5 ⟨y2, ok2, R2, v2, rfl, hs, hbW⟩)
        )
        go_roundg (n - (k + 1))
        case measure => omega
        case rel => exact ⟨k + 1, ok2, y2, R2, v2, rfl, rfl, rfl, hs, hbW⟩
      · have hown := hs.out
        rw [hk, List.take_length] at hown
        obtain ⟨pv, cv, rfl, -⟩ := owned_new hown
        go_wp2
        go_returns
        exact ⟨_, rfl, hown, hbW⟩
end Go.Proofs.Ythojihikihhbfaa
