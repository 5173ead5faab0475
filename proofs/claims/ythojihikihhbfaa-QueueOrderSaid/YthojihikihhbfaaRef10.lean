/- Contracts of the reference's Put and Sorted (chapter 10). -/
import Derived.Test.YthojihikihhbfaaQueueQ
import Derived.Test.YthojihikihhbfaaSortFn
namespace Go.Proofs.Ythojihikihhbfaa
set_option linter.unusedSimpArgs false
set_option linter.unusedVariables false
open Go.ChangeShapes Go.WideShapes Go.ChangeAt Go.RowKit Go.Joins

theorem listZ_snoc (j : Nat) (z : Nat → Int) : listZ (j + 1) z = listZ j z ++ [z j] := by simp [listZ, List.range_succ]
/-- What Put has written. -/
def putQ (z : Nat → Int) (x : Int) (d : Bool) (j : Nat) : List Int := if d = true then putL (listZ j z) x else listZ j z
theorem putQ_len (z : Nat → Int) (x : Int) (d : Bool) (j : Nat) : (putQ z x d j).length ≤ j + 1 := by
  unfold putQ
  split
  · rw [put_len, listZ_len]; exact Nat.le_refl _
  · rw [listZ_len]; omega
def PutIs (z : Nat → Int) (x : Int) (d : Bool) (j : Nat) : Prop := if d = true then (∃ y ∈ listZ j z, x < y) else ∀ y ∈ listZ j z, ¬ x < y
theorem PutIs.next {z : Nat → Int} {x : Int} {j : Nat} (h : PutIs z x true j) : PutIs z x true (j + 1) ∧ putQ z x true (j + 1) = putQ z x true j ++ [z j] := by
  unfold PutIs at h ⊢
  rw [if_pos rfl] at h ⊢
  refine ⟨?_, ?_⟩
  · obtain ⟨y, hy, hl⟩ := h
    exact ⟨y, by rw [listZ_snoc]; exact List.mem_append_left _ hy, hl⟩
  · unfold putQ
    rw [if_pos rfl, if_pos rfl, listZ_snoc]
    exact put_done h
theorem PutIs.stop {z : Nat → Int} {x : Int} {j : Nat} (h : PutIs z x false j) (hl : x < z j) : PutIs z x true (j + 1) ∧ putQ z x true (j + 1) = putQ z x false j ++ [x] ++ [z j] := by
  unfold PutIs at h ⊢
  rw [if_neg (by decide)] at h
  rw [if_pos rfl]
  refine ⟨⟨z j, by rw [listZ_snoc]; simp, hl⟩, ?_⟩
  unfold putQ
  rw [if_pos rfl, if_neg (by decide), listZ_snoc]
  exact put_stop hl h
theorem PutIs.pass {z : Nat → Int} {x : Int} {j : Nat} (h : PutIs z x false j) (hl : ¬ x < z j) : PutIs z x false (j + 1) ∧ putQ z x false (j + 1) = putQ z x false j ++ [z j] := by
  unfold PutIs at h ⊢
  rw [if_neg (by decide)] at h ⊢
  refine ⟨fun y hy => ?_, ?_⟩
  · rw [listZ_snoc] at hy
    rcases List.mem_append.1 hy with hy | hy
    · exact h y hy
    · rw [List.mem_singleton.1 hy]; exact hl
  · unfold putQ
    rw [if_neg (by decide), if_neg (by decide), listZ_snoc]
set_option maxHeartbeats 4000000 in
theorem rput_any (p : Option Addr) (n c : Nat) (z : Nat → Int) (x : Int) (w : World) (hin : Ints .i64 w p n z) (hn : n ≤ 1000000) :
    Calls Try.prog 12 #[.slice p n c, .int .i64 x] w fun e w' => ∃ v, e = .returned v ∧ w'.ownsRow w.heap.size 3 1 v (putL (listZ n z) x).length ((putL (listZ n z) x).map (Value.int .i64)) ∧ Below w.heap.size w w' := by
  obtain ⟨i0, hi, hz0, hz1, hz2⟩ := info_parts int_infoQ
  go_enter Try.func12, Try.ntmps12
  go_wp2
  go_loopg [5, 6, 7] n (fun g ov dv iv wr => ∃ (j : Nat) (d : Bool), j ≤ n ∧ g = n - j ∧ iv = .int .i64 j ∧ dv = .bool d ∧ PutIs z x d j ∧ wr.ownsRow w.heap.size 3 1 ov (putQ z x d j).length ((putQ z x d j).map (Value.int .i64)) ∧ Below w.heap.size w wr)
  case atStart => exact ⟨0, false, by omega, by omega, rfl, rfl, by unfold PutIs; simp [listZ], World.ownsRow_nil _ _ _ _, Below.refl _ _⟩
  case round =>
    obtain ⟨j, d, jh, rfl, rfl, rfl, hd, hown, hbw⟩ := hrel
    have hsz : w.heap.size ≤ wr.heap.size := hbw.size
    have hql := putQ_len z x d j
    by_cases hj : j < n
    · obtain ⟨⟨b, off, rfl, hlt, v0⟩, -⟩ := (hin.below hbw) j hj
      cases d with
      | true =>
        obtain ⟨h1, h2⟩ := hd.next
        clear hd
        generalize putQ z x true j = L1 at *
        generalize z j = y at *
        go_wp2_with (first
          | (at_builtin; refine wpList_append_own _ rfl (.tmp 28) (.tmp 33) 22 rfl w.heap.size 3 i0 (.int .i64 0) 1 8 Try.underlying22 hi hz0 hz1 hz2 rfl (by decide) _ _ _ rfl (hown.alloc _) ⟨wr.heap.size, 0, none⟩ 1 1 [.int .i64 y] rfl rfl (one_new1 _ _ _) (by simp [Value.oneCell']) (by simp only [maxLen]; omega) (by omega) (by simp; omega) ?_; intro ov w1 hown' hgrow _)
        )
        have hown2 : w1.ownsRow w.heap.size 3 1 ov (L1 ++ [y]).length ((L1 ++ [y]).map (Value.int .i64)) := by simpa using hown'
        have hb2 := (hbw.alloc hsz (.cells #[.int .i64 y] 3)).grown hgrow (by simp; omega) (fun k hk => (hown.lt k hk).1)
        go_roundg (n - (j + 1))
        case measure => omega
        case rel => exact ⟨j + 1, true, by omega, rfl, by go_num, rfl, h1, by rw [h2]; exact hown2, hb2⟩
      | false =>
        by_cases hl : x < z j
        · obtain ⟨h1, h2⟩ := hd.stop hl
          have dl : decide (x < z j) = true := by simp [hl]
          clear hd hl
          generalize putQ z x false j = L1 at *
          generalize z j = y at *
          go_upto_region 8 with (first
            | (at_builtin; refine wpList_append_own _ rfl (.tmp 24) (.tmp 26) 22 rfl w.heap.size 3 i0 (.int .i64 0) 1 8 Try.underlying22 hi hz0 hz1 hz2 rfl (by decide) _ _ _ rfl (hown.alloc _) ⟨wr.heap.size, 0, none⟩ 1 1 [.int .i64 x] rfl rfl (one_new1 _ _ _) (by simp [Value.oneCell']) (by simp only [maxLen]; omega) (by omega) (by simp; omega) ?_; intro ov w1 hown' hgrow _)
          )
          have hown2 : w1.ownsRow w.heap.size 3 1 ov (L1 ++ [x]).length ((L1 ++ [x]).map (Value.int .i64)) := by simpa using hown'
          have hb2 := (hbw.alloc hsz (.cells #[.int .i64 x] 3)).grown hgrow (by simp; omega) (fun k hk => (hown.lt k hk).1)
          have v1 : w1.cell? ⟨b, off + j, none⟩ = some (.int .i64 y) := by
            obtain ⟨⟨b', off', e, hlt', v'⟩, -⟩ := (hin.below hb2) j hj
            injection e with e
            injection e with e1 e2
            subst e1 e2
            exact v'.trans (by obtain ⟨⟨b2, off2, e2, -, v2⟩, -⟩ := (hin.below hbw) j hj; injection e2 with e2; injection e2 with e3 e4; subst e3 e4; exact v2.symm.trans v0)
          have hlt1 : b < w1.heap.size := Nat.lt_of_lt_of_le hlt (Nat.le_trans (by simp) hgrow.size)
          have hsz2 := hb2.size
          have hq2 : (L1 ++ [x]).length ≤ j + 2 := by simp; omega
          clear hown hown' hgrow v0 hlt hbw
          generalize hL3 : L1 ++ [x] = L3 at *
          clear hL3
          go_wp2_with (first
            | (at_builtin; refine wpList_append_own _ rfl (.tmp 28) (.tmp 33) 22 rfl w.heap.size 3 i0 (.int .i64 0) 1 8 Try.underlying22 hi hz0 hz1 hz2 rfl (by decide) _ _ _ rfl (hown2.alloc _) ⟨w1.heap.size, 0, none⟩ 1 1 [.int .i64 y] rfl rfl (one_new1 _ _ _) (by simp [Value.oneCell']) (by simp only [maxLen]; omega) (by omega) (by simp; omega) ?_; intro ov2 w3 hown' hgrow _)
          )
          have hown3 : w3.ownsRow w.heap.size 3 1 ov2 (L3 ++ [y]).length ((L3 ++ [y]).map (Value.int .i64)) := by simpa using hown'
          have hb3 := (hb2.alloc hsz2 (.cells #[.int .i64 y] 3)).grown hgrow (by simp; omega) (fun k hk => (hown2.lt k hk).1)
          go_roundg (n - (j + 1))
          case measure => omega
          case rel => exact ⟨j + 1, true, by omega, rfl, by go_num, rfl, h1, by rw [h2]; exact hown3, hb3⟩
        · obtain ⟨h1, h2⟩ := hd.pass hl
          have dl : decide (x < z j) = false := by simp [hl]
          clear hd hl
          generalize putQ z x false j = L1 at *
          generalize z j = y at *
          go_wp2_with (first
            | (at_builtin; refine wpList_append_own _ rfl (.tmp 28) (.tmp 33) 22 rfl w.heap.size 3 i0 (.int .i64 0) 1 8 Try.underlying22 hi hz0 hz1 hz2 rfl (by decide) _ _ _ rfl (hown.alloc _) ⟨wr.heap.size, 0, none⟩ 1 1 [.int .i64 y] rfl rfl (one_new1 _ _ _) (by simp [Value.oneCell']) (by simp only [maxLen]; omega) (by omega) (by simp; omega) ?_; intro ov w1 hown' hgrow _)
          )
          have hown2 : w1.ownsRow w.heap.size 3 1 ov (L1 ++ [y]).length ((L1 ++ [y]).map (Value.int .i64)) := by simpa using hown'
          have hb2 := (hbw.alloc hsz (.cells #[.int .i64 y] 3)).grown hgrow (by simp; omega) (fun k hk => (hown.lt k hk).1)
          go_roundg (n - (j + 1))
          case measure => omega
          case rel => exact ⟨j + 1, false, by omega, rfl, by go_num, rfl, h1, by rw [h2]; exact hown2, hb2⟩
    · obtain rfl : j = n := by omega
      unfold PutIs at hd
      cases d with
      | true =>
        unfold putQ at hown
        rw [if_pos rfl] at hown
        clear hd
        go_wp2
        go_returns
        exact ⟨_, rfl, hown, hbw⟩
      | false =>
        rw [if_neg (by decide)] at hd
        have e := put_all hd
        unfold putQ at hown hql
        rw [if_neg (by decide)] at hown hql
        clear hd
        go_wp2_with (first
          | (at_builtin; refine wpList_append_own _ rfl (.tmp 37) (.tmp 39) 22 rfl w.heap.size 3 i0 (.int .i64 0) 1 8 Try.underlying22 hi hz0 hz1 hz2 rfl (by decide) _ _ _ rfl (hown.alloc _) ⟨wr.heap.size, 0, none⟩ 1 1 [.int .i64 x] rfl rfl (one_new1 _ _ _) (by simp [Value.oneCell']) (by simp only [maxLen]; omega) (by omega) (by simp; omega) ?_; intro ov w1 hown' hgrow _)
        )
        have hown2 : w1.ownsRow w.heap.size 3 1 ov (putL (listZ j z) x).length ((putL (listZ j z) x).map (Value.int .i64)) := by rw [e]; simpa using hown'
        have hb2 := (hbw.alloc hsz (.cells #[.int .i64 x] 3)).grown hgrow (by simp; omega) (fun k hk => (hown.lt k hk).1)
        go_returns
        exact ⟨_, rfl, hown2, hb2⟩
theorem vals_atL (L : List Int) : L.map (Value.int .i64) = vals .i64 L.length (atL L) := by
  apply List.ext_getElem?
  intro i
  by_cases h : i < L.length
  · rw [vals_get _ _ h, at_get h]; simp [h]
  · rw [List.getElem?_eq_none (by simp; omega), List.getElem?_eq_none (by rw [vals_length]; omega)]
theorem listZ_atL (L : List Int) : listZ L.length (atL L) = L := by
  apply List.ext_getElem?
  intro i
  by_cases h : i < L.length
  · simp [listZ, h, atL]
  · rw [List.getElem?_eq_none (by rw [listZ_len]; omega), List.getElem?_eq_none (by omega)]
/-- A list's row, read. -/
theorem row_ints {W : World} {base : Nat} {e : TypeId} {L : List Int} {v : Value} (h : W.ownsRow base e 1 v L.length (L.map (Value.int .i64))) (hw : ∀ x ∈ L, (Lit.int .i64 x).wf = true) : ∃ p cap, v = .slice p L.length cap ∧ Ints .i64 W p L.length (atL L) ∧ (p = none → L.length = 0 ∧ cap = 0) ∧ ∀ b off sp, p = some ⟨b, off, sp⟩ → base ≤ b := by
  obtain ⟨p, cap, rfl, hn⟩ := owned_new h
  have h' := h
  rw [vals_atL] at h'
  refine ⟨p, cap, rfl, ints_owned h' fun i hi => ?_, fun e => ?_, hn⟩
  · rw [at_get hi]; exact hw _ (List.getElem_mem hi)
  · subst e
    rcases h.2 with ⟨hv, h0⟩ | ⟨g, cap', cur, hv, -⟩
    · injection hv with _ _ e; exact ⟨h0, e⟩
    · injection hv with e; cases e
theorem listZ_wf {W : World} {p : Option Addr} {n : Nat} {z : Nat → Int} (h : Ints .i64 W p n z) : ∀ j, j ≤ n → ∀ x ∈ listZ j z, (Lit.int .i64 x).wf = true := fun j hj x hx => by
  obtain ⟨i, hi, rfl⟩ := List.mem_map.1 hx
  exact h.wf i (by have := List.mem_range.1 hi; omega)
theorem sort_wf {l : List Int} (h : ∀ x ∈ l, (Lit.int .i64 x).wf = true) : ∀ x ∈ sortL l, (Lit.int .i64 x).wf = true := fun x hx => h x ((sort_perm l).mem_iff.1 hx)
set_option maxHeartbeats 4000000 in
theorem rsorted_any (p : Option Addr) (n c : Nat) (z : Nat → Int) (w : World) (hin : Ints .i64 w p n z) (hn : n ≤ 1000000) :
    Calls Try.prog 9 #[.slice p n c] w fun e w' => ∃ v, e = .returned v ∧ w'.ownsRow w.heap.size 3 1 v (sortL (listZ n z)).length ((sortL (listZ n z)).map (Value.int .i64)) ∧ Below w.heap.size w w' := by
  go_enter Try.func9, Try.ntmps9
  go_wp2
  go_loopg [3, 4] n (fun g ov iv wr => ∃ (j : Nat), j ≤ n ∧ g = n - j ∧ iv = .int .i64 j ∧ wr.ownsRow w.heap.size 3 1 ov (sortL (listZ j z)).length ((sortL (listZ j z)).map (Value.int .i64)) ∧ Below w.heap.size w wr)
  case atStart => exact ⟨0, by omega, by omega, rfl, World.ownsRow_nil _ _ _ _, Below.refl _ _⟩
  case round =>
    obtain ⟨j, jh, rfl, rfl, hown, hbw⟩ := hrel
    by_cases hj : j < n
    · obtain ⟨⟨b, off, rfl, hlt, v0⟩, -⟩ := (hin.below hbw) j hj
      have hsl : (sortL (listZ j z)).length = j := by rw [sort_len, listZ_len]
      obtain ⟨po, co, rfl, hio, -, -⟩ := row_ints hown (sort_wf (listZ_wf hin j jh))
      have hP := rput_any po (sortL (listZ j z)).length co (atL (sortL (listZ j z))) (z j) wr hio (by omega)
      rw [listZ_atL, ← sort_snoc, ← listZ_snoc] at hP
      have hsz : w.heap.size ≤ wr.heap.size := hbw.size
      rw [hsl] at hP ⊢
      clear hown hio hsl
      generalize z j = y at *
      go_wp2_with (first
        | (go_at_call 12; refine Calls.mono hP ?_; rintro e w' ⟨v, rfl, hown, hb⟩)
      )
      go_roundg (n - (j + 1))
      case measure => omega
      case rel => exact ⟨j + 1, by omega, rfl, by go_num, owned_base hown hsz, bjoin hb hbw⟩
    · obtain rfl : j = n := by omega
      obtain ⟨po, co, rfl, -⟩ := owned_new hown
      go_wp2
      go_returns
      exact ⟨_, rfl, hown, hbw⟩
end Go.Proofs.Ythojihikihhbfaa
