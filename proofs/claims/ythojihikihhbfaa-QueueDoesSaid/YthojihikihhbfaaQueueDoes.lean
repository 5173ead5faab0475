/- QueueDoes: whatever is put in and taken out, of a queue of whatever numbers: what comes out, and how many there are. No condition. -/
import Derived.Test.YthojihikihhbfaaRows
import Derived.Test.YthojihikihhbfaaDeed10
namespace Go.Proofs.Ythojihikihhbfaa
set_option linter.unusedSimpArgs false
set_option linter.unusedVariables false
open Go.ChangeShapes Go.WideShapes Go.ChangeAt Go.RowKit Go.Joins

theorem ints_aside {T : Nat → Prop} {k : IntKind} {W W' : World} {p : Option Addr} {n : Nat} {z : Nat → Int} (h : Ints k W p n z) (ha : Aside T W W') (hT : 0 < n → ∀ g, T g → ∀ b off sp, p = some ⟨b, off, sp⟩ → b ≠ g) : Ints k W' p n z := by
  by_cases h0 : 0 < n
  · exact h.aside ha (hT h0)
  · exact fun i hi => by omega
/-- The queue holds the numbers of S; the row beside it is the list T. -/
structure DoesAt (base b : Nat) (S T : List Int) (R : List Int) (v : Value) (po : Option Addr) (co : Nat) (W : World) : Prop where
  qu : Qu base b R v W
  perm : R.Perm S
  ints : Ints .i64 W po T.length (atL T)
  cap : T.length ≤ co ∧ co ≤ maxLen
  nb : 0 < T.length → ∀ bo off sp, po = some ⟨bo, off, sp⟩ → bo ≠ b ∧ v.ownBlock ≠ some bo ∧ bo < W.heap.size
theorem DoesAt.below {base b : Nat} {S T R : List Int} {v : Value} {po : Option Addr} {co : Nat} {W W' : World} (d : DoesAt base b S T R v po co W) (hb : Below W.heap.size W W') : DoesAt base b S T R v po co W' :=
  ⟨d.qu.below hb, d.perm, d.ints.below hb, d.cap, fun h bo off sp e => ⟨(d.nb h bo off sp e).1, (d.nb h bo off sp e).2.1, Nat.lt_of_lt_of_le (d.nb h bo off sp e).2.2 hb.size⟩⟩
theorem DoesAt.turned {base b : Nat} {S S' T R R' : List Int} {v v' : Value} {po : Option Addr} {co : Nat} {W W' : World} (d : DoesAt base b S T R v po co W) (q : Qu base b R' v' W') (hp : R'.Perm S') (hv : v'.ownBlock = v.ownBlock ∨ ∃ g, v'.ownBlock = some g ∧ W.heap.size ≤ g) (hA : Aside (QT b v) W W') : DoesAt base b S' T R' v' po co W' := by
  refine ⟨q, hp, ints_aside d.ints hA (fun h g ht bo off sp e he => ?_), d.cap, fun h bo off sp e => ⟨(d.nb h bo off sp e).1, fun hk => ?_, Nat.lt_of_lt_of_le (d.nb h bo off sp e).2.2 hA.size⟩⟩
  · obtain ⟨h1, h2, -⟩ := d.nb h bo off sp e
    rcases ht with h | h
    · exact h1 (he.trans h)
    · exact h2 (by rw [he]; exact h)
  · obtain ⟨h1, h2, h3⟩ := d.nb h bo off sp e
    rcases hv with hv | ⟨g, hv, hg⟩
    · exact h2 (hv ▸ hk)
    · rw [hv] at hk
      injection hk with hk
      omega
theorem does_pop {base b : Nat} {x : Int} {T R : List Int} {v : Value} {po : Option Addr} {co : Nat} (w : World) (d : DoesAt base b (x :: T) (x :: T) R v po co w) (hr : Rise (x :: T)) :
    Calls Try.prog 10 #[.pointer (some ⟨b, 0, none⟩)] w fun e w' => e = .returned (.tuple #[.int .i64 x, .bool true]) ∧ ∃ R' v', DoesAt base b T (x :: T) R' v' po co w' ∧ Below base w w' := by
  refine Calls.mono (qpop_next (S := x :: T) 0 w d.qu hr d.perm (by simp)) ?_
  rintro e w' ⟨rfl, R', v', q', hp, hv, hA⟩
  exact ⟨rfl, R', v', d.turned q' hp (.inl hv) hA, d.qu.stays hA⟩
theorem does_pop0 {base b : Nat} {R : List Int} {v : Value} {po : Option Addr} {co : Nat} (w : World) (d : DoesAt base b [] [] R v po co w) :
    Calls Try.prog 10 #[.pointer (some ⟨b, 0, none⟩)] w fun e w' => e = .returned (.tuple #[.int .i64 0, .bool false]) ∧ Below w.heap.size w w' := qpop_end (S := []) w d.qu d.perm
theorem does_push {base b : Nat} {x : Int} {T R : List Int} {v : Value} {po : Option Addr} {co : Nat} (w : World) (d : DoesAt base b T T R v po co w) (hl : T.length < 1000000) :
    Calls Try.prog 11 #[.pointer (some ⟨b, 0, none⟩), .int .i64 x] w fun e w' => e = .returned (.tuple #[]) ∧ ∃ R' v', DoesAt base b (x :: T) T R' v' po co w' ∧ Below base w w' := by
  refine Calls.mono (qpushQ_any x w d.qu (by rw [d.perm.length_eq]; exact hl)) ?_
  rintro e w' ⟨rfl, R', v', q', hp, hv, hA⟩
  exact ⟨rfl, R', v', d.turned q' (hp.trans (d.perm.cons x)) hv hA, d.qu.stays hA⟩
theorem does_put {base b : Nat} {x : Int} {T R : List Int} {v : Value} {po : Option Addr} {co : Nat} (w : World) (d : DoesAt base b (x :: T) T R v po co w) (hl : T.length ≤ 1000000) (hw : ∀ y ∈ putL T x, (Lit.int .i64 y).wf = true) :
    Calls Try.prog 12 #[.slice po T.length co, .int .i64 x] w fun e w' => ∃ p' c', e = .returned (.slice p' (putL T x).length c') ∧ DoesAt base b (putL T x) (putL T x) R v p' c' w' ∧ Below w.heap.size w w' := by
  have h := rput_any po T.length co (atL T) x w d.ints hl
  rw [listZ_atL] at h
  refine Calls.mono h ?_
  rintro e w' ⟨u, rfl, hown, hb⟩
  obtain ⟨p', c', rfl, hI, -, hbase⟩ := row_ints hown hw
  have hcap : (putL T x).length ≤ c' ∧ c' ≤ maxLen := by
    rcases hown.2 with ⟨hv, h0⟩ | ⟨g, cap', cur, hv, -, -, h1, h2, -⟩
    · injection hv with _ _ e; rw [h0, e]; exact ⟨Nat.le_refl _, by decide⟩
    · injection hv with _ _ e; subst e; exact ⟨h1, h2⟩
  refine ⟨p', c', rfl, ⟨d.qu.below hb, d.perm.trans (put_perm x T).symm, hI, hcap, fun h0 bo off sp e => ?_⟩, hb⟩
  have h1 := hbase bo off sp e
  have h2 := d.qu.row.lt
  refine ⟨by omega, fun hk => ?_, ?_⟩
  · have := (d.qu.row.own.lt bo hk).2
    omega
  · subst e
    exact (hown.lt bo rfl).2
theorem does_least {base b : Nat} {x : Int} {T R : List Int} {v : Value} {po : Option Addr} {co : Nat} (w : World) (d : DoesAt base b (x :: T) (x :: T) R v po co w) (hr : Rise (x :: T)) :
    Calls Try.prog 13 #[.pointer (some ⟨b, 0, none⟩)] w fun e w' => e = .returned (.tuple #[.int .i64 x, .bool true]) ∧ Below w.heap.size w w' := qleast_next (S := x :: T) 0 w d.qu hr d.perm (by simp)
theorem does_least0 {base b : Nat} {R : List Int} {v : Value} {po : Option Addr} {co : Nat} (w : World) (d : DoesAt base b [] [] R v po co w) :
    Calls Try.prog 13 #[.pointer (some ⟨b, 0, none⟩)] w fun e w' => e = .returned (.tuple #[.int .i64 0, .bool false]) ∧ Below w.heap.size w w' := by
  obtain rfl : R = [] := List.perm_nil.1 d.perm
  exact qleast_none w d.qu
theorem does_len {base b : Nat} {S T R : List Int} {v : Value} {po : Option Addr} {co : Nat} (w : World) (d : DoesAt base b S T R v po co w) :
    Calls Try.prog 14 #[.pointer (some ⟨b, 0, none⟩)] w fun e w' => e = .returned (.int .i64 S.length) ∧ Below w.heap.size w w' := by
  have := qlenQ_any w d.qu
  rw [d.perm.length_eq] at this
  exact this
/-- The row beside the queue, from its second number on. -/
theorem does_tail {base b : Nat} {x : Int} {T R : List Int} {v : Value} {bo off co : Nat} {w : World} (d : DoesAt base b T (x :: T) R v (some ⟨bo, off, none⟩) co w) (hc : ¬ co = 1) : DoesAt base b T T R v (some ⟨bo, off + 1, none⟩) (co - 1) w := by
  have hcap := d.cap
  simp only [List.length_cons] at hcap
  refine ⟨d.qu, d.perm, fun i hi => ?_, by omega, fun h0 bo' off' sp e => ?_⟩
  · obtain ⟨⟨b2, off2, e, hl, hcell⟩, hw⟩ := d.ints (i + 1) (by simp; omega)
    injection e with e
    injection e with e1 e2
    subst e1 e2
    have ea : atL (x :: T) (i + 1) = atL T i := by simp [atL]
    rw [ea] at hcell hw
    exact ⟨⟨bo, off + 1, rfl, hl, by rw [show off + 1 + i = off + (i + 1) by omega]; exact hcell⟩, hw⟩
  · injection e with e
    injection e with e1 e2 e3
    subst e1 e2 e3
    exact d.nb (by simp) bo off none rfl
theorem does_last {base b : Nat} {x : Int} {T R : List Int} {v : Value} {po : Option Addr} {co : Nat} {w : World} (d : DoesAt base b T (x :: T) R v po co w) (hc : co = 1) (po' : Option Addr) : T = [] ∧ DoesAt base b [] [] R v po' 0 w := by
  have hcap := d.cap
  simp only [List.length_cons] at hcap
  obtain rfl : T = [] := List.eq_nil_of_length_eq_zero (by omega)
  exact ⟨rfl, d.qu, d.perm, fun i hi => by simp at hi, ⟨Nat.le_refl _, by decide⟩, fun h => by simp at h⟩
set_option maxRecDepth 20000 in
set_option maxHeartbeats 32000000 in
theorem does_walk (p : Option Addr) (n c : Nat) (z : Nat → Int) (q : Option Addr) (m d : Nat) (f : Nat → Qd) (w : World) (hin : Ints .i64 w p n z) (hn : n ≤ maxLen) (hq : p = none → n = 0 ∧ c = 0) (hD : QDeeds w q m f) (hm : m ≤ maxLen) :
    Calls Try.prog 3 #[.slice p n c, .slice q m d] w fun e w' => e = .returned (.bool true) ∧ Below w.heap.size w w' := by
  simp only [maxLen] at hn hm
  by_cases hl : n ≤ 200 ∧ m ≤ 200
  · obtain ⟨hl1, hl2⟩ := hl
    have hd1 : decide (200 < (n : Int)) = false := by simp; omega
    have hd2 : decide (200 < (m : Int)) = false := by simp; omega
    have hN := fun W (hW : Below w.heap.size w W) => qnew_any p n c z W (hin.below hW) hq (by omega)
    have hSo := fun W (hW : Below w.heap.size w W) => rsorted_any p n c z W (hin.below hW) (by omega)
    have hsw := sort_wf (listZ_wf hin n (Nat.le_refl _))
    have hsr := sort_rise (listZ n z)
    have hsl : (sortL (listZ n z)).length = n := by rw [sort_len, listZ_len]
    have hsp := sort_perm (listZ n z)
    clear hin
    go_enter Try.func3, Try.ntmps3
    go_upto_region 4 with (first
      | (go_at_call 7; refine Calls.mono (awake10_any _) ?_; rintro e w1 ⟨rfl, hb1⟩)
      | (go_at_call 8; refine Calls.mono (hN _ hb1) ?_; rintro e w2 ⟨b, v, R, rfl, r2, hp, hh, hb2⟩)
    )
    have hb2W := bjoin hb2 hb1
    have hbase := hb1.size
    have q2 : Qu w1.heap.size b R v w2 := ⟨r2, hh⟩
    clear hN hb1 hb2 r2 hh
    generalize w1.heap.size = base at *
    go_upto_region 8 with (first
      | (go_at_call 9; refine Calls.mono (hSo _ hb2W) ?_; rintro e w3 ⟨u, rfl, hown, hb3⟩; obtain ⟨po, co, rfl, hI, -, hpb⟩ := row_ints hown hsw)
    )
    have dA : DoesAt base b (sortL (listZ n z)) (sortL (listZ n z)) R v po co w3 := by
      refine ⟨q2.below hb3, hp.trans hsp.symm, hI, ?_, fun h0 bo off sp e => ?_⟩
      · rcases hown.2 with ⟨hv, h0⟩ | ⟨g, cap', cur, hv, -, -, h1, h2, -⟩
        · injection hv with _ _ e; rw [h0, e]; exact ⟨Nat.le_refl _, by decide⟩
        · injection hv with _ _ e; subst e; exact ⟨h1, h2⟩
      · have h1 := hpb bo off sp e
        have h2 := q2.row.lt
        refine ⟨by omega, fun hk => ?_, ?_⟩
        · have := (q2.row.own.lt bo hk).2
          omega
        · subst e
          exact (hown.lt bo rfl).2
    have hb3W := bjoin hb3 hb2W
    clear hSo q2 hown hI hpb hb3 hb2W hp hsp
    generalize sortL (listZ n z) = S at *
    have hsl' : Hid (S.length = n) := hsl
    clear hsl
    go_wp2
    go_loopg [6, 7] m (fun g qv iv wr => ∃ (i : Nat) (T R : List Int) (v : Value) (po : Option Addr) (co : Nat), i ≤ m ∧ g = m - i ∧ qv = .slice po T.length co ∧ iv = .int .i64 i ∧ DoesAt base b T T R v po co wr ∧ Rise T ∧ T.length ≤ 200 + i ∧ (∀ x ∈ T, (Lit.int .i64 x).wf = true) ∧ Below w.heap.size w wr)
    case atStart => exact ⟨0, S, R, v, po, co, by omega, by omega, by rw [hsl'.out], rfl, dA, hsr, by have := hsl'.out; omega, hsw, hb3W⟩
    case round =>
      clear dA hsr hsw hb3W hsl'
      obtain ⟨i, T, R, v, po, co, ih, rfl, rfl, rfl, dA, hr, hll, hw, hbw⟩ := hrel
      by_cases hi : i < m
      · obtain ⟨⟨bd, od, rfl, hld, f0, f1⟩, hfw⟩ := (hD.below hbw) i hi
        cases hft : (f i).t with
        | true =>
          rw [hft] at f0
          cases T with
          | nil =>
            have hP := does_pop0 wr dA
            go_upto_region 18 with (first
              | (go_at_call 10; refine Calls.mono hP ?_; rintro e w8 ⟨rfl, hb8⟩)
            )
            have d2 := dA.below hb8
            have hb8W := bjoin hb8 hbw
            clear hP dA f0 f1 hld hb8
            have hLe := does_least0 w8 d2
            have hLn' : ∀ W, Below w8.heap.size w8 W → Calls Try.prog 14 #[.pointer (some ⟨b, 0, none⟩)] W fun e w' => e = .returned (.int .i64 0) ∧ Below W.heap.size W w' := fun W hW => does_len W (d2.below hW)
            go_wp2_with (first
              | (go_at_call 13; refine Calls.mono hLe ?_; rintro e w9 ⟨rfl, hb9⟩)
              | (go_at_call 14; refine Calls.mono (hLn' _ hb9) ?_; rintro e w10 ⟨rfl, hb10⟩)
            )
            go_roundg (m - (i + 1))
            case measure => omega
            case rel => exact ⟨i + 1, [], _, _, _, _, by omega, rfl, rfl, by go_num, d2.below (bjoin hb10 hb9), List.Pairwise.nil, by simp, (fun _ hx => absurd hx (by simp)), bjoin hb10 (bjoin hb9 hb8W)⟩
          | cons x T' =>
            obtain ⟨⟨bi, oi, ei, hli, hvi⟩, -⟩ := dA.ints 0 (by simp)
            subst ei
            rw [show atL (x :: T') 0 = x from rfl] at hvi
            have hnb := dA.nb (by simp) bi oi none rfl
            have hP := does_pop wr dA hr
            have hcap := dA.cap
            simp only [List.length_cons, maxLen] at hcap hll
            have hcp := hcap.1
            have hcm := hcap.2
            go_upto_region 12 with (first
              | (go_at_call 10; refine Calls.mono hP ?_; rintro e w7 ⟨rfl, R', v', d7, hb7⟩)
            )
            obtain ⟨⟨bi2, oi2, ei2, hli7, hvi7⟩, -⟩ := d7.ints 0 (by simp)
            injection ei2 with ei2
            injection ei2 with e1 e2
            subst e1 e2
            rw [show atL (x :: T') 0 = x from rfl, Nat.add_zero] at hvi7
            have hb7W : Below w.heap.size w w7 := hbw.trans (hb7.mono hbase)
            clear hP dA f0 f1 hld hb7 hli hvi hnb hcap
            have hr2 : Rise T' := hr.tail
            have hw2 : ∀ y ∈ T', (Lit.int .i64 y).wf = true := fun y hy => hw y (List.mem_cons_of_mem _ hy)
            clear hr hw
            go_upto_region 15 with fail
            by_cases hc1 : co = 1
            · subst hc1
              obtain ⟨rfl, d2⟩ := does_last d7 rfl (some ⟨bi, oi, none⟩)
              clear d7 hli7 hvi7
              go_upto_region 18 with fail
              have hb8W := hb7W
              clear hb7W
              generalize w7 = w8 at *
              have hLe := does_least0 w8 d2
              have hLn' : ∀ W, Below w8.heap.size w8 W → Calls Try.prog 14 #[.pointer (some ⟨b, 0, none⟩)] W fun e w' => e = .returned (.int .i64 0) ∧ Below W.heap.size W w' := fun W hW => does_len W (d2.below hW)
              go_wp2_with (first
                | (go_at_call 13; refine Calls.mono hLe ?_; rintro e w9 ⟨rfl, hb9⟩)
                | (go_at_call 14; refine Calls.mono (hLn' _ hb9) ?_; rintro e w10 ⟨rfl, hb10⟩)
              )
              go_roundg (m - (i + 1))
              case measure => omega
              case rel => exact ⟨i + 1, [], _, _, _, _, by omega, rfl, rfl, by go_num, d2.below (bjoin hb10 hb9), List.Pairwise.nil, by simp, (fun _ hx => absurd hx (by simp)), bjoin hb10 (bjoin hb9 hb8W)⟩
            · have d2 := does_tail d7 hc1
              clear d7 hli7 hvi7
              have hll2 : T'.length ≤ 200 + i := by omega
              clear hll
              go_upto_region 18 with fail
              have hb8W := hb7W
              clear hb7W
              generalize w7 = w8 at *
              cases T' with
              | nil =>
                have hLe := does_least0 w8 d2
                have hLn' : ∀ W, Below w8.heap.size w8 W → Calls Try.prog 14 #[.pointer (some ⟨b, 0, none⟩)] W fun e w' => e = .returned (.int .i64 0) ∧ Below W.heap.size W w' := fun W hW => does_len W (d2.below hW)
                go_wp2_with (first
                  | (go_at_call 13; refine Calls.mono hLe ?_; rintro e w9 ⟨rfl, hb9⟩)
                  | (go_at_call 14; refine Calls.mono (hLn' _ hb9) ?_; rintro e w10 ⟨rfl, hb10⟩)
                )
                go_roundg (m - (i + 1))
                case measure => omega
                case rel => exact ⟨i + 1, [], _, _, _, _, by omega, rfl, rfl, by go_num, d2.below (bjoin hb10 hb9), List.Pairwise.nil, by simp, (fun _ hx => absurd hx (by simp)), bjoin hb10 (bjoin hb9 hb8W)⟩
              | cons y T2 =>
                have hLe := does_least w8 d2 hr2
                have hLn' : ∀ W, Below w8.heap.size w8 W → Calls Try.prog 14 #[.pointer (some ⟨b, 0, none⟩)] W fun e w' => e = .returned (.int .i64 ((y :: T2).length : Int)) ∧ Below W.heap.size W w' := fun W hW => does_len W (d2.below hW)
                obtain ⟨⟨bj, oj, ej, hlj, hvj⟩, -⟩ := d2.ints 0 (by simp)
                injection ej with ej
                injection ej with e1 e2
                subst e1 e2
                rw [show atL (y :: T2) 0 = y from rfl, Nat.add_zero] at hvj
                have hcc := d2.cap
                simp only [List.length_cons, maxLen] at hLn' hll2 hcc
                have hcc1 := hcc.1
                have hcc2 := hcc.2
                clear hcc
                go_wp2_with (first
                  | (go_at_call 13; refine Calls.mono hLe ?_; rintro e w9 ⟨rfl, hb9⟩; have hvj9 := (hb9.cell (p := ⟨_, _, none⟩) hlj).trans hvj; have hlj9 := Nat.lt_of_lt_of_le hlj hb9.size)
                  | (go_at_call 14; refine Calls.mono (hLn' _ hb9) ?_; rintro e w10 ⟨rfl, hb10⟩; have hvj10 := (hb10.cell (p := ⟨_, _, none⟩) hlj9).trans hvj9; have hlj10 := Nat.lt_of_lt_of_le hlj9 hb10.size)
                )
                go_roundg (m - (i + 1))
                case measure => omega
                case rel => exact ⟨i + 1, y :: T2, _, _, _, _, by omega, rfl, rfl, by go_num, d2.below (bjoin hb10 hb9), hr2, by simp; omega, hw2, bjoin hb10 (bjoin hb9 hb8W)⟩
        | false =>
          rw [hft] at f0
          have hld0 : bd < base := by
            obtain ⟨⟨b', o', e, h, -, -⟩, -⟩ := hD i hi
            injection e with e
            injection e with e1 e2
            subst e1
            omega
          have hx : (Lit.int .i64 (f i).x).wf = true := hfw
          generalize (f i).x = x at *
          have hP := does_push (x := x) wr dA (by omega)
          have hPu := fun R' v' W (d7 : DoesAt base b (x :: T) T R' v' po co W) => does_put W d7 (by omega) (fun y hy => by
            rcases List.mem_cons.1 ((put_perm x T).subset hy) with rfl | h
            · exact hx
            · exact hw y h)
          go_upto_region 18 with (first
            | (go_at_call 11; refine Calls.mono hP ?_; rintro e w7 ⟨rfl, R', v', d7, hb7⟩; have f17 := (hb7.cell (p := ⟨_, _, none⟩) hld0).trans f1)
            | (go_at_call 12; refine Calls.mono (hPu _ _ _ d7) ?_; rintro e w8 ⟨p', c', rfl, d2, hb8⟩)
          )
          have hb8W : Below w.heap.size w w8 := bjoin hb8 (hbw.trans (hb7.mono hbase))
          have hr2 : Rise (putL T x) := put_rise hr
          have hw2 : ∀ y ∈ putL T x, (Lit.int .i64 y).wf = true := fun y hy => by
            rcases List.mem_cons.1 ((put_perm x T).subset hy) with rfl | h
            · exact hx
            · exact hw y h
          have hll2 : (putL T x).length ≤ 200 + i + 1 := by rw [(put_perm x T).length_eq]; simp; omega
          have hne : putL T x ≠ [] := fun h0 => by
            have := (put_perm x T).length_eq
            rw [h0] at this
            simp at this
          clear hP hPu dA d7 hb7 hb8 f0 f1 f17 hld hld0 hw hr hll hx hfw
          generalize putL T x = L at *
          obtain _ | ⟨y, T2⟩ := L
          · exact absurd rfl hne
          · clear hne
            have hLe := does_least w8 d2 hr2
            have hLn' : ∀ W, Below w8.heap.size w8 W → Calls Try.prog 14 #[.pointer (some ⟨b, 0, none⟩)] W fun e w' => e = .returned (.int .i64 ((y :: T2).length : Int)) ∧ Below W.heap.size W w' := fun W hW => does_len W (d2.below hW)
            obtain ⟨⟨bj, oj, ej, hlj, hvj⟩, -⟩ := d2.ints 0 (by simp)
            subst ej
            rw [show atL (y :: T2) 0 = y from rfl, Nat.add_zero] at hvj
            have hcc := d2.cap
            simp only [List.length_cons, maxLen] at hLn' hll2 hcc
            have hcc1 := hcc.1
            have hcc2 := hcc.2
            clear hcc
            go_wp2_with (first
              | (go_at_call 13; refine Calls.mono hLe ?_; rintro e w9 ⟨rfl, hb9⟩; have hvj9 := (hb9.cell (p := ⟨_, _, none⟩) hlj).trans hvj; have hlj9 := Nat.lt_of_lt_of_le hlj hb9.size)
              | (go_at_call 14; refine Calls.mono (hLn' _ hb9) ?_; rintro e w10 ⟨rfl, hb10⟩; have hvj10 := (hb10.cell (p := ⟨_, _, none⟩) hlj9).trans hvj9; have hlj10 := Nat.lt_of_lt_of_le hlj9 hb10.size)
            )
            go_roundg (m - (i + 1))
            case measure => omega
            case rel => exact ⟨i + 1, y :: T2, _, _, _, _, by omega, rfl, rfl, by go_num, d2.below (bjoin hb10 hb9), hr2, by simp; omega, hw2, bjoin hb10 (bjoin hb9 hb8W)⟩
      · obtain rfl : i = m := by omega
        go_wp2
        go_returns
        exact ⟨rfl, hbw⟩
  · by_cases h1 : n ≤ 200
    · have hd1 : decide (200 < (n : Int)) = false := by simp; omega
      have hd2 : decide (200 < (m : Int)) = true := by simp; omega
      clear hl
      go_enter Try.func3, Try.ntmps3
      go_wp2_with (first
    | (go_at_call 7; refine Calls.mono (awake10_any _) ?_; rintro e w' ⟨rfl, hb⟩; obtain ⟨hc, hf, hb, hz⟩ := bstep hb (w := w) (by go_grown); try simp only [World.size_alloc, World.size_setCell, World.size_drew] at hc hf hz)
      )
      go_returns
      exact ⟨rfl, hb⟩
    · have hd1 : decide (200 < (n : Int)) = true := by simp; omega
      clear hl
      go_enter Try.func3, Try.ntmps3
      go_wp2_with (first
    | (go_at_call 7; refine Calls.mono (awake10_any _) ?_; rintro e w' ⟨rfl, hb⟩; obtain ⟨hc, hf, hb, hz⟩ := bstep hb (w := w) (by go_grown); try simp only [World.size_alloc, World.size_setCell, World.size_drew] at hc hf hz)
      )
      go_returns
      exact ⟨rfl, hb⟩

namespace QueueDoes
theorem own : ownKnob Try.prog.godebug = none := by kernel_rfl
set_option maxRecDepth 100000 in
theorem lifted (os : Os) (started : os.Started) (H : Type) (enc : TypeId × Value → H) :
    ReturnsInHanded {} Try.checked os 3 .any (Rows.queueDoesSpec.pre6 enc Try.prog Try.f3 Rows.queueDoesRow.domain false) (Rows.queueDoesSpec.post enc Try.prog Try.f3 false true false false) := by
  refine law_lifted (C := Try.checked) own started (by kernel_rfl) Try.func3 (by kernel_rfl) (of_decide_eq_true (by kernel_rfl)) rfl
    (fun ds hd => by have hd' : ds.length = 2 := hd; match ds, hd' with | [d0, d1], _ => rfl) rfl Try.underlying4
    (ChangeSpec.witness6 (enc := enc) (C := Try.checked) false ⟨#[], #[.slice none 0 0, .slice none 0 0], []⟩ 8 (by kernel_rfl) (by kernel_rfl) (by kernel_rfl) (by kernel_rfl)) ?_
  intro W base args ds p hval hA hlt
  rw [Try.params3] at hA hval
  obtain ⟨v0, v1, d0, d1, p0, p1, rfl, rfl, rfl, h0, h1⟩ := trodAll_two hA
  obtain ⟨q0, n0, cap0, z0, rfl, hn0, hz0, hq0⟩ := open_slice_ints Try.underlying22 Try.underlying3 (by kernel_rfl) (hval 0 22 v0 rfl rfl) h0
  obtain ⟨q1, n1, cap1, f1, rfl, hn1, hz1, hq1⟩ := open_qdeeds Try.underlying23 Try.underlying29 (by kernel_rfl) (by kernel_rfl) (by kernel_rfl) (by kernel_rfl) (hval 1 23 v1 rfl rfl) h1
  exact does_walk _ _ _ _ _ _ _ _ W hz0 hn0 hq0 hz1 hn1

/-- The statement. -/
theorem holds : Rows.QueueDoesSaid :=
  OpenClaim.holds_of_wide 3 Try.f3 rfl rfl rfl rfl rfl rfl rfl ⟨rfl, rfl, rfl, rfl, rfl⟩ rfl rfl rfl rfl rfl (by kernel_rfl) Try.func3 (by kernel_rfl)
    (of_decide_eq_true (by kernel_rfl)) (by unfold Func.isWrapper; first | (rw [if_pos (by decide +kernel)]; kernel_rfl) | (rw [if_neg (by decide +kernel)]; exact ⟨rfl, rfl⟩))
    (fun os started H enc _ => lifted os started H enc)
#print axioms holds
end QueueDoes
end Go.Proofs.Ythojihikihhbfaa
