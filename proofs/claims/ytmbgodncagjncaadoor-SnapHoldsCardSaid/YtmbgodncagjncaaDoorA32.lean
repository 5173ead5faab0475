/- Contracts of the reference's Black, List, Refs (chapter 8) and nought (chapter 9). -/
import Derived.Test.YtmbgodncagjncaaDoorA27
namespace Go.Proofs.YtmbgodncagjncaaDoor
set_option linter.unusedSimpArgs false
set_option linter.unusedVariables false
open Go.ChangeShapes Go.WideShapes Go.ChangeAt Go.RowKit Go.Joins

set_option maxHeartbeats 2000000 in
theorem rblack8_any (p : Option Addr) (c : Nat) (q : Option Addr) (d : Nat) (h : Hp) (a : Int) (w : World) (hh : HpAt w p c q d h) (hF : formB h = true) :
    Calls Tryd.prog 14 #[.agg #[.slice p h.n c, .slice q h.m d, .bool h.b], .int .i64 a] w fun e w' => e = .returned (.bool (blB h a)) ∧ Below w.heap.size w w' := by
  obtain ⟨w0, hw0⟩ : ∃ w0, w0 = w.alloc (.cells #[.slice p h.n c, .slice q h.m d, .bool h.b] 25) := ⟨_, rfl⟩
  have gB : Box3 w.heap.size (.slice p h.n c) (.slice q h.m d) (.bool h.b) w0 := by rw [hw0]; exact Box3.new _ _ _ _ _
  have hst : Below w.heap.size w w0 := by rw [hw0]; go_grown
  have hG := rget8_any p c q d h a w0 (hh.below hst) hF
  obtain ⟨l0, x0, x1, x2, -, -, -⟩ := gB
  have eB : blB h a = (obB h a && (obC h a == h.b)) := rfl
  generalize blB h a = V at *
  generalize obC h a = C at *
  generalize obB h a = O at *
  generalize obN h a = F at *
  generalize obK h a = K at *
  clear hh hF
  cases O
  all_goals
    go_enter Tryd.func14, Tryd.ntmps14
    go_upto_region 1 with fail
    rw [← hw0]
    clear hw0
    go_wp2_with (first
    | (go_at_call 36; refine Calls.mono (hG) ?_; rintro e w' ⟨rfl, hb⟩; obtain ⟨hc, hf, hb, hz⟩ := bstep hb (w := w0) (by go_grown); try simp only [World.size_alloc, World.size_setCell, World.size_drew] at hc hf hz)
    )
    go_returns
    exact ⟨ret_bool (by rw [eB]; simp), by go_grown; exact bjoin hb hst⟩

set_option maxHeartbeats 4000000 in
theorem rlist8_any (p : Option Addr) (c : Nat) (q : Option Addr) (d : Nat) (h : Hp) (w : World) (hh : HpAt w p c q d h) (hF : formB h = true) :
    Calls Tryd.prog 13 #[.agg #[.slice p h.n c, .slice q h.m d, .bool h.b]] w fun e w' => ∃ v, e = .returned v ∧ w'.ownsRow w.heap.size 3 1 v (obL h h.n).length ((obL h h.n).map (Value.int .i64)) ∧ Below w.heap.size w w' := by
  obtain ⟨w0, hw0⟩ : ∃ w0, w0 = w.alloc (.cells #[.slice p h.n c, .slice q h.m d, .bool h.b] 25) := ⟨_, rfl⟩
  have gB : Box3 w.heap.size (.slice p h.n c) (.slice q h.m d) (.bool h.b) w0 := by rw [hw0]; exact Box3.new _ _ _ _ _
  have hst : Below w.heap.size w w0 := by rw [hw0]; go_grown
  have hat := hh.below hst
  have hsz0 : w.heap.size ≤ w0.heap.size := hst.size
  obtain ⟨l0, x0, x1, x2, -, -, -⟩ := id gB
  obtain ⟨i0, hi, hz0, hz1, hz2⟩ := info_parts int_info'
  have hnl : h.n ≤ 512 := by have := form_iff.1 hF; omega
  have hF' : Hid (formB h = true) := hF
  have hlen := obL_len h
  clear hF hh
  go_enter Tryd.func13, Tryd.ntmps13
  go_upto_region 1 with fail
  rw [← hw0]
  clear hw0
  go_wp2
  go_loopg [3, 4] h.n (fun g ov iv wr => ∃ j : Nat, j ≤ h.n ∧ g = h.n - j ∧ iv = .int .i64 j ∧ wr.ownsRow w0.heap.size 3 1 ov (obL h j).length ((obL h j).map (Value.int .i64)) ∧ Below w0.heap.size w0 wr)
  case atStart => exact ⟨0, by omega, by omega, rfl, World.ownsRow_nil _ _ _ _, Below.refl _ _⟩
  case round =>
    obtain ⟨j, jh, rfl, rfl, hown, hbw⟩ := hrel
    have gr := gB.below hbw
    clear x0 x1 x2 l0
    obtain ⟨l0, x0, x1, x2, -, -, -⟩ := id gr
    have hsz : w0.heap.size ≤ wr.heap.size := hbw.size
    by_cases hj : j < h.n
    · have hG := rget8_any p c q d h j wr (hat.below hbw) hF'.out
      have hl := hlen j
      cases ho : obB h j with
      | true =>
        rw [ho] at hG
        have e1 := obL_yes ho
        generalize obC h j = C at *
        generalize obK h j = K at *
        generalize obN h j = N at *
        clear ho
        go_wp2_with (first
    | (go_at_call 36; refine Calls.mono (hG) ?_; rintro e w' ⟨rfl, hb⟩; obtain ⟨hc, hf, hb, hz⟩ := bstep hb (w := wr) (by go_grown); try simp only [World.size_alloc, World.size_setCell, World.size_drew] at hc hf hz)
          | (at_builtin; refine wpList_append_own _ rfl (.tmp 21) (.tmp 23) 31 rfl w0.heap.size 3 i0 (.int .i64 0) 1 8 Tryd.underlying31 hi hz0 hz1 hz2 rfl (by decide) _ _ _ rfl (((owned_below hown hb).alloc _).alloc _) ⟨w'.heap.size + 1, 0, none⟩ 1 1 [.int .i64 (j : Int)] rfl rfl (by have := one_new (w'.alloc (.cells #[.bool true, .bool C, .int .i64 K, .int .i64 N] 77)) (.int .i64 (j : Int)) 3; simpa using this) (by simp [Value.oneCell']) (by simp only [maxLen]; omega) (by omega) (by simp; omega) ?_; intro ov w1 hown' hgrow _)
        )
        have hown2 : w1.ownsRow w0.heap.size 3 1 ov (obL h (j + 1)).length ((obL h (j + 1)).map (Value.int .i64)) := by rw [e1]; simpa using hown'
        have hb2 := ((bjoin hb hbw).alloc (by have := hb.size; omega) (.cells #[.bool true, .bool C, .int .i64 K, .int .i64 N] 77)).alloc (by have := hb.size; simp; omega) (.cells #[.int .i64 (j : Int)] 3)
        have hb3 := hb2.grown hgrow (by have := hb.size; simp; omega) (fun k hk => (hown.lt k hk).1)
        go_roundg (h.n - (j + 1))
        case measure => omega
        case rel => exact ⟨j + 1, by omega, rfl, by go_num, hown2, hb3⟩
      | false =>
        obtain ⟨o1, o2, o3⟩ := ob_no ho
        rw [ho, o1, o2, o3] at hG
        have e1 := obL_no ho
        clear ho o1 o2 o3
        go_wp2_with (first
    | (go_at_call 36; refine Calls.mono (hG) ?_; rintro e w' ⟨rfl, hb⟩; obtain ⟨hc, hf, hb, hz⟩ := bstep hb (w := wr) (by go_grown); try simp only [World.size_alloc, World.size_setCell, World.size_drew] at hc hf hz)
        )
        have hown2 : (w'.alloc (.cells #[.bool false, .bool false, .int .i64 0, .int .i64 0] 77)).ownsRow w0.heap.size 3 1 u3 (obL h (j + 1)).length ((obL h (j + 1)).map (Value.int .i64)) := by rw [e1]; exact (owned_below hown hb).alloc _
        have hb2 := (bjoin hb hbw).alloc (by have := hb.size; omega) (.cells #[.bool false, .bool false, .int .i64 0, .int .i64 0] 77)
        go_roundg (h.n - (j + 1))
        case measure => omega
        case rel => exact ⟨j + 1, by omega, rfl, by go_num, hown2, hb2⟩
    · obtain rfl : j = h.n := by omega
      obtain ⟨q', cap', rfl, -⟩ := owned_new hown
      go_wp2
      go_returns
      exact ⟨_, rfl, owned_base hown hsz0, bjoin hbw hst⟩

set_option maxHeartbeats 4000000 in
theorem rrefs8_any (p : Option Addr) (c : Nat) (q : Option Addr) (d : Nat) (h : Hp) (a : Int) (w : World) (hh : HpAt w p c q d h) (hF : formB h = true) :
    Calls Tryd.prog 37 #[.agg #[.slice p h.n c, .slice q h.m d, .bool h.b], .int .i64 a] w fun e w' => ∃ v, e = .returned v ∧ w'.ownsRow w.heap.size 3 1 v (rfH h a).length ((rfH h a).map (Value.int .i64)) ∧ Below w.heap.size w w' := by
  obtain ⟨w0, hw0⟩ : ∃ w0, w0 = w.alloc (.cells #[.slice p h.n c, .slice q h.m d, .bool h.b] 25) := ⟨_, rfl⟩
  have gB : Box3 w.heap.size (.slice p h.n c) (.slice q h.m d) (.bool h.b) w0 := by rw [hw0]; exact Box3.new _ _ _ _ _
  have hst : Below w.heap.size w w0 := by rw [hw0]; go_grown
  have hat := hh.below hst
  have hG := rget8_any p c q d h a w0 hat hF
  obtain ⟨l0, x0, x1, x2, -, -, -⟩ := id gB
  obtain ⟨i0, hi, hz0, hz1, hz2⟩ := info_parts int_info'
  have hF' : Hid (formB h = true) := hF
  have hlen := rfL_len h a
  have hnb : 0 ≤ obN h a ∧ obN h a ≤ 15 := by
    cases ho : obB h a with
    | false => rw [(ob_no ho).2.2]; omega
    | true => have := gN_bound (X := woH h a); rw [(ob_spec hF ho).2.2.2.2.2.2.2.2.1]; exact this
  have hfd : ∀ j : Int, 0 ≤ j → j < obN h a → fdE h a j = 0 ∧ fdX h a j = woH h (a + 1 + j) := fun j j0 j1 => by
    rcases fd_cases h a j with ⟨-, -, -, e1, e2⟩ | ⟨-, e, -⟩ | ⟨o, -⟩
    · exact ⟨e1, e2⟩
    · exact absurd ⟨j0, j1⟩ e
    · rw [(ob_no o).2.2] at j1; omega
  have eL : rfH h a = rfL h a (obN h a).toNat := rfl
  rw [eL]
  generalize obN h a = N at *
  obtain ⟨M, rfl⟩ : ∃ M : Nat, N = (M : Int) := ⟨N.toNat, by omega⟩
  rw [Int.toNat_natCast]
  generalize obC h a = C at *
  generalize obK h a = K at *
  generalize obB h a = O at *
  obtain ⟨N0, N1⟩ := hnb
  clear hF hh eL
  go_enter Tryd.func37, Tryd.ntmps37
  go_upto_region 1 with fail
  rw [← hw0]
  clear hw0
  go_upto_region 3 with (first
    | (go_at_call 36; refine Calls.mono (hG) ?_; rintro e w' ⟨rfl, hb⟩; obtain ⟨hc, hf, hb, hz⟩ := bstep hb (w := w0) (by go_grown); try simp only [World.size_alloc, World.size_setCell, World.size_drew] at hc hf hz)
  )
  obtain ⟨w5, hw5⟩ : ∃ W, W = w'.alloc (.cells #[.bool O, .bool C, .int .i64 K, .int .i64 (M : Int)] 77) := ⟨_, rfl⟩
  have hb5 : Below w.heap.size w w5 := by rw [hw5]; exact bjoin ((Below.refl _ _).alloc (Nat.le_refl _) _) (bjoin hb hst)
  have hb50 : Below w0.heap.size w0 w5 := by rw [hw5]; exact hb.alloc hb.size _
  have gX : Box4 w'.heap.size (.bool O) (.bool C) (.int .i64 K) (.int .i64 (M : Int)) w5 := by rw [hw5]; exact Box4.new _ _ _ _ _ _
  have hsz5 : w.heap.size ≤ w5.heap.size := hb5.size
  rw [← hw5]
  clear hw5 hc hf hb hz x0 x1 x2 l0 hG
  generalize w'.heap.size = BX at *
  replace gB := gB.below hb50
  replace hat := hat.below hb50
  clear hb50
  go_wp2
  go_loopg [5, 8] M (fun g ov iv wr => ∃ j : Nat, j ≤ M ∧ g = M - j ∧ iv = .int .i64 j ∧ wr.ownsRow w5.heap.size 3 1 ov (rfL h a j).length ((rfL h a j).map (Value.int .i64)) ∧ Below w5.heap.size w5 wr)
  case atStart => exact ⟨0, by omega, by omega, rfl, World.ownsRow_nil _ _ _ _, Below.refl _ _⟩
  case round =>
    obtain ⟨j, jh, rfl, rfl, hown, hbw⟩ := hrel
    have gr := gB.below hbw
    have gx := gX.below hbw
    obtain ⟨l0, x0, x1, x2, -, -, -⟩ := id gr
    obtain ⟨lX, z0, z1, z2, z3, -, -, -, -⟩ := id gx
    have hsz : w5.heap.size ≤ wr.heap.size := hbw.size
    by_cases hj : j < M
    · obtain ⟨f0, f1⟩ := hfd j (by omega) (by omega)
      have hV := rfield8_any p c q d h a j wr (hat.below hbw) hF'.out
      rw [f0, f1] at hV
      have hl := hlen j
      by_cases e : getK (woH h (a + 1 + j)) = 2
      · have eY := rfL_yes e
        rw [e] at hV
        generalize getN (woH h (a + 1 + j)) = Y at *
        clear e f0 f1 hfd
        go_wp2_with (first
    | (go_at_call 55; refine Calls.mono (hV) ?_; rintro e w' ⟨rfl, hb⟩; obtain ⟨hc, hf, hb, hz⟩ := bstep hb (w := wr) (by go_grown); try simp only [World.size_alloc, World.size_setCell, World.size_drew] at hc hf hz)
          | (at_builtin; refine wpList_append_own _ rfl (.tmp 33) (.tmp 36) 31 rfl w5.heap.size 3 i0 (.int .i64 0) 1 8 Tryd.underlying31 hi hz0 hz1 hz2 rfl (by decide) _ _ _ rfl (((owned_below hown hb).alloc _).alloc _) ⟨w'.heap.size + 1, 0, none⟩ 1 1 [.int .i64 Y] rfl rfl (by have := one_new (w'.alloc (.cells #[.int .i64 2, .int .i64 Y] 46)) (.int .i64 Y) 3; simpa using this) (by simp [Value.oneCell']) (by simp only [maxLen]; omega) (by omega) (by simp; omega) ?_; intro ov w1 hown' hgrow _)
        )
        have hown2 : w1.ownsRow w5.heap.size 3 1 ov (rfL h a (j + 1)).length ((rfL h a (j + 1)).map (Value.int .i64)) := by rw [eY]; simpa using hown'
        have hb2 := ((bjoin hb hbw).alloc (by have := hb.size; omega) (.cells #[.int .i64 2, .int .i64 Y] 46)).alloc (by have := hb.size; simp; omega) (.cells #[.int .i64 Y] 3)
        have hb3 := hb2.grown hgrow (by have := hb.size; simp; omega) (fun k hk => (hown.lt k hk).1)
        go_roundg (M - (j + 1))
        case measure => omega
        case rel => exact ⟨j + 1, by omega, rfl, by go_num, hown2, hb3⟩
      · have eY := rfL_no e
        have eK : (getK (woH h (a + 1 + j)) == 2) = false := by simp [e]
        generalize getN (woH h (a + 1 + j)) = Y at *
        generalize getK (woH h (a + 1 + j)) = Z at *
        clear e f0 f1 hfd
        go_wp2_with (first
    | (go_at_call 55; refine Calls.mono (hV) ?_; rintro e w' ⟨rfl, hb⟩; obtain ⟨hc, hf, hb, hz⟩ := bstep hb (w := wr) (by go_grown); try simp only [World.size_alloc, World.size_setCell, World.size_drew] at hc hf hz)
        )
        have hown2 : (w'.alloc (.cells #[.int .i64 Z, .int .i64 Y] 46)).ownsRow w5.heap.size 3 1 u5 (rfL h a (j + 1)).length ((rfL h a (j + 1)).map (Value.int .i64)) := by rw [eY]; exact (owned_below hown hb).alloc _
        have hb2 := (bjoin hb hbw).alloc (by have := hb.size; omega) (.cells #[.int .i64 Z, .int .i64 Y] 46)
        go_roundg (M - (j + 1))
        case measure => omega
        case rel => exact ⟨j + 1, by omega, rfl, by go_num, hown2, hb2⟩
    · obtain rfl : j = M := by omega
      obtain ⟨q', cap', rfl, -⟩ := owned_new hown
      go_wp2
      go_returns
      exact ⟨_, rfl, owned_base hown hsz5, bjoin hbw hb5⟩

end Go.Proofs.YtmbgodncagjncaaDoor
