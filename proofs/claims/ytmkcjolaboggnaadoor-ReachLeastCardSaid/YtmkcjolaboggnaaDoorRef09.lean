/- Contracts of the reference's Black, List, Refs (chapter 8) and nought (chapter 9). -/
import Derived.Test.YtmkcjolaboggnaaDoorSoundFn
namespace Go.Proofs.YtmkcjolaboggnaaDoor
set_option linter.unusedSimpArgs false
set_option linter.unusedVariables false
open Go.ChangeShapes Go.WideShapes Go.ChangeAt Go.RowKit Go.Joins

set_option maxHeartbeats 4000000 in
theorem rlist8_any (p : Option Addr) (c : Nat) (q : Option Addr) (d : Nat) (h : Hp) (w : World) (hh : HpAt w p c q d h) (hF : formB h = true) :
    Calls Tryd.prog 38 #[.agg #[.slice p h.n c, .slice q h.m d, .bool h.b]] w fun e w' => ∃ v, e = .returned v ∧ w'.ownsRow w.heap.size 3 1 v (obL h h.n).length ((obL h h.n).map (Value.int .i64)) ∧ Below w.heap.size w w' := by
  obtain ⟨w0, hw0⟩ : ∃ w0, w0 = w.alloc (.cells #[.slice p h.n c, .slice q h.m d, .bool h.b] 25) := ⟨_, rfl⟩
  have gB : Box3 w.heap.size (.slice p h.n c) (.slice q h.m d) (.bool h.b) w0 := by rw [hw0]; exact Box3.new _ _ _ _ _
  have hst : Below w.heap.size w w0 := by rw [hw0]; go_grown
  have hat := hh.below hst
  have hsz0 : w.heap.size ≤ w0.heap.size := hst.size
  obtain ⟨l0, x0, x1, x2, -, -, -⟩ := id gB
  obtain ⟨i0, hi, hz0, hz1, hz2⟩ := info_parts int_info'
  have hnl : h.n ≤ 512 := by have := form_iff.1 hF; omega
  have hF' : Hid (formB h = true) := hF
  have hlen := obL_len h
  clear hF hh
  go_enter Tryd.func38, Tryd.ntmps38
  go_upto_region 1 with fail
  rw [← hw0]
  clear hw0
  go_wp2
  go_loopg [3, 4] h.n (fun g ov iv wr => ∃ j : Nat, j ≤ h.n ∧ g = h.n - j ∧ iv = .int .i64 j ∧ wr.ownsRow w0.heap.size 3 1 ov (obL h j).length ((obL h j).map (Value.int .i64)) ∧ Below w0.heap.size w0 wr)
  case atStart => exact ⟨0, by omega, by omega, rfl, World.ownsRow_nil _ _ _ _, Below.refl _ _⟩
  case round =>
    obtain ⟨j, jh, rfl, rfl, hown, hbw⟩ := hrel
    have gr := gB.below hbw
    clear x0 x1 x2 l0
    obtain ⟨l0, x0, x1, x2, -, -, -⟩ := id gr
    have hsz : w0.heap.size ≤ wr.heap.size := hbw.size
    by_cases hj : j < h.n
    · have hG := rget8_any p c q d h j wr (hat.below hbw) hF'.out
      have hl := hlen j
      cases ho : obB h j with
      | true =>
        rw [ho] at hG
        have e1 := obL_yes ho
        generalize obC h j = C at *
        generalize obK h j = K at *
        generalize obN h j = N at *
        clear ho
        go_wp2_with (first
    | (go_at_call 56; refine Calls.mono (hG) ?_; rintro e w' ⟨rfl, hb⟩; obtain ⟨hc, hf, hb, hz⟩ := bstep hb (w := wr) (by go_grown); try simp only [World.size_alloc, World.size_setCell, World.size_drew] at hc hf hz)
          | (at_builtin; refine wpList_append_own _ rfl (.tmp 21) (.tmp 23) 29 rfl w0.heap.size 3 i0 (.int .i64 0) 1 8 Tryd.underlying29 hi hz0 hz1 hz2 rfl (by decide) _ _ _ rfl (((owned_below hown hb).alloc _).alloc _) ⟨w'.heap.size + 1, 0, none⟩ 1 1 [.int .i64 (j : Int)] rfl rfl (by have := one_new (w'.alloc (.cells #[.bool true, .bool C, .int .i64 K, .int .i64 N] 52)) (.int .i64 (j : Int)) 3; simpa using this) (by simp [Value.oneCell']) (by simp only [maxLen]; omega) (by omega) (by simp; omega) ?_; intro ov w1 hown' hgrow _)
        )
        have hown2 : w1.ownsRow w0.heap.size 3 1 ov (obL h (j + 1)).length ((obL h (j + 1)).map (Value.int .i64)) := by rw [e1]; simpa using hown'
        have hb2 := ((bjoin hb hbw).alloc (by have := hb.size; omega) (.cells #[.bool true, .bool C, .int .i64 K, .int .i64 N] 52)).alloc (by have := hb.size; simp; omega) (.cells #[.int .i64 (j : Int)] 3)
        have hb3 := hb2.grown hgrow (by have := hb.size; simp; omega) (fun k hk => (hown.lt k hk).1)
        go_roundg (h.n - (j + 1))
        case measure => omega
        case rel => exact ⟨j + 1, by omega, rfl, by go_num, hown2, hb3⟩
      | false =>
        obtain ⟨o1, o2, o3⟩ := ob_no ho
        rw [ho, o1, o2, o3] at hG
        have e1 := obL_no ho
        clear ho o1 o2 o3
        go_wp2_with (first
    | (go_at_call 56; refine Calls.mono (hG) ?_; rintro e w' ⟨rfl, hb⟩; obtain ⟨hc, hf, hb, hz⟩ := bstep hb (w := wr) (by go_grown); try simp only [World.size_alloc, World.size_setCell, World.size_drew] at hc hf hz)
        )
        have hown2 : (w'.alloc (.cells #[.bool false, .bool false, .int .i64 0, .int .i64 0] 52)).ownsRow w0.heap.size 3 1 u3 (obL h (j + 1)).length ((obL h (j + 1)).map (Value.int .i64)) := by rw [e1]; exact (owned_below hown hb).alloc _
        have hb2 := (bjoin hb hbw).alloc (by have := hb.size; omega) (.cells #[.bool false, .bool false, .int .i64 0, .int .i64 0] 52)
        go_roundg (h.n - (j + 1))
        case measure => omega
        case rel => exact ⟨j + 1, by omega, rfl, by go_num, hown2, hb2⟩
    · obtain rfl : j = h.n := by omega
      obtain ⟨q', cap', rfl, -⟩ := owned_new hown
      go_wp2
      go_returns
      exact ⟨_, rfl, owned_base hown hsz0, bjoin hbw hst⟩

end Go.Proofs.YtmkcjolaboggnaaDoor
