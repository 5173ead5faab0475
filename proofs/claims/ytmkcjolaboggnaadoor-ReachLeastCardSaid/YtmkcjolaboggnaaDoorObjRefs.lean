/- To what an object refers; two rows of numbers compared (chapter 8). -/
import Derived.Test.YtmkcjolaboggnaaDoorObject
namespace Go.Proofs.YtmkcjolaboggnaaDoor
set_option linter.unusedSimpArgs false
set_option linter.unusedVariables false
open Go.ChangeShapes Go.WideShapes Go.ChangeAt Go.RowKit Go.Joins

/-- The first k fields' references. -/
def rfL (h : Hp) (a : Int) : Nat → List Int
  | 0 => []
  | k + 1 => if getK (woH h (a + 1 + k)) = 2 then rfL h a k ++ [getN (woH h (a + 1 + k))] else rfL h a k
theorem rfL_yes {h : Hp} {a : Int} {k : Nat} (e : getK (woH h (a + 1 + k)) = 2) : rfL h a (k + 1) = rfL h a k ++ [getN (woH h (a + 1 + k))] := by simp only [rfL]; rw [if_pos e]
theorem rfL_no {h : Hp} {a : Int} {k : Nat} (e : ¬ getK (woH h (a + 1 + k)) = 2) : rfL h a (k + 1) = rfL h a k := by simp only [rfL]; rw [if_neg e]
theorem rfL_len (h : Hp) (a : Int) : ∀ k, (rfL h a k).length ≤ k
  | 0 => by simp [rfL]
  | k + 1 => by
    have := rfL_len h a k
    by_cases e : getK (woH h (a + 1 + k)) = 2
    · rw [rfL_yes e]; simp; omega
    · rw [rfL_no e]; omega
def rfH (h : Hp) (a : Int) : List Int := rfL h a (obN h a).toNat
theorem int_info' : (Tryd.prog.info? 3).map (fun i => (i.zero, i.size, i.bytes)) = some (some (.int .i64 0), 1, 8) := by kernel_rfl

theorem ob_room {h : Hp} {a : Int} (hF : formB h = true) (e : obB h a = true) : a + 1 < h.n := by
  obtain ⟨hf, -, a0, a1, -, a3, -⟩ := ob_spec hF e
  obtain ⟨-, -, -, -, -, i0, i1, ea⟩ := fi_spec hF hf
  rcases cl_cases (spH h (a / 32)).cl with ⟨-, e1, e2, -⟩ | ⟨-, e1, e2, -⟩ | ⟨-, e1, e2, -⟩ | ⟨-, e1, e2, -⟩ | ⟨-, e1, e2, -⟩
  all_goals
    rw [e1] at ea
    rw [e2] at i1
    omega
set_option maxHeartbeats 4000000 in
theorem orefs_any (p : Option Addr) (c : Nat) (q : Option Addr) (d : Nat) (h : Hp) (a : Int) (w : World) (hS : Sz w) (hh : HpAt w p c q d h) (hF : formB h = true) :
    Calls Tryd.prog 15 #[.agg #[.slice p h.n c, .slice q h.m d, .bool h.b], .int .i64 a] w fun e w' => ∃ v, e = .returned v ∧ w'.ownsRow w.heap.size 3 1 v (rfH h a).length ((rfH h a).map (Value.int .i64)) ∧ Below w.heap.size w w' := by
  obtain ⟨w0, hw0⟩ : ∃ w0, w0 = w.alloc (.cells #[.slice p h.n c, .slice q h.m d, .bool h.b] 25) := ⟨_, rfl⟩
  have gB : Box3 w.heap.size (.slice p h.n c) (.slice q h.m d) (.bool h.b) w0 := by rw [hw0]; exact Box3.new _ _ _ _ _
  have hst : Below w.heap.size w w0 := by rw [hw0]; go_grown
  have hat := hh.below hst
  have hG := oget_any p c q d h a w0 (hS.below hst) hat hF
  obtain ⟨l0, x0, x1, x2, -, -, -⟩ := id gB
  cases ho : obB h a with
  | false =>
    obtain ⟨o1, o2, o3⟩ := ob_no ho
    have eL : rfH h a = [] := by unfold rfH; rw [o3]; rfl
    rw [eL]
    rw [ho, o1, o2, o3] at hG
    clear hF hat hh ho o1 o2 o3 eL
    go_enter Tryd.func15, Tryd.ntmps15
    go_upto_region 1 with fail
    rw [← hw0]
    clear hw0
    go_wp2_with (first
    | (go_at_call 18; refine Calls.mono (hG) ?_; rintro e w' ⟨rfl, hb⟩; obtain ⟨hc, hf, hb, hz⟩ := bstep hb (w := w0) (by go_grown); try simp only [World.size_alloc, World.size_setCell, World.size_drew] at hc hf hz)
    )
    go_returns
    exact ⟨_, rfl, World.ownsRow_nil _ _ _ _, by go_grown; exact bjoin hb hst⟩
  | true =>
    obtain ⟨-, -, a0, a1, a2, a3, -, -, a4, -⟩ := ob_spec hF ho
    have hrm := ob_room hF ho
    have hN := gN_bound (X := woH h a)
    rw [← a4] at hN a2
    have hnl : h.n ≤ 512 := by have := form_iff.1 hF; omega
    have hcp := hat.ncap.1
    have eL : rfH h a = rfL h a (obN h a).toNat := rfl
    rw [eL]
    rw [ho] at hG
    obtain ⟨i0, hi, hz0, hz1, hz2⟩ := info_parts int_info'
    have hlen := fun k => rfL_len h a k
    obtain ⟨⟨b, off, rfl, hlt, -⟩, -⟩ := hat.ints 0 (by omega)
    generalize obN h a = N at *
    generalize obC h a = C at *
    generalize obK h a = K at *
    obtain ⟨M, rfl⟩ : ∃ M : Nat, N = (M : Int) := ⟨N.toNat, by omega⟩
    rw [Int.toNat_natCast]
    have hi' : a + 1 + M ≤ c := by omega
    have lo' : a + 1 ≤ a + 1 + (M : Int) := by omega
    have hhi : a + 1 + M ≤ h.n := by omega
    have hne : ¬ c = (a + 1).toNat := by omega
    obtain ⟨N0, N1⟩ := hN
    clear ho eL a2 a3 a4 hF
    go_enter Tryd.func15, Tryd.ntmps15
    go_upto_region 1 with fail
    rw [← hw0]
    clear hw0
    go_upto_region 6 with (first
    | (go_at_call 18; refine Calls.mono (hG) ?_; rintro e w' ⟨rfl, hb⟩; obtain ⟨hc, hf, hb, hz⟩ := bstep hb (w := w0) (by go_grown); try simp only [World.size_alloc, World.size_setCell, World.size_drew] at hc hf hz)
    )
    have hlM : (a + 1 + (M : Int)).toNat - (a + 1).toNat = M := by omega
    rw [hlM]
    obtain ⟨w5, hw5⟩ : ∃ W, W = w'.alloc (.cells #[.bool true, .bool C, .int .i64 K, .int .i64 (M : Int)] 52) := ⟨_, rfl⟩
    have hb5 : Below w.heap.size w w5 := by rw [hw5]; exact bjoin ((Below.refl _ _).alloc (Nat.le_refl _) _) (bjoin hb hst)
    rw [← hw5]
    clear hw5 hc hf hb hz hlM x0 x1 x2 l0 gB hat hG hS hst hi' lo' hne hcp hlt
    go_wp2
    go_loopg [7, 30] M (fun g ov iv wr => ∃ j : Nat, j ≤ M ∧ g = M - j ∧ iv = .int .i64 j ∧ wr.ownsRow w.heap.size 3 1 ov (rfL h a j).length ((rfL h a j).map (Value.int .i64)) ∧ Below w.heap.size w wr)
    case atStart => exact ⟨0, by omega, by omega, rfl, World.ownsRow_nil _ _ _ _, hb5⟩
    case round =>
      obtain ⟨j, jh, rfl, rfl, hown, hbw⟩ := hrel
      by_cases hj : j < M
      · obtain ⟨⟨b', off', e, hlt, v0⟩, -⟩ := (hh.below hbw).ints (a + 1 + j).toNat (by omega)
        injection e with e
        injection e with e1 e2
        subst e1 e2
        have ea : off + (a + 1 + (j : Int)).toNat = off + (a + 1).toNat + j := by omega
        rw [ea, show h.z (a + 1 + (j : Int)).toNat = woH h (a + 1 + j) from rfl] at v0
        obtain ⟨X0, X1⟩ := wo_wf hh.wf (show 0 ≤ a + 1 + (j : Int) by omega) (by omega)
        have hV := get_any (woH h (a + 1 + j))
        have hl := hlen j
        have hsz : w.heap.size ≤ wr.heap.size := hbw.size
        by_cases e : getK (woH h (a + 1 + j)) = 2
        · have eY := rfL_yes e
          rw [e] at hV
          generalize getN (woH h (a + 1 + j)) = Y at *
          generalize woH h (a + 1 + j) = X at *
          clear e ea
          go_wp2_with (first
    | (go_at_call 28; refine Calls.mono (hV _ X0 X1) ?_; rintro e w' ⟨rfl, hb⟩; obtain ⟨hc, hf, hb, hz⟩ := bstep hb (w := wr) (by go_grown); try simp only [World.size_alloc, World.size_setCell, World.size_drew] at hc hf hz)
          | (at_builtin; refine wpList_append_own _ rfl (.tmp 39) (.tmp 42) 29 rfl w.heap.size 3 i0 (.int .i64 0) 1 8 Tryd.underlying29 hi hz0 hz1 hz2 rfl (by decide) _ _ _ rfl (((owned_below hown hb).alloc _).alloc _) ⟨w'.heap.size + 1, 0, none⟩ 1 1 [.int .i64 Y] rfl rfl (by have := one_new (w'.alloc (.cells #[.int .i64 2, .int .i64 Y] 33)) (.int .i64 Y) 3; simpa using this) (by simp [Value.oneCell']) (by simp only [maxLen]; omega) (by omega) (by simp; omega) ?_; intro ov w1 hown' hgrow _)
          )
          have hown2 : w1.ownsRow w.heap.size 3 1 ov (rfL h a (j + 1)).length ((rfL h a (j + 1)).map (Value.int .i64)) := by rw [eY]; simpa using hown'
          have hb2 := ((bjoin hb hbw).alloc (by have := hb.size; omega) (.cells #[.int .i64 2, .int .i64 Y] 33)).alloc (by have := hb.size; simp; omega) (.cells #[.int .i64 Y] 3)
          have hb3 := hb2.grown hgrow (by have := hb.size; simp; omega) (fun k hk => (hown.lt k hk).1)
          go_roundg (M - (j + 1))
          case measure => omega
          case rel => exact ⟨j + 1, by omega, rfl, by go_num, hown2, hb3⟩
        · have eY := rfL_no e
          have eK : (getK (woH h (a + 1 + j)) == 2) = false := by simp [e]
          generalize getN (woH h (a + 1 + j)) = Y at *
          generalize getK (woH h (a + 1 + j)) = Z at *
          generalize woH h (a + 1 + j) = X at *
          clear e ea
          go_wp2_with (first
    | (go_at_call 28; refine Calls.mono (hV _ X0 X1) ?_; rintro e w' ⟨rfl, hb⟩; obtain ⟨hc, hf, hb, hz⟩ := bstep hb (w := wr) (by go_grown); try simp only [World.size_alloc, World.size_setCell, World.size_drew] at hc hf hz)
          )
          have hown2 : (w'.alloc (.cells #[.int .i64 Z, .int .i64 Y] 33)).ownsRow w.heap.size 3 1 u7 (rfL h a (j + 1)).length ((rfL h a (j + 1)).map (Value.int .i64)) := by rw [eY]; exact (owned_below hown hb).alloc _
          have hb2 := (bjoin hb hbw).alloc (by have := hb.size; omega) (.cells #[.int .i64 Z, .int .i64 Y] 33)
          go_roundg (M - (j + 1))
          case measure => omega
          case rel => exact ⟨j + 1, by omega, rfl, by go_num, hown2, hb2⟩
      · obtain rfl : j = M := by omega
        obtain ⟨q', cap', rfl, -⟩ := owned_new hown
        go_wp2
        go_returns
        exact ⟨_, rfl, hown, hbw⟩

set_option maxHeartbeats 1000000 in
theorem rints8_any (p q : Option Addr) (n cap m cap' : Nat) (z y : Nat → Int) (w : World) (hz : Ints .i64 w p n z) (hy : Ints .i64 w q m y) (hn : n ≤ maxLen) (hm : m ≤ maxLen) :
    Calls Tryd.prog 8 #[.slice p n cap, .slice q m cap'] w fun e w' => e = .returned (.bool (sameZ n z m y)) ∧ Below w.heap.size w w' := by
  simp only [maxLen] at hn hm
  by_cases hnm : n = m
  · subst hnm
    go_enter Tryd.func8, Tryd.ntmps8
    go_wp2
    go_loopg [5] n (fun g jv wr => ∃ j : Int, 0 ≤ j ∧ j ≤ n ∧ g = (n - j).toNat ∧ jv = .int .i64 j ∧ (∀ t : Nat, t < j → z t = y t) ∧ Below w.heap.size w wr)
    case atStart => exact ⟨0, by omega, by omega, by omega, rfl, fun t ht => by omega, Below.refl _ _⟩
    case round =>
      obtain ⟨j, jl, jh, rfl, rfl, hall, hbw⟩ := hrel
      by_cases hj : j < n
      · obtain ⟨⟨b, off, rfl, hlt, hcell⟩, hwf⟩ := (hz.below hbw) j.toNat (by omega)
        obtain ⟨⟨b', off', rfl, hlt', hcell'⟩, hwf'⟩ := (hy.below hbw) j.toNat (by omega)
        by_cases e : z j.toNat = y j.toNat
        · go_wp2
          go_region
          all_goals
            go_wp2
            go_roundg ((n : Int) - (j + 1)).toNat
            case measure => omega
            case rel => exact ⟨j + 1, by omega, by omega, rfl, rfl, fun t ht => by
              by_cases ht' : (t : Int) < j
              · exact hall t ht'
              · obtain rfl : t = j.toNat := by omega
                exact e, by go_grown⟩
        · have e' : sameZ n z n y = false := by
            simp only [sameZ, decide_eq_false_iff_not]
            exact fun h => e (h.2 _ (by omega))
          go_wp2
          go_region
          all_goals
            go_wp2
            go_returns
            exact ⟨ret_bool (by simp [e']), by go_grown⟩
      · have e' : sameZ n z n y = true := by
          simp only [sameZ, decide_eq_true_eq]
          exact ⟨trivial, fun t ht => hall t (by omega)⟩
        go_wp2
        go_returns
        exact ⟨ret_bool (by simp [e']), by go_grown⟩
  · have e' : sameZ n z m y = false := by simp [sameZ, hnm]
    have hnm' : ¬ (n : Int) = m := by omega
    go_enter Tryd.func8, Tryd.ntmps8
    go_wp2
    go_returns
    exact ⟨ret_bool (by simp [e']), by go_grown⟩
end Go.Proofs.YtmkcjolaboggnaaDoor
