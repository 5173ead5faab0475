/- The addresses of all objects, rising (chapter 8): a range over a function. -/
import Derived.RangeFuncBox
import Derived.RangeFuncNested
import Derived.RangeFuncLeaves
import Derived.RangeFuncCalls
import Derived.Shelf.Abstract
import Derived.WalkKit
import Derived.OwnWalkIn
import Derived.TacticsInMore
import Derived.LoopNIn
import Derived.LoopIn
import Derived.Maps.AppendAt
import Derived.Test.YtmkcjolaboggnaaDoorObject
namespace Go.Proofs.YtmkcjolaboggnaaDoor
set_option linter.unusedSimpArgs false
set_option linter.unusedVariables false
open Go.ChangeShapes Go.WideShapes Go.ChangeAt Go.RowKit Go.Joins

attribute [local go_sem] Oper.semAt_some

def obL (h : Hp) : Nat → List Int
  | 0 => []
  | k + 1 => if obB h k = true then obL h k ++ [(k : Int)] else obL h k
theorem obL_yes {h : Hp} {k : Nat} (e : obB h k = true) : obL h (k + 1) = obL h k ++ [(k : Int)] := by simp [obL, e]
theorem obL_no {h : Hp} {k : Nat} (e : obB h k = false) : obL h (k + 1) = obL h k := by simp [obL, e]
theorem obL_len (h : Hp) : ∀ k, (obL h k).length ≤ k
  | 0 => by simp [obL]
  | k + 1 => by
    have := obL_len h k
    unfold obL
    split
    · simp; omega
    · omega
theorem obL_mem (h : Hp) (x : Int) : ∀ k : Nat, x ∈ obL h k ↔ 0 ≤ x ∧ x < k ∧ obB h x = true
  | 0 => by simp [obL]; omega
  | k + 1 => by
    have ih := obL_mem h x k
    by_cases e : obB h k = true
    · rw [obL_yes e, List.mem_append, ih]
      simp only [List.mem_cons, List.not_mem_nil, or_false]
      constructor
      · rintro (⟨a, b, c⟩ | rfl)
        · exact ⟨a, by omega, c⟩
        · exact ⟨by omega, by omega, e⟩
      · rintro ⟨a, b, c⟩
        by_cases ex : x = k
        · exact .inr ex
        · exact .inl ⟨a, by omega, c⟩
    · rw [obL_no (by simpa using e), ih]
      constructor
      · rintro ⟨a, b, c⟩; exact ⟨a, by omega, c⟩
      · rintro ⟨a, b, c⟩
        by_cases ex : x = k
        · subst ex; exact absurd c e
        · exact ⟨a, by omega, c⟩
theorem obL_rise (h : Hp) : ∀ k : Nat, (obL h k).Pairwise (· < ·)
  | 0 => by simp [obL]
  | k + 1 => by
    have ih := obL_rise h k
    by_cases e : obB h k = true
    · rw [obL_yes e, List.pairwise_append]
      refine ⟨ih, by simp, fun a ha b hb => ?_⟩
      simp only [List.mem_cons, List.not_mem_nil, or_false] at hb
      subst hb
      exact ((obL_mem h a k).1 ha).2.1
    · rw [obL_no (by simpa using e)]; exact ih
theorem map_vals (k : IntKind) (L : List Int) : L.map (Value.int k) = vals k L.length fun i => L[i]?.getD 0 := by
  apply List.ext_getElem
  · simp [vals]
  · intro i h1 h2
    have : i < L.length := by simpa using h1
    simp [vals, this]

theorem below_grows {w w' : World} (h : Below w.heap.size w w') : w.grownBy w' none := ⟨h.os, h.tape, h.output, h.size, fun k hk _ => h.block k hk⟩

set_option maxHeartbeats 1000000 in
theorem oobjs_any (v0 v1 v2 : Value) (w : World) :
    Calls Tryd.prog 40 #[.agg #[v0, v1, v2]] w fun e w' => e = .returned (.func (.func 61) #[] #[.pointer (some ⟨w.heap.size, 0, none⟩)]) ∧ w' = w.alloc (.cells #[v0, v1, v2] 25) := by
  go_enter Tryd.func40, Tryd.ntmps40
  go_wp2
  go_returns
  exact ⟨rfl, rfl⟩

set_option maxRecDepth 100000 in
set_option maxHeartbeats 4000000 in
theorem oobjs1_in (l Bn : Nat) (p : Option Addr) (c : Nat) (q : Option Addr) (d : Nat) (h : Hp) (w0 : World) (hS : Sz w0) (hh : HpAt w0 p c q d h) (hF : formB h = true) (J Jx : List Int → World → Prop) (W : World) (hJ : AbidesFrom W.heap.size J)
    (hY : ∀ pre x W1, J pre W1 → pre.length < h.n → YieldAt Fence.wide 1 Tryd.prog l #[.int .i64 x] W1 fun e W' =>
      (e = .returned (.bool true) ∧ J (pre ++ [x]) W' ∧ Below w0.heap.size W1 W' ∧ (Box3 Bn (.slice p h.n c) (.slice q h.m d) (.bool h.b) W1 → Box3 Bn (.slice p h.n c) (.slice q h.m d) (.bool h.b) W')) ∨ (e = .returned (.bool false) ∧ Jx (pre ++ [x]) W'))
    (hB : Below w0.heap.size w0 W) (hBn : Box3 Bn (.slice p h.n c) (.slice q h.m d) (.bool h.b) W) (h0 : J [] W) :
    CallsIn Fence.wide 2 Tryd.prog 61 #[.func (.yield l) #[] #[], .pointer (some ⟨Bn, 0, none⟩)] W fun e W' => (∃ v, e = .returned v) ∧
      ((∃ ys, ys = obL h h.n ∧ J ys W') ∨ (∃ pre, (∃ k, k ≤ h.n ∧ pre = obL h k) ∧ Jx pre W')) := by
  have hnl : h.n ≤ 512 := by have := form_iff.1 hF; omega
  have hF' : Hid (formB h = true) := hF
  clear hF
  refine callsIn_of_wp Tryd.func61 rfl trivial ?_ rfl
  simp only [Tryd.ntmps61, List.size_toArray, List.length_cons, List.length_nil, Nat.reduceAdd, Nat.reduceSub, Array.replicate_succ, Array.replicate_zero, List.push_toArray, List.append_toArray, List.nil_append, List.cons_append]
  obtain ⟨l0, x0, x1, x2, -, -, -⟩ := id hBn
  gi_wp2
  gi_loopw [9] (fun i wr => ∃ k : Nat, k ≤ h.n ∧ i = .int .i64 k ∧ J (obL h k) wr ∧ Below w0.heap.size w0 wr ∧ Box3 Bn (.slice p h.n c) (.slice q h.m d) (.bool h.b) wr)
    (fun i _ => h.n - (intOf i).toNat)
  case atStart => exact ⟨0, Nat.zero_le _, rfl, h0, hB, hBn⟩
  case round =>
    clear h0 hB l0 x0 x1 x2 hBn
    obtain ⟨k, hk, rfl, hJs, hb0, hBx⟩ := hrel
    obtain ⟨l0, x0, x1, x2, -, -, -⟩ := id hBx
    have hSr := hS.below hb0
    have hhr := hh.below hb0
    by_cases hlt : k < h.n
    · have hG := oget_any p c q d h k wr hSr hhr hF'.out
      cases ho : obB h k with
      | true =>
        rw [ho] at hG
        have e1 := obL_yes ho
        generalize obC h k = C at *
        generalize obK h k = K at *
        generalize obN h k = N at *
        clear ho hSr hhr
        gi_wp2_with (refine ⟨trivial, ?_⟩; gi_at_call 18; refine (callsIn_wide.2 hG).mono ?_; rintro e w' ⟨rfl, hbG⟩; have hb1 : Below wr.heap.size wr (w'.alloc (.cells #[.bool true, .bool C, .int .i64 K, .int .i64 N] 52)) := hbG.alloc hbG.size _; have hJ1 := hJ _ _ _ _ hJs (below_grows hb1) (fun r e => (by cases e)); have hBx1 := hBx.below hb1; obtain ⟨fn, tmps, assign, body, hy, hR⟩ := hY _ (k : Int) _ hJ1 (by have := obL_len h k; omega))
        refine hR.mono ?_
        rintro e W3 (⟨rfl, hJ3, hk3, hB3⟩ | ⟨rfl, hJx3⟩)
        · have hbn : Below w0.heap.size w0 W3 := (bjoin hb1 hb0).trans hk3
          have hBx3 := hB3 hBx1
          gi_wp2
          go_roundw
          case rel => exact ⟨k + 1, by omega, by simp, by rw [e1]; exact hJ3, hbn, hBx3⟩
          case measure => simp [intOf]; omega
        · gi_wp2
          refine bodyPost_ret (results_none rfl _ _ _) rfl ?_
          exact ⟨⟨_, rfl⟩, .inr ⟨_, ⟨k + 1, by omega, e1.symm⟩, hJx3⟩⟩
      | false =>
        obtain ⟨o1, o2, o3⟩ := ob_no ho
        rw [ho, o1, o2, o3] at hG
        have e1 := obL_no ho
        clear ho o1 o2 o3 hSr hhr
        gi_wp2_with (refine ⟨trivial, ?_⟩; gi_at_call 18; refine (callsIn_wide.2 hG).mono ?_; rintro e w' ⟨rfl, hbG⟩; have hb1 : Below wr.heap.size wr (w'.alloc (.cells #[.bool false, .bool false, .int .i64 0, .int .i64 0] 52)) := hbG.alloc hbG.size _; have hJ1 := hJ _ _ _ _ hJs (below_grows hb1) (fun r e => (by cases e)); have hBx1 := hBx.below hb1)
        refine ⟨fun _ h => (by cases h), ?_⟩
        gi_wp2
        go_roundw
        case rel => exact ⟨k + 1, by omega, by simp, by rw [e1]; exact hJ1, bjoin hb1 hb0, hBx1⟩
        case measure => simp [intOf]; omega
    · obtain rfl : k = h.n := by omega
      gi_wp2
      go_end0
      exact ⟨⟨_, rfl⟩, .inl ⟨_, rfl, hJs⟩⟩

theorem int_info : (Tryd.prog.info? 3).map (fun i => (i.zero, i.size, i.bytes)) = some (some (.int .i64 0), 1, 8) := by kernel_rfl
/-- The box stays. -/
def KeepsBox (n₀ Bn : Nat) (x y z : Value) (A B : World) : Prop := Below n₀ A B ∧ (Box3 Bn x y z A → Box3 Bn x y z B)
theorem box_putObj {b l : Nat} {x y z : Value} {W : World} (h : Box3 b x y z W) (hl : b < l) (o : Obj) : Box3 b x y z (W.putObj l o) :=
  h.grown (grownBy_putObj' W l o) (by simp; omega)
theorem obj_stops (Bn : Nat) (p : Option Addr) (c : Nat) (q : Option Addr) (d : Nat) (h : Hp) (w0 : World) (hS : Sz w0) (hh : HpAt w0 p c q d h) (hF : formB h = true) (w : World) (hB : Below w0.heap.size w0 w) (hBn : Box3 Bn (.slice p h.n c) (.slice q h.m d) (.bool h.b) w) :
    SeqStopsK Fence.wide 2 Tryd.prog 61 #[.pointer (some ⟨Bn, 0, none⟩)] (fun x : Int => #[Value.int .i64 x]) (KeepsBox w0.heap.size Bn (.slice p h.n c) (.slice q h.m d) (.bool h.b)) (fun ys => ys = obL h h.n) (fun pre => ∃ k, k ≤ h.n ∧ pre = obL h k) h.n w := fun l J Jx W hW hJ _ hY h0 =>
  oobjs1_in l Bn p c q d h w0 hS hh hF J Jx W hJ hY (bjoin hW hB) (hBn.below hW) h0

set_option maxRecDepth 100000 in
set_option maxHeartbeats 4000000 in
theorem olist_any (p : Option Addr) (c : Nat) (q : Option Addr) (d : Nat) (h : Hp) (w : World) (hS : Sz w) (hh : HpAt w p c q d h) (hF : formB h = true) :
    Calls Tryd.prog 22 #[.agg #[.slice p h.n c, .slice q h.m d, .bool h.b]] w fun e w' => ∃ v, e = .returned v ∧ w'.ownsRow w.heap.size 3 1 v (obL h h.n).length ((obL h h.n).map (Value.int .i64)) ∧ Below w.heap.size w w' := by
  have hnl : h.n ≤ 512 := by have := form_iff.1 hF; omega
  have hLl := obL_len h h.n
  obtain ⟨i0, hi, hz0, hz1, hz2⟩ := info_parts int_info
  have hF' : Hid (formB h = true) := hF
  clear hF
  refine (callsIn_wide (n := 3)).1 ?_
  refine callsIn_of_wp_marks Tryd.func22 rfl trivial ?_ rfl
  simp only [Tryd.ntmps22, List.size_toArray, List.length_cons, List.length_nil, Nat.reduceAdd, Nat.reduceSub, Array.replicate_succ, Array.replicate_zero, List.push_toArray, List.append_toArray, List.nil_append, List.cons_append]
  gi_wp2_with (refine ⟨trivial, ?_⟩; gi_at_call 40; refine (callsIn_wide.2 (oobjs_any _ _ _ _)).mono ?_; rintro e w' ⟨rfl, rfl⟩)
  have bL := Boxed.new (w.alloc (.cells #[.slice p h.n c, .slice q h.m d, .bool h.b] 25)) 29 (.slice none 0 0)
  have bI := Box3.new ((w.alloc (.cells #[.slice p h.n c, .slice q h.m d, .bool h.b] 25)).alloc (.cells #[.slice none 0 0] 29)) (.slice p h.n c) (.slice q h.m d) (.bool h.b) 25
  rw [World.size_alloc] at bL
  rw [World.size_alloc, World.size_alloc] at bI
  replace bL := bL.alloc (.cells #[.slice p h.n c, .slice q h.m d, .bool h.b] 25)
  have hB0 : Below w.heap.size w (((w.alloc (.cells #[.slice p h.n c, .slice q h.m d, .bool h.b] 25)).alloc (.cells #[.slice none 0 0] 29)).alloc (.cells #[.slice p h.n c, .slice q h.m d, .bool h.b] 25)) := (((Below.refl _ w).alloc (Nat.le_refl _) _).alloc (by simp) _).alloc (by simp; omega) _
  generalize hw0 : (((w.alloc (.cells #[.slice p h.n c, .slice q h.m d, .bool h.b] 25)).alloc (.cells #[.slice none 0 0] 29)).alloc (.cells #[.slice p h.n c, .slice q h.m d, .bool h.b] 25)) = w0 at *
  have hsz : w0.heap.size = w.heap.size + 3 := by rw [← hw0]; simp
  clear hw0
  refine wpIn_rangeFunc_ownG rfl (by omega) (gf := 61) (lb := #[.pointer (some ⟨w.heap.size + 1 + 1, 0, none⟩)]) rfl trivial (enters_of Tryd.func61 (by kernel_rfl) rfl)
    (obj_stops (w.heap.size + 1 + 1) p c q d h w hS hh hF'.out w0 hB0 bI) (fun a b => ⟨a.1.trans b.1, fun x => b.2 (a.2 x)⟩) (fun W l o o' hl hW hc hk => ⟨belowK_b (w := w0) (by omega) W l o o' hl hW hc hk, fun x => box_putObj x (by omega) o'⟩) (Below.refl _ _) (fun _ => rfl)
    (fun pre W => (∃ v, Boxed W (w.heap.size + 1) 29 v ∧ W.ownsRow w0.heap.size 3 1 v pre.length (pre.map (Value.int .i64)) ∧ True) ∧ Below w.heap.size w0 W)
    (fun _ _ _ => False)
    (OwnFrom.and (Own.from (holdsRow_own w0.heap.size (w.heap.size + 1) 29 3 1 (fun pre : List Int => pre.length) (fun pre : List Int => pre.map (Value.int .i64)) (fun _ _ => True)) _) (ownFrom_below (by omega) (by omega)))
    (fun _ _ _ _ _ hs _ _ => hs)
    ⟨⟨_, bL, World.ownsRow_nil _ _ _ _, trivial⟩, Below.refl _ _⟩
    (fun x => { tmps := #[.agg #[.slice p h.n c, .slice q h.m d, .bool h.b], .pointer (some ⟨w.heap.size, 0, none⟩), .slice none 0 0, .pointer (some ⟨w.heap.size + 1, 0, none⟩), .int .i64 x, .agg #[.slice p h.n c, .slice q h.m d, .bool h.b], .func (.func 61) #[] #[.pointer (some ⟨w.heap.size + 1 + 1, 0, none⟩)], .int .i64 x, undef, undef, undef, undef, undef], defers := [] }) ?assign ?body ?done ?stop
  case assign =>
    intro l x W K hK
    gi_wp2
    exact hK
  case body =>
    rintro l pre x W ⟨⟨v, hv, hrow, -⟩, hB⟩ hlt
    have hc := hv.cell
    gi_wp2_with (gi_at_builtin; refine wpListIn_append_own _ rfl _ _ 29 rfl w0.heap.size 3 i0 (.int .i64 0) 1 8 Tryd.underlying29 hi hz0 hz1 hz2 rfl (by decide) _ _ _ rfl (hrow.alloc _) ⟨W.heap.size, 0, none⟩ 1 1 [.int .i64 x] rfl rfl (cell_one_new _ _ _) (by simp [Value.oneCell']) (by simp only [maxLen]; omega) (by omega) (by have := hB.size; simp; omega) ?_; intro v' w1 hown' hgrow _; obtain ⟨g', cap', rfl⟩ := ownsRow_succ hown'; obtain ⟨hv1, hv2, hr2, hk2, hb2⟩ := hv.appended (by decide) (owned_base hrow (show w.heap.size ≤ w0.heap.size by omega)) (by have := hB.size; omega) (Nat.le_succ _) (owned_base hown' (show w.heap.size ≤ w0.heap.size by omega)) hgrow; have hc1 := hv1.cell; have hf1 := hv1.frozen)
    have hne : v.ownBlock ≠ some (w.heap.size + 1 + 1) := fun e => by have := (hrow.lt _ e).1; omega
    refine ⟨hk2.from _, ⟨hb2, fun y => ?_⟩, ⟨_, hv2, ?_, trivial⟩, hB.trans hb2⟩
    · exact ((y.below ((Below.refl _ _).alloc (Nat.le_refl _) _)).grown hgrow hne).other (g := w.heap.size + 1) (by omega) _ _
    · have := owned_setCell hown' (g := w.heap.size + 1) (fun e => by have := (hown'.lt _ e).1; omega) 0 (.slice (some ⟨g', 0, none⟩) (pre.length + 1) cap')
      simpa using this
  case done =>
    rintro D ys W hD rfl ⟨⟨v, hv, hrow, -⟩, hB⟩ hK
    have hc := hv.cell
    gi_wp2
    refine ⟨by simp, .inl ⟨_, _, rfl, run_takeDeferred hK, ?_⟩⟩
    exact ⟨_, results_tmp rfl _ _ _, v, rfl, ownsRow_putObj (owned_base hrow (show w.heap.size ≤ w0.heap.size by omega)) _ hK rfl, (hB0.trans hB).trans (belowK_b (w := w) (Nat.le_refl _) W D _ _ (by omega) hK rfl rfl)⟩
  case stop =>
    rintro D c pre W _ _ h _
    exact h.elim
end Go.Proofs.YtmkcjolaboggnaaDoor
