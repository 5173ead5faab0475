/- The contract of the reference's copy of mutators (chapter 18). -/
import Derived.Test.YtmbgodncagjncaaDoorB33
import Derived.Test.YtmbgodncagjncaaDoorB51
import Derived.Test.YtmbgodncagjncaaDoorB36
namespace Go.Proofs.YtmbgodncagjncaaDoor
set_option linter.unusedSimpArgs false
set_option linter.unusedVariables false
open Go.ChangeShapes Go.WideShapes Go.ChangeAt Go.RowKit Go.Joins

/-- A mutator whose stack is a row of the call's own. -/
def MuN (N : Nat) (W : World) (m : Mu) (L : List Value) : Prop := ∃ p c, L = m.cells p c ∧ W.ownsRow N 46 2 (.slice p m.n c) m.n (vlVals m.n m.st) ∧ m.wf
theorem muN_below {N : Nat} : CBelow (MuN N) := fun _ _ _ _ h hb => by
  obtain ⟨p, c, e, h, hr⟩ := h
  exact ⟨p, c, e, owned_below h hb, hr⟩
theorem owns_grown {M N T' e s' s m n : Nat} {xs ys : List Value} {v0 v : Value} {w w' : World} (h0 : w.ownsRow M T' s' v0 m xs) (ho : w.ownsRow N e s v n ys) (hg : w.grownBy w' v.ownBlock) (hT : ¬ T' = e) : w'.ownsRow M T' s' v0 m xs := by
  obtain ⟨hl, h1 | ⟨b, cap, cur, hvv, hb, hh, r⟩⟩ := h0
  · exact ⟨hl, .inl h1⟩
  · refine ⟨hl, .inr ⟨b, cap, cur, hvv, hb, (hg.block b (Array.getElem?_eq_some_iff.1 hh).1 fun e2 => ?_).trans hh, r⟩⟩
    rcases ho.2 with ⟨rfl, -⟩ | ⟨b', cap', cur', rfl, -, hb', -⟩
    · cases e2
    · injection e2 with e2
      subst e2
      have := hh.symm.trans hb'
      injection this with this
      injection this with _ this
      exact hT this
theorem muN_grown {M N s n : Nat} {ys L : List Value} {v : Value} {w w' : World} {m : Mu} (h : MuN M w m L) (ho : w.ownsRow N 49 s v n ys) (hg : w.grownBy w' v.ownBlock) : MuN M w' m L := by
  obtain ⟨p, c, e, h, hr⟩ := h
  exact ⟨p, c, e, owns_grown h ho hg (by decide), hr⟩
theorem mut_info : (Tryd.prog.info? 49).map (fun i => (i.zero, i.size, i.bytes)) = some (some (.agg #[.slice none 0 0, .int .i64 0, .int .i64 0, .int .i64 0, .int .i64 0, .int .i64 0, .int .i64 0, .int .i64 0, .int .i64 0, .int .i64 0, .int .i64 0, .int .i64 0, .int .i64 0]), 13, 120) := by kernel_rfl
theorem cells_new (w : World) (L : List Value) (t : TypeId) : ∀ j u, L[j]? = some u → (w.alloc (.cells L.toArray t)).cell? ((⟨w.heap.size, 0, none⟩ : Addr).add j) = some u := fun j u h => by
  rw [add_off, Nat.zero_add, (TBox.new t w L.toArray).cell]
  simpa using h
set_option maxRecDepth 20000 in
set_option maxHeartbeats 8000000 in
theorem rcopied18_any (n : Nat) (z : Nat → Mu) (p : Option Addr) (c : Nat) (w : World) (hz : RAt MuC 13 w p c n z) (hn : n ≤ 10) (hst : ∀ i, i < n → (z i).n ≤ 20) :
    Calls Tryd.prog 17 #[.slice p n c] w fun e w' => ∃ p' c', e = .returned (.slice p' n c') ∧ GrowR w.heap.size 49 13 (MuN w.heap.size) n z (.slice p' n c') w' ∧ Below w.heap.size w w' := by
  obtain ⟨t0, hq0, hq1, hq2, hq3⟩ := info_parts val_info
  obtain ⟨u0, hu0, hu1, hu2, hu3⟩ := info_parts mut_info
  go_enter Tryd.func17, Tryd.ntmps17
  go_wp2
  go_loopg [3, 4] n (fun g ov iv wr => ∃ j : Nat, j ≤ n ∧ g = n - j ∧ iv = .int .i64 j ∧ GrowR w.heap.size 49 13 (MuN w.heap.size) j z ov wr ∧ Below w.heap.size w wr)
  case atStart => exact ⟨0, by omega, by omega, rfl, growR_nil _ _ _ _ _ _, Below.refl _ _⟩
  case round =>
    obtain ⟨j, jh, rfl, rfl, hGr, hbw⟩ := hrel
    have hsz := hbw.size
    by_cases hj : j < n
    · obtain ⟨bb, off, ps, cs, rfl, lx, hc1, hv, hwf⟩ := (hz.below muC_below hbw).mu hj
      have hk20 := hst j hj
      obtain ⟨m, hm⟩ : ∃ m, Hid (m = z j) := ⟨_, rfl⟩
      rw [← hm.out] at hc1 hv hwf hk20
      obtain ⟨k, st, s, ok, oa, ob, oc, o, ⟨vk, vn⟩, c0, c1, c2, c3⟩ := m
      dsimp only [Mu.cells] at *
      have x0 := hc1 0 _ rfl
      have x1 := hc1 1 _ rfl
      have x2 := hc1 2 _ rfl
      have x3 := hc1 3 _ rfl
      have x4 := hc1 4 _ rfl
      have x5 := hc1 5 _ rfl
      have x6 := hc1 6 _ rfl
      have x7 := hc1 7 _ rfl
      have x8 := hc1 8 _ rfl
      have x9 := hc1 9 _ rfl
      have x10 := hc1 10 _ rfl
      have x11 := hc1 11 _ rfl
      have x12 := hc1 12 _ rfl
      rw [Nat.add_zero] at x0
      clear hc1
      go_upto_region 6 with fail
      obtain ⟨w1, hw1⟩ : ∃ W, W = wr.alloc (.cells #[.slice ps k cs, .int .i64 s, .int .i64 ok, .int .i64 oa, .int .i64 ob, .int .i64 oc, .int .i64 o, .int .i64 vk, .int .i64 vn, .int .i64 c0, .int .i64 c1, .int .i64 c2, .int .i64 c3] 49) := ⟨_, rfl⟩
      have gX : TBox 49 wr.heap.size #[.slice ps k cs, .int .i64 s, .int .i64 ok, .int .i64 oa, .int .i64 ob, .int .i64 oc, .int .i64 o, .int .i64 vk, .int .i64 vn, .int .i64 c0, .int .i64 c1, .int .i64 c2, .int .i64 c3] w1 := by rw [hw1]; exact TBox.new _ _ _
      have hb1 : Below wr.heap.size wr w1 := by rw [hw1]; exact (Below.refl _ _).alloc (Nat.le_refl _) _
      rw [← hw1]
      clear hw1
      have hz1 := hb1.size
      have x0' := (hb1.cell (p := ⟨bb, off + j * 13, none⟩) lx).trans x0
      have lx' := Nat.lt_of_lt_of_le lx hz1
      have hX1 : wr.heap.size < w1.heap.size := gX.lt
      have hvr := hv.row
      have hvn := hv.pnil
      have fX := gX.frozen 0
      have gX0 := gX.cell 0
      simp only [List.getElem?_toArray, List.getElem?_cons_zero] at gX0
      clear x0 x1 x2 x3 x4 x5 x6 x7 x8 x9 x10 x11 x12 lx
      go_upto_region 7 with (first
        | (at_builtin; refine wpList_append_row rfl (.tmp 16) (.tmp 21) 35 rfl w1.heap.size 46 t0 (.agg #[.int .i64 0, .int .i64 0]) 2 16 Tryd.underlying35 hq0 hq1 hq2 hq3 rfl (by decide) (.slice (some ⟨w1.heap.size, 0, none⟩) 0 0) 0 [] rfl (World.ownsRow_lit w1 #[] 0 (Nat.le_refl _) (by simp only [maxLen]; omega) rfl) ps k cs (vlVals k st) rfl (by simp [vlVals_length]) ((hvr.below hb1).below ((Below.refl _ _).alloc (Nat.le_refl _) _)).cells (vlVals_one _ _) hvn (by simp only [maxLen]; omega) (by omega) (by simp) ?_; intro ov0 w6 hown0 hgrow; rw [Nat.zero_add, List.nil_append] at hown0; obtain ⟨qn, dn, rfl, hnewR⟩ := owned_new hown0; have hb6 : Below w1.heap.size w1 w6 := ((Below.refl _ _).alloc (Nat.le_refl _) _).grown hgrow (by simp) (fun k hk => by cases hk; exact Nat.le_refl _); have fX' := (hb6.frozen (p := ⟨wr.heap.size, 0, none⟩) hX1).trans fX; have gX0' := (hb6.cell (p := ⟨wr.heap.size, 0, none⟩) hX1).trans gX0; have lX6 := Nat.lt_of_lt_of_le hX1 hb6.size)
      )
      obtain ⟨w7, hw7⟩ : ∃ W, W = w6.setCell ⟨wr.heap.size, 0, none⟩ (.slice qn k dn) := ⟨_, rfl⟩
      have gX7 : TBox 49 wr.heap.size #[.slice qn k dn, .int .i64 s, .int .i64 ok, .int .i64 oa, .int .i64 ob, .int .i64 oc, .int .i64 o, .int .i64 vk, .int .i64 vn, .int .i64 c0, .int .i64 c1, .int .i64 c2, .int .i64 c3] w7 := by rw [hw7]; exact (gX.below hb6).set 0 _
      have hown7 : w7.ownsRow w1.heap.size 46 2 (.slice qn k dn) k (vlVals k st) := by rw [hw7]; exact ownsRow_setCell_below hown0 (by show wr.heap.size < w1.heap.size; omega) _
      have hb7 : Below wr.heap.size wr w7 := by rw [hw7]; exact (hb1.trans (hb6.mono hz1)).setCell (Nat.le_refl _) _
      rw [← hw7]
      clear hw7 hown0 hnewR hgrow hb6 fX fX' gX0 gX0' lX6 gX hb1 x0' lx' hvr hvn hv
      obtain ⟨lX, x0, x1, x2, x3, x4, x5, x6, x7, x8, x9, x10, x11, x12⟩ := mu_cells gX7
      have hz7 := hb7.size
      have hGr7 := hGr.below muN_below hb7
      obtain ⟨LL, e1, e2, e3, e4⟩ := id hGr7
      clear gX7
      go_wp2_with (first
        | (at_builtin; refine wpList_append_own _ rfl (.tmp 24) (.tmp 26) 26 rfl w.heap.size 49 u0 _ 13 120 Tryd.underlying26 hu0 hu1 hu2 hu3 rfl (by decide) _ _ _ rfl (e3.1.alloc _) ⟨w7.heap.size, 0, none⟩ 1 1 [.slice qn k dn, .int .i64 s, .int .i64 ok, .int .i64 oa, .int .i64 ob, .int .i64 oc, .int .i64 o, .int .i64 vk, .int .i64 vn, .int .i64 c0, .int .i64 c1, .int .i64 c2, .int .i64 c3] rfl rfl (cells_new _ _ _) (by simp [Value.oneCell']) (by simp only [maxLen]; omega) (by omega) (by simp; omega) ?_; intro ov9 w9 hown9 hgrow9 _)
      )
      have hbA : Below w7.heap.size w7 (w7.alloc (.cells #[.slice qn k dn, .int .i64 s, .int .i64 ok, .int .i64 oa, .int .i64 ob, .int .i64 oc, .int .i64 o, .int .i64 vk, .int .i64 vn, .int .i64 c0, .int .i64 c1, .int .i64 c2, .int .i64 c3] 49)) := (Below.refl _ _).alloc (Nat.le_refl _) _
      have hb9 := ((hbw.trans (hb7.mono hsz)).trans (hbA.mono (by omega))).grown hgrow9 (by simp; omega) (fun k hk => (e3.1.lt k hk).1)
      have hnew : MuN w.heap.size w9 (z j) [.slice qn k dn, .int .i64 s, .int .i64 ok, .int .i64 oa, .int .i64 ob, .int .i64 oc, .int .i64 o, .int .i64 vk, .int .i64 vn, .int .i64 c0, .int .i64 c1, .int .i64 c2, .int .i64 c3] := by
        rw [← hm.out]
        exact ⟨qn, dn, rfl, owns_grown (owned_base (hown7.alloc _) (by omega)) (e3.1.alloc _) hgrow9 (by decide), hwf⟩
      go_roundg (n - (j + 1))
      case measure => omega
      case rel => exact ⟨j + 1, by omega, rfl, by go_num, GrowR.more e1 e2 rfl hown9 (fun i l hi => muN_grown (muN_below _ _ _ _ (e4 i l hi) hbA) (e3.1.alloc _) hgrow9) hnew, hb9⟩
    · obtain rfl : j = n := by omega
      obtain ⟨pn, cn, ff, -, -⟩ := GrowR.rat hGr (by simp only [maxLen]; omega)
      subst ff
      clear hst
      go_wp2
      go_returns
      exact ⟨pn, cn, rfl, hGr, hbw⟩
end Go.Proofs.YtmbgodncagjncaaDoor
