/- Contract of the reference's with: a heap with another span, and its words, in new memory. -/
import Derived.Test.YtjlflbaglaillaaDoorOwnedSp
import Derived.Test.YtjlflbaglaillaaDoorHeapFn
import Derived.Deep.Cut
namespace Go.Proofs.YtjlflbaglaillaaDoor
set_option linter.unusedSimpArgs false
set_option linter.unusedVariables false
open Go.ChangeShapes Go.WideShapes Go.ChangeAt Go.RowKit Go.Joins

theorem infoS : (Tryd.prog.info? 49).map (fun i => (i.zero, i.size, i.bytes)) = some (some (.agg #[.int .i64 0, .int .i64 0, .int .u32 0]), 3, 24) := by kernel_rfl
theorem four_boxes {w : World} {x0 x1 x2 y0 y1 y2 z0 z1 z2 u0 u1 u2 : Value} {t t' : TypeId} : ∃ w0, w0 = (((w.alloc (.cells #[x0, x1, x2] t)).alloc (.cells #[y0, y1, y2] t')).alloc (.cells #[z0, z1, z2] t)).alloc (.cells #[u0, u1, u2] t) ∧
    Box3 w.heap.size x0 x1 x2 w0 ∧ Box3 (w.heap.size + 1) y0 y1 y2 w0 ∧ Box3 (w.heap.size + 1 + 1) z0 z1 z2 w0 ∧ Box3 (w.heap.size + 1 + 1 + 1) u0 u1 u2 w0 ∧ Below w.heap.size w w0 ∧ w0.heap.size = w.heap.size + 4 := by
  have a0 := Box3.new w x0 x1 x2 t
  have a1 := Box3.new (w.alloc (.cells #[x0, x1, x2] t)) y0 y1 y2 t'
  have a2 := Box3.new ((w.alloc (.cells #[x0, x1, x2] t)).alloc (.cells #[y0, y1, y2] t')) z0 z1 z2 t
  have a3 := Box3.new (((w.alloc (.cells #[x0, x1, x2] t)).alloc (.cells #[y0, y1, y2] t')).alloc (.cells #[z0, z1, z2] t)) u0 u1 u2 t
  have st : ∀ (W : World) (o : Obj), Below W.heap.size W (W.alloc o) := fun W o => (Below.refl _ _).alloc (Nat.le_refl _) _
  refine ⟨_, rfl, ((a0.below (st _ _)).below (st _ _)).below (st _ _), ?_, ?_, ?_, ?_, ?_⟩
  · have := (a1.below (st _ (.cells #[z0, z1, z2] t))).below (st _ (.cells #[u0, u1, u2] t))
    simpa only [World.size_alloc] using this
  · have := a2.below (st _ (.cells #[u0, u1, u2] t))
    simpa only [World.size_alloc] using this
  · simpa only [World.size_alloc] using a3
  · exact (((st w _).trans ((st _ _).mono (by simp))).trans ((st _ _).mono (by simp; omega))).trans ((st _ _).mono (by simp; omega))
  · simp
theorem owned_setCell {w : World} {base : Nat} {e : TypeId} {size : Nat} {v : Value} {n : Nat} {xs : List Value} (h : w.ownsRow base e size v n xs) {g : Nat} (hne : v.ownBlock ≠ some g) (o : Nat) (u : Value) : (w.setCell ⟨g, o, none⟩ u).ownsRow base e size v n xs :=
  h.kept (row := some g) ⟨rfl, rfl, rfl, by simp [World.setCell], fun k _ hk => Below.heap_setCell w _ u k (fun e => hk (by rw [e]))⟩ (.inr hne)
theorem owned_base {w : World} {base base' : Nat} {e : TypeId} {size : Nat} {v : Value} {n : Nat} {xs : List Value} (h : w.ownsRow base e size v n xs) (hb : base' ≤ base) : w.ownsRow base' e size v n xs := by
  obtain ⟨hl, h0 | ⟨g, cap, cur, hv, hg, r⟩⟩ := h
  · exact ⟨hl, .inl h0⟩
  · exact ⟨hl, .inr ⟨g, cap, cur, hv, by omega, r⟩⟩
theorem owned_row {w : World} {base : Nat} {e : TypeId} {v : Value} {n : Nat} {s : Nat → Sp} {y : Sp} (h : w.ownsRow base e 3 v (n + 1) (spVals n s ++ y.vals)) (e1 : s n = y) : w.ownsRow base e 3 v (n + 1) (spVals (n + 1) s) := by
  rw [← spVals_snoc, e1]; exact h
set_option maxHeartbeats 8000000 in
theorem rwithH_any (p : Option Addr) (c : Nat) (q : Option Addr) (d : Nat) (h : Hp) (g : Int) (x : Sp) (w : World) (hh : HpAt w p c q d h) (hx : x.wf) (hn : h.n ≤ 17592186043904) (hm16 : h.m ≤ 16) :
    Calls Tryd.prog 42 #[.agg #[.slice p h.n c, .slice q h.m d, .bool h.b], .int .i64 g, .agg #[.int .i64 x.st, .int .i64 x.cl, .int .u32 x.fr]] w fun e w' => ∃ p' c' q' d', e = .returned (.agg #[.slice p' h.n c', .slice q' h.m d', .bool h.b]) ∧
      w'.ownsRow w.heap.size 50 1 (.slice p' h.n c') h.n (vals .u64 h.n h.z) ∧ w'.ownsRow w.heap.size 49 3 (.slice q' h.m d') h.m (spVals h.m (setS h.s g x)) ∧ (∀ b b', (Value.slice p' h.n c').ownBlock = some b → (Value.slice q' h.m d').ownBlock = some b' → b ≠ b') ∧ Below w.heap.size w w' := by
  obtain ⟨i0, hi, hz0, hz1, hz2⟩ := info_parts infoW
  obtain ⟨i1, hi', hz0', hz1', hz2'⟩ := info_parts infoS
  go_enter Tryd.func42, Tryd.ntmps42
  go_upto_region 2 with fail
  obtain ⟨w0, hw0, hB0, hB1, hB2, hB3, hbA, hsz⟩ := four_boxes (w := w) (x0 := .slice p h.n c) (x1 := .slice q h.m d) (x2 := .bool h.b) (y0 := .int .i64 x.st) (y1 := .int .i64 x.cl) (y2 := .int .u32 x.fr) (z0 := .slice none 0 0) (z1 := .slice none 0 0) (z2 := .bool false) (u0 := .slice none 0 0) (u1 := .slice none 0 0) (u2 := .bool h.b) (t := 25) (t' := 49)
  rw [← hw0]
  clear hw0
  have hin := hh.ints.below hbA
  have hsp := hh.spans
  have hpn := hh.pnil
  have hB0' := hB0
  obtain ⟨l0, k0, k1, k2, -, -, -⟩ := hB0
  have hb3 := hB3
  obtain ⟨l3, j0, j1, j2, f0, f1, f2⟩ := hb3
  have hle : w.heap.size ≤ w0.heap.size := by omega
  go_upto_region 3 with (first
    | (at_builtin; refine wpList_append_ints rfl (.tmp 14) (.tmp 16) 22 rfl (w.heap.size + 4) 50 i0 (.int .u64 0) 8 Tryd.underlying22 hi hz0 hz1 hz2 rfl (.slice none 0 0) 0 [] rfl (World.ownsRow_nil w0 _ _ _) .u64 p h.n c h.z rfl hin hpn (by simp only [maxLen]; omega) (by omega) (by omega) ?_; intro ov w1 hown1 hgrow1; obtain ⟨q1, c1, rfl, hq1⟩ := owned_new hown1; have hb3' := hB3.grown hgrow1 (by simp [Value.ownBlock]); obtain ⟨l3', j0', j1', j2', f0', f1', f2'⟩ := hb3')
  )
  have hst : Below w0.heap.size w0 w1 := (Below.refl _ _).grown hgrow1 (Nat.le_refl _) (by intro k hk; simp [Value.ownBlock] at hk)
  obtain ⟨w2, hw2⟩ : ∃ w2, w2 = w1.setCell ⟨w.heap.size + 1 + 1 + 1, 0, none⟩ (.slice q1 h.n c1) := ⟨_, rfl⟩
  have gB3 : Box3 (w.heap.size + 1 + 1 + 1) (.slice q1 h.n c1) (.slice none 0 0) (.bool h.b) w2 := by rw [hw2]; exact (hB3.below hst).store0 _
  have gB0 : Box3 w.heap.size (.slice p h.n c) (.slice q h.m d) (.bool h.b) w2 := by rw [hw2]; exact (hB0'.below hst).other (by omega) _ _
  have gB1 : Box3 (w.heap.size + 1) (.int .i64 x.st) (.int .i64 x.cl) (.int .u32 x.fr) w2 := by rw [hw2]; exact (hB1.below hst).other (by omega) _ _
  have gB2 : Box3 (w.heap.size + 1 + 1) (.slice none 0 0) (.slice none 0 0) (.bool false) w2 := by rw [hw2]; exact (hB2.below hst).other (by omega) _ _
  have hbB : Below w.heap.size w w2 := by rw [hw2]; exact (bjoin hst hbA).setCell (by show w.heap.size ≤ w.heap.size + 1 + 1 + 1; omega) _
  rw [Nat.zero_add, List.nil_append] at hown1
  have hown2 : w2.ownsRow (w.heap.size + 4) 50 1 (.slice q1 h.n c1) h.n (vals .u64 h.n h.z) := by rw [hw2]; exact ownsRow_setCell_below hown1 (by show w.heap.size + 1 + 1 + 1 < _; omega) _
  have hsz2 : w.heap.size + 4 ≤ w2.heap.size := by rw [hw2]; simp; have := hgrow1.size; omega
  rw [← hw2]
  clear hw2 hown1 hgrow1 hst hbA hB3 hB2 hB1 hB0' l0 l3 l3' k0 k1 k2 j0 j1 j2 f0 f1 f2 j0' j1' j2' f0' f1' f2' hin hsz hle
  go_wp2
  go_loopg [8] h.m (fun gg iv wr => ∃ (i : Nat) (gs : Value), i ≤ h.m ∧ gg = h.m - i ∧ iv = .int .i64 i ∧ Box3 w.heap.size (.slice p h.n c) (.slice q h.m d) (.bool h.b) wr ∧ Box3 (w.heap.size + 1) (.int .i64 x.st) (.int .i64 x.cl) (.int .u32 x.fr) wr ∧ Box3 (w.heap.size + 1 + 1) (.slice none 0 0) (.slice none 0 0) (.bool false) wr ∧ Box3 (w.heap.size + 1 + 1 + 1) (.slice q1 h.n c1) gs (.bool h.b) wr ∧
      wr.ownsRow (w.heap.size + 4) 50 1 (.slice q1 h.n c1) h.n (vals .u64 h.n h.z) ∧ wr.ownsRow w2.heap.size 49 3 gs i (spVals i (setS h.s g x)) ∧ Below w.heap.size w wr ∧ w2.heap.size ≤ wr.heap.size)
  case atStart => exact ⟨0, .slice none 0 0, by omega, by omega, rfl, gB0, gB1, gB2, gB3, hown2, World.ownsRow_nil _ _ _ _, hbB, Nat.le_refl _⟩
  case round =>
    clear gB0 gB1 gB2 gB3 hbB
    obtain ⟨i, gs, ih, rfl, rfl, gB0, gB1, gB2, gB3, hownW, hownS, hbw, hsw⟩ := hrel
    obtain ⟨q2, c2, rfl, hq2⟩ := owned_new hownS
    have g0 := gB0
    have g3 := gB3
    obtain ⟨l0, k0, k1, k2, -, -, -⟩ := g0
    obtain ⟨l3, j0, j1, j2, f0, f1, f2⟩ := g3
    have hlw : ∀ k, (Value.slice q1 h.n c1).ownBlock = some k → w.heap.size + 4 ≤ k ∧ k < w2.heap.size := fun k hk => by
      have := hownW.lt k hk
      have := hown2.lt k hk
      omega
    have hls : ∀ k, (Value.slice q2 i c2).ownBlock = some k → w2.heap.size ≤ k ∧ k < wr.heap.size := fun k hk => hownS.lt k hk
    by_cases him : i < h.m
    · obtain ⟨⟨b, off, rfl, hlt, s0, s1, s2⟩, hwf⟩ := (hsp.below hbw) i him
      have g1 := gB1
      obtain ⟨lb, b0, b1, b2, -, -, -⟩ := g1
      by_cases e : (i : Int) = g
      · subst e
        have hset : setS h.s i x i = x := by unfold setS; rw [if_pos rfl]
        go_upto_region 9 with fail
        obtain ⟨wx, hwx⟩ : ∃ wx, wx = wr.alloc (.cells #[.int .i64 x.st, .int .i64 x.cl, .int .u32 x.fr] 49) := ⟨_, rfl⟩
        have hX : Box3 wr.heap.size (.int .i64 x.st) (.int .i64 x.cl) (.int .u32 x.fr) wx := by rw [hwx]; exact Box3.new wr _ _ _ _
        have hst : Below wr.heap.size wr wx := by rw [hwx]; exact (Below.refl _ _).alloc (Nat.le_refl _) _
        rw [← hwx]
        clear hwx
        have gX0 := gB0.below hst
        have gX1 := gB1.below hst
        have gX2 := gB2.below hst
        have gX3 := gB3.below hst
        have hWx := owned_below hownW hst
        have hSx := owned_below hownS hst
        have hbX := bjoin hst hbw
        have hsX : wr.heap.size + 1 ≤ wx.heap.size := by have := hX.1; omega
        clear gB0 gB1 gB2 gB3 hownW hownS hst l0 k0 k1 k2 l3 j0 j1 j2 f0 f1 f2 s0 s1 s2 hlt
        have g0 := gX0
        have g3 := gX3
        obtain ⟨l0, k0, k1, k2, -, -, -⟩ := g0
        obtain ⟨l3, j0, j1, j2, f0, f1, f2⟩ := g3
        obtain ⟨lX, r0, r1, r2, -, -, -⟩ := hX
        go_wp2_with (first
          | (at_builtin; refine wpList_append_own _ rfl (.tmp 36) (.tmp 38) 23 rfl w2.heap.size 49 i1 (.agg #[.int .i64 0, .int .i64 0, .int .u32 0]) 3 24 Tryd.underlying23 hi' hz0' hz1' hz2' rfl (by decide) (.slice q2 i c2) i _ rfl (hSx.alloc _) ⟨wx.heap.size, 0, none⟩ 1 1 (Sp.vals x) rfl rfl (three_new _ _ _ _ _) (vals_oneCell _) (by simp only [maxLen]; omega) (by omega) (by simp; omega) ?_; intro ov w6 hown6 hgrow6 _; obtain ⟨q3, c3, rfl, hq3⟩ := owned_new hown6; have hbt : Below wx.heap.size wx (wx.alloc (.cells #[.int .i64 x.st, .int .i64 x.cl, .int .u32 x.fr] 49)) := (Below.refl _ _).alloc (Nat.le_refl _) _; have gY3 := (gX3.below hbt).grown hgrow6 (fun e => by have := hls _ e; omega); obtain ⟨l3', j0', j1', j2', f0', f1', f2'⟩ := gY3)
        )
        have hbt : Below wx.heap.size wx (wx.alloc (.cells #[.int .i64 x.st, .int .i64 x.cl, .int .u32 x.fr] 49)) := (Below.refl _ _).alloc (Nat.le_refl _) _
        have hne : ∀ b, b < w2.heap.size → (Value.slice q2 i c2).ownBlock ≠ some b := fun b hb e => by have := (hls _ e).1; omega
        have gZ0 := ((gX0.below hbt).grown hgrow6 (hne _ (by omega))).other (g := w.heap.size + 1 + 1 + 1) (by omega) 1 (.slice q3 (i + 1) c3)
        have gZ1 := ((gX1.below hbt).grown hgrow6 (hne _ (by omega))).other (g := w.heap.size + 1 + 1 + 1) (by omega) 1 (.slice q3 (i + 1) c3)
        have gZ2 := ((gX2.below hbt).grown hgrow6 (hne _ (by omega))).other (g := w.heap.size + 1 + 1 + 1) (by omega) 1 (.slice q3 (i + 1) c3)
        have gZ3 := ((gX3.below hbt).grown hgrow6 (hne _ (by omega))).store1 (.slice q3 (i + 1) c3)
        have hWz := owned_setCell ((owned_below hWx hbt).kept hgrow6 (by
          cases hob : (Value.slice q1 h.n c1).ownBlock with
          | none => exact .inl rfl
          | some b => exact .inr fun e => hne b (hlw b hob).2 e.symm)) (g := w.heap.size + 1 + 1 + 1) (fun e => by have := (hlw _ e).1; omega) 1 (.slice q3 (i + 1) c3)
        have hl6 : ∀ k, (Value.slice q3 (i + 1) c3).ownBlock = some k → w2.heap.size ≤ k := fun k hk => (hown6.lt k hk).1
        have hSz := owned_setCell (owned_row hown6 hset) (g := w.heap.size + 1 + 1 + 1) (fun e => by have := hl6 _ e; omega) 1 (.slice q3 (i + 1) c3)
        have hbZ : Below w.heap.size w (w6.setCell ⟨w.heap.size + 1 + 1 + 1, 1, none⟩ (.slice q3 (i + 1) c3)) := ((hbX.alloc (by omega) _).grown hgrow6 (by simp; omega) (fun k hk => by have := hls k hk; omega)).setCell (by show w.heap.size ≤ w.heap.size + 1 + 1 + 1; omega) _
        have hsZ : w2.heap.size ≤ (w6.setCell ⟨w.heap.size + 1 + 1 + 1, 1, none⟩ (.slice q3 (i + 1) c3)).heap.size := by
          have := hgrow6.size
          simp at this ⊢
          omega
        clear gX0 gX1 gX2 gX3 hWx hSx hbX hown6 hgrow6 hbt
        go_wp2
        go_roundg (h.m - (i + 1))
        case measure => omega
        case rel => exact ⟨i + 1, _, by omega, rfl, by go_num, gZ0, gZ1, gZ2, gZ3, hWz, hSz, hbZ, hsZ⟩
      · have hset : setS h.s g x i = h.s i := by unfold setS; rw [if_neg e]
        go_upto_region 9 with fail
        obtain ⟨wx, hwx⟩ : ∃ wx, wx = wr.alloc (.cells #[.int .i64 (h.s i).st, .int .i64 (h.s i).cl, .int .u32 (h.s i).fr] 49) := ⟨_, rfl⟩
        have hX : Box3 wr.heap.size (.int .i64 (h.s i).st) (.int .i64 (h.s i).cl) (.int .u32 (h.s i).fr) wx := by rw [hwx]; exact Box3.new wr _ _ _ _
        have hst : Below wr.heap.size wr wx := by rw [hwx]; exact (Below.refl _ _).alloc (Nat.le_refl _) _
        rw [← hwx]
        clear hwx
        have gX0 := gB0.below hst
        have gX1 := gB1.below hst
        have gX2 := gB2.below hst
        have gX3 := gB3.below hst
        have hWx := owned_below hownW hst
        have hSx := owned_below hownS hst
        have hbX := bjoin hst hbw
        have hsX : wr.heap.size + 1 ≤ wx.heap.size := by have := hX.1; omega
        clear gB0 gB1 gB2 gB3 hownW hownS hst l0 k0 k1 k2 l3 j0 j1 j2 f0 f1 f2 s0 s1 s2 hlt
        have g0 := gX0
        have g3 := gX3
        obtain ⟨l0, k0, k1, k2, -, -, -⟩ := g0
        obtain ⟨l3, j0, j1, j2, f0, f1, f2⟩ := g3
        obtain ⟨lX, r0, r1, r2, -, -, -⟩ := hX
        go_wp2_with (first
          | (at_builtin; refine wpList_append_own _ rfl (.tmp 36) (.tmp 38) 23 rfl w2.heap.size 49 i1 (.agg #[.int .i64 0, .int .i64 0, .int .u32 0]) 3 24 Tryd.underlying23 hi' hz0' hz1' hz2' rfl (by decide) (.slice q2 i c2) i _ rfl (hSx.alloc _) ⟨wx.heap.size, 0, none⟩ 1 1 (Sp.vals (h.s i)) rfl rfl (three_new _ _ _ _ _) (vals_oneCell _) (by simp only [maxLen]; omega) (by omega) (by simp; omega) ?_; intro ov w6 hown6 hgrow6 _; obtain ⟨q3, c3, rfl, hq3⟩ := owned_new hown6; have hbt : Below wx.heap.size wx (wx.alloc (.cells #[.int .i64 (h.s i).st, .int .i64 (h.s i).cl, .int .u32 (h.s i).fr] 49)) := (Below.refl _ _).alloc (Nat.le_refl _) _; have gY3 := (gX3.below hbt).grown hgrow6 (fun e => by have := hls _ e; omega); obtain ⟨l3', j0', j1', j2', f0', f1', f2'⟩ := gY3)
        )
        have hbt : Below wx.heap.size wx (wx.alloc (.cells #[.int .i64 (h.s i).st, .int .i64 (h.s i).cl, .int .u32 (h.s i).fr] 49)) := (Below.refl _ _).alloc (Nat.le_refl _) _
        have hne : ∀ b, b < w2.heap.size → (Value.slice q2 i c2).ownBlock ≠ some b := fun b hb e => by have := (hls _ e).1; omega
        have gZ0 := ((gX0.below hbt).grown hgrow6 (hne _ (by omega))).other (g := w.heap.size + 1 + 1 + 1) (by omega) 1 (.slice q3 (i + 1) c3)
        have gZ1 := ((gX1.below hbt).grown hgrow6 (hne _ (by omega))).other (g := w.heap.size + 1 + 1 + 1) (by omega) 1 (.slice q3 (i + 1) c3)
        have gZ2 := ((gX2.below hbt).grown hgrow6 (hne _ (by omega))).other (g := w.heap.size + 1 + 1 + 1) (by omega) 1 (.slice q3 (i + 1) c3)
        have gZ3 := ((gX3.below hbt).grown hgrow6 (hne _ (by omega))).store1 (.slice q3 (i + 1) c3)
        have hWz := owned_setCell ((owned_below hWx hbt).kept hgrow6 (by
          cases hob : (Value.slice q1 h.n c1).ownBlock with
          | none => exact .inl rfl
          | some b => exact .inr fun e => hne b (hlw b hob).2 e.symm)) (g := w.heap.size + 1 + 1 + 1) (fun e => by have := (hlw _ e).1; omega) 1 (.slice q3 (i + 1) c3)
        have hl6 : ∀ k, (Value.slice q3 (i + 1) c3).ownBlock = some k → w2.heap.size ≤ k := fun k hk => (hown6.lt k hk).1
        have hSz := owned_setCell (owned_row hown6 hset) (g := w.heap.size + 1 + 1 + 1) (fun e => by have := hl6 _ e; omega) 1 (.slice q3 (i + 1) c3)
        have hbZ : Below w.heap.size w (w6.setCell ⟨w.heap.size + 1 + 1 + 1, 1, none⟩ (.slice q3 (i + 1) c3)) := ((hbX.alloc (by omega) _).grown hgrow6 (by simp; omega) (fun k hk => by have := hls k hk; omega)).setCell (by show w.heap.size ≤ w.heap.size + 1 + 1 + 1; omega) _
        have hsZ : w2.heap.size ≤ (w6.setCell ⟨w.heap.size + 1 + 1 + 1, 1, none⟩ (.slice q3 (i + 1) c3)).heap.size := by
          have := hgrow6.size
          simp at this ⊢
          omega
        clear gX0 gX1 gX2 gX3 hWx hSx hbX hown6 hgrow6 hbt
        go_wp2
        go_roundg (h.m - (i + 1))
        case measure => omega
        case rel => exact ⟨i + 1, _, by omega, rfl, by go_num, gZ0, gZ1, gZ2, gZ3, hWz, hSz, hbZ, hsZ⟩
    · obtain rfl : i = h.m := by omega
      have g2 := gB2
      obtain ⟨l2, b0, b1, b2, v0, v1, v2⟩ := g2
      have hWz := owned_setCell (owned_setCell (owned_setCell hownW (g := w.heap.size + 1 + 1) (fun e => by have := (hlw _ e).1; omega) 0 (.slice q1 h.n c1)) (g := w.heap.size + 1 + 1) (fun e => by have := (hlw _ e).1; omega) 1 (.slice q2 h.m c2)) (g := w.heap.size + 1 + 1) (fun e => by have := (hlw _ e).1; omega) 2 (.bool h.b)
      have hSz := owned_setCell (owned_setCell (owned_setCell hownS (g := w.heap.size + 1 + 1) (fun e => by have := (hls _ e).1; omega) 0 (.slice q1 h.n c1)) (g := w.heap.size + 1 + 1) (fun e => by have := (hls _ e).1; omega) 1 (.slice q2 h.m c2)) (g := w.heap.size + 1 + 1) (fun e => by have := (hls _ e).1; omega) 2 (.bool h.b)
      have hbZ : Below w.heap.size w (((wr.setCell ⟨w.heap.size + 1 + 1, 0, none⟩ (.slice q1 h.n c1)).setCell ⟨w.heap.size + 1 + 1, 1, none⟩ (.slice q2 h.m c2)).setCell ⟨w.heap.size + 1 + 1, 2, none⟩ (.bool h.b)) :=
        ((hbw.setCell (by show w.heap.size ≤ w.heap.size + 1 + 1; omega) _).setCell (by show w.heap.size ≤ w.heap.size + 1 + 1; omega) _).setCell (by show w.heap.size ≤ w.heap.size + 1 + 1; omega) _
      clear gB0 gB1 gB2 gB3 hownW hownS
      go_wp2
      refine bodyPost_ret (by simp [results, Tryd.results42, go_sem, *]; try rfl) rfl ?_
      exact ⟨q1, c1, q2, c2, rfl, owned_base hWz (by omega), owned_base hSz (by omega), fun b b' e e' => by have := (hlw b e).2; have := (hls b' e').1; omega, hbZ⟩
end Go.Proofs.YtjlflbaglaillaaDoor
