/- Contract of the reference's Take (chapter 11). -/
import Derived.Test.YtneanbagdkeoiaaDoorTakeFn
import Derived.Test.YtneanbagdkeoiaaDoorRowOne
namespace Go.Proofs.YtneanbagdkeoiaaDoor
set_option linter.unusedSimpArgs false
set_option linter.unusedVariables false
open Go.ChangeShapes Go.WideShapes Go.ChangeAt Go.RowKit Go.Joins

theorem takeP_no {h : Hp} {n : Nat} {y : Nat → Int} {m : Nat} {f : Int} (e : takeP h n y m f = none) : takeH h n y m f = h ∧ takeA h n y m f = 0 ∧ takeY h n y m f = y := by
  unfold takeH takeA takeY; rw [e]; exact ⟨rfl, rfl, rfl⟩
theorem takeP_yes {h : Hp} {n : Nat} {y : Nat → Int} {m p : Nat} {f : Int} (e : takeP h n y m f = some p) : takeH h n y m f = laH (opH h p (ofC f)) p f ∧ takeA h n y m f = laA (opH h p (ofC f)) p f ∧ takeY h n y m f = fun j => if j = m * 4 + (ofC f).toNat then (p : Int) else y j := by
  unfold takeH takeA takeY; rw [e]; exact ⟨rfl, rfl, rfl⟩
/-- What Take answers. -/
structure TookAt (w w' : World) (h : Hp) (n : Nat) (y : Nat → Int) (m : Nat) (f : Int) (p : Option Addr) (c : Nat) (q : Option Addr) (d : Nat) (pc : Option Addr) (cc : Nat) (p' : Option Addr) (c' : Nat) (q' : Option Addr) (d' : Nat) (pc' : Option Addr) (cc' : Nat) : Prop where
  heap : HpAt w' p' c' q' d' (takeH h n y m f)
  caches : Ints .i64 w' pc' (n * 4) (takeY h n y m f)
  cnil : pc' = none → n = 0 ∧ cc' = 0
  src : Src w.heap.size (takeP h n y m f).isSome h.n h.m p c q d p' c' q' d'
  new : (takeP h n y m f).isSome = true → NewV w.heap.size (.slice pc' n cc')
  old : (takeP h n y m f).isSome = false → pc' = pc ∧ cc' = cc
  below : Below w.heap.size w w'
theorem Box4.set {b : Nat} {x0 x1 x2 x3 : Value} {W : World} (h : Box4 b x0 x1 x2 x3 W) {k : Nat} (hk : k < 4) (u : Value) : Box4 b (if k = 0 then u else x0) (if k = 1 then u else x1) (if k = 2 then u else x2) (if k = 3 then u else x3) (W.setCell ⟨b, k, none⟩ u) := by
  obtain ⟨h0, h1, h2, h3, h4, h5, h6, h7, h8⟩ := h
  have : k = 0 ∨ k = 1 ∨ k = 2 ∨ k = 3 := by omega
  rcases this with rfl | rfl | rfl | rfl <;> refine ⟨by simpa [World.setCell] using h0, ?_, ?_, ?_, ?_, ?_, ?_, ?_, ?_⟩ <;> simp [go_sem, *]
theorem Box4.at {b : Nat} {x0 x1 x2 x3 : Value} {W : World} (h : Box4 b x0 x1 x2 x3 W) {k : Nat} (hk : k < 4) : (∃ u, W.cell? ⟨b, k, none⟩ = some u) ∧ W.frozen? ⟨b, k, none⟩ = false := by
  have : k = 0 ∨ k = 1 ∨ k = 2 ∨ k = 3 := by omega
  rcases this with rfl | rfl | rfl | rfl
  · exact ⟨⟨_, h.c0⟩, h.f0⟩
  · exact ⟨⟨_, h.c1⟩, h.f1⟩
  · exact ⟨⟨_, h.c2⟩, h.f2⟩
  · exact ⟨⟨_, h.c3⟩, h.f3⟩
theorem vals_four (i : Nat) (Y : Nat → Int) : vals .i64 (i * 4) Y ++ [.int .i64 (Y (i * 4)), .int .i64 (Y (i * 4 + 1)), .int .i64 (Y (i * 4 + 2)), .int .i64 (Y (i * 4 + 3))] = vals .i64 ((i + 1) * 4) Y := by
  rw [show (i + 1) * 4 = i * 4 + 1 + 1 + 1 + 1 by omega]
  simp [vals, List.range_succ]
theorem owned_four {w : World} {base : Nat} {e : TypeId} {k : IntKind} {p : Option Addr} {n cap : Nat} {z : Nat → Int} (h : w.ownsRow base e 4 (.slice p n cap) n (vals k (n * 4) z)) (hw : ∀ i, i < n * 4 → (Lit.int k (z i)).wf = true) : Ints k w p (n * 4) z ∧ (p = none → n = 0 ∧ cap = 0) := by
  rcases h.2 with ⟨hv, h0⟩ | ⟨g, cap', cur, hv, hb, hg, hn, hm, hs, ht⟩
  · injection hv with e1 e2 e3
    exact ⟨fun i hi => by omega, fun _ => ⟨h0, e3⟩⟩
  · have e0 : p = some ⟨g, 0, none⟩ := by injection hv
    subst e0
    refine ⟨fun i hi => ⟨⟨g, 0, rfl, ?_, ?_⟩, hw i hi⟩, fun e => by cases e⟩
    · rcases Nat.lt_or_ge g w.heap.size with h' | h'
      · exact h'
      · rw [Array.getElem?_eq_none h'] at hg; cases hg
    · rw [Nat.zero_add, cell_of_row w g i cur e (0, 0) hg]
      have := vals_get k z hi
      rw [← ht, List.getElem?_take, if_pos (by omega)] at this
      simpa using this
theorem four_info : (Tryd.prog.info? 51).map (fun i => (i.zero, i.size, i.bytes)) = some (some (.agg #[.int .i64 0, .int .i64 0, .int .i64 0, .int .i64 0]), 4, 32) := by kernel_rfl
theorem four_new (w : World) (a b c d : Value) (t : TypeId) : ∀ j u, [a, b, c, d][j]? = some u → (w.alloc (.cells #[a, b, c, d] t)).cell? ((⟨w.heap.size, 0, none⟩ : Addr).add j) = some u := by
  intro j u hj
  match j, hj with
  | 0, hj => simp at hj; subst hj; simp [Addr.add]
  | 1, hj => simp at hj; subst hj; simp [Addr.add]
  | 2, hj => simp at hj; subst hj; simp [Addr.add]
  | 3, hj => simp at hj; subst hj; simp [Addr.add]
set_option maxRecDepth 20000 in
set_option maxHeartbeats 16000000 in
theorem rtake11_any (p : Option Addr) (c : Nat) (q : Option Addr) (d : Nat) (h : Hp) (pc : Option Addr) (n cc : Nat) (y : Nat → Int) (m : Nat) (f : Int) (w : World) (hh : HpAt w p c q d h) (hF : formB h = true) (hin : Ints .i64 w pc (n * 4) y) (hpc : pc = none → n = 0 ∧ cc = 0) (hn : n ≤ 1000) (hm : m < n) (hr : rightY h n y = true) :
    Calls Tryd.prog 19 #[.agg #[.slice p h.n c, .slice q h.m d, .bool h.b], .slice pc n cc, .int .i64 m, .int .i64 f] w fun e w' => ∃ p' c' q' d' pc' cc', e = .returned (.tuple #[.agg #[.slice p' h.n c', .slice q' h.m d', .bool h.b], .slice pc' n cc', .int .i64 (takeA h n y m f), .bool (takeP h n y m f).isSome]) ∧ TookAt w w' h n y m f p c q d pc cc p' c' q' d' pc' cc' := by
  obtain ⟨w0, hw0, hB0, hR, hst⟩ := boxed2 (w := w) (v0 := .slice p h.n c) (v1 := .slice q h.m d) (v2 := .bool h.b) (u0 := .slice none 0 0) (u1 := .slice none 0 0) (u2 := .bool false) (t := 25)
  have hat := hh.below hst
  have hY := hin.below hst
  obtain ⟨c0, c1⟩ := ofC_at f
  have hP := fun W (hW : Below w0.heap.size w0 W) => rpage11_any p c q d h pc n cc y m (ofC f).toNat W (hat.below hW) (hY.below hW) hn hm (by omega) (right_in hr (by omega))
  rw [show (((ofC f).toNat : Nat) : Int) = ofC f by omega] at hP
  have hF' : Hid (formB h = true) := hF
  obtain ⟨l0, x0, x1, x2, -, -, -⟩ := id hB0
  obtain ⟨l1, y0, y1, y2, f0, f1, f2⟩ := id hR
  cases e : takeP h n y m f with
  | none =>
    obtain ⟨e1, e2, e3⟩ := takeP_no e
    have hend : ∀ W, Below w.heap.size w W → TookAt w W h n y m f p c q d pc cc p c q d pc cc := fun W hW => ⟨by rw [e1]; exact hh.below hW, by rw [e3]; exact hin.below hW, hpc, ⟨(fun x => absurd x (by rw [e]; simp)), fun _ => ⟨rfl, rfl, rfl, rfl⟩⟩, (fun x => absurd x (by rw [e]; simp)), fun _ => ⟨rfl, rfl⟩, hW⟩
    rw [e2]
    clear e1 e2 e3
    cases hB : ofB f with
    | false =>
      go_enter Tryd.func19, Tryd.ntmps19
      go_upto_region 1 with fail
      rw [← hw0]
      clear hw0 hF hr e hm
      go_wp2_with (first
    | (go_at_call 38; refine Calls.mono (rcof_any _ _) ?_; rintro e w' ⟨rfl, hb⟩; obtain ⟨hc, hf, hb, hz⟩ := bstep hb (w := w0) (by go_grown); try simp only [World.size_alloc, World.size_setCell, World.size_drew] at hc hf hz)
      )
      refine bodyPost_ret (by simp [results, Tryd.results19, go_sem, *]; try rfl) rfl ?_
      exact ⟨p, c, q, d, pc, cc, rfl, hend _ (by go_grown; exact bjoin hb hst)⟩
    | true =>
      have hp : pageY h n y m (ofC f).toNat = none := by unfold takeP at e; rw [if_pos hB] at e; exact e
      rw [hp] at hP
      go_enter Tryd.func19, Tryd.ntmps19
      go_upto_region 1 with fail
      rw [← hw0]
      clear hw0 hF hr e hm hp
      simp only [pageV] at hP
      have hbw := Below.refl w0.heap.size w0
      go_wp2_with (first
        | (go_at_call 38; refine Calls.mono (rcof_any _ _) ?_; rintro e w1 ⟨rfl, hb1⟩; have x01 := (hb1.cell (p := ⟨w.heap.size, 0, none⟩) l0).trans x0; have x11 := (hb1.cell (p := ⟨w.heap.size, 1, none⟩) l0).trans x1; have x21 := (hb1.cell (p := ⟨w.heap.size, 2, none⟩) l0).trans x2)
        | (go_at_call 17; refine Calls.mono (hP _ hb1) ?_; rintro e w2 ⟨rfl, hb2⟩; replace hb2 := bjoin hb2 hb1; obtain ⟨hc, hf, hb, hz⟩ := bstep hb2 (w := w0) (Below.refl _ _))
      )
      refine bodyPost_ret (by simp [results, Tryd.results19, go_sem, *]; try rfl) rfl ?_
      exact ⟨p, c, q, d, pc, cc, rfl, hend _ (by go_grown; exact bjoin hb hst)⟩
  | some g =>
    obtain ⟨e1, e2, e3⟩ := takeP_yes e
    obtain ⟨hgm, hlay⟩ := take_lays hF hr hm e
    obtain ⟨hB, hp⟩ : ofB f = true ∧ pageY h n y m (ofC f).toNat = some g := by
      unfold takeP at e
      by_cases hB : ofB f = true
      · rw [if_pos hB] at e; exact ⟨hB, e⟩
      · rw [if_neg hB] at e; cases e
    rw [hp] at hP
    simp only [pageV] at hP
    go_enter Tryd.func19, Tryd.ntmps19
    go_upto_region 1 with fail
    rw [← hw0]
    clear hw0 hF hr hp
    go_upto_region 7 with (first
      | (go_at_call 38; refine Calls.mono (rcof_any _ _) ?_; rintro e w1 ⟨rfl, hb1⟩; have x01 := (hb1.cell (p := ⟨w.heap.size, 0, none⟩) l0).trans x0; have x11 := (hb1.cell (p := ⟨w.heap.size, 1, none⟩) l0).trans x1; have x21 := (hb1.cell (p := ⟨w.heap.size, 2, none⟩) l0).trans x2)
      | (go_at_call 17; refine Calls.mono (hP _ hb1) ?_; rintro e w2 ⟨rfl, hb2⟩; replace hb2 := bjoin hb2 hb1)
    )
    have hat2 := hat.below hb2
    have hY2 := hY.below hb2
    replace hB0 := hB0.below hb2
    replace hR := hR.below hb2
    have hbW2 := bjoin hb2 hst
    have hl2 := hR.1
    clear x0 x1 x2 y0 y1 y2 f0 f1 f2 l0 l1 x01 x11 x21 hb1 hb2 hat hY hst hP
    obtain ⟨l0, x0, x1, x2, -, -, -⟩ := id hB0
    have hO := ropen_any p c q d h (g : Int) (ofC f) w2 hat2 hF'.out
    go_upto_region 8 with (first
      | (go_at_call 39; refine Calls.mono hO ?_; rintro e w3 ⟨p1, c1', q1, d1, rfl, hat3, hsrc3, hb3⟩)
    )
    obtain ⟨w4, hw4⟩ : ∃ w4, w4 = w3.alloc (.cells #[.slice p1 h.n c1', .slice q1 h.m d1, .bool h.b] 25) := ⟨_, rfl⟩
    have gG : Box3 w3.heap.size (.slice p1 h.n c1') (.slice q1 h.m d1) (.bool h.b) w4 := by rw [hw4]; exact Box3.new _ _ _ _ _
    have hB34 : Below w3.heap.size w3 w4 := by rw [hw4]; exact (Below.refl _ _).alloc (Nat.le_refl _) _
    rw [← hw4]
    clear hw4 hO x0 x1 x2 l0
    have hb4 := bjoin hB34 hb3
    replace hB0 := hB0.below hb4
    replace hR := hR.below hb4
    have hY4 := hY2.below hb4
    have hY3 : ∀ b off sp, pc = some ⟨b, off, sp⟩ → b < w3.heap.size := fun b off sp e => by
      obtain ⟨⟨b', o', e', hlt, -⟩, -⟩ := hY2 0 (by omega)
      rw [e] at e'
      injection e' with e'
      injection e' with e1 e2
      have := hb3.size
      omega
    have hbW4 := bjoin hb4 hbW2
    have hl3 : w2.heap.size ≤ w3.heap.size := hb3.size
    have hl0 := hB0.1
    clear hY2 hat2 hb3 hb4 hbW2
    generalize hG : w3.heap.size = G at *
    obtain ⟨l0, x0, x1, x2, -, -, -⟩ := id hB0
    obtain ⟨lG, g0, g1, g2, h0, h1, h2⟩ := id gG
    cases ho : opB h g (ofC f)
    case' true =>
      clear hsrc3
      go_upto_region 10 with fail
      clear x0 x1 x2 l0 lG g0 g1 g2 h0 h1 h2
      generalize w4 = w5 at *
    case' false =>
      obtain ⟨rfl, rfl, rfl, rfl⟩ := hsrc3.old ho
      clear hsrc3
      go_upto_region 10 with fail
      have hs : ∀ b, b < G → ¬ G = b := fun b hb e => by omega
      replace gG := gG.stores (.slice p1 h.n c1') (.slice q1 h.m d1) (.bool h.b)
      replace hB0 := hB0.others (g := G) (by omega) (.slice p1 h.n c1') (.slice q1 h.m d1) (.bool h.b)
      replace hR := hR.others (g := G) (by omega) (.slice p1 h.n c1') (.slice q1 h.m d1) (.bool h.b)
      have hbS : Below G w4 (((w4.setCell ⟨G, 0, none⟩ (.slice p1 h.n c1')).setCell ⟨G, 1, none⟩ (.slice q1 h.m d1)).setCell ⟨G, 2, none⟩ (.bool h.b)) := below_stores (Below.refl _ _) (Nat.le_refl _) _ _ _
      replace hB34 := hB34.trans hbS
      replace hbW4 := hbW4.trans (hbS.mono (by omega))
      have hAs : Aside (fun k => k = G) w4 (((w4.setCell ⟨G, 0, none⟩ (.slice p1 h.n c1')).setCell ⟨G, 1, none⟩ (.slice q1 h.m d1)).setCell ⟨G, 2, none⟩ (.bool h.b)) := (((Aside.of (T := fun k => k = G) (Below.refl _ w4)).setCell (g := G) rfl 0 (.slice p1 h.n c1')).setCell (g := G) rfl 1 (.slice q1 h.m d1)).setCell (g := G) rfl 2 (.bool h.b)
      replace hY4 := hY4.aside hAs (fun k hk b off sp e => by
        have := hY3 b off sp e
        omega)
      clear hAs
      clear x0 x1 x2 l0 lG g0 g1 g2 h0 h1 h2 hbS hs
      generalize (((w4.setCell ⟨G, 0, none⟩ (.slice p1 h.n c1')).setCell ⟨G, 1, none⟩ (.slice q1 h.m d1)).setCell ⟨G, 2, none⟩ (.bool h.b)) = w5 at *
    all_goals
      have hin5 : HpIn w5 p1 h.n c1' q1 h.m d1 h.b (opH h g (ofC f)) := ⟨(op_n h g (ofC f)).1.symm, (op_n h g (ofC f)).2.1.symm, (op_n h g (ofC f)).2.2.symm, hat3.below (by rw [hG]; exact hB34)⟩
      have hF5 := form_open hF'.out g (ofC f)
      have hL := rlay_in (g := (g : Int)) (f := f) hin5 hF5
      obtain ⟨lG, g0, g1, g2, -, -, -⟩ := id gG
      clear hB0
      go_upto_region 11 with (first
        | (go_at_call 40; refine Calls.mono hL ?_; rintro e w6 ⟨p2, c2, q2, d2, rfl, hin6, hsrc6, hb6⟩)
      )
      obtain ⟨w7, hw7⟩ : ∃ w7, w7 = w6.alloc (.cells #[.slice p2 h.n c2, .slice q2 h.m d2, .bool h.b] 25) := ⟨_, rfl⟩
      have gK : Box3 w6.heap.size (.slice p2 h.n c2) (.slice q2 h.m d2) (.bool h.b) w7 := by rw [hw7]; exact Box3.new _ _ _ _ _
      have hB67 : Below w6.heap.size w6 w7 := by rw [hw7]; exact (Below.refl _ _).alloc (Nat.le_refl _) _
      rw [← hw7]
      clear hw7 hL lG g0 g1 g2 hin5 hF5 gG
      have hb7 := bjoin hB67 hb6
      replace hR := hR.below hb7
      have hY7 := hY4.below hb7
      have hin7 := hin6.below hB67
      have hbW7 := bjoin hb7 hbW4
      have hl6 : w5.heap.size ≤ w6.heap.size := hb6.size
      have hl5 : G ≤ w5.heap.size := by have := hB34.size; omega
      clear hY4 hin6 hB67 hb6 hb7 hbW4 hat3 hB34
      generalize w6.heap.size = K at *
      obtain ⟨i0, hi, hz0, hz1, hz2⟩ := info_parts four_info
      obtain ⟨lK, k0, k1, k2, -, -, -⟩ := id gK
      generalize hYd : (fun j : Nat => if j = m * 4 + (ofC f).toNat then (g : Int) else y j) = Y at *
      go_wp2
      go_loopg [21, 22] n (fun gg ov iv wr => ∃ i : Nat, i ≤ n ∧ gg = n - i ∧ iv = .int .i64 i ∧ wr.ownsRow w7.heap.size 51 4 ov i (vals .i64 (i * 4) Y) ∧ Below w7.heap.size w7 wr)
      case atStart => exact ⟨0, by omega, by omega, rfl, World.ownsRow_nil _ _ _ _, Below.refl _ _⟩
      case round =>
        obtain ⟨i, ih, rfl, rfl, hown, hbw⟩ := hrel
        by_cases hin0 : i < n
        · have A : ∀ k, k < 4 → ∃ b off, pc = some ⟨b, off, none⟩ ∧ b < wr.heap.size ∧ wr.cell? ⟨b, off + i * 4 + k, none⟩ = some (.int .i64 (y (i * 4 + k))) := fun k hk => by
            obtain ⟨⟨b', off', e, hlt', hv⟩, -⟩ := (hY7.below hbw) (i * 4 + k) (by omega)
            exact ⟨b', off', e, hlt', by rw [Nat.add_assoc]; exact hv⟩
          obtain ⟨b, off, rfl, hlt, a0⟩ := A 0 (by omega)
          simp only [Nat.add_zero] at a0
          have A' : ∀ k, k < 4 → wr.cell? ⟨b, off + i * 4 + k, none⟩ = some (.int .i64 (y (i * 4 + k))) := fun k hk => by
            obtain ⟨b', off', e, -, hv⟩ := A k hk
            injection e with e
            injection e with e1 e2
            subst e1 e2
            exact hv
          have a1 := A' 1 (by omega)
          have a2 := A' 2 (by omega)
          have a3 := A' 3 (by omega)
          clear A A'
          go_upto_region 16 with fail
          obtain ⟨wx, hwx⟩ : ∃ wx, wx = wr.alloc (.cells #[.int .i64 (y (i * 4)), .int .i64 (y (i * 4 + 1)), .int .i64 (y (i * 4 + 2)), .int .i64 (y (i * 4 + 3))] 51) := ⟨_, rfl⟩
          have gX : Box4 wr.heap.size (.int .i64 (y (i * 4))) (.int .i64 (y (i * 4 + 1))) (.int .i64 (y (i * 4 + 2))) (.int .i64 (y (i * 4 + 3))) wx := by rw [hwx]; exact Box4.new _ _ _ _ _ _
          have hbx : Below wr.heap.size wr wx := by rw [hwx]; exact (Below.refl _ _).alloc (Nat.le_refl _) _
          have hownx := owned_below hown hbx
          have hbX := bjoin hbx hbw
          have hXl : w7.heap.size ≤ wr.heap.size := hbw.size
          have hne := fun k hk => (hown.lt k hk).2
          rw [← hwx]
          clear hwx a0 a1 a2 a3 hlt hown hbx hbw
          generalize wr.heap.size = X at *
          by_cases him : m = i
          case' pos =>
            subst him
            obtain ⟨⟨u, hu⟩, hfu⟩ := gX.at (k := (ofC f).toNat) (by omega)
            go_upto_region 18 with fail
            have hbX2 : Below w7.heap.size w7 (wx.setCell ⟨X, (ofC f).toNat, none⟩ (.int .i64 (g : Int))) := hbX.setCell hXl _
            replace hownx := owned_setCell hownx (g := X) (fun e => Nat.lt_irrefl _ (hne _ e)) (ofC f).toNat (.int .i64 (g : Int))
            clear hbX
            have hbX := hbX2
            clear hbX2
            replace gX := gX.set (k := (ofC f).toNat) (by omega) (.int .i64 (g : Int))
            clear hu hfu
            generalize wx.setCell ⟨X, (ofC f).toNat, none⟩ (.int .i64 (g : Int)) = w8 at *
            have gX8 : Box4 X (.int .i64 (Y (m * 4))) (.int .i64 (Y (m * 4 + 1))) (.int .i64 (Y (m * 4 + 2))) (.int .i64 (Y (m * 4 + 3))) w8 := by
              rw [← hYd]
              have : (ofC f).toNat = 0 ∨ (ofC f).toNat = 1 ∨ (ofC f).toNat = 2 ∨ (ofC f).toNat = 3 := by omega
              rcases this with h | h | h | h <;> rw [h] at gX ⊢ <;> simpa using gX
            clear gX
          case' neg =>
            go_upto_region 18 with fail
            generalize wx = w8 at *
            have gX8 : Box4 X (.int .i64 (Y (i * 4))) (.int .i64 (Y (i * 4 + 1))) (.int .i64 (Y (i * 4 + 2))) (.int .i64 (Y (i * 4 + 3))) w8 := by
              rw [← hYd]
              simp only []
              rw [if_neg (by omega), if_neg (by omega), if_neg (by omega), if_neg (by omega)]
              exact gX
            clear gX
          all_goals
            obtain ⟨lX, r0, r1, r2, r3, -, -, -, -⟩ := gX8
            go_wp2_with (first
              | (at_builtin; refine wpList_append_own _ rfl (.tmp 79) (.tmp 81) 26 rfl w7.heap.size 51 i0 (.agg #[.int .i64 0, .int .i64 0, .int .i64 0, .int .i64 0]) 4 32 Tryd.underlying26 hi hz0 hz1 hz2 rfl (by decide) _ _ _ rfl (hownx.alloc _) ⟨w8.heap.size, 0, none⟩ 1 1 [.int .i64 (Y (_ * 4)), .int .i64 (Y (_ * 4 + 1)), .int .i64 (Y (_ * 4 + 2)), .int .i64 (Y (_ * 4 + 3))] rfl rfl (four_new _ _ _ _ _ _) (by simp [Value.oneCell']) (by simp only [maxLen]; omega) (by omega) (by simp; omega) ?_; intro ov9 w9 hown9 hgrow9 _)
            )
            rw [vals_four] at hown9
            have hb9 : Below w7.heap.size w7 w9 := (hbX.alloc hbX.size (.cells _ 51)).grown hgrow9 (by have := hbX.size; simp; omega) (fun k hk => (hownx.lt k hk).1)
            first | go_roundg (n - (i + 1)) | go_roundg (n - (m + 1))
            case measure => omega
            case rel => first | exact ⟨i + 1, by omega, rfl, by go_num, hown9, hb9⟩ | exact ⟨m + 1, by omega, rfl, by go_num, hown9, hb9⟩
        · obtain rfl : n = i := by omega
          clear k0 k1 k2 lK
          obtain ⟨lK, k0, k1, k2, -, -, -⟩ := gK.below hbw
          obtain ⟨lR, y0, y1, y2, f0, f1, f2⟩ := hR.below hbw
          obtain ⟨pn, cn, rfl, -⟩ := owned_new hown
          go_wp2
          refine bodyPost_ret (by simp [results, Tryd.results19, go_sem, *]; try rfl) rfl ?_
          have hYw : ∀ j, j < n * 4 → (Lit.int .i64 (Y j)).wf = true := fun j hj => by
            rw [← hYd]
            simp only []
            split
            · have := (form_iff.1 hF'.out).2.1
              simp [Lit.wf, IntKind.min, IntKind.max, IntKind.signed, IntKind.bits]; omega
            · exact (hin j hj).2
          obtain ⟨hIo, hcn⟩ := owned_four hown hYw
          rw [hlay] at hsrc6
          obtain ⟨n1, n2⟩ := hsrc6.new rfl
          have hl7 := hR.1
          have hclr : Clear (w.heap.size + 1) p2 q2 := ⟨fun b off sp e => by have := n1 b (by rw [e]; rfl); omega, fun b off sp e => by have := n2 b (by rw [e]; rfl); omega⟩
          have hfin := (hin7.below hbw).stores hclr (.slice p2 h.n c2) (.slice q2 h.m d2) (.bool h.b)
          have hAs : Aside (fun k => k = w.heap.size + 1) wr (((wr.setCell ⟨w.heap.size + 1, 0, none⟩ (.slice p2 h.n c2)).setCell ⟨w.heap.size + 1, 1, none⟩ (.slice q2 h.m d2)).setCell ⟨w.heap.size + 1, 2, none⟩ (.bool h.b)) := (((Aside.of (T := fun k => k = w.heap.size + 1) (Below.refl _ wr)).setCell (g := w.heap.size + 1) rfl 0 (.slice p2 h.n c2)).setCell (g := w.heap.size + 1) rfl 1 (.slice q2 h.m d2)).setCell (g := w.heap.size + 1) rfl 2 (.bool h.b)
          have hIf := hIo.aside hAs (fun k hk b off sp e => by have := (hown.lt b (by rw [e]; rfl)).1; omega)
          refine ⟨p2, c2, q2, d2, pn, cn, by rw [e2]; rfl, ?_⟩
          exact ⟨by rw [e1]; exact hfin.at', by rw [e3]; exact hIf, hcn, ⟨fun _ => ⟨fun b hb => by have := n1 b hb; omega, fun b hb => by have := n2 b hb; omega⟩, fun x => absurd x (by rw [e]; simp)⟩, fun _ b hb => by have := (hown.lt b hb).1; omega, fun x => absurd x (by rw [e]; simp), below_stores (bjoin hbw hbW7) (by omega) _ _ _⟩
end Go.Proofs.YtneanbagdkeoiaaDoor
