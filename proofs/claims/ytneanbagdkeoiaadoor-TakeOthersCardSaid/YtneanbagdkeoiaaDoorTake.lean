/- Contracts of the code's take: Take (chapter 11), and all four by a heap's three cells. -/
import Derived.Test.YtneanbagdkeoiaaDoorTakeP
import Derived.Test.YtneanbagdkeoiaaDoorTakeIn
namespace Go.Proofs.YtneanbagdkeoiaaDoor
set_option linter.unusedSimpArgs false
set_option linter.unusedVariables false
open Go.ChangeShapes Go.WideShapes Go.ChangeAt Go.RowKit Go.Joins

theorem clone_caches (p : Option Addr) (n c : Nat) (y : Nat → Int) (w : World) (hin : Ints .i64 w p (n * 4) y) (h0 : 0 < n) (hn : n ≤ 1000) :
    Calls Tryd.prog 37 #[.slice p n c] w fun e w' => ∃ p' c', e = .returned (.slice p' n c') ∧ w'.ownsRow w.heap.size 51 4 (.slice p' n c') n (vals .i64 (n * 4) y) ∧ Below w.heap.size w w' := by
  obtain ⟨i0, hi, hz0, hz1, hz2⟩ := info_parts four_info
  obtain ⟨ad, rfl, hcell⟩ := hin.cells (by omega)
  have hnil : ∀ W : World, (binOp .eql 26 (.slice (some ad) n c) (.slice none 0 0)).run Tryd.prog W = .ok (.bool false) W := fun W => Lib.run_eql_slice_nil W 26 51 (some ad) n c 0 0 Tryd.underlying26
  have hvl := vals_length .i64 (n * 4) y
  have hv1 := vals_one .i64 (n * 4) y
  generalize vals .i64 (n * 4) y = xs at *
  go_enter Tryd.func37, Tryd.ntmps37
  go_wp2_with (first
    | (at_builtin; refine wpList_append_grows _ rfl (.tmp 5) (.tmp 6) 26 rfl 51 i0 (.agg #[.int .i64 0, .int .i64 0, .int .i64 0, .int .i64 0]) 4 32 Tryd.underlying26 hi hz0 hz1 hz2 rfl (by decide) _ 0 0 [] rfl (fun _ => ⟨rfl, rfl⟩) rfl (fun b _ j u hj => by simp at hj) ad n c xs rfl (by omega) (fun j u hj => Lib.cell?_alloc_some _ (hcell j u hj)) hv1 (by omega) (by simp only [maxLen]; omega) (by omega) ?_; intro v1 w1 hown1 hgrow1)
  )
  go_returns
  rw [Nat.zero_add, List.nil_append] at hown1
  obtain ⟨p1, c1, rfl, -⟩ := owned_new hown1
  exact ⟨_, _, rfl, owned_base hown1 (by rw [World.size_alloc]; omega), ((Below.refl _ _).alloc (Nat.le_refl _) _).grown hgrow1 (by simp) (by intro k hk; cases hk)⟩
set_option maxRecDepth 20000 in
set_option maxHeartbeats 16000000 in
theorem ttake11_any (p : Option Addr) (c : Nat) (q : Option Addr) (d : Nat) (h : Hp) (pc : Option Addr) (n cc : Nat) (y : Nat → Int) (m : Nat) (f : Int) (w : World) (hS : Sz w) (hT : Tab w) (hh : HpAt w p c q d h) (hF : formB h = true) (hin : Ints .i64 w pc (n * 4) y) (hpc : pc = none → n = 0 ∧ cc = 0) (hn : n ≤ 1000) (hm : m < n) (hr : rightY h n y = true) :
    Calls Tryd.prog 18 #[.agg #[.slice p h.n c, .slice q h.m d, .bool h.b], .slice pc n cc, .int .i64 m, .int .i64 f] w fun e w' => ∃ p' c' q' d' pc' cc', e = .returned (.tuple #[.agg #[.slice p' h.n c', .slice q' h.m d', .bool h.b], .slice pc' n cc', .int .i64 (takeA h n y m f), .bool (takeP h n y m f).isSome]) ∧ TookAt w w' h n y m f p c q d pc cc p' c' q' d' pc' cc' := by
  obtain ⟨w0, hw0, hB0, hR, hst⟩ := boxed2 (w := w) (v0 := .slice p h.n c) (v1 := .slice q h.m d) (v2 := .bool h.b) (u0 := .slice none 0 0) (u1 := .slice none 0 0) (u2 := .bool false) (t := 25)
  have hat := hh.below hst
  have hY := hin.below hst
  have hS := hS.below hst
  have hT := hT.below hst
  obtain ⟨c0, c1⟩ := ofC_at f
  have hP := fun W (hW : Below w0.heap.size w0 W) => tpage_any p c q d h pc n cc y m (ofC f).toNat W (hat.below hW) hF (hY.below hW) hn hm (by omega) hr
  rw [show (((ofC f).toNat : Nat) : Int) = ofC f by omega] at hP
  have hOf := cof_any f w0 hS
  have hF' : Hid (formB h = true) := hF
  obtain ⟨l0, x0, x1, x2, -, -, -⟩ := id hB0
  obtain ⟨l1, y0, y1, y2, f0, f1, f2⟩ := id hR
  cases e : takeP h n y m f with
  | none =>
    obtain ⟨e1, e2, e3⟩ := takeP_no e
    have hend : ∀ W, Below w.heap.size w W → TookAt w W h n y m f p c q d pc cc p c q d pc cc := fun W hW => ⟨by rw [e1]; exact hh.below hW, by rw [e3]; exact hin.below hW, hpc, ⟨(fun x => absurd x (by rw [e]; simp)), fun _ => ⟨rfl, rfl, rfl, rfl⟩⟩, (fun x => absurd x (by rw [e]; simp)), fun _ => ⟨rfl, rfl⟩, hW⟩
    rw [e2]
    clear e1 e2 e3
    cases hB : ofB f with
    | false =>
      rw [hB] at hOf
      go_enter Tryd.func18, Tryd.ntmps18
      go_upto_region 1 with fail
      rw [← hw0]
      clear hw0 hF hr e hm
      go_wp2_with (first
    | (go_at_call 34; refine Calls.mono (hOf) ?_; rintro e w' ⟨rfl, hb⟩; obtain ⟨hc, hf, hb, hz⟩ := bstep hb (w := w0) (by go_grown); try simp only [World.size_alloc, World.size_setCell, World.size_drew] at hc hf hz)
      )
      refine bodyPost_ret (by simp [results, Tryd.results18, go_sem, *]; try rfl) rfl ?_
      exact ⟨p, c, q, d, pc, cc, rfl, hend _ (by go_grown; exact bjoin hb hst)⟩
    | true =>
      have hp : pageY h n y m (ofC f).toNat = none := by unfold takeP at e; rw [if_pos hB] at e; exact e
      rw [hp] at hP
      rw [hB] at hOf
      go_enter Tryd.func18, Tryd.ntmps18
      go_upto_region 1 with fail
      rw [← hw0]
      clear hw0 hF hr e hm hp
      simp only [pageV] at hP
      go_wp2_with (first
        | (go_at_call 34; refine Calls.mono hOf ?_; rintro e w1 ⟨rfl, hb1⟩; have x01 := (hb1.cell (p := ⟨w.heap.size, 0, none⟩) l0).trans x0; have x11 := (hb1.cell (p := ⟨w.heap.size, 1, none⟩) l0).trans x1; have x21 := (hb1.cell (p := ⟨w.heap.size, 2, none⟩) l0).trans x2)
        | (go_at_call 16; refine Calls.mono (hP _ hb1) ?_; rintro e w2 ⟨rfl, hb2⟩; replace hb2 := bjoin hb2 hb1; obtain ⟨hc, hf, hb, hz⟩ := bstep hb2 (w := w0) (Below.refl _ _))
      )
      refine bodyPost_ret (by simp [results, Tryd.results18, go_sem, *]; try rfl) rfl ?_
      exact ⟨p, c, q, d, pc, cc, rfl, hend _ (by go_grown; exact bjoin hb hst)⟩
  | some g =>
    obtain ⟨e1, e2, e3⟩ := takeP_yes e
    obtain ⟨hgm, hlay⟩ := take_lays hF hr hm e
    obtain ⟨hB, hp⟩ : ofB f = true ∧ pageY h n y m (ofC f).toNat = some g := by
      unfold takeP at e
      by_cases hB : ofB f = true
      · rw [if_pos hB] at e; exact ⟨hB, e⟩
      · rw [if_neg hB] at e; cases e
    rw [hp] at hP
    rw [hB] at hOf
    simp only [pageV] at hP
    go_enter Tryd.func18, Tryd.ntmps18
    go_upto_region 1 with fail
    rw [← hw0]
    clear hw0 hF hr hp
    go_upto_region 7 with (first
      | (go_at_call 34; refine Calls.mono hOf ?_; rintro e w1 ⟨rfl, hb1⟩; have x01 := (hb1.cell (p := ⟨w.heap.size, 0, none⟩) l0).trans x0; have x11 := (hb1.cell (p := ⟨w.heap.size, 1, none⟩) l0).trans x1; have x21 := (hb1.cell (p := ⟨w.heap.size, 2, none⟩) l0).trans x2)
      | (go_at_call 16; refine Calls.mono (hP _ hb1) ?_; rintro e w2 ⟨rfl, hb2⟩; replace hb2 := bjoin hb2 hb1)
    )
    have hat2 := hat.below hb2
    have hY2 := hY.below hb2
    have hS2 := hS.below hb2
    have hT2 := hT.below hb2
    replace hB0 := hB0.below hb2
    replace hR := hR.below hb2
    have hbW2 := bjoin hb2 hst
    have hl2 := hR.1
    clear x0 x1 x2 y0 y1 y2 f0 f1 f2 l0 l1 x01 x11 x21 hb1 hb2 hat hY hst hP hOf hS hT
    obtain ⟨l0, x0, x1, x2, -, -, -⟩ := id hB0
    have hO := hopen_any p c q d h (g : Int) (ofC f) w2 hS2 hat2 hF'.out
    go_upto_region 8 with (first
      | (go_at_call 35; refine Calls.mono hO ?_; rintro e w3 ⟨p1, c1', q1, d1, rfl, hat3, hsrc3, hb3⟩)
    )
    obtain ⟨w4, hw4⟩ : ∃ w4, w4 = w3.alloc (.cells #[.slice p1 h.n c1', .slice q1 h.m d1, .bool h.b] 25) := ⟨_, rfl⟩
    have gG : Box3 w3.heap.size (.slice p1 h.n c1') (.slice q1 h.m d1) (.bool h.b) w4 := by rw [hw4]; exact Box3.new _ _ _ _ _
    have hB34 : Below w3.heap.size w3 w4 := by rw [hw4]; exact (Below.refl _ _).alloc (Nat.le_refl _) _
    rw [← hw4]
    clear hw4 hO x0 x1 x2 l0 hsrc3
    have hb4 := bjoin hB34 hb3
    replace hR := hR.below hb4
    have hY4 := hY2.below hb4
    have hS4 := hS2.below hb4
    have hT4 := hT2.below hb4
    have hbW4 := bjoin hb4 hbW2
    have hl3 : w2.heap.size ≤ w3.heap.size := hb3.size
    have hat4 := hat3.below hB34
    clear hY2 hat2 hat3 hb3 hb4 hbW2 hS2 hT2 hB0
    generalize hG : w3.heap.size = G at *
    obtain ⟨lG, g0, g1, g2, -, -, -⟩ := id gG
    have hin4 : HpIn w4 p1 h.n c1' q1 h.m d1 h.b (opH h g (ofC f)) := ⟨(op_n h g (ofC f)).1.symm, (op_n h g (ofC f)).2.1.symm, (op_n h g (ofC f)).2.2.symm, hat4⟩
    have hF5 := form_open hF'.out g (ofC f)
    have hL := hlay_in (g := (g : Int)) (f := f) hS4 hT4 hin4 hF5
    rw [hlay] at hL
    go_upto_region 9 with (first
      | (go_at_call 36; refine Calls.mono hL ?_; rintro e w6 ⟨p2, c2, q2, d2, rfl, hin6, hsrc6, hb6⟩)
    )
    obtain ⟨w7, hw7⟩ : ∃ w7, w7 = w6.alloc (.cells #[.slice p2 h.n c2, .slice q2 h.m d2, .bool h.b] 25) := ⟨_, rfl⟩
    have gK : Box3 w6.heap.size (.slice p2 h.n c2) (.slice q2 h.m d2) (.bool h.b) w7 := by rw [hw7]; exact Box3.new _ _ _ _ _
    have hB67 : Below w6.heap.size w6 w7 := by rw [hw7]; exact (Below.refl _ _).alloc (Nat.le_refl _) _
    rw [← hw7]
    clear hw7 hL lG g0 g1 g2 hin4 hF5 gG hS4 hT4 hat4
    have hb7 := bjoin hB67 hb6
    replace hR := hR.below hb7
    have hY7 := hY4.below hb7
    have hin7 := hin6.below hB67
    have hbW7 := bjoin hb7 hbW4
    have hl6 : w4.heap.size ≤ w6.heap.size := hb6.size
    have hl5 : G ≤ w4.heap.size := by have := hB34.size; omega
    clear hY4 hin6 hB67 hb6 hb7 hbW4 hB34
    generalize w6.heap.size = K at *
    have hC := clone_caches pc n cc y w7 hY7 (by omega) hn
    go_upto_region 12 with (first
      | (go_at_call 37; refine Calls.mono hC ?_; rintro e w8 ⟨pn, cn, rfl, hown, hb8⟩)
    )
    have hlw7 : w.heap.size + 1 < w7.heap.size := hR.1
    obtain ⟨gc, rfl, hgc⟩ : ∃ gc, pn = some ⟨gc, 0, none⟩ ∧ w7.heap.size ≤ gc := by
      rcases hown.2 with ⟨-, h0⟩ | ⟨g', cap, cur, e', hb', -⟩
      · omega
      · injection e' with e1 e2 e3
        exact ⟨g', e1, hb'⟩
    have hj : m * 4 + (ofC f).toNat < n * 4 := by omega
    have hgl := (hown.lt gc rfl).2
    have hcell := (hown.cellAt (m * 4 + (ofC f).toNat) hj).trans (vals_get .i64 y hj)
    have hfz := hown.frozenAt (m * 4 + (ofC f).toNat)
    have hst := (hown.stored (m * 4 + (ofC f).toNat) (.int .i64 (g : Int))).1
    rw [vals_set] at hst
    have hb9 : Below w7.heap.size w7 (w8.setCell ⟨gc, m * 4 + (ofC f).toNat, none⟩ (.int .i64 (g : Int))) := hb8.setCell (p := ⟨gc, m * 4 + (ofC f).toNat, none⟩) hgc _
    go_upto_region 13 with fail
    clear hC hY7 hcell hfz hown hb8 hgl
    generalize w8.setCell ⟨gc, m * 4 + (ofC f).toNat, none⟩ (.int .i64 (g : Int)) = w9 at *
    replace gK := gK.below hb9
    replace hR := hR.below hb9
    have hin9 := hin7.below hb9
    have hbW9 := bjoin hb9 hbW7
    obtain ⟨lK, k0, k1, k2, -, -, -⟩ := id gK
    obtain ⟨lR, y0, y1, y2, f0, f1, f2⟩ := id hR
    go_wp2
    refine bodyPost_ret (by simp [results, Tryd.results18, go_sem, *]; try rfl) rfl ?_
    have hYw : ∀ j, j < n * 4 → (Lit.int .i64 (if j = m * 4 + (ofC f).toNat then (g : Int) else y j)).wf = true := fun j hj => by
      split
      · have := (form_iff.1 hF'.out).2.1
        simp [Lit.wf, IntKind.min, IntKind.max, IntKind.signed, IntKind.bits]; omega
      · exact (hin j hj).2
    obtain ⟨hIo, hcn⟩ := owned_four hst hYw
    obtain ⟨n1, n2⟩ := hsrc6.new rfl
    have hclr : Clear (w.heap.size + 1) p2 q2 := ⟨fun b off sp e => by have := n1 b (by rw [e]; rfl); omega, fun b off sp e => by have := n2 b (by rw [e]; rfl); omega⟩
    have hfin := hin9.stores hclr (.slice p2 h.n c2) (.slice q2 h.m d2) (.bool h.b)
    have hAs : Aside (fun k => k = w.heap.size + 1) w9 (((w9.setCell ⟨w.heap.size + 1, 0, none⟩ (.slice p2 h.n c2)).setCell ⟨w.heap.size + 1, 1, none⟩ (.slice q2 h.m d2)).setCell ⟨w.heap.size + 1, 2, none⟩ (.bool h.b)) := (((Aside.of (T := fun k => k = w.heap.size + 1) (Below.refl _ w9)).setCell (g := w.heap.size + 1) rfl 0 (.slice p2 h.n c2)).setCell (g := w.heap.size + 1) rfl 1 (.slice q2 h.m d2)).setCell (g := w.heap.size + 1) rfl 2 (.bool h.b)
    have hIf := hIo.aside hAs (fun k hk b off sp e => by injection e with e; injection e with e1 e2; omega)
    refine ⟨p2, c2, q2, d2, some ⟨gc, 0, none⟩, cn, by rw [e2]; rfl, ?_⟩
    exact ⟨by rw [e1]; exact hfin.at', by rw [e3]; exact hIf, hcn, ⟨fun _ => ⟨fun b hb => by have := n1 b hb; omega, fun b hb => by have := n2 b hb; omega⟩, fun x => absurd x (by rw [e]; simp)⟩, fun _ b hb => by have := (hst.lt b hb).1; omega, fun x => absurd x (by rw [e]; simp), below_stores hbW9 (by omega) _ _ _⟩
theorem tkept_in {w : World} {pc : Option Addr} {k cc : Nat} {y : Nat → Int} {x : Int} (hin : Ints .i64 w pc (k * 4) y) (hk : k ≤ 1000) :
    Calls Tryd.prog 13 #[.slice pc k cc, .int .i64 x] w fun e w' => e = .returned (.bool (keptY k y x)) ∧ Below w.heap.size w w' := tkept_any pc k cc y x w hin hk
section
variable {w : World} {p : Option Addr} {n c : Nat} {q : Option Addr} {m d : Nat} {b : Bool} {h : Hp} {pc : Option Addr} {k cc : Nat} {y : Nat → Int}
theorem tright_in (hh : HpIn w p n c q m d b h) (hF : formB h = true) (hin : Ints .i64 w pc (k * 4) y) (hk : k ≤ 1000) :
    Calls Tryd.prog 11 #[.agg #[.slice p n c, .slice q m d, .bool b], .slice pc k cc] w fun e w' => e = .returned (.bool (rightY h k y)) ∧ Below w.heap.size w w' := by
  obtain ⟨rfl, rfl, rfl, hh⟩ := hh
  exact tright_any p c q d h pc k cc y w hh (form_iff.1 hF).2.1 hin hk
theorem tpage_in {mm cl : Nat} (hS : Sz w) (hT : Tab w) (hh : HpIn w p n c q m d b h) (hF : formB h = true) (hin : Ints .i64 w pc (k * 4) y) (hk : k ≤ 1000) (hm : mm < k) (hc : cl < 4) (hr : rightY h k y = true) :
    Calls Tryd.prog 16 #[.agg #[.slice p n c, .slice q m d, .bool b], .slice pc k cc, .int .i64 mm, .int .i64 cl] w fun e w' => e = .returned (pageV (pageY h k y mm cl)) ∧ Below w.heap.size w w' := by
  obtain ⟨rfl, rfl, rfl, hh⟩ := hh
  exact tpage_any p c q d h pc k cc y mm cl w hh hF hin hk hm hc hr
theorem ttake_in {mm : Nat} {f : Int} (hS : Sz w) (hT : Tab w) (hh : HpIn w p n c q m d b h) (hF : formB h = true) (hin : Ints .i64 w pc (k * 4) y) (hpc : pc = none → k = 0 ∧ cc = 0) (hk : k ≤ 1000) (hm : mm < k) (hr : rightY h k y = true) :
    Calls Tryd.prog 18 #[.agg #[.slice p n c, .slice q m d, .bool b], .slice pc k cc, .int .i64 mm, .int .i64 f] w fun e w' => ∃ p' c' q' d' pc' cc', e = .returned (.tuple #[.agg #[.slice p' n c', .slice q' m d', .bool b], .slice pc' k cc', .int .i64 (takeA h k y mm f), .bool (takeP h k y mm f).isSome]) ∧ TookIn w.heap.size (takeP h k y mm f).isSome w' n m k b (takeH h k y mm f) (takeY h k y mm f) p c q d pc cc p' c' q' d' pc' cc' ∧ Below w.heap.size w w' := by
  obtain ⟨rfl, rfl, rfl, hh⟩ := hh
  refine Calls.mono (ttake11_any p c q d h pc k cc y mm f w hS hT hh hF hin hpc hk hm hr) ?_
  rintro e w' ⟨p', c', q', d', pc', cc', rfl, t⟩
  exact ⟨p', c', q', d', pc', cc', rfl, t.in', t.below⟩
end
end Go.Proofs.YtneanbagdkeoiaaDoor
