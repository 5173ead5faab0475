/- Contracts of the code's marking (chapter 17): Right. -/
import Derived.Test.YtiofeebiejkajaaDoorB40
import Derived.Test.YtiofeebiejkajaaDoorB44
namespace Go.Proofs.YtiofeebiejkajaaDoor
set_option linter.unusedSimpArgs false
set_option linter.unusedVariables false
open Go.ChangeShapes Go.WideShapes Go.ChangeAt Go.RowKit Go.Joins

/-- Is what is in hand right? -/
def haB (h : Hp) (o f : Int) : Bool := if o = -1 then decide (f = 0) else decide (fdE h o f = 0)
set_option maxHeartbeats 4000000 in
set_option maxRecDepth 20000 in
theorem mhandR_any {p : Option Addr} {n c : Nat} {q : Option Addr} {k d : Nat} {b : Bool} {h : Hp} {o f : Int} {w : World} (hS : Sz w) (hh : HpIn w p n c q k d b h) (hF : formB h = true) :
    Calls Tryd.prog 49 #[.agg #[.slice p n c, .slice q k d, .bool b], .int .i64 o, .int .i64 f] w fun e w' => e = .returned (.bool (haB h o f)) ∧ Below w.heap.size w w' := by
  obtain ⟨w0, hw0⟩ : ∃ w0, w0 = w.alloc (.cells #[.slice p n c, .slice q k d, .bool b] 25) := ⟨_, rfl⟩
  have gH : TBox 25 w.heap.size #[.slice p n c, .slice q k d, .bool b] w0 := by rw [hw0]; exact TBox.new _ _ _
  have hb0 : Below w.heap.size w w0 := by rw [hw0]; exact (Below.refl _ _).alloc (Nat.le_refl _) _
  have y0 := gH.cell 0
  have y1 := gH.cell 1
  have y2 := gH.cell 2
  simp only [List.getElem?_toArray, List.getElem?_cons_zero, List.getElem?_cons_succ] at y0 y1 y2
  have lH := gH.lt
  by_cases ho : o = -1
  · have e : haB h o f = decide (f = 0) := by unfold haB; rw [if_pos ho]
    subst ho
    rw [e]
    clear e gH
    go_enter Tryd.func49, Tryd.ntmps49
    go_upto_region 1 with fail
    rw [← hw0]
    clear hw0
    go_wp2
    go_returns
    exact ⟨by congr 2, hb0⟩
  · have e : haB h o f = decide (fdE h o f = 0) := by unfold haB; rw [if_neg ho]
    have hob : (o == -1) = false := by simpa using ho
    have hC := ofield_in (a := o) (i := f) (hS.below hb0) (hh.below hb0) hF
    rw [e]
    generalize fdE h o f = E at *
    generalize getK (fdX h o f) = VK at hC
    generalize getN (fdX h o f) = VN at hC
    clear e gH ho
    go_enter Tryd.func49, Tryd.ntmps49
    go_upto_region 1 with fail
    rw [← hw0]
    clear hw0
    go_wp2_with (first
    | (go_at_call 52; refine Calls.mono (hC) ?_; rintro e w' ⟨rfl, hb⟩; obtain ⟨hc, hf, hb, hz⟩ := bstep hb (w := w0) (by go_grown); try simp only [World.size_alloc, World.size_setCell, World.size_drew] at hc hf hz)
    )
    go_returns
    exact ⟨by congr 2, (bjoin hb hb0).alloc (by have := hb.size; have := hb0.size; omega) _⟩
theorem haB_iff {h : Hp} {o f : Int} : haB h o f = true ↔ (o = -1 ∧ f = 0) ∨ (¬ o = -1 ∧ fdE h o f = 0) := by
  unfold haB
  by_cases e : o = -1
  · rw [if_pos e]; simp [e]
  · rw [if_neg e]; simp [e]
set_option maxHeartbeats 8000000 in
set_option maxRecDepth 20000 in
theorem mright_in {p : Option Addr} {n c : Nat} {q : Option Addr} {k d : Nat} {b : Bool} {h : Hp} {m : Mk} {pg : Option Addr} {cg : Nat} {pb : Option Addr} {cb : Nat} {pr : Option Addr} {cr : Nat} {N : Nat} {w : World}
    (hS : Sz w) (hh : HpIn w p n c q k d b h) (hF : formB h = true) (hM : MAtE N w m pg cg pb cb pr cr) (hb : m.nb ≤ 1000) (hw : In64 m.g.r ∧ In64 m.ob ∧ In64 m.fi ∧ In64 m.cu) {B : Bool} (hB : B = true ↔ rightM h m) :
    Calls Tryd.prog 27 #[.agg #[.slice p n c, .slice q k d, .bool b], .agg #[.int .i64 m.g.r, .slice pg m.g.n cg, .slice pb m.nb cb, .slice pr m.nr cr, .int .i64 m.ob, .int .i64 m.fi, .int .i64 m.cu, .bool m.ov]] w fun e w' => e = .returned (.bool B) ∧ Below w.heap.size w w' := by
  have hno : ¬ rightM h m → B = false := fun hn => by
    cases hb : B with
    | false => rfl
    | true => exact absurd (hB.1 hb) hn
  have hyes : rightM h m → B = true := fun hn => hB.2 hn
  obtain ⟨w0, hw0⟩ : ∃ w0, w0 = (w.alloc (.cells #[.slice p n c, .slice q k d, .bool b] 25)).alloc (.cells #[.int .i64 m.g.r, .slice pg m.g.n cg, .slice pb m.nb cb, .slice pr m.nr cr, .int .i64 m.ob, .int .i64 m.fi, .int .i64 m.cu, .bool m.ov] 32) := ⟨_, rfl⟩
  obtain ⟨gH, gM, hb0⟩ := tbox_two hw0
  have y0 := gH.cell 0
  have y1 := gH.cell 1
  have y2 := gH.cell 2
  have z0 := gM.cell 0
  have z1 := gM.cell 1
  have z2 := gM.cell 2
  have z4 := gM.cell 4
  have z5 := gM.cell 5
  have z6 := gM.cell 6
  simp only [List.getElem?_toArray, List.getElem?_cons_zero, List.getElem?_cons_succ] at y0 y1 y2 z0 z1 z2 z4 z5 z6
  have lH := gH.lt
  have lM := gM.lt
  have hn := hh.n_eq
  have hnH : Hid (n = h.n) := hn
  have hCg := gright_any m.g.r pg m.g.n cg m.g.z w0 (hM.g.below hb0)
  have hHd := fun W (hW : Below w0.heap.size w0 W) => mhandR_any (o := m.ob) (f := m.fi) (hS.below (bjoin hW hb0)) (hh.below (bjoin hW hb0)) hF
  have hrows := hM.b.below grE_below hb0
  have hbnd : n ≤ maxLen := by rw [hn]; exact hh.at'.nle
  simp only [maxLen] at hbnd
  clear hn hS hh hM gH gM hB
  rw [show rightG m.g.r m.g.n m.g.z = m.g.right from rfl] at hCg
  cases hg : m.g.right with
  | false =>
    have hBf := hno (fun hr => by rw [hr.1] at hg; cases hg)
    rw [hg] at hCg
    clear hg
    go_enter Tryd.func27, Tryd.ntmps27
    go_upto_region 1 with fail
    rw [← hw0]
    clear hw0
    go_wp2_with (first
    | (go_at_call 48; refine Calls.mono (hCg) ?_; rintro e w' ⟨rfl, hb⟩; obtain ⟨hc, hf, hb, hz⟩ := bstep hb (w := w0) (by go_grown); try simp only [World.size_alloc, World.size_setCell, World.size_drew] at hc hf hz)
    )
    go_returns
    exact ⟨by first | rfl | (rw [hBf]; rfl), bjoin hb hb0⟩
  | true =>
    rw [hg] at hCg
    have hgH : Hid (m.g.right = true) := hg
    clear hg
    go_enter Tryd.func27, Tryd.ntmps27
    go_upto_region 1 with fail
    rw [← hw0]
    clear hw0
    go_upto_region 4 with (first
    | (go_at_call 48; refine Calls.mono (hCg) ?_; rintro e w' ⟨rfl, hb⟩; obtain ⟨hc, hf, hb, hz⟩ := bstep hb (w := w0) (by go_grown); try simp only [World.size_alloc, World.size_setCell, World.size_drew] at hc hf hz)
    )
    clear hCg
    have hbw1 := hb
    clear hc hf hb hz
    generalize w' = w1 at *
    go_loopg [14] m.nb (fun gh iv wr => ∃ j : Nat, j ≤ m.nb ∧ gh = m.nb - j ∧ iv = .int .i64 j ∧ Hid (∀ t, t < j → (m.b t).right = true) ∧ Below w0.heap.size w0 wr)
    case atStart => exact ⟨0, by omega, by omega, rfl, (fun t ht => by omega : ∀ t, t < 0 → (m.b t).right = true), hbw1⟩
    case round =>
      obtain ⟨j, hj, rfl, rfl, hR, hbr⟩ := hrel
      by_cases hlt : j < m.nb
      · obtain ⟨bb, off, L, rfl, hl, hL, hc, pj, cj, rfl, hgj, hej, h64⟩ := (hrows.below grE_below hbr).row j hlt
        have x0 := hc 0 _ rfl
        have x1 := hc 1 _ rfl
        simp only [Nat.add_zero] at x0 x1
        have hCj := fun W (hW : Below wr.heap.size wr W) => gright_any (m.b j).r pj (m.b j).n cj (m.b j).z W (hgj.below hW)
        rw [show rightG (m.b j).r (m.b j).n (m.b j).z = (m.b j).right from rfl] at hCj
        cases hg : (m.b j).right with
        | true =>
          have hR' : Hid (∀ t, t < j + 1 → (m.b t).right = true) := (fun t ht => by
            by_cases e : t = j
            · rw [e]; exact hg
            · exact hR.out t (by omega) : ∀ t, t < j + 1 → (m.b t).right = true)
          rw [hg] at hCj
          clear hg hc hgj hej h64 hL hHd hrows
          generalize (m.b j).n = K at *
          generalize (m.b j).r = R at *
          go_wp2_with (first
    | (go_at_call 48; refine Calls.mono (hCj _ (by go_grown)) ?_; rintro e w' ⟨rfl, hb⟩; obtain ⟨hc, hf, hb, hz⟩ := bstep hb (w := wr) (by go_grown); try simp only [World.size_alloc, World.size_setCell, World.size_drew] at hc hf hz)
          )
          go_roundg (m.nb - (j + 1))
          case measure => omega
          case rel => exact ⟨j + 1, by omega, rfl, by go_num, hR', bjoin hb hbr⟩
        | false =>
          have hBf := hno (fun hr => by rw [hr.2.1 j hlt] at hg; cases hg)
          rw [hg] at hCj
          clear hg hc hgj hej h64 hL hHd hrows
          generalize (m.b j).n = K at *
          generalize (m.b j).r = R at *
          go_wp2_with (first
    | (go_at_call 48; refine Calls.mono (hCj _ (by go_grown)) ?_; rintro e w' ⟨rfl, hb⟩; obtain ⟨hc, hf, hb, hz⟩ := bstep hb (w := wr) (by go_grown); try simp only [World.size_alloc, World.size_setCell, World.size_drew] at hc hf hz)
          )
          go_returns
          exact ⟨by first | rfl | (rw [hBf]; rfl), bjoin hb (bjoin hbr hb0)⟩
      · obtain rfl : j = m.nb := by omega
        replace hHd := hHd wr hbr
        have hRiff : rightM h m ↔ haB h m.ob m.fi = true ∧ -1 ≤ m.cu ∧ m.cu ≤ n := by
          rw [haB_iff, hnH.out]
          exact ⟨fun hr => ⟨hr.2.2.2, hr.2.2.1⟩, fun hr => ⟨hgH.out, hR.out, hr.2, hr.1⟩⟩
        replace y0 := (hbr.cell (p := ⟨w.heap.size, 0, none⟩) lH).trans y0
        replace y1 := (hbr.cell (p := ⟨w.heap.size, 1, none⟩) lH).trans y1
        replace y2 := (hbr.cell (p := ⟨w.heap.size, 2, none⟩) lH).trans y2
        replace z4 := (hbr.cell (p := ⟨w.heap.size + 1, 4, none⟩) lM).trans z4
        replace z5 := (hbr.cell (p := ⟨w.heap.size + 1, 5, none⟩) lM).trans z5
        replace z6 := (hbr.cell (p := ⟨w.heap.size + 1, 6, none⟩) lM).trans z6
        have lH' := Nat.lt_of_lt_of_le lH hbr.size
        have lM' := Nat.lt_of_lt_of_le lM hbr.size
        have hbr0 := bjoin hbr hb0
        clear z0 z1 z2 hbr hrows lH lM
        cases hhd : haB h m.ob m.fi with
        | false =>
          have hBf := hno (fun hr => by rw [(hRiff.1 hr).1] at hhd; cases hhd)
          rw [hhd] at hHd
          clear hRiff hhd
          go_wp2_with (first
    | (go_at_call 49; refine Calls.mono (hHd) ?_; rintro e w' ⟨rfl, hb⟩; obtain ⟨hc, hf, hb, hz⟩ := bstep hb (w := wr) (by go_grown); try simp only [World.size_alloc, World.size_setCell, World.size_drew] at hc hf hz)
          )
          go_returns
          exact ⟨by first | rfl | (rw [hBf]; rfl), bjoin hb hbr0⟩
        | true =>
          rw [hhd] at hHd
          by_cases c1 : -1 ≤ m.cu
          · by_cases c2 : m.cu ≤ n
            · have hBt := hyes (hRiff.2 ⟨hhd, c1, c2⟩)
              clear hRiff hhd
              go_wp2_with (first
    | (go_at_call 49; refine Calls.mono (hHd) ?_; rintro e w' ⟨rfl, hb⟩; obtain ⟨hc, hf, hb, hz⟩ := bstep hb (w := wr) (by go_grown); try simp only [World.size_alloc, World.size_setCell, World.size_drew] at hc hf hz)
              )
              go_returns
              exact ⟨by rw [hBt]; first | rfl | (show Ending.returned (.bool (decide (m.cu ≤ (n : Int)))) = _; rw [decide_eq_true (by omega)]), bjoin hb hbr0⟩
            · have hBf := hno (fun hr => c2 (hRiff.1 hr).2.2)
              clear hRiff hhd
              go_wp2_with (first
    | (go_at_call 49; refine Calls.mono (hHd) ?_; rintro e w' ⟨rfl, hb⟩; obtain ⟨hc, hf, hb, hz⟩ := bstep hb (w := wr) (by go_grown); try simp only [World.size_alloc, World.size_setCell, World.size_drew] at hc hf hz)
              )
              go_returns
              exact ⟨by rw [hBf]; first | rfl | (show Ending.returned (.bool (decide (m.cu ≤ (n : Int)))) = _; rw [decide_eq_false (by omega)]), bjoin hb hbr0⟩
          · have hBf := hno (fun hr => c1 (hRiff.1 hr).2.1)
            clear hRiff hhd
            go_wp2_with (first
    | (go_at_call 49; refine Calls.mono (hHd) ?_; rintro e w' ⟨rfl, hb⟩; obtain ⟨hc, hf, hb, hz⟩ := bstep hb (w := wr) (by go_grown); try simp only [World.size_alloc, World.size_setCell, World.size_drew] at hc hf hz)
            )
            go_returns
            exact ⟨by first | rfl | (rw [hBf]; rfl), bjoin hb hbr0⟩
end Go.Proofs.YtiofeebiejkajaaDoor
