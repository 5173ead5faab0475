/- Contracts of the reference of chapter 12. -/
import Derived.Test.YtjoepiopigmmnaaDoorHeapCopy
namespace Go.Proofs.YtjoepiopigmmnaaDoor
set_option linter.unusedSimpArgs false
set_option linter.unusedVariables false
open Go.ChangeShapes Go.WideShapes Go.ChangeAt Go.RowKit Go.Joins

/-- How many of the first spans are dirty. -/
def drI (s : Nat → Sp) : Nat → Int
  | 0 => 0
  | k + 1 => if (s k).st = 2 then drI s k + 1 else drI s k
theorem drI_bound (s : Nat → Sp) : ∀ k : Nat, 0 ≤ drI s k ∧ drI s k ≤ k
  | 0 => ⟨Int.le_refl _, Int.le_refl _⟩
  | k + 1 => by
    have := drI_bound s k
    unfold drI
    split <;> omega
set_option maxHeartbeats 4000000 in
theorem rdirty12_any (p : Option Addr) (c : Nat) (q : Option Addr) (d : Nat) (h : Hp) (w : World) (hh : HpAt w p c q d h) :
    Calls Tryd.prog 12 #[.agg #[.slice p h.n c, .slice q h.m d, .bool h.b]] w fun e w' => e = .returned (.int .i64 (drI h.s h.m)) ∧ Below w.heap.size w w' := by
  obtain ⟨w0, hw0⟩ : ∃ w0, w0 = w.alloc (.cells #[.slice p h.n c, .slice q h.m d, .bool h.b] 25) := ⟨_, rfl⟩
  have g3 : Box3 w.heap.size (.slice p h.n c) (.slice q h.m d) (.bool h.b) w0 := by rw [hw0]; exact Box3.new _ _ _ _ _
  have hB0 : Below w.heap.size w w0 := by rw [hw0]; exact (Below.refl _ _).alloc (Nat.le_refl _) _
  have hsp := hh.spans.below hB0
  have hml := hh.mle
  simp only [maxLen] at hml
  go_enter Tryd.func12, Tryd.ntmps12
  go_upto_region 1 with fail
  rw [← hw0]
  clear hw0
  go_wp2
  go_loopg [3, 4] h.m (fun gg nv iv wr => ∃ i : Nat, i ≤ h.m ∧ gg = h.m - i ∧ iv = .int .i64 i ∧ nv = .int .i64 (drI h.s i) ∧ Below w0.heap.size w0 wr)
  case atStart => exact ⟨0, by omega, by omega, rfl, rfl, Below.refl _ _⟩
  case round =>
    obtain ⟨i, ih, rfl, rfl, rfl, hbw⟩ := hrel
    obtain ⟨l3, x0, x1, x2, -, -, -⟩ := g3.below hbw
    have hbd := drI_bound h.s i
    by_cases hi : i < h.m
    · obtain ⟨⟨b, off, rfl, hlt, s0, s1, s2⟩, hwf⟩ := (hsp.below hbw) i hi
      by_cases e : (h.s i).st = 2
      · have hd : drI h.s (i + 1) = drI h.s i + 1 := by show (if (h.s i).st = 2 then _ else _) = _; rw [if_pos e]
        have d0 : ((h.s i).st == 2) = true := by simp [e]
        generalize drI h.s i = x at *
        go_wp2
        go_roundg (h.m - (i + 1))
        case measure => omega
        case rel => exact ⟨i + 1, by omega, rfl, by go_num, by rw [hd], hbw⟩
      · have hd : drI h.s (i + 1) = drI h.s i := by show (if (h.s i).st = 2 then _ else _) = _; rw [if_neg e]
        have d0 : ((h.s i).st == 2) = false := by simp [e]
        generalize drI h.s i = x at *
        go_wp2
        go_roundg (h.m - (i + 1))
        case measure => omega
        case rel => exact ⟨i + 1, by omega, rfl, by go_num, by rw [hd], hbw⟩
    · obtain rfl : i = h.m := by omega
      go_wp2
      go_returns
      exact ⟨rfl, bjoin hbw hB0⟩
set_option maxHeartbeats 8000000 in
theorem rcopied12_any (p : Option Addr) (c : Nat) (q : Option Addr) (d : Nat) (h : Hp) (w : World) (hh : HpAt w p c q d h) (hF : formB h = true) :
    Calls Tryd.prog 44 #[.agg #[.slice p h.n c, .slice q h.m d, .bool h.b]] w fun e w' => ∃ p' c' q' d', e = .returned (.agg #[.slice p' h.n c', .slice q' h.m d', .bool h.b]) ∧ HpOwn w' w.heap.size p' c' q' d' h ∧ Below w.heap.size w w' := by
  obtain ⟨i0, hi, hz0, hz1, hz2⟩ := info_parts infoW
  obtain ⟨i1, hi', hz0', hz1', hz2'⟩ := info_parts infoS
  have hb0 : 0 < h.n ∧ h.n ≤ 512 ∧ 0 < h.m ∧ h.m ≤ 16 := by have := form_iff.1 hF; omega
  obtain ⟨n0, n1, m0, m1⟩ := hb0
  obtain ⟨w0, hw0, hB0, hB1, hst0⟩ := boxed2 (w := w) (v0 := .slice p h.n c) (v1 := .slice q h.m d) (v2 := .bool h.b) (u0 := .slice none 0 0) (u1 := .slice none 0 0) (u2 := .bool false) (t := 25)
  have hl0 : w.heap.size + 1 < w0.heap.size := hB1.1
  go_enter Tryd.func44, Tryd.ntmps44
  go_upto_region 1 with fail
  rw [← hw0]
  clear hw0
  obtain ⟨l0, x0, x1, x2, -, -, -⟩ := id hB0
  go_upto_region 2 with fail
  obtain ⟨w1, hw1⟩ : ∃ W, W = w0.alloc (.cells #[.slice none 0 0, .slice none 0 0, .bool h.b] 25) := ⟨_, rfl⟩
  have hB2 : Box3 w0.heap.size (.slice none 0 0) (.slice none 0 0) (.bool h.b) w1 := by rw [hw1]; exact Box3.new _ _ _ _ _
  have hst1 : Below w0.heap.size w0 w1 := by rw [hw1]; exact (Below.refl _ _).alloc (Nat.le_refl _) _
  have hl1 : w0.heap.size < w1.heap.size := hB2.1
  have hin := (hh.ints.below hst0).below hst1
  have hsp := (hh.spans.below hst0).below hst1
  replace hB0 := hB0.below hst1
  replace hB1 := hB1.below hst1
  have hbW := bjoin hst1 hst0
  rw [← hw1]
  clear hw1 hst0 hst1 x0 x1 x2 l0
  generalize w0.heap.size = G at *
  obtain ⟨l0, x0, x1, x2, -, -, -⟩ := id hB0
  obtain ⟨l2, z0, z1, z2, f0, f1, f2⟩ := id hB2
  go_upto_region 3 with (first
    | (at_builtin; refine wpList_append_ints rfl (.tmp 8) (.tmp 10) 22 rfl w1.heap.size 61 i0 (.int .u64 0) 8 Tryd.underlying22 hi hz0 hz1 hz2 rfl (.slice none 0 0) 0 [] rfl (World.ownsRow_nil w1 _ _ _) .u64 p h.n c h.z rfl hin hh.pnil (by simp only [maxLen]; omega) (by omega) (Nat.le_refl _) ?_; intro v2 w2 hown2 hgrow2; obtain ⟨p2, c2, rfl, -⟩ := owned_new hown2; have hst2 : Below w1.heap.size w1 w2 := (Below.refl _ _).grown hgrow2 (Nat.le_refl _) (fun k hk => by cases hk); obtain ⟨l2', z0', z1', z2', f0', f1', f2'⟩ := hB2.below hst2)
  )
  obtain ⟨w3, hw3⟩ : ∃ W, W = w2.setCell ⟨G, 0, none⟩ (.slice p2 h.n c2) := ⟨_, rfl⟩
  rw [Nat.zero_add, List.nil_append] at hown2
  have hB23 : Box3 G (.slice p2 h.n c2) (.slice none 0 0) (.bool h.b) w3 := by rw [hw3]; exact (hB2.below hst2).store0 _
  have hB03 : Box3 w.heap.size (.slice p h.n c) (.slice q h.m d) (.bool h.b) w3 := by rw [hw3]; exact (hB0.below hst2).other (by omega) _ _
  have hB13 : Box3 (w.heap.size + 1) (.slice none 0 0) (.slice none 0 0) (.bool false) w3 := by rw [hw3]; exact (hB1.below hst2).other (by omega) _ _
  have hown3 : w3.ownsRow w1.heap.size 61 1 (.slice p2 h.n c2) h.n (vals .u64 h.n h.z) := by rw [hw3]; exact ownsRow_setCell_below hown2 (by show G < w1.heap.size; omega) _
  have hb3 : Below w.heap.size w w3 := by rw [hw3]; exact (bjoin hst2 hbW).setCell (by show w.heap.size ≤ G; omega) _
  have hsp3 : Spans w3 q h.m h.s := hh.spans.below hb3
  have hl3 : w1.heap.size ≤ w3.heap.size := by rw [hw3]; have := hst2.size; simpa [World.setCell] using this
  rw [← hw3]
  clear hw3 hown2 hgrow2 hst2 hB0 hB1 hB2 hbW hin hsp x0 x1 x2 l0 z0 z1 z2 f0 f1 f2 l2 z0' z1' z2' f0' f1' f2' l2'
  obtain ⟨l0, x0, x1, x2, -, -, -⟩ := id hB03
  obtain ⟨l2, z0, z1, z2, f0, f1, f2⟩ := id hB23
  obtain ⟨ad, rfl, hcell⟩ := hsp3.cells m0
  go_upto_region 4 with (first
    | (at_builtin; refine wpList_append_own _ rfl (.tmp 14) (.tmp 16) 23 rfl w3.heap.size 42 i1 (.agg #[.int .i64 0, .int .i64 0, .int .u32 0]) 3 24 Tryd.underlying23 hi' hz0' hz1' hz2' rfl (by decide) (.slice none 0 0) 0 [] rfl (World.ownsRow_nil w3 _ _ _) ad h.m d (spVals h.m h.s) rfl (spVals_length _ _) hcell (spVals_one _ _) (by simp only [maxLen]; omega) (by omega) (Nat.le_refl _) ?_; intro v4 w4 hown4 hgrow4 _; obtain ⟨q4, d4, rfl, -⟩ := owned_new hown4; have hst4 : Below w3.heap.size w3 w4 := (Below.refl _ _).grown hgrow4 (Nat.le_refl _) (fun k hk => by cases hk); obtain ⟨l2', z0', z1', z2', f0', f1', f2'⟩ := hB23.below hst4)
  )
  obtain ⟨w5, hw5⟩ : ∃ W, W = w4.setCell ⟨G, 1, none⟩ (.slice q4 h.m d4) := ⟨_, rfl⟩
  rw [Nat.zero_add, List.nil_append] at hown4
  have hB25 : Box3 G (.slice p2 h.n c2) (.slice q4 h.m d4) (.bool h.b) w5 := by rw [hw5]; exact (hB23.below hst4).store1 _
  have hB15 : Box3 (w.heap.size + 1) (.slice none 0 0) (.slice none 0 0) (.bool false) w5 := by rw [hw5]; exact (hB13.below hst4).other (by omega) _ _
  have hown5 : w5.ownsRow w3.heap.size 42 3 (.slice q4 h.m d4) h.m (spVals h.m h.s) := by rw [hw5]; exact ownsRow_setCell_below hown4 (by show G < w3.heap.size; omega) _
  have hownW : w5.ownsRow w1.heap.size 61 1 (.slice p2 h.n c2) h.n (vals .u64 h.n h.z) := by rw [hw5]; exact ownsRow_setCell_below (owned_below hown3 hst4) (by show G < w1.heap.size; omega) _
  have hb5 : Below w.heap.size w w5 := by rw [hw5]; exact (bjoin hst4 hb3).setCell (by show w.heap.size ≤ G; omega) _
  have hne : ∀ b b', (Value.slice p2 h.n c2).ownBlock = some b → (Value.slice q4 h.m d4).ownBlock = some b' → b ≠ b' := fun b b' e e' => by
    have h1 := (hown3.lt b e).2
    have h2 := (hown5.lt b' e').1
    omega
  rw [← hw5]
  clear hw5 hown4 hgrow4 hst4 hB03 hB13 hB23 x0 x1 x2 l0 z0 z1 z2 f0 f1 f2 l2 z0' z1' z2' f0' f1' f2' l2' hown3 hb3 hcell hsp3
  obtain ⟨l2, z0, z1, z2, -, -, -⟩ := id hB25
  obtain ⟨l1, y0, y1, y2, f0, f1, f2⟩ := id hB15
  go_wp2
  refine bodyPost_ret (by simp [results, Tryd.results44, go_sem, *]; try rfl) rfl ?_
  have hO : HpOwn w5 (w.heap.size + 2) p2 c2 q4 d4 h := ⟨owned_base hownW (by omega), owned_base hown5 (by omega), hne, hh.wf, hh.nle, hh.mle⟩
  have hz := (((hO.under (g := w.heap.size + 1) (by omega) 0 (.slice p2 h.n c2)).under (g := w.heap.size + 1) (by omega) 1 (.slice q4 h.m d4)).under (g := w.heap.size + 1) (by omega) 2 (.bool h.b)).lower (show w.heap.size ≤ w.heap.size + 2 by omega)
  exact ⟨p2, c2, q4, d4, rfl, hz, below_stores hb5 (by omega) _ _ _⟩
/-- A span's state stored. -/
theorem spVals_st (s : Nat → Sp) {n i : Nat} (h : i < n) (x : Int) : (spVals n s).set (i * 3) (.int .i64 x) = spVals n (setS s i ⟨x, (s i).cl, (s i).fr⟩) := by
  apply List.ext_getElem?
  intro j
  by_cases hj : j < n * 3
  · rw [spVals_at _ hj, List.getElem?_set, spVals_length, spVals_at s hj]
    unfold setS
    by_cases e0 : i * 3 = j
    · rw [if_pos e0, if_pos (by omega), if_pos (by omega), if_pos (by omega)]
    · rw [if_neg e0]
      by_cases e1 : (j / 3 : Nat) = i
      · have h1 : ((j / 3 : Nat) : Int) = i := by omega
        rw [if_pos h1, e1]
        have h0 : ¬ j % 3 = 0 := by omega
        rw [if_neg h0, if_neg h0]
      · rw [if_neg (show ¬ ((j / 3 : Nat) : Int) = i by omega)]
  · rw [List.getElem?_eq_none (by simp [spVals_length]; omega), List.getElem?_eq_none (by rw [spVals_length]; omega)]
def bgS' (s : Sp) : Sp := if s.st = 1 then ⟨2, s.cl, s.fr⟩ else s
def bgTo (s : Nat → Sp) (k : Nat) : Nat → Sp := fun j => if j < k then bgS' (s j) else s j
theorem bg_next (s : Nat → Sp) (k : Nat) : bgTo s (k + 1) = setS (bgTo s k) k (bgS' (s k)) := by
  funext j
  unfold bgTo setS
  by_cases h : j = k
  · subst h; rw [if_pos (by omega), if_pos rfl]
  · rw [if_neg (show ¬ (j : Int) = k by omega)]
    by_cases h1 : j < k
    · rw [if_pos (by omega)]
      exact (if_pos h1).symm
    · rw [if_neg (by omega)]
      exact (if_neg h1).symm
theorem bg_at (s : Nat → Sp) (k : Nat) : bgTo s k k = s k := by unfold bgTo; rw [if_neg (by omega)]
theorem setS_same (s : Nat → Sp) (k : Nat) : setS s k (s k) = s := by
  funext j
  unfold setS
  split
  · rename_i e; rw [show j = k by omega]
  · rfl
theorem HpOwn.state {W : World} {base : Nat} {p : Option Addr} {c : Nat} {g d : Nat} {h : Hp} (o : HpOwn W base p c (some ⟨g, 0, none⟩) d h) {i : Nat} (hi : i < h.m) {x : Int} (hx : (Lit.int .i64 x).wf = true) :
    W.cell? ⟨g, i * 3, none⟩ = some (.int .i64 (h.s i).st) ∧ W.frozen? ⟨g, i * 3, none⟩ = false ∧ HpOwn (W.setCell ⟨g, i * 3, none⟩ (.int .i64 x)) base p c (some ⟨g, 0, none⟩) d { h with s := setS h.s i ⟨x, (h.s i).cl, (h.s i).fr⟩ } := by
  have hs := o.spans
  have hn : (Value.slice p h.n c).ownBlock ≠ some g := fun e => o.ne g g e rfl rfl
  refine ⟨?_, hs.frozenAt _, owned_setCell o.words hn _ _, ?_, o.ne, ?_, o.nle, o.mle⟩
  · rw [hs.cellAt (i * 3) (by omega)]
    exact (spVals_get h.s hi).1
  · have := (hs.stored (i * 3) (.int .i64 x)).1
    rw [spVals_st h.s hi x] at this
    exact this
  · refine ⟨o.wf.1, fun j hj => ?_⟩
    show (setS h.s i _ j).wf
    unfold setS
    split
    · have := o.wf.2 i hi
      exact ⟨by simpa [Lit.wf, IntKind.min, IntKind.max, IntKind.signed, IntKind.bits] using hx, this.2⟩
    · exact o.wf.2 j hj
set_option maxHeartbeats 8000000 in
theorem rbegin12_any (p : Option Addr) (c : Nat) (q : Option Addr) (d : Nat) (h : Hp) (w : World) (hh : HpAt w p c q d h) (hF : formB h = true) :
    Calls Tryd.prog 24 #[.agg #[.slice p h.n c, .slice q h.m d, .bool h.b]] w fun e w' => ∃ p' c' q' d', e = .returned (.agg #[.slice p' h.n c', .slice q' h.m d', .bool h.b]) ∧ HpOwn w' w.heap.size p' c' q' d' { h with s := bgTo h.s h.m } ∧ Below w.heap.size w w' := by
  have hb0 : 0 < h.n ∧ h.n ≤ 512 ∧ 0 < h.m ∧ h.m ≤ 16 := by have := form_iff.1 hF; omega
  obtain ⟨n0, n1, m0, m1⟩ := hb0
  obtain ⟨w0, hw0, hB0, hB1, hst0⟩ := boxed2 (w := w) (v0 := .slice p h.n c) (v1 := .slice q h.m d) (v2 := .bool h.b) (u0 := .slice none 0 0) (u1 := .slice none 0 0) (u2 := .bool false) (t := 25)
  have hl0 : w.heap.size + 1 < w0.heap.size := hB1.1
  have hC := rcopied12_any p c q d h w0 (hh.below hst0) hF
  have hF' : Hid (formB h = true) := hF
  clear hF
  go_enter Tryd.func24, Tryd.ntmps24
  go_upto_region 1 with fail
  rw [← hw0]
  clear hw0
  obtain ⟨l0, x0, x1, x2, -, -, -⟩ := id hB0
  go_upto_region 3 with (first
    | (go_at_call 44; refine Calls.mono hC ?_; rintro e w1 ⟨p1, c1, q1, d1, rfl, hO, hb⟩)
  )
  obtain ⟨w2, hw2⟩ : ∃ W, W = w1.alloc (.cells #[.slice p1 h.n c1, .slice q1 h.m d1, .bool h.b] 25) := ⟨_, rfl⟩
  have hB2 : Below w1.heap.size w1 w2 := by rw [hw2]; exact (Below.refl _ _).alloc (Nat.le_refl _) _
  have gG : Box3 w1.heap.size (.slice p1 h.n c1) (.slice q1 h.m d1) (.bool h.b) w2 := by rw [hw2]; exact Box3.new _ _ _ _ _
  obtain ⟨gs, rfl, lgs, lgs'⟩ := hO.span m0
  have hO2 := hO.below hB2
  have hR2 := hB1.below (bjoin hB2 hb)
  have hbW := bjoin (bjoin hB2 hb) hst0
  rw [← hw2]
  clear hw2 hB2 hb hst0 hB0 x0 x1 x2 l0 hC hO
  have hz0 : bgTo h.s 0 = h.s := by funext j; unfold bgTo; rw [if_neg (by omega)]
  have hst : HpOwn w2 w0.heap.size p1 c1 (some ⟨gs, 0, none⟩) d1 { h with s := bgTo h.s 0 } := by rw [hz0]; exact hO2
  have hG1 : w.heap.size + 1 < w1.heap.size := by omega
  clear hO2 hz0
  generalize w1.heap.size = G at *
  go_loopg [4] h.m (fun gg iv wr => ∃ i : Nat, i ≤ h.m ∧ gg = h.m - i ∧ iv = .int .i64 i ∧ HpOwn wr w0.heap.size p1 c1 (some ⟨gs, 0, none⟩) d1 { h with s := bgTo h.s i } ∧ Box3 G (.slice p1 h.n c1) (.slice (some ⟨gs, 0, none⟩) h.m d1) (.bool h.b) wr ∧ Box3 (w.heap.size + 1) (.slice none 0 0) (.slice none 0 0) (.bool false) wr ∧ Below w.heap.size w wr)
  case atStart => exact ⟨0, by omega, by omega, rfl, hst, gG, hR2, hbW⟩
  case round =>
    clear hst gG hR2 hbW
    obtain ⟨i, ih, rfl, rfl, hO, gG, hR, hbw⟩ := hrel
    obtain ⟨lG, z0, z1, z2, -, -, -⟩ := id gG
    by_cases hi : i < h.m
    · obtain ⟨u0, v0, hO'⟩ := hO.state hi (x := 2) (by decide)
      rw [show ({ h with s := bgTo h.s i } : Hp).s i = h.s i from bg_at h.s i] at u0 hO'
      by_cases e : (h.s i).st = 1
      · have d0 : ((h.s i).st == 1) = true := by simp [e]
        have hnx : bgTo h.s (i + 1) = setS (bgTo h.s i) i ⟨2, (h.s i).cl, (h.s i).fr⟩ := by rw [bg_next]; unfold bgS'; rw [if_pos e]
        generalize (h.s i).st = st at *
        go_wp2
        go_roundg (h.m - (i + 1))
        case measure => omega
        case rel => exact ⟨i + 1, by omega, rfl, by go_num, by rw [hnx]; exact hO', gG.other (by omega) _ _, hR.other (by omega) _ _, hbw.setCell (by show w.heap.size ≤ gs; omega) _⟩
      · have d0 : ((h.s i).st == 1) = false := by simp [e]
        have hnx : bgTo h.s (i + 1) = bgTo h.s i := by
          rw [bg_next]; unfold bgS'; rw [if_neg e]
          have := setS_same (bgTo h.s i) i
          rwa [bg_at] at this
        generalize (h.s i).st = st at *
        go_wp2
        go_roundg (h.m - (i + 1))
        case measure => omega
        case rel => exact ⟨i + 1, by omega, rfl, by go_num, by rw [hnx]; exact hO, gG, hR, hbw⟩
    · obtain rfl : i = h.m := by omega
      obtain ⟨lR, y0, y1, y2, f0, f1, f2⟩ := id hR
      go_wp2
      refine bodyPost_ret (by simp [results, Tryd.results24, go_sem, *]; try rfl) rfl ?_
      have hz := (((hO.under (g := w.heap.size + 1) (by omega) 0 (.slice p1 h.n c1)).under (g := w.heap.size + 1) (by omega) 1 (.slice (some ⟨gs, 0, none⟩) h.m d1)).under (g := w.heap.size + 1) (by omega) 2 (.bool h.b)).lower (show w.heap.size ≤ w0.heap.size by omega)
      exact ⟨p1, c1, _, d1, rfl, hz, below_stores hbw (by omega) _ _ _⟩
end Go.Proofs.YtjoepiopigmmnaaDoor
