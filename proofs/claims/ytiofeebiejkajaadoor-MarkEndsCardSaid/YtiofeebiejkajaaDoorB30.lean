/- Contracts of the code's grey (chapter 13). -/
import Derived.Test.YtiofeebiejkajaaDoorB29
namespace Go.Proofs.YtiofeebiejkajaaDoor
set_option linter.unusedSimpArgs false
set_option linter.unusedVariables false
open Go.ChangeShapes Go.WideShapes Go.ChangeAt Go.RowKit Go.Joins

/-- New: is there such a row? Its room. -/
def gnB (k : Int) : Bool := decide (0 ≤ k ∧ k ≤ 16)
def gnR (k : Int) : Int := if gnB k = true then k else 0
theorem groom_any (k : Int) (w : World) :
    Calls Tryd.prog 62 #[.int .i64 k] w fun e w' => e = .returned (.bool (gnB k)) ∧ Below w.heap.size w w' := by
  by_cases h0 : k < 0
  · have e : gnB k = false := by simp [gnB]; omega
    rw [e]
    go_enter Tryd.func62, Tryd.ntmps62
    go_wp2
    go_returns
    exact ⟨rfl, by go_grown⟩
  by_cases h1 : 16 < k
  · have e : gnB k = false := by simp [gnB]; omega
    rw [e]
    go_enter Tryd.func62, Tryd.ntmps62
    have d0 : decide (k ≤ 16) = false := by simp; omega
    go_wp2
    go_returns
    exact ⟨ret_bool (by simp [d0]), by go_grown⟩
  · have e : gnB k = true := by simp [gnB]; omega
    rw [e]
    have d0 : decide (k ≤ 16) = true := by simp; omega
    go_enter Tryd.func62, Tryd.ntmps62
    go_wp2
    go_returns
    exact ⟨ret_bool (by simp [d0]), by go_grown⟩
/-- A list without room behind it: itself. -/
theorem gbare_any (p : Option Addr) (n c : Nat) (w : World) (hnc : n ≤ c ∧ c ≤ maxLen) :
    Calls Tryd.prog 96 #[.slice p n c] w fun e w' => e = .returned (.slice p n n) ∧ Below w.heap.size w w' := by
  obtain ⟨h1, h2⟩ := hnc
  simp only [maxLen] at h2
  go_enter Tryd.func96, Tryd.ntmps96
  go_wp2
  go_returns
  exact ⟨rfl, by go_grown⟩
theorem gnew_any (k : Int) (w : World) :
    Calls Tryd.prog 40 #[.int .i64 k] w fun e w' => e = .returned (.tuple #[.agg #[.int .i64 (gnR k), .slice none 0 0], .bool (gnB k)]) ∧ Below w.heap.size w w' := by
  cases e : gnB k with
  | false =>
    have e' : gnR k = 0 := by unfold gnR; rw [if_neg (by simp [e])]
    have hR := fun W => groom_any k W
    simp only [e] at hR
    rw [e']
    clear e e'
    go_enter Tryd.func40, Tryd.ntmps40
    go_wp2_with (first
    | (go_at_call 62; refine Calls.mono (hR _) ?_; rintro e w' ⟨rfl, hb⟩; obtain ⟨hc, hf, hb, hz⟩ := bstep hb (w := w) (by go_grown); try simp only [World.size_alloc, World.size_setCell, World.size_drew] at hc hf hz)
    )
    refine bodyPost_ret (by simp [results, Tryd.results40, go_sem, *]; try rfl) rfl ?_
    exact ⟨rfl, by go_grown⟩
  | true =>
    have e' : gnR k = k := by unfold gnR; rw [if_pos e]
    have hR := fun W => groom_any k W
    simp only [e] at hR
    rw [e']
    clear e e'
    go_enter Tryd.func40, Tryd.ntmps40
    go_wp2_with (first
    | (go_at_call 62; refine Calls.mono (hR _) ?_; rintro e w' ⟨rfl, hb⟩; obtain ⟨hc, hf, hb, hz⟩ := bstep hb (w := w) (by go_grown); try simp only [World.size_alloc, World.size_setCell, World.size_drew] at hc hf hz)
    )
    refine bodyPost_ret (by simp [results, Tryd.results40, go_sem, *]; try rfl) rfl ?_
    exact ⟨rfl, by go_grown⟩
set_option maxHeartbeats 1000000 in
theorem gright_any (r : Int) (p : Option Addr) (n c : Nat) (z : Nat → Int) (w : World) (hz : GrAt w p c n z) :
    Calls Tryd.prog 48 #[.agg #[.int .i64 r, .slice p n c]] w fun e w' => e = .returned (.bool (rightG r n z)) ∧ Below w.heap.size w w' := by
  cases eR : gnB r with
  | false =>
    have e : rightG r n z = false := by simp [gnB] at eR; simp [rightG]; omega
    have hR := fun W => groom_any r W
    simp only [eR] at hR
    rw [e]
    clear e eR
    go_enter Tryd.func48, Tryd.ntmps48
    go_wp2_with (first
    | (go_at_call 62; refine Calls.mono (hR _) ?_; rintro e w' ⟨rfl, hb⟩; obtain ⟨hc, hf, hb, hz⟩ := bstep hb (w := w) (by go_grown); try simp only [World.size_alloc, World.size_setCell, World.size_drew] at hc hf hz)
    )
    go_returns
    exact ⟨rfl, by go_grown⟩
  | true =>
  have hR := fun W => groom_any r W
  simp only [eR] at hR
  have h01 : 0 ≤ r ∧ r ≤ 16 := by simpa [gnB] using eR
  obtain ⟨h0, h1⟩ := h01
  clear eR
  by_cases h2 : r < n
  · have e : rightG r n z = false := by simp [rightG]; omega
    rw [e]
    go_enter Tryd.func48, Tryd.ntmps48
    go_wp2_with (first
    | (go_at_call 62; refine Calls.mono (hR _) ?_; rintro e w' ⟨rfl, hb⟩; obtain ⟨hc, hf, hb, hz⟩ := bstep hb (w := w) (by go_grown); try simp only [World.size_alloc, World.size_setCell, World.size_drew] at hc hf hz)
    )
    go_returns
    exact ⟨rfl, by go_grown⟩
  obtain ⟨w0, hw0⟩ : ∃ w0, w0 = w.alloc (.cells #[.int .i64 r, .slice p n c] 28) := ⟨_, rfl⟩
  have hB0 : Below w.heap.size w w0 := by rw [hw0]; exact (Below.refl _ _).alloc (Nat.le_refl _) _
  have g2 : w.heap.size < w0.heap.size ∧ w0.cell? ⟨w.heap.size, 0, none⟩ = some (.int .i64 r) ∧ w0.cell? ⟨w.heap.size, 1, none⟩ = some (.slice p n c) := by rw [hw0]; simp [go_sem]
  have hin := hz.ints.below hB0
  obtain ⟨l0, x0, x1⟩ := g2
  go_enter Tryd.func48, Tryd.ntmps48
  go_upto_region 1 with fail
  rw [← hw0]
  clear hw0
  go_upto_region 2 with (first
    | (go_at_call 62; refine Calls.mono (hR _) ?_; rintro e w' ⟨rfl, hb⟩; obtain ⟨hc, hf, hb, hz⟩ := bstep hb (w := w0) (by go_grown); try simp only [World.size_alloc, World.size_setCell, World.size_drew] at hc hf hz)
  )
  have hBx := hb
  generalize w' = w1 at *
  go_wp2
  go_loopg [20] n (fun g iv wr => ∃ i : Nat, i ≤ n ∧ g = n - i ∧ iv = .int .i64 i ∧ (∀ j, j < i → 0 ≤ z j) ∧ Below w0.heap.size w0 wr)
  case atStart => exact ⟨0, by omega, by omega, rfl, fun j hj => absurd hj (Nat.not_lt_zero _), hBx⟩
  case round =>
    obtain ⟨i, ih, rfl, rfl, hall, hbw⟩ := hrel
    by_cases hi : i < n
    · obtain ⟨⟨b, off, rfl, hlt, v0⟩, -⟩ := (hin.below hbw) i hi
      by_cases e : 0 ≤ z i
      · have hnx : Hid (∀ j, j < i + 1 → 0 ≤ z j) := fun j hj => by
          by_cases e' : j = i
          · subst e'; exact e
          · exact hall j (by omega)
        clear hall
        generalize z i = x at *
        go_wp2
        go_roundg (n - (i + 1))
        case measure => omega
        case rel => exact ⟨i + 1, by omega, rfl, by go_num, hnx.out, hbw⟩
      · have hno : Hid (rightG r n z = false) := by
          show rightG r n z = false
          simp only [rightG, Bool.and_eq_false_iff, decide_eq_false_iff_not]
          exact .inr fun h => e (h i hi)
        clear hall
        generalize z i = x at *
        go_wp2
        go_returns
        exact ⟨ret_bool hno.out.symm, bjoin hbw hB0⟩
    · obtain rfl : i = n := by omega
      have hyes : Hid (rightG r i z = true) := rightG_iff.2 ⟨by omega, hall⟩
      clear hall
      go_wp2
      go_returns
      exact ⟨ret_bool hyes.out.symm, bjoin hbw hB0⟩
set_option maxHeartbeats 2000000 in
set_option maxRecDepth 20000 in
theorem gpush_tag (r a : Int) (p : Option Addr) (n c : Nat) (z : Nat → Int) (w : World) (hz : GrAt w p c n z) (hr : r ≤ 1000000) (ha : (Lit.int .i64 a).wf = true) :
    Calls Tryd.prog 88 #[.agg #[.int .i64 r, .slice p n c], .int .i64 a] w fun e w' => ∃ p' c', e = .returned (.tuple #[.agg #[.int .i64 r, .slice p' (gpN r n a) c'], .bool (gpB r n a)]) ∧ GrAt w' p' c' (gpN r n a) (gpZ r n z a) ∧ (gpB r n a = true → ∀ b off sp, p' = some ⟨b, off, sp⟩ → w.heap.size ≤ b) ∧ Below w.heap.size w w' ∧ (∀ b off sp, p' = some ⟨b, off, sp⟩ → (gpB r n a = false ∧ p' = p) ∨ ∃ cs, w'.heap[b]? = some (.cells cs 3 (0, 0))) := by
  obtain ⟨w0, hw0, ⟨l0, x0, x1⟩, ⟨l1, y0, y1, f0, f1⟩, hb0⟩ := boxed2g (w := w) (v0 := .int .i64 r) (v1 := .slice p n c) (u0 := .int .i64 0) (u1 := .slice none 0 0) (t := 28)
  have fx : w0.frozen? ⟨w.heap.size, 1, none⟩ = false := by
    rw [hw0]
    exact (((Below.refl _ _).alloc (Nat.le_refl _) _).frozen (p := ⟨w.heap.size, 1, none⟩) (by simp)).trans (frozen_of_row _ _ _ _ _ (heap_alloc_new w _))
  have hz0 := hz.below hb0
  have hcap := hz.ncap
  obtain ⟨hc1, hc2⟩ := hcap
  cases e : gpB r n a with
  | false =>
    have eN : gpN r n a = n := by unfold gpN; rw [if_neg (by simp [e])]
    have eZ : gpZ r n z a = z := by unfold gpZ; rw [if_neg (by simp [e])]
    rw [eN, eZ]
    have hbb : Below w.heap.size w ((w0.setCell ⟨w.heap.size + 1, 0, none⟩ (.int .i64 r)).setCell ⟨w.heap.size + 1, 1, none⟩ (.slice p n c)) := (hb0.setCell (Nat.le_succ _) _).setCell (Nat.le_succ _) _
    by_cases h1 : r ≤ n
    · clear e eN eZ
      go_enter Tryd.func88, Tryd.ntmps88
      go_upto_region 1 with fail
      rw [← hw0]
      clear hw0
      go_wp2
      refine bodyPost_ret (by simp [results, Tryd.results88, go_sem, *]; try rfl) rfl ?_
      first | exact ⟨p, c, rfl, hz.below hbb, fun h => (by cases h), hbb, fun _ _ _ _ => .inl ⟨trivial, rfl⟩⟩ | exact ⟨p, c, rfl, hz.below hbb, hbb, fun _ _ _ _ => .inl ⟨trivial, rfl⟩⟩ | exact ⟨p, c, rfl, hz.below hbb, hbb, fun _ _ _ _ => .inl rfl⟩
    · have h0 : a < 0 := by simp [gpB] at e; omega
      clear e eN eZ
      go_enter Tryd.func88, Tryd.ntmps88
      go_upto_region 1 with fail
      rw [← hw0]
      clear hw0
      go_wp2
      refine bodyPost_ret (by simp [results, Tryd.results88, go_sem, *]; try rfl) rfl ?_
      first | exact ⟨p, c, rfl, hz.below hbb, fun h => (by cases h), hbb, fun _ _ _ _ => .inl ⟨trivial, rfl⟩⟩ | exact ⟨p, c, rfl, hz.below hbb, hbb, fun _ _ _ _ => .inl ⟨trivial, rfl⟩⟩ | exact ⟨p, c, rfl, hz.below hbb, hbb, fun _ _ _ _ => .inl rfl⟩
  | true =>
    have eN : gpN r n a = n + 1 := by unfold gpN; rw [if_pos e]
    have eZ : gpZ r n z a = pzZ z n a := by unfold gpZ; rw [if_pos e]
    rw [eN, eZ]
    have h01 : 0 ≤ a ∧ (n : Int) < r := by simpa [gpB] using e
    obtain ⟨h0, h1⟩ := h01
    have hcells : ∀ w', Below w.heap.size w w' → ∀ b, p = some b → ∀ j u, (vals .i64 n z)[j]? = some u → w'.cell? (b.add j) = some u := fun w' hb b hp j u hj => by
      have hjn : j < n := by have := (List.getElem?_eq_some_iff.1 hj).1; rwa [vals_length] at this
      obtain ⟨ad, e1, hc⟩ := (hz.ints.below hb).cells (by omega)
      rw [hp] at e1
      injection e1 with e1
      subst e1
      exact hc j u hj
    have hpn : p = none → n = 0 ∧ n = 0 := fun h => ⟨(hz.pnil h).1, (hz.pnil h).1⟩
    clear e eN eZ
    go_enter Tryd.func88, Tryd.ntmps88
    go_upto_region 1 with fail
    rw [← hw0]
    clear hw0
    obtain ⟨i0, hj0, hj1, hj2, hj3⟩ := info_parts int_infoG
    go_upto_region 4 with (first
    | (go_at_call 96; refine Calls.mono (gbare_any p n c _ ⟨hc1, hc2⟩) ?_; rintro e w' ⟨rfl, hb⟩; obtain ⟨hc, hf, hb, hz⟩ := bstep hb (w := w0) (by go_grown); try simp only [World.size_alloc, World.size_setCell, World.size_drew] at hc hf hz)
      | (at_builtin; refine wpList_append_grows _ rfl (.tmp 20) (.tmp 22) 26 rfl 3 i0 (.int .i64 0) 1 8 Tryd.underlying26 hj0 hj1 hj2 hj3 rfl (by decide) p n n (vals .i64 n z) rfl hpn (by simp [vals_length]) (hcells _ ((hb0.trans (hb.mono (Nat.le_of_lt l0))).alloc (Nat.le_trans (Nat.le_of_lt l0) hb.size) _)) ⟨w'.heap.size, 0, none⟩ 1 1 [.int .i64 a] rfl rfl (one_newG _ _ _) (by simp [Value.oneCell']) (by omega) (by simp only [maxLen]; omega) (by omega) ?_; intro ov w1 ho hgr)
    )
    have hb1 : Below w0.heap.size w0 w1 := hb.trans (((Below.refl w'.heap.size w').alloc (Nat.le_refl _) (.cells #[.int .i64 a] 3)).mono hb.size |>.trans ((Below.refl _ _).grown hgr (Nat.le_trans hb.size (by simp)) (fun k hk => by cases hk)))
    have hown : w1.ownsRow w0.heap.size 3 1 ov (n + 1) (vals .i64 n z ++ [.int .i64 a]) := owned_base ho (Nat.le_trans hb.size (by simp))
    clear ho hgr hc hf hz hb
    obtain ⟨pp, cc, rfl, hnew⟩ := owned_new hown
    have htag := owned_tag hown
    rw [pz_vals] at hown
    have hg0 : GrAt w1 pp cc (n + 1) (pzZ z n a) := gr_owned hown (by simp only [maxLen]; omega) (pz_wf hz0.ints.wf ha)
    have hg : GrAt w1 pp (n + 1) (n + 1) (pzZ z n a) := ⟨hg0.ints, hg0.nle, fun e => ⟨(hg0.pnil e).1, (hg0.pnil e).1⟩, Nat.le_refl _, hg0.nle⟩
    have hcc := hg0.ncap
    clear hown hg0 hcells
    have x0' := (hb1.cell (p := ⟨w.heap.size, 0, none⟩) l0).trans x0
    have x1' := (hb1.cell (p := ⟨w.heap.size, 1, none⟩) l0).trans x1
    have fx' := (hb1.frozen (p := ⟨w.heap.size, 1, none⟩) l0).trans fx
    have y0' := (hb1.cell (p := ⟨w.heap.size + 1, 0, none⟩) l1).trans y0
    have y1' := (hb1.cell (p := ⟨w.heap.size + 1, 1, none⟩) l1).trans y1
    have f0' := (hb1.frozen (p := ⟨w.heap.size + 1, 0, none⟩) l1).trans f0
    have f1' := (hb1.frozen (p := ⟨w.heap.size + 1, 1, none⟩) l1).trans f1
    clear x0 x1 fx y0 y1 f0 f1 hb hz0
    have hbW := hb0.trans (hb1.mono (Nat.le_of_lt l0))
    have hlz := hb1.size
    clear hb0 hb1
    go_upto_region 5 with (first
    | (go_at_call 96; refine Calls.mono (gbare_any pp (n + 1) cc _ hcc) ?_; rintro e w' ⟨rfl, hb⟩; obtain ⟨hc, hf, hb, hz⟩ := bstep hb (w := w1) (by go_grown); try simp only [World.size_alloc, World.size_setCell, World.size_drew] at hc hf hz)
    )
    have gg : GrAt (((w'.setCell ⟨w.heap.size, 1, none⟩ (.slice pp (n + 1) (n + 1))).setCell ⟨w.heap.size + 1, 0, none⟩ (.int .i64 r)).setCell ⟨w.heap.size + 1, 1, none⟩ (.slice pp (n + 1) (n + 1))) pp (n + 1) (n + 1) (pzZ z n a) :=
      (((hg.below hb).setCell (fun b off e => by have := hnew b off none e; omega) _ _).setCell (fun b off e => by have := hnew b off none e; omega) _ _).setCell (fun b off e => by have := hnew b off none e; omega) _ _
    have hbE : Below w.heap.size w (((w'.setCell ⟨w.heap.size, 1, none⟩ (.slice pp (n + 1) (n + 1))).setCell ⟨w.heap.size + 1, 0, none⟩ (.int .i64 r)).setCell ⟨w.heap.size + 1, 1, none⟩ (.slice pp (n + 1) (n + 1))) :=
      ((((hbW.trans (hb.mono hbW.size)).setCell (Nat.le_refl _) _).setCell (Nat.le_succ _) _).setCell (Nat.le_succ _) _)
    go_wp2
    refine bodyPost_ret (by simp [results, Tryd.results88, go_sem, *]; try rfl) rfl ?_
    refine ⟨pp, n + 1, rfl, gg, fun _ b off sp e => Nat.le_trans (Nat.le_of_lt l0) (hnew b off sp e), hbE, fun b off sp e => .inr ?_⟩
    obtain ⟨cs, hcs⟩ := htag b off sp e
    have hne := hnew b off sp e
    have hltb : b < w1.heap.size := (Array.getElem?_eq_some_iff.1 hcs).1
    refine ⟨cs, ?_⟩
    rw [Below.heap_setCell _ _ _ b (by show ¬ b = w.heap.size + 1; omega), Below.heap_setCell _ _ _ b (by show ¬ b = w.heap.size + 1; omega), Below.heap_setCell _ _ _ b (by show ¬ b = w.heap.size; omega)]
    exact (hb.block b hltb).trans hcs
set_option maxHeartbeats 2000000 in
set_option maxRecDepth 20000 in
theorem gpop_tag (r : Int) (p : Option Addr) (n c : Nat) (z : Nat → Int) (w : World) (hz : GrAt w p c n z) (hn : n ≤ 1000000) :
    Calls Tryd.prog 54 #[.agg #[.int .i64 r, .slice p n c]] w fun e w' => ∃ p' c', e = .returned (.tuple #[.agg #[.int .i64 r, .slice p' (n - 1 : Nat) c'], .int .i64 (gqX n z), .bool (decide (0 < n))]) ∧ GrAt w' p' c' (n - 1) z ∧ (0 < n → ∀ b off sp, p' = some ⟨b, off, sp⟩ → w.heap.size ≤ b) ∧ Below w.heap.size w w' ∧ (0 < n → ∀ b off sp, p' = some ⟨b, off, sp⟩ → ∃ cs, w'.heap[b]? = some (.cells cs 3 (0, 0))) := by
  obtain ⟨w0, hw0, ⟨l0, x0, x1⟩, ⟨l1, y0, y1, f0, f1⟩, hb0⟩ := boxed2g (w := w) (v0 := .int .i64 r) (v1 := .slice p n c) (u0 := .int .i64 0) (u1 := .slice none 0 0) (t := 28)
  have fx : w0.frozen? ⟨w.heap.size, 1, none⟩ = false := by
    rw [hw0]
    exact (((Below.refl _ _).alloc (Nat.le_refl _) _).frozen (p := ⟨w.heap.size, 1, none⟩) (by simp)).trans (frozen_of_row _ _ _ _ _ (heap_alloc_new w _))
  have hz0 := hz.below hb0
  by_cases h0 : n = 0
  · subst h0
    have hbb : Below w.heap.size w ((w0.setCell ⟨w.heap.size + 1, 0, none⟩ (.int .i64 r)).setCell ⟨w.heap.size + 1, 1, none⟩ (.slice p 0 c)) := (hb0.setCell (Nat.le_succ _) _).setCell (Nat.le_succ _) _
    go_enter Tryd.func54, Tryd.ntmps54
    go_upto_region 1 with fail
    rw [← hw0]
    clear hw0
    go_wp2
    refine bodyPost_ret (by simp [results, Tryd.results54, go_sem, *]; try rfl) rfl ?_
    exact ⟨p, c, rfl, hz.below hbb, fun h => absurd h (Nat.lt_irrefl 0), hbb, fun h => absurd h (Nat.lt_irrefl 0)⟩
  · obtain ⟨m, rfl⟩ : ∃ m, n = m + 1 := ⟨n - 1, by omega⟩
    have eX : gqX (m + 1) z = z m := by unfold gqX; rw [if_neg (by omega)]; rfl
    have eD : decide (0 < m + 1) = true := by simp
    rw [eX, eD, show m + 1 - 1 = m from rfl]
    have hwf := hz.ints.wf
    obtain ⟨⟨b, off, rfl, hltw, -⟩, hwm⟩ := hz.ints m (by omega)
    obtain ⟨⟨b', off', eq, hlt, v0⟩, -⟩ := hz0.ints m (by omega)
    injection eq with eq
    injection eq with eq1 eq2
    subst eq1 eq2
    have hcap := hz.ncap
    obtain ⟨hc1, hc2⟩ := hcap
    have hin : Ints .i64 w0 (some ⟨b, off, none⟩) m z := fun i hi => hz0.ints i (by omega)
    clear eX eD h0 hz0
    have hmc : m ≤ c := by omega
    have hm1 : (m : Int) < m + 1 := by omega
    generalize hX : z m = X at *
    go_enter Tryd.func54, Tryd.ntmps54
    go_upto_region 1 with fail
    rw [← hw0]
    clear hw0
    go_upto_region 5 with fail
    obtain ⟨i0, hj0, hj1, hj2, hj3⟩ := info_parts int_infoG
    refine wp_region_lit ?_
    go_wp2_with (first
      | (at_builtin; refine wpList_append_ints rfl _ (.tmp 22) 26 rfl w0.heap.size 3 i0 (.int .i64 0) 8 Tryd.underlying26 hj0 hj1 hj2 hj3 rfl (.slice none 0 0) 0 [] rfl (nilsV_nil _ _ _ _).1 .i64 (some ⟨b, off, none⟩) m c z rfl hin (fun e => (by cases e)) (by simp only [maxLen]; omega) (by omega) (Nat.le_refl _) ?_; intro ov w1 ho hgr; rw [Nat.zero_add, List.nil_append] at ho; obtain ⟨pp, cc, rfl, hnew⟩ := owned_new ho; have htag := owned_tag ho; have hb1 : Below w0.heap.size w0 w1 := (Below.refl _ _).grown hgr (Nat.le_refl _) (fun k hk => by cases hk); have x0' := (hb1.cell (p := ⟨w.heap.size, 0, none⟩) l0).trans x0; have x1' := (hb1.cell (p := ⟨w.heap.size, 1, none⟩) l0).trans x1; have fx' := (hb1.frozen (p := ⟨w.heap.size, 1, none⟩) l0).trans fx; have y0' := (hb1.cell (p := ⟨w.heap.size + 1, 0, none⟩) l1).trans y0; have y1' := (hb1.cell (p := ⟨w.heap.size + 1, 1, none⟩) l1).trans y1; have f0' := (hb1.frozen (p := ⟨w.heap.size + 1, 0, none⟩) l1).trans f0; have f1' := (hb1.frozen (p := ⟨w.heap.size + 1, 1, none⟩) l1).trans f1)
    )
    have hg0 : GrAt w1 pp cc m z := gr_owned ho (by simp only [maxLen]; omega) fun i hi => hwf i (by omega)
    have gg := ((hg0.setCell (g := w.heap.size) (fun b off e => by have := hnew b off none e; omega) 1 (.slice pp m cc)).setCell (g := w.heap.size + 1) (fun b off e => by have := hnew b off none e; omega) 0 (.int .i64 r)).setCell (g := w.heap.size + 1) (fun b off e => by have := hnew b off none e; omega) 1 (.slice pp m cc)
    have hbE := (((hb0.trans (hb1.mono (Nat.le_of_lt l0))).setCell (p := ⟨w.heap.size, 1, none⟩) (Nat.le_refl _) (.slice pp m cc)).setCell (p := ⟨w.heap.size + 1, 0, none⟩) (Nat.le_succ _) (.int .i64 r)).setCell (p := ⟨w.heap.size + 1, 1, none⟩) (Nat.le_succ _) (.slice pp m cc)
    refine bodyPost_ret (by simp [results, Tryd.results54, go_sem, *]; try rfl) rfl ?_
    have hfin : ∀ b off sp, pp = some ⟨b, off, sp⟩ → ∃ cs, (((w1.setCell ⟨w.heap.size, 1, none⟩ (.slice pp m cc)).setCell ⟨w.heap.size + 1, 0, none⟩ (.int .i64 r)).setCell ⟨w.heap.size + 1, 1, none⟩ (.slice pp m cc)).heap[b]? = some (.cells cs 3 (0, 0)) := fun b off sp e => by
      obtain ⟨cs, hcs⟩ := htag b off sp e
      have hne := hnew b off sp e
      refine ⟨cs, ?_⟩
      rw [Below.heap_setCell _ _ _ b (by show ¬ b = w.heap.size + 1; omega), Below.heap_setCell _ _ _ b (by show ¬ b = w.heap.size + 1; omega), Below.heap_setCell _ _ _ b (by show ¬ b = w.heap.size; omega)]
      exact hcs
    refine ⟨pp, cc, rfl, gg, ?_, hbE, ?_⟩
    · first | exact fun b off sp e => Nat.le_trans (Nat.le_of_lt l0) (hnew b off sp e) | exact fun _ b off sp e => Nat.le_trans (Nat.le_of_lt l0) (hnew b off sp e)
    · first | exact hfin | exact fun _ => hfin
end Go.Proofs.YtiofeebiejkajaaDoor
