/- Contracts of the code's grey (chapter 13). -/
import Derived.Test.YtokbggokkjefhaaDoorRef13
namespace Go.Proofs.YtokbggokkjefhaaDoor
set_option linter.unusedSimpArgs false
set_option linter.unusedVariables false
open Go.ChangeShapes Go.WideShapes Go.ChangeAt Go.RowKit Go.Joins

/-- New: is there such a row? Its room. -/
def gnB (k : Int) : Bool := decide (0 ≤ k ∧ k ≤ 16)
def gnR (k : Int) : Int := if gnB k = true then k else 0
/-- A list without room behind it: itself. -/
theorem gbare_any (p : Option Addr) (n c : Nat) (w : World) (hnc : n ≤ c ∧ c ≤ maxLen) :
    Calls Tryd.prog 51 #[.slice p n c] w fun e w' => e = .returned (.slice p n n) ∧ Below w.heap.size w w' := by
  obtain ⟨h1, h2⟩ := hnc
  simp only [maxLen] at h2
  go_enter Tryd.func51, Tryd.ntmps51
  go_wp2
  go_returns
  exact ⟨rfl, by go_grown⟩
set_option maxHeartbeats 2000000 in
set_option maxRecDepth 20000 in
theorem gpush_tag (r a : Int) (p : Option Addr) (n c : Nat) (z : Nat → Int) (w : World) (hz : GrAt w p c n z) (hr : r ≤ 1000000) (ha : (Lit.int .i64 a).wf = true) :
    Calls Tryd.prog 37 #[.agg #[.int .i64 r, .slice p n c], .int .i64 a] w fun e w' => ∃ p' c', e = .returned (.tuple #[.agg #[.int .i64 r, .slice p' (gpN r n a) c'], .bool (gpB r n a)]) ∧ GrAt w' p' c' (gpN r n a) (gpZ r n z a) ∧ (gpB r n a = true → ∀ b off sp, p' = some ⟨b, off, sp⟩ → w.heap.size ≤ b) ∧ Below w.heap.size w w' ∧ (∀ b off sp, p' = some ⟨b, off, sp⟩ → (gpB r n a = false ∧ p' = p) ∨ ∃ cs, w'.heap[b]? = some (.cells cs 3 (0, 0))) := by
  obtain ⟨w0, hw0, ⟨l0, x0, x1⟩, ⟨l1, y0, y1, f0, f1⟩, hb0⟩ := boxed2g (w := w) (v0 := .int .i64 r) (v1 := .slice p n c) (u0 := .int .i64 0) (u1 := .slice none 0 0) (t := 28)
  have fx : w0.frozen? ⟨w.heap.size, 1, none⟩ = false := by
    rw [hw0]
    exact (((Below.refl _ _).alloc (Nat.le_refl _) _).frozen (p := ⟨w.heap.size, 1, none⟩) (by simp)).trans (frozen_of_row _ _ _ _ _ (heap_alloc_new w _))
  have hz0 := hz.below hb0
  have hcap := hz.ncap
  obtain ⟨hc1, hc2⟩ := hcap
  cases e : gpB r n a with
  | false =>
    have eN : gpN r n a = n := by unfold gpN; rw [if_neg (by simp [e])]
    have eZ : gpZ r n z a = z := by unfold gpZ; rw [if_neg (by simp [e])]
    rw [eN, eZ]
    have hbb : Below w.heap.size w ((w0.setCell ⟨w.heap.size + 1, 0, none⟩ (.int .i64 r)).setCell ⟨w.heap.size + 1, 1, none⟩ (.slice p n c)) := (hb0.setCell (Nat.le_succ _) _).setCell (Nat.le_succ _) _
    by_cases h1 : r ≤ n
    · clear e eN eZ
      go_enter Tryd.func37, Tryd.ntmps37
      go_upto_region 1 with fail
      rw [← hw0]
      clear hw0
      go_wp2
      refine bodyPost_ret (by simp [results, Tryd.results37, go_sem, *]; try rfl) rfl ?_
      first | exact ⟨p, c, rfl, hz.below hbb, fun h => (by cases h), hbb, fun _ _ _ _ => .inl ⟨trivial, rfl⟩⟩ | exact ⟨p, c, rfl, hz.below hbb, hbb, fun _ _ _ _ => .inl ⟨trivial, rfl⟩⟩ | exact ⟨p, c, rfl, hz.below hbb, hbb, fun _ _ _ _ => .inl rfl⟩
    · have h0 : a < 0 := by simp [gpB] at e; omega
      clear e eN eZ
      go_enter Tryd.func37, Tryd.ntmps37
      go_upto_region 1 with fail
      rw [← hw0]
      clear hw0
      go_wp2
      refine bodyPost_ret (by simp [results, Tryd.results37, go_sem, *]; try rfl) rfl ?_
      first | exact ⟨p, c, rfl, hz.below hbb, fun h => (by cases h), hbb, fun _ _ _ _ => .inl ⟨trivial, rfl⟩⟩ | exact ⟨p, c, rfl, hz.below hbb, hbb, fun _ _ _ _ => .inl ⟨trivial, rfl⟩⟩ | exact ⟨p, c, rfl, hz.below hbb, hbb, fun _ _ _ _ => .inl rfl⟩
  | true =>
    have eN : gpN r n a = n + 1 := by unfold gpN; rw [if_pos e]
    have eZ : gpZ r n z a = pzZ z n a := by unfold gpZ; rw [if_pos e]
    rw [eN, eZ]
    have h01 : 0 ≤ a ∧ (n : Int) < r := by simpa [gpB] using e
    obtain ⟨h0, h1⟩ := h01
    have hcells : ∀ w', Below w.heap.size w w' → ∀ b, p = some b → ∀ j u, (vals .i64 n z)[j]? = some u → w'.cell? (b.add j) = some u := fun w' hb b hp j u hj => by
      have hjn : j < n := by have := (List.getElem?_eq_some_iff.1 hj).1; rwa [vals_length] at this
      obtain ⟨ad, e1, hc⟩ := (hz.ints.below hb).cells (by omega)
      rw [hp] at e1
      injection e1 with e1
      subst e1
      exact hc j u hj
    have hpn : p = none → n = 0 ∧ n = 0 := fun h => ⟨(hz.pnil h).1, (hz.pnil h).1⟩
    clear e eN eZ
    go_enter Tryd.func37, Tryd.ntmps37
    go_upto_region 1 with fail
    rw [← hw0]
    clear hw0
    obtain ⟨i0, hj0, hj1, hj2, hj3⟩ := info_parts int_infoG
    go_upto_region 4 with (first
    | (go_at_call 51; refine Calls.mono (gbare_any p n c _ ⟨hc1, hc2⟩) ?_; rintro e w' ⟨rfl, hb⟩; obtain ⟨hc, hf, hb, hz⟩ := bstep hb (w := w0) (by go_grown); try simp only [World.size_alloc, World.size_setCell, World.size_drew] at hc hf hz)
      | (at_builtin; refine wpList_append_grows _ rfl (.tmp 20) (.tmp 22) 26 rfl 3 i0 (.int .i64 0) 1 8 Tryd.underlying26 hj0 hj1 hj2 hj3 rfl (by decide) p n n (vals .i64 n z) rfl hpn (by simp [vals_length]) (hcells _ ((hb0.trans (hb.mono (Nat.le_of_lt l0))).alloc (Nat.le_trans (Nat.le_of_lt l0) hb.size) _)) ⟨w'.heap.size, 0, none⟩ 1 1 [.int .i64 a] rfl rfl (one_newG _ _ _) (by simp [Value.oneCell']) (by omega) (by simp only [maxLen]; omega) (by omega) ?_; intro ov w1 ho hgr)
    )
    have hb1 : Below w0.heap.size w0 w1 := hb.trans (((Below.refl w'.heap.size w').alloc (Nat.le_refl _) (.cells #[.int .i64 a] 3)).mono hb.size |>.trans ((Below.refl _ _).grown hgr (Nat.le_trans hb.size (by simp)) (fun k hk => by cases hk)))
    have hown : w1.ownsRow w0.heap.size 3 1 ov (n + 1) (vals .i64 n z ++ [.int .i64 a]) := owned_base ho (Nat.le_trans hb.size (by simp))
    clear ho hgr hc hf hz hb
    obtain ⟨pp, cc, rfl, hnew⟩ := owned_new hown
    have htag := owned_tag hown
    rw [pz_vals] at hown
    have hg0 : GrAt w1 pp cc (n + 1) (pzZ z n a) := gr_owned hown (by simp only [maxLen]; omega) (pz_wf hz0.ints.wf ha)
    have hg : GrAt w1 pp (n + 1) (n + 1) (pzZ z n a) := ⟨hg0.ints, hg0.nle, fun e => ⟨(hg0.pnil e).1, (hg0.pnil e).1⟩, Nat.le_refl _, hg0.nle⟩
    have hcc := hg0.ncap
    clear hown hg0 hcells
    have x0' := (hb1.cell (p := ⟨w.heap.size, 0, none⟩) l0).trans x0
    have x1' := (hb1.cell (p := ⟨w.heap.size, 1, none⟩) l0).trans x1
    have fx' := (hb1.frozen (p := ⟨w.heap.size, 1, none⟩) l0).trans fx
    have y0' := (hb1.cell (p := ⟨w.heap.size + 1, 0, none⟩) l1).trans y0
    have y1' := (hb1.cell (p := ⟨w.heap.size + 1, 1, none⟩) l1).trans y1
    have f0' := (hb1.frozen (p := ⟨w.heap.size + 1, 0, none⟩) l1).trans f0
    have f1' := (hb1.frozen (p := ⟨w.heap.size + 1, 1, none⟩) l1).trans f1
    clear x0 x1 fx y0 y1 f0 f1 hb hz0
    have hbW := hb0.trans (hb1.mono (Nat.le_of_lt l0))
    have hlz := hb1.size
    clear hb0 hb1
    go_upto_region 5 with (first
    | (go_at_call 51; refine Calls.mono (gbare_any pp (n + 1) cc _ hcc) ?_; rintro e w' ⟨rfl, hb⟩; obtain ⟨hc, hf, hb, hz⟩ := bstep hb (w := w1) (by go_grown); try simp only [World.size_alloc, World.size_setCell, World.size_drew] at hc hf hz)
    )
    have gg : GrAt (((w'.setCell ⟨w.heap.size, 1, none⟩ (.slice pp (n + 1) (n + 1))).setCell ⟨w.heap.size + 1, 0, none⟩ (.int .i64 r)).setCell ⟨w.heap.size + 1, 1, none⟩ (.slice pp (n + 1) (n + 1))) pp (n + 1) (n + 1) (pzZ z n a) :=
      (((hg.below hb).setCell (fun b off e => by have := hnew b off none e; omega) _ _).setCell (fun b off e => by have := hnew b off none e; omega) _ _).setCell (fun b off e => by have := hnew b off none e; omega) _ _
    have hbE : Below w.heap.size w (((w'.setCell ⟨w.heap.size, 1, none⟩ (.slice pp (n + 1) (n + 1))).setCell ⟨w.heap.size + 1, 0, none⟩ (.int .i64 r)).setCell ⟨w.heap.size + 1, 1, none⟩ (.slice pp (n + 1) (n + 1))) :=
      ((((hbW.trans (hb.mono hbW.size)).setCell (Nat.le_refl _) _).setCell (Nat.le_succ _) _).setCell (Nat.le_succ _) _)
    go_wp2
    refine bodyPost_ret (by simp [results, Tryd.results37, go_sem, *]; try rfl) rfl ?_
    refine ⟨pp, n + 1, rfl, gg, fun _ b off sp e => Nat.le_trans (Nat.le_of_lt l0) (hnew b off sp e), hbE, fun b off sp e => .inr ?_⟩
    obtain ⟨cs, hcs⟩ := htag b off sp e
    have hne := hnew b off sp e
    have hltb : b < w1.heap.size := (Array.getElem?_eq_some_iff.1 hcs).1
    refine ⟨cs, ?_⟩
    rw [Below.heap_setCell _ _ _ b (by show ¬ b = w.heap.size + 1; omega), Below.heap_setCell _ _ _ b (by show ¬ b = w.heap.size + 1; omega), Below.heap_setCell _ _ _ b (by show ¬ b = w.heap.size; omega)]
    exact (hb.block b hltb).trans hcs
theorem gpush_any (r a : Int) (p : Option Addr) (n c : Nat) (z : Nat → Int) (w : World) (hz : GrAt w p c n z) (hr : r ≤ 1000000) (ha : (Lit.int .i64 a).wf = true) :
    Calls Tryd.prog 37 #[.agg #[.int .i64 r, .slice p n c], .int .i64 a] w fun e w' => ∃ p' c', e = .returned (.tuple #[.agg #[.int .i64 r, .slice p' (gpN r n a) c'], .bool (gpB r n a)]) ∧ GrAt w' p' c' (gpN r n a) (gpZ r n z a) ∧ (gpB r n a = true → ∀ b off sp, p' = some ⟨b, off, sp⟩ → w.heap.size ≤ b) ∧ Below w.heap.size w w' := by
  refine Calls.mono (gpush_tag r a p n c z w hz hr ha) ?_
  rintro e w' ⟨p', c', h1, h2, h3, h4, -⟩
  exact ⟨p', c', h1, h2, h3, h4⟩
end Go.Proofs.YtokbggokkjefhaaDoor
