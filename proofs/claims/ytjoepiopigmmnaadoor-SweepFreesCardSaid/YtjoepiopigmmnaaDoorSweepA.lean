/- Contracts of the code's sweep (chapter 12): copyOf, isDirty, Dirty, Begin, and slices.IndexFunc of isDirty. -/
import Derived.Test.YtjoepiopigmmnaaDoorSweepFn
import Derived.Test.YtjoepiopigmmnaaDoorHeap
import Derived.Test.YtjoepiopigmmnaaDoorRef12
namespace Go.Proofs.YtjoepiopigmmnaaDoor
set_option linter.unusedSimpArgs false
set_option linter.unusedVariables false
open Go.ChangeShapes Go.WideShapes Go.ChangeAt Go.RowKit Go.Joins

/-- A heap of the call's own rows, its lengths as they stand in the walk. -/
structure OwnIn (W : World) (base : Nat) (p : Option Addr) (n c : Nat) (q : Option Addr) (m d : Nat) (b : Bool) (h : Hp) : Prop where
  n_eq : n = h.n
  m_eq : m = h.m
  b_eq : b = h.b
  own : HpOwn W base p c q d h
section
variable {W W' : World} {base : Nat} {p : Option Addr} {n c : Nat} {q : Option Addr} {m d : Nat} {b : Bool} {h : Hp}
theorem OwnIn.in (o : OwnIn W base p n c q m d b h) : HpIn W p n c q m d b h := ⟨o.n_eq, o.m_eq, o.b_eq, o.own.at⟩
theorem OwnIn.below (o : OwnIn W base p n c q m d b h) (hb : Below W.heap.size W W') : OwnIn W' base p n c q m d b h := ⟨o.n_eq, o.m_eq, o.b_eq, o.own.below hb⟩
theorem OwnIn.lower (o : OwnIn W base p n c q m d b h) {base' : Nat} (hb : base' ≤ base) : OwnIn W base' p n c q m d b h := ⟨o.n_eq, o.m_eq, o.b_eq, o.own.lower hb⟩
theorem OwnIn.newW (o : OwnIn W base p n c q m d b h) : NewV base (.slice p n c) := by have := o.own.newW; rwa [← o.n_eq] at this
theorem OwnIn.newS (o : OwnIn W base p n c q m d b h) : NewV base (.slice q m d) := by have := o.own.newS; rwa [← o.m_eq] at this
/-- Its rows lie apart from that block. -/
def Off (g : Nat) (p : Option Addr) (n c : Nat) (q : Option Addr) (m d : Nat) : Prop := (Value.slice p n c).ownBlock ≠ some g ∧ (Value.slice q m d).ownBlock ≠ some g
theorem OwnIn.off (o : OwnIn W base p n c q m d b h) {g : Nat} (hg : g < base) : Off g p n c q m d :=
  ⟨fun e => by have := o.newW g e; omega, fun e => by have := o.newS g e; omega⟩
theorem OwnIn.offNew (o : OwnIn W base p n c q m d b h) (hF : 0 < n ∧ 0 < m) {g : Nat} (hg : W.heap.size ≤ g) : Off g p n c q m d := by
  have en := o.n_eq
  have em := o.m_eq
  obtain ⟨g1, rfl, -, h1⟩ := o.own.word (by omega)
  obtain ⟨g2, rfl, -, h2⟩ := o.own.span (by omega)
  refine ⟨fun e => ?_, fun e => ?_⟩
  · have : g1 = g := Option.some.inj e
    omega
  · have : g2 = g := Option.some.inj e
    omega
theorem OwnIn.stores (o : OwnIn W base p n c q m d b h) {g : Nat} (hg : Off g p n c q m d) (x y z : Value) :
    OwnIn (((W.setCell ⟨g, 0, none⟩ x).setCell ⟨g, 1, none⟩ y).setCell ⟨g, 2, none⟩ z) base p n c q m d b h := by
  obtain ⟨e1, e2, e3, o⟩ := o
  have h1 : (Value.slice p h.n c).ownBlock ≠ some g := by rw [← e1]; exact hg.1
  have h2 : (Value.slice q h.m d).ownBlock ≠ some g := by rw [← e2]; exact hg.2
  exact ⟨e1, e2, e3, ((o.other h1 h2 0 x).other h1 h2 1 y).other h1 h2 2 z⟩
end
set_option maxHeartbeats 4000000 in
theorem scopy_any (p : Option Addr) (c : Nat) (q : Option Addr) (d : Nat) (h : Hp) (w : World) (hh : HpAt w p c q d h) (hF : formB h = true) :
    Calls Tryd.prog 30 #[.agg #[.slice p h.n c, .slice q h.m d, .bool h.b]] w fun e w' => ∃ p' c' q' d', e = .returned (.agg #[.slice p' h.n c', .slice q' h.m d', .bool h.b]) ∧ HpOwn w' w.heap.size p' c' q' d' h ∧ Below w.heap.size w w' := by
  obtain ⟨w0, hw0, hB0, hR, hst⟩ := boxed2 (w := w) (v0 := .slice p h.n c) (v1 := .slice q h.m d) (v2 := .bool h.b) (u0 := .slice none 0 0) (u1 := .slice none 0 0) (u2 := .bool false) (t := 25)
  have hat := hh.below hst
  have hl : w.heap.size + 2 ≤ w0.heap.size := hR.1
  obtain ⟨l1, y0, y1, y2, f0, f1, f2⟩ := id hR
  have hF' : Hid (formB h = true) := hF
  clear hF
  go_enter Tryd.func30, Tryd.ntmps30
  go_upto_region 1 with fail
  rw [← hw0]
  clear hw0
  refine wp_region_soft' 9 [3, 4, 5, 6, 7, 8, 9, 10, 11] (cpPhi w.heap.size w0.heap.size p c q d h) (by kernel_rfl) (by kernel_rfl) (by kernel_rfl) (by decide) (by kernel_rfl) (by kernel_rfl) rfl rfl (by decide) (by simp) cpPhi_below ?_ ?_
  · intro i o hi ho a' w' hb hsame hdep K hK
    have hno : ∀ i, i < 9 → ∀ o, (cpOps 3 1 12 "sweep.go:93").toArray[i]? = some o → (o.after.any fun e => Region.binds .any e && e.on == 9) = false := by
      intro i hi o ho
      match i, hi with
      | 0, _ | 1, _ | 2, _ | 3, _ | 4, _ | 5, _ | 6, _ | 7, _ | 8, _ =>
        simp only [cpOps, List.getElem?_toArray, List.getElem?_cons_zero, List.getElem?_cons_succ, Option.some.injEq] at ho
        subst ho
        simp [Region.binds]
    have ho' : (cpOps 3 1 12 "sweep.go:93").toArray[i]? = some o := by
      match i, hi with
      | 0, _ | 1, _ | 2, _ | 3, _ | 4, _ | 5, _ | 6, _ | 7, _ | 8, _ => exact ho
    refine cp_step 3 1 12 "sweep.go:93" hF'.out hat hB0 (a := _) rfl (by simp [cpSlots]) i o (by omega) ho' a' w' hb (fun t ht => hsame t fun h => ht (by simp [cpSlots] at h ⊢; omega)) (fun j x hj hx ha => ?_) K hK
    by_cases h9 : j = 9
    · subst h9
      rw [hno i hi o ho'] at ha
      cases ha
    · exact hdep j x (by omega) (by
        have : j < 9 := by omega
        match j, this with
        | 0, _ | 1, _ | 2, _ | 3, _ | 4, _ | 5, _ | 6, _ | 7, _ | 8, _ => exact hx) ha
  · intro vs w' hlen hb hph
    match vs, hlen with
    | [x0, x1, x2, x3, x4, x5, x6, x7, x8], _ =>
      obtain ⟨v1, v2, rfl, o1, o2⟩ := hph 8 _ rfl
      obtain ⟨p1, c1, rfl, -⟩ := owned_new o1
      obtain ⟨q1, d1, rfl, -⟩ := owned_new o2
      clear hph
      have hne : ∀ b b', (Value.slice p1 h.n c1).ownBlock = some b → (Value.slice q1 h.m d1).ownBlock = some b' → b ≠ b' := fun b b' e e' eb => by
        subst eb
        obtain ⟨cur, hc⟩ := owned_block o1 e
        obtain ⟨cur', hc'⟩ := owned_block o2 e'
        rw [hc] at hc'; injection hc' with hc'; injection hc' with _ hc'; revert hc'; decide
      have hown : HpOwn w' w0.heap.size p1 c1 q1 d1 h := ⟨o1, o2, hne, hh.wf, hh.nle, hh.mle⟩
      obtain ⟨hc, hf, hb, hz⟩ := bstep hb (w := w0) (Below.refl _ _)
      simp only [puts, Act.put]
      simp only [List.drop_succ_cons, List.drop_zero]
      go_wp2
      refine bodyPost_ret (by simp [results, Tryd.results30, go_sem, *]; try rfl) rfl ?_
      have hz := (((hown.under (g := w.heap.size + 1) (by omega) 0 (.slice p1 h.n c1)).under (g := w.heap.size + 1) (by omega) 1 (.slice q1 h.m d1)).under (g := w.heap.size + 1) (by omega) 2 (.bool h.b)).lower (show w.heap.size ≤ w0.heap.size by omega)
      exact ⟨p1, c1, q1, d1, rfl, hz, below_stores (bjoin hb hst) (by omega) _ _ _⟩
theorem sdirt_any (st cl fr : Int) (w : World) :
    Calls Tryd.prog 37 #[.agg #[.int .i64 st, .int .i64 cl, .int .u32 fr]] w fun e w' => e = .returned (.bool (st == 2)) ∧ Below w.heap.size w w' := by
  go_enter Tryd.func37, Tryd.ntmps37
  go_wp2
  go_returns
  exact ⟨rfl, by go_grown⟩
/-- The index that slices.IndexFunc answers. -/
def ixI : Option Nat → Int
  | some p => p
  | none => -1
set_option maxHeartbeats 2000000 in
theorem sidxf_any (p : Option Addr) (n c : Nat) (s : Nat → Sp) (w : World) (hin : Spans w p n s) (hn : n ≤ 16) :
    Calls Tryd.prog 36 #[.slice p n c, .func (.func 37) #[] #[]] w fun e w' => e = .returned (.int .i64 (ixI ((List.range n).find? fun p => decide ((s p).st = 2)))) ∧ Below w.heap.size w w' := by
  have hent : ∀ args w, (callFunc 37 args).run Tryd.prog w = .ok (.enter 37 args) w := enters_of Tryd.func37 (by kernel_rfl) rfl
  go_enter Tryd.func36, Tryd.ntmps36
  go_wp2
  go_loopg [8] n (fun g iv wr => ∃ i : Nat, i ≤ n ∧ g = n - i ∧ iv = .int .i64 i ∧ (∀ j, j < i → ¬ (s j).st = 2) ∧ Below w.heap.size w wr)
  case atStart => exact ⟨0, by omega, by omega, rfl, fun j hj => absurd hj (Nat.not_lt_zero _), Below.refl _ _⟩
  case round =>
    obtain ⟨i, ih, rfl, rfl, hno, hbw⟩ := hrel
    by_cases hi : i < n
    · obtain ⟨⟨b, off, rfl, hlt, s0, s1, s2⟩, -⟩ := (hin.below hbw) i hi
      have hC := sdirt_any (s i).st (s i).cl (s i).fr wr
      by_cases e : (s i).st = 2
      · have hyes : Hid ((List.range n).find? (fun p => decide ((s p).st = 2)) = some i) := by
          show (List.range n).find? _ = some i
          rw [List.find?_range_eq_some]
          exact ⟨by simpa using e, List.mem_range.2 hi, fun j hj => by simpa using hno j hj⟩
        have d0 : ((s i).st == 2) = true := by simp [e]
        rw [d0] at hC
        clear hno e
        generalize s i = S at *
        go_wp2_with (first
          | (go_at_fn 37; refine Calls.mono hC ?_; rintro e w2 ⟨rfl, hb2⟩)
        )
        go_returns
        exact ⟨by rw [hyes.out]; rfl, bjoin hb2 hbw⟩
      · have hno2 : Hid (∀ j, j < i + 1 → ¬ (s j).st = 2) := fun j hj => by
          rcases Nat.lt_or_ge j i with h | h
          · exact hno j h
          · obtain rfl : j = i := by omega
            exact e
        have d0 : ((s i).st == 2) = false := by simp [e]
        rw [d0] at hC
        clear hno e
        generalize s i = S at *
        go_wp2_with (first
          | (go_at_fn 37; refine Calls.mono hC ?_; rintro e w2 ⟨rfl, hb2⟩)
        )
        go_roundg (n - (i + 1))
        case measure => omega
        case rel => exact ⟨i + 1, by omega, rfl, by go_num, hno2.out, bjoin hb2 hbw⟩
    · obtain rfl : n = i := by omega
      have hfn : Hid ((List.range n).find? (fun p => decide ((s p).st = 2)) = none) := by
        show (List.range n).find? _ = none
        rw [List.find?_eq_none]
        exact fun j hj => by simpa using hno j (List.mem_range.1 hj)
      clear hno
      go_wp2
      go_returns
      exact ⟨by rw [hfn.out]; rfl, hbw⟩
set_option maxHeartbeats 2000000 in
theorem sdirty_any (p : Option Addr) (c : Nat) (q : Option Addr) (d : Nat) (h : Hp) (w : World) (hh : HpAt w p c q d h) (hm : h.m ≤ 16) :
    Calls Tryd.prog 23 #[.agg #[.slice p h.n c, .slice q h.m d, .bool h.b]] w fun e w' => e = .returned (.int .i64 (drH h : Nat)) ∧ Below w.heap.size w w' := by
  obtain ⟨w0, hw0⟩ : ∃ w0, w0 = w.alloc (.cells #[.slice p h.n c, .slice q h.m d, .bool h.b] 25) := ⟨_, rfl⟩
  have g3 : Box3 w.heap.size (.slice p h.n c) (.slice q h.m d) (.bool h.b) w0 := by rw [hw0]; exact Box3.new _ _ _ _ _
  have hB0 : Below w.heap.size w w0 := by rw [hw0]; exact (Below.refl _ _).alloc (Nat.le_refl _) _
  have hsp := hh.spans.below hB0
  go_enter Tryd.func23, Tryd.ntmps23
  go_upto_region 1 with fail
  rw [← hw0]
  clear hw0
  obtain ⟨l3, x0, x1, x2, -, -, -⟩ := id g3
  go_wp2
  clear x0 x1 x2
  go_loopg [3, 9] h.m (fun gg nv iv wr => ∃ i : Nat, i ≤ h.m ∧ gg = h.m - i ∧ iv = .int .i64 i ∧ nv = .int .i64 (drT h.s i : Nat) ∧ Below w0.heap.size w0 wr)
  case atStart => exact ⟨0, by omega, by omega, rfl, rfl, Below.refl _ _⟩
  case round =>
    obtain ⟨i, ih, rfl, rfl, rfl, hbw⟩ := hrel
    have hbd := dr_le h.s i
    by_cases hi : i < h.m
    · obtain ⟨⟨b, off, rfl, hlt, s0, s1, s2⟩, hwf⟩ := (hsp.below hbw) i hi
      have hC := fun W => sdirt_any (h.s i).st (h.s i).cl (h.s i).fr W
      cases e : ((h.s i).st == 2)
      case' true =>
        have hd : drT h.s (i + 1) = drT h.s i + 1 := by show drT h.s i + (if (h.s i).st = 2 then 1 else 0) = _; rw [if_pos (by simpa using e)]
      case' false =>
        have hd : drT h.s (i + 1) = drT h.s i + 0 := by show drT h.s i + (if (h.s i).st = 2 then 1 else 0) = _; rw [if_neg (by simpa using e)]
      all_goals
        replace hd : Hid (drT h.s (i + 1) = _) := hd
        generalize drT h.s i = x at *
        simp only [e] at hC
        clear e
        generalize h.s i = S at *
        go_wp2_with (first
          | (go_at_call 37; refine Calls.mono (hC _) ?_; rintro e w2 ⟨rfl, hb2⟩; have hbz := bjoin hb2 ((Below.refl wr.heap.size wr).alloc (Nat.le_refl _) _))
        )
        go_roundg (h.m - (i + 1))
        case measure => omega
        case rel => exact ⟨i + 1, by omega, rfl, by go_num, by rw [hd.out]; go_num, bjoin hbz hbw⟩
    · obtain rfl : i = h.m := by omega
      go_wp2
      go_returns
      exact ⟨rfl, bjoin hbw hB0⟩
end Go.Proofs.YtjoepiopigmmnaaDoor
