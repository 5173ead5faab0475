import Derived.Test.YtkehankfnkjnlaaGreatDoorV25
namespace Go.Proofs.YtkehankfnkjnlaaGreatDoor
set_option linter.unusedSimpArgs false
set_option linter.unusedVariables false
set_option maxHeartbeats 16000000
set_option maxRecDepth 20000
open Go.ChangeAt Go.ChangeShapes Go.Joins Go.RowKit Go.WideShapes
variable {h : Hp} {w w' W W' : World} {p q : Option Addr} {n g : Nat} {a : Int} {v : Value}
def MuE (N : Nat) (W : World) (m : Mu) (L : List Value) : Prop := ∃ p c, L = m.cells p c ∧ VAt W p c m.n m.st ∧ RowE N 70 m.n p W ∧ m.wf
theorem zqh {N : Nat} : CBelow (MuE N) := fun _ _ _ _ h hb => by
 obtain ⟨p, c, e, hv, hr, hw⟩ := h
 exact ⟨p, c, e, hv.below hb, hr.below hb, hw⟩
theorem zxs {N : Nat} {c n : Nat} {z : Nat → Vl} (h : VAt W p c n z) (hN : W.heap.size ≤ N) (E : TypeId) : RowE N E n p W := fun h0 b off sp e => by
 obtain ⟨⟨b2, o2, e3, hl2, -⟩, -⟩ := h.row 0 h0
 rw [e] at e3
 injection e3 with e3
 injection e3 with e3 e4
 subst e3
 exact ⟨hl2, .inl (by omega)⟩
theorem zm1 {α : Type} {C : World → α → List Value → Prop} {s N : Nat} {c n : Nat} {z : Nat → α} (h : RAt C s W p c n z) (hN : W.heap.size ≤ N) (E : TypeId) : RowE N E n p W := fun h0 b off sp e => by
 have := h.lt h0 b off sp e
 exact ⟨this, .inl (by omega)⟩
structure WdE (N : Nat) (W : World) (Z : Wd) (q : Wp) : Prop where
 heap : HpAt W q.h q.hc q.s q.sc Z.h
 muts : RAt (MuE N) 13 W q.m q.mc Z.n Z.z
 me : RowE N 73 Z.n q.m W
 mark : MAtE N W Z.m q.g q.gc q.b q.bc q.r q.rc
 reps : RAt RpC 5 W q.o q.oc Z.nr Z.rp
 oe : RowE N 47 Z.nr q.o W
 conf : In64 Z.c0 ∧ In64 Z.c1 ∧ In64 Z.c2 ∧ In64 Z.c3 ∧ In64 Z.c4
 wm : In64 Z.m.g.r ∧ In64 Z.m.ob ∧ In64 Z.m.fi ∧ In64 Z.m.cu
 own : In64 Z.ph ∧ In64 Z.cy
section
variable {N : Nat} {W W' : World} {Z : Wd} {q : Wp}
theorem WdE.in (h : WdE N W Z q) : WdIn W Z q where
 heap := h.heap
 muts := ⟨fun i hi => by
  obtain ⟨b, off, L, e, hl, hL, hc, p, c, eL, hv, -, hw⟩ := h.muts.row i hi
  exact ⟨b, off, L, e, hl, hL, hc, p, c, eL, hv, hw⟩, h.muts.nle, h.muts.pnil, h.muts.ncap⟩
 grey := h.mark.g
 bars := RAt.plain h.mark.b
 roots := h.mark.r
 reps := h.reps
 conf := h.conf
 mark := h.wm
 own := h.own
theorem WdE.below (h : WdE N W Z q) (hb : Below W.heap.size W W') : WdE N W' Z q :=
 ⟨h.heap.below hb, h.muts.below zqh hb, h.me.below hb, h.mark.below hb, h.reps.below zb6 hb, h.oe.below hb, h.conf, h.wm, h.own⟩
theorem WdE.old (h : WdIn W Z q) (hN : W.heap.size ≤ N) : WdE N W Z q where
 heap := h.heap
 muts := ⟨fun i hi => by
  obtain ⟨b, off, L, e, hl, hL, hc, p, c, eL, hv, hw⟩ := h.muts.row i hi
  exact ⟨b, off, L, e, hl, hL, hc, p, c, eL, hv, zxs hv hN _, hw⟩, h.muts.nle, h.muts.pnil, h.muts.ncap⟩
 me := zm1 h.muts hN _
 mark := MAtE.old h.grey h.bars h.roots hN
 reps := h.reps
 oe := zm1 h.reps hN _
 conf := h.conf
 wm := h.mark
 own := h.own
theorem WdE.aside {k g : Nat} (h : WdE N W Z q) (hv : VarT 38 k g W) (hg : N ≤ g) (hn : 32 ≤ Z.h.n) (hm : 0 < Z.h.m) (ha : Aside (fun k => k = g) W W') : WdE N W' Z q where
 heap := h.heap.aside ha fun g' e => by rw [e]; exact hv.clear h.heap.in hn hm
 muts := by
  obtain ⟨-, b2⟩ := zbo h.me hv (by decide) hg ha
  refine ⟨fun j hj => ?_, h.muts.nle, h.muts.pnil, h.muts.ncap⟩
  obtain ⟨bb, off, L, e, hl, hL, hc, p, c, eL, hva, hr, hw⟩ := h.muts.row j hj
  obtain ⟨r1, r2⟩ := zbo hr hv (by decide) hg ha
  exact ⟨bb, off, L, e, Nat.lt_of_lt_of_le hl ha.size, hL, fun t u ht => by rw [World.cell?_of_block (w := W) (a := ⟨bb, _, none⟩) (b2 (by omega) bb off none e)]; exact hc t u ht, p, c, eL, hva.of_block ha.size r2, r1, hw⟩
 me := (zbo h.me hv (by decide) hg ha).1
 mark := h.mark.aside hv (by decide) (by decide) (by decide) hg ha
 reps := by
  obtain ⟨-, b2⟩ := zbo h.oe hv (by decide) hg ha
  refine ⟨fun j hj => ?_, h.reps.nle, h.reps.pnil, h.reps.ncap⟩
  obtain ⟨bb, off, L, e, hl, hL, hc, hx⟩ := h.reps.row j hj
  exact ⟨bb, off, L, e, Nat.lt_of_lt_of_le hl ha.size, hL, fun t u ht => by rw [World.cell?_of_block (w := W) (a := ⟨bb, _, none⟩) (b2 (by omega) bb off none e)]; exact hc t u ht, hx⟩
 oe := (zbo h.oe hv (by decide) hg ha).1
 conf := h.conf
 wm := h.wm
 own := h.own
end
theorem zqo (s : Nat → Sp) {n i : Nat} (h : i < n) (x : Int) : (spVals n s).set (i * 3) (.int .i64 x) = spVals n (setS s i ⟨x, (s i).cl, (s i).fr⟩) := by
 apply List.ext_getElem?
 intro j
 by_cases hj : j < n * 3
 ·rw [zfc _ hj, List.getElem?_set, zam, zfc s hj]
  unfold setS
  by_cases e0 : i * 3 = j
  ·rw [if_pos e0, if_pos (by omega), if_pos (by omega), if_pos (by omega)]
  ·rw [if_neg e0]
   by_cases e1 : (j / 3 : Nat) = i
   ·have h1 : ((j / 3 : Nat) : Int) = i := by omega
    rw [if_pos h1, e1]
    have h0 : ¬ j % 3 = 0 := by omega
    rw [if_neg h0, if_neg h0]
   ·rw [if_neg (show ¬ ((j / 3 : Nat) : Int) = i by omega)]
 ·rw [List.getElem?_eq_none (by simp [zam]; omega), List.getElem?_eq_none (by rw [zam]; omega)]
def bgS' (s : Sp) : Sp := if s.st = 1 then ⟨2, s.cl, s.fr⟩ else s
def bgTo (s : Nat → Sp) (k : Nat) : Nat → Sp := fun j => if j < k then bgS' (s j) else s j
theorem zr1 (s : Nat → Sp) (k : Nat) : bgTo s (k + 1) = setS (bgTo s k) k (bgS' (s k)) := by
 funext j
 unfold bgTo setS
 by_cases h : j = k
 ·subst h; rw [if_pos (by omega), if_pos rfl]
 ·rw [if_neg (show ¬ (j : Int) = k by omega)]
  by_cases h1 : j < k
  ·rw [if_pos (by omega)]
   exact (if_pos h1).symm
  ·rw [if_neg (by omega)]
   exact (if_neg h1).symm
theorem zw7 (s : Nat → Sp) (k : Nat) : bgTo s k k = s k := by unfold bgTo; rw [if_neg (by omega)]
theorem ztl (s : Nat → Sp) (k : Nat) : setS s k (s k) = s := by
 funext j
 unfold setS
 split
 ·rename_i e; rw [show j = k by omega]
 ·rfl
theorem HpOwn.state {base : Nat} {c : Nat} {g d : Nat} (o : HpOwn W base p c (some ⟨g, 0, none⟩) d h) {i : Nat} (hi : i < h.m) {x : Int} (hx : (Lit.int .i64 x).wf = true) :
  W.cell? ⟨g, i * 3, none⟩ = some (.int .i64 (h.s i).st) ∧ W.frozen? ⟨g, i * 3, none⟩ = false ∧ HpOwn (W.setCell ⟨g, i * 3, none⟩ (.int .i64 x)) base p c (some ⟨g, 0, none⟩) d { h with s := setS h.s i ⟨x, (h.s i).cl, (h.s i).fr⟩ } := by
 have hs := o.spans
 have hn : (Value.slice p h.n c).ownBlock ≠ some g := fun e => o.ne g g e rfl rfl
 refine ⟨?_, hs.frozenAt _, za0 o.words hn _ _, ?_, o.ne, ?_, o.nle, o.mle⟩
 ·rw [hs.cellAt (i * 3) (by omega)]
  exact (zb0 h.s hi).1
 ·have := (hs.stored (i * 3) (.int .i64 x)).1
  rw [zqo h.s hi x] at this
  exact this
 ·refine ⟨o.wf.1, fun j hj => ?_⟩
  show (setS h.s i _ j).wf
  unfold setS
  split
  ·have := o.wf.2 i hi
   exact ⟨by simpa [Lit.wf, IntKind.min, IntKind.max, IntKind.signed, IntKind.bits] using hx, this.2⟩
  ·exact o.wf.2 j hj
structure OwnIn (W : World) (base : Nat) (p : Option Addr) (n c : Nat) (q : Option Addr) (m d : Nat) (b : Bool) (h : Hp) : Prop where
 n_eq : n = h.n
 m_eq : m = h.m
 b_eq : b = h.b
 own : HpOwn W base p c q d h
section
variable {W W' : World} {base : Nat} {p : Option Addr} {n c : Nat} {q : Option Addr} {m d : Nat} {b : Bool} {h : Hp}
theorem OwnIn.in (o : OwnIn W base p n c q m d b h) : HpIn W p n c q m d b h := ⟨o.n_eq, o.m_eq, o.b_eq, o.own.at⟩
theorem OwnIn.below (o : OwnIn W base p n c q m d b h) (hb : Below W.heap.size W W') : OwnIn W' base p n c q m d b h := ⟨o.n_eq, o.m_eq, o.b_eq, o.own.below hb⟩
theorem OwnIn.lower (o : OwnIn W base p n c q m d b h) {base' : Nat} (hb : base' ≤ base) : OwnIn W base' p n c q m d b h := ⟨o.n_eq, o.m_eq, o.b_eq, o.own.lower hb⟩
theorem OwnIn.newW (o : OwnIn W base p n c q m d b h) : NewV base (.slice p n c) := by have := o.own.newW; rwa [← o.n_eq] at this
theorem OwnIn.newS (o : OwnIn W base p n c q m d b h) : NewV base (.slice q m d) := by have := o.own.newS; rwa [← o.m_eq] at this
def Off (g : Nat) (p : Option Addr) (n c : Nat) (q : Option Addr) (m d : Nat) : Prop := (Value.slice p n c).ownBlock ≠ some g ∧ (Value.slice q m d).ownBlock ≠ some g
theorem OwnIn.off (o : OwnIn W base p n c q m d b h) (hg : g < base) : Off g p n c q m d :=
 ⟨fun e => by have := o.newW g e; omega, fun e => by have := o.newS g e; omega⟩
theorem OwnIn.offNew (o : OwnIn W base p n c q m d b h) (hF : 0 < n ∧ 0 < m) (hg : W.heap.size ≤ g) : Off g p n c q m d := by
 have en := o.n_eq
 have em := o.m_eq
 obtain ⟨g1, rfl, -, h1⟩ := o.own.word (by omega)
 obtain ⟨g2, rfl, -, h2⟩ := o.own.span (by omega)
 refine ⟨fun e => ?_, fun e => ?_⟩
 ·have : g1 = g := Option.some.inj e
  omega
 ·have : g2 = g := Option.some.inj e
  omega
theorem OwnIn.stores (o : OwnIn W base p n c q m d b h) (hg : Off g p n c q m d) (x y z : Value) :
  OwnIn (((W.setCell ⟨g, 0, none⟩ x).setCell ⟨g, 1, none⟩ y).setCell ⟨g, 2, none⟩ z) base p n c q m d b h := by
 obtain ⟨e1, e2, e3, o⟩ := o
 have h1 : (Value.slice p h.n c).ownBlock ≠ some g := by rw [← e1]; exact hg.1
 have h2 : (Value.slice q h.m d).ownBlock ≠ some g := by rw [← e2]; exact hg.2
 exact ⟨e1, e2, e3, ((o.other h1 h2 0 x).other h1 h2 1 y).other h1 h2 2 z⟩
end
theorem zke (p : Option Addr) (c : Nat) (q : Option Addr) (d : Nat) (h : Hp) (w : World) (hh : HpAt w p c q d h) (hF : formB h = true) :
  Calls Tryz.prog 147 #[.agg #[.slice p h.n c, .slice q h.m d, .bool h.b]] w fun e w' => ∃ p' c' q' d', e = .returned (.agg #[.slice p' h.n c', .slice q' h.m d', .bool h.b]) ∧ HpOwn w' w.heap.size p' c' q' d' h ∧ Below w.heap.size w w' := by
 obtain ⟨w0, hw0, hB0, hR, hst⟩ := boxed2 (w := w) (v0 := .slice p h.n c) (v1 := .slice q h.m d) (v2 := .bool h.b) (u0 := .slice none 0 0) (u1 := .slice none 0 0) (u2 := .bool false) (t := 27)
 have hat := hh.below hst
 have hl : w.heap.size + 2 ≤ w0.heap.size := hR.1
 obtain ⟨l1, y0, y1, y2, f0, f1, f2⟩ := id hR
 have hF' : Hid (formB h = true) := hF
 clear hF
 go_enter Tryz.func147, Tryz.ntmps147
 go_upto_region 1 with fail
 rw [← hw0]
 clear hw0
 refine zg0 9 [3, 4, 5, 6, 7, 8, 9, 10, 11] (cpPhi w.heap.size w0.heap.size p c q d h) (by kernel_rfl) (by kernel_rfl) (by kernel_rfl) (by decide) (by kernel_rfl) (by kernel_rfl) rfl rfl (by decide) (by simp) zhb ?_ ?_
 ·intro i o hi ho a' w' hb hsame hdep K hK
  have hno : ∀ i, i < 9 → ∀ o, (cpOps 3 1 12 "sweep.go:93").toArray[i]? = some o → (o.after.any fun e => Region.binds .any e && e.on == 9) = false := by
   intro i hi o ho
   match i, hi with
   | 0, _ | 1, _ | 2, _ | 3, _ | 4, _ | 5, _ | 6, _ | 7, _ | 8, _ =>
    simp only [cpOps, List.getElem?_toArray, List.getElem?_cons_zero, List.getElem?_cons_succ, Option.some.injEq] at ho
    subst ho
    simp [Region.binds]
  have ho' : (cpOps 3 1 12 "sweep.go:93").toArray[i]? = some o := by
   match i, hi with
   | 0, _ | 1, _ | 2, _ | 3, _ | 4, _ | 5, _ | 6, _ | 7, _ | 8, _ => exact ho
  refine zq9 3 1 12 "sweep.go:93" hF'.out hat hB0 (a := _) rfl (by simp [cpSlots]) i o (by omega) ho' a' w' hb (fun t ht => hsame t fun h => ht (by simp [cpSlots] at h ⊢; omega)) (fun j x hj hx ha => ?_) K hK
  by_cases h9 : j = 9
  ·subst h9
   rw [hno i hi o ho'] at ha
   cases ha
  ·exact hdep j x (by omega) (by
    have : j < 9 := by omega
    match j, this with
    | 0, _ | 1, _ | 2, _ | 3, _ | 4, _ | 5, _ | 6, _ | 7, _ | 8, _ => exact hx) ha
 ·intro vs w' hlen hb hph
  match vs, hlen with
  | [x0, x1, x2, x3, x4, x5, x6, x7, x8], _ =>
   obtain ⟨v1, v2, rfl, o1, o2⟩ := hph 8 _ rfl
   obtain ⟨p1, c1, rfl, -⟩ := zaf o1
   obtain ⟨q1, d1, rfl, -⟩ := zaf o2
   clear hph
   have hne : ∀ b b', (Value.slice p1 h.n c1).ownBlock = some b → (Value.slice q1 h.m d1).ownBlock = some b' → b ≠ b' := fun b b' e e' eb => by
    subst eb
    obtain ⟨cur, hc⟩ := zau o1 e
    obtain ⟨cur', hc'⟩ := zau o2 e'
    rw [hc] at hc'; injection hc' with hc'; injection hc' with _ hc'; revert hc'; decide
   have hown : HpOwn w' w0.heap.size p1 c1 q1 d1 h := ⟨o1, o2, hne, hh.wf, hh.nle, hh.mle⟩
   obtain ⟨hc, hf, hb, hz⟩ := bstep hb (w := w0) zr
   simp only [puts, Act.put]
   simp only [List.drop_succ_cons, List.drop_zero]
   go_wp2
   refine bodyPost_ret (by simp [results, Tryz.results147, go_sem, *]; try rfl) rfl ?_
   have hz := (((hown.under (g := w.heap.size + 1) (by omega) 0 (.slice p1 h.n c1)).under (g := w.heap.size + 1) (by omega) 1 (.slice q1 h.m d1)).under (g := w.heap.size + 1) (by omega) 2 (.bool h.b)).lower (show w.heap.size ≤ w0.heap.size by omega)
   exact ⟨p1, c1, q1, d1, rfl, hz, zav (bjoin hb hst) (by omega) _ _ _⟩
theorem zlo (st cl fr : Int) (w : World) :
  Calls Tryz.prog 110 #[.agg #[.int .i64 st, .int .i64 cl, .int .u32 fr]] w fun e w' => e = .returned (.bool (st == 2)) ∧ Below w.heap.size w w' := by
 go_enter Tryz.func110, Tryz.ntmps110
 go_wp2
 go_returns
 exact ⟨rfl, by go_grown⟩
def ixI : Option Nat → Int
 | some p => p
 | none => -1
theorem zr2 (p : Option Addr) (n c : Nat) (s : Nat → Sp) (w : World) (hin : Spans w p n s) (hn : n ≤ 16) :
  Calls Tryz.prog 109 #[.slice p n c, .func (.func 110) #[] #[]] w fun e w' => e = .returned (.int .i64 (ixI ((List.range n).find? fun p => decide ((s p).st = 2)))) ∧ Below w.heap.size w w' := by
 have hent : ∀ args w, (callFunc 110 args).run Tryz.prog w = .ok (.enter 110 args) w := enters_of Tryz.func110 (by kernel_rfl) rfl
 go_enter Tryz.func109, Tryz.ntmps109
 go_wp2
 go_loopg [8] n (fun g iv wr => ∃ i : Nat, i ≤ n ∧ g = n - i ∧ iv = .int .i64 i ∧ (∀ j, j < i → ¬ (s j).st = 2) ∧ Below w.heap.size w wr)
 case atStart => exact ⟨0, by omega, by omega, rfl, fun j hj => absurd hj (Nat.not_lt_zero _), zr⟩
 case round =>
  obtain ⟨i, ih, rfl, rfl, hno, hbw⟩ := hrel
  by_cases hi : i < n
  ·obtain ⟨⟨b, off, rfl, hlt, s0, s1, s2⟩, -⟩ := (hin.below hbw) i hi
   have hC := zlo (s i).st (s i).cl (s i).fr wr
   by_cases e : (s i).st = 2
   ·have hyes : Hid ((List.range n).find? (fun p => decide ((s p).st = 2)) = some i) := by
     show (List.range n).find? _ = some i
     rw [List.find?_range_eq_some]
     exact ⟨by simpa using e, List.mem_range.2 hi, fun j hj => by simpa using hno j hj⟩
    have d0 : ((s i).st == 2) = true := by simp [e]
    rw [d0] at hC
    clear hno e
    generalize s i = S at *
    go_wp2_with (first
     | (go_at_fn 110; refine zm hC ?_; rintro e w2 ⟨rfl, hb2⟩)
    )
    go_returns
    exact ⟨by rw [hyes.out]; rfl, bjoin hb2 hbw⟩
   ·have hno2 : Hid (∀ j, j < i + 1 → ¬ (s j).st = 2) := fun j hj => by
     rcases Nat.lt_or_ge j i with h | h
     ·exact hno j h
     ·obtain rfl : j = i := by omega
      exact e
    have d0 : ((s i).st == 2) = false := by simp [e]
    rw [d0] at hC
    clear hno e
    generalize s i = S at *
    go_wp2_with (first
     | (go_at_fn 110; refine zm hC ?_; rintro e w2 ⟨rfl, hb2⟩)
    )
    go_roundg (n - (i + 1))
    case measure => omega
    case rel => exact ⟨i + 1, by omega, rfl, by go_num, hno2.out, bjoin hb2 hbw⟩
  ·obtain rfl : n = i := by omega
   have hfn : Hid ((List.range n).find? (fun p => decide ((s p).st = 2)) = none) := by
    show (List.range n).find? _ = none
    rw [List.find?_eq_none]
    exact fun j hj => by simpa using hno j (List.mem_range.1 hj)
   clear hno
   go_wp2
   go_returns
   exact ⟨by rw [hfn.out]; rfl, hbw⟩
theorem zpc (p : Option Addr) (c : Nat) (q : Option Addr) (d : Nat) (h : Hp) (w : World) (hh : HpAt w p c q d h) (hm : h.m ≤ 16) :
  Calls Tryz.prog 79 #[.agg #[.slice p h.n c, .slice q h.m d, .bool h.b]] w fun e w' => e = .returned (.int .i64 (drH h : Nat)) ∧ Below w.heap.size w w' := by
 obtain ⟨w0, hw0⟩ : ∃ w0, w0 = w.alloc (.cells #[.slice p h.n c, .slice q h.m d, .bool h.b] 27) := ⟨_, rfl⟩
 have g3 : Box3 w.heap.size (.slice p h.n c) (.slice q h.m d) (.bool h.b) w0 := by rw [hw0]; exact Box3.new _ _ _ _ _
 have hB0 : Below w.heap.size w w0 := by rw [hw0]; exact zr.alloc (Nat.le_refl _) _
 have hsp := hh.spans.below hB0
 go_enter Tryz.func79, Tryz.ntmps79
 go_upto_region 1 with fail
 rw [← hw0]
 clear hw0
 obtain ⟨l3, x0, x1, x2, -, -, -⟩ := id g3
 go_wp2
 clear x0 x1 x2
 go_loopg [3, 9] h.m (fun gg nv iv wr => ∃ i : Nat, i ≤ h.m ∧ gg = h.m - i ∧ iv = .int .i64 i ∧ nv = .int .i64 (drT h.s i : Nat) ∧ Below w0.heap.size w0 wr)
 case atStart => exact ⟨0, by omega, by omega, rfl, rfl, zr⟩
 case round =>
  obtain ⟨i, ih, rfl, rfl, rfl, hbw⟩ := hrel
  have hbd := zv0 h.s i
  by_cases hi : i < h.m
  ·obtain ⟨⟨b, off, rfl, hlt, s0, s1, s2⟩, hwf⟩ := (hsp.below hbw) i hi
   have hC := fun W => zlo (h.s i).st (h.s i).cl (h.s i).fr W
   cases e : ((h.s i).st == 2)
   case' true =>
    have hd : drT h.s (i + 1) = drT h.s i + 1 := by show drT h.s i + (if (h.s i).st = 2 then 1 else 0) = _; rw [if_pos (by simpa using e)]
   case' false =>
    have hd : drT h.s (i + 1) = drT h.s i + 0 := by show drT h.s i + (if (h.s i).st = 2 then 1 else 0) = _; rw [if_neg (by simpa using e)]
   all_goals
    replace hd : Hid (drT h.s (i + 1) = _) := hd
    generalize drT h.s i = x at *
    simp only [e] at hC
    clear e
    generalize h.s i = S at *
    go_wp2_with (first
     | (go_at_call 110; refine zm (hC _) ?_; rintro e w2 ⟨rfl, hb2⟩; have hbz := bjoin hb2 ((Below.refl wr.heap.size wr).alloc (Nat.le_refl _) _))
    )
    go_roundg (h.m - (i + 1))
    case measure => omega
    case rel => exact ⟨i + 1, by omega, rfl, by go_num, by rw [hd.out]; go_num, bjoin hbz hbw⟩
  ·obtain rfl : i = h.m := by omega
   go_wp2
   go_returns
   exact ⟨rfl, bjoin hbw hB0⟩
theorem zwp (s : Nat → Sp) (k : Nat) : ∀ i, i < k → bgTo s k i = bgS (s i) := fun i hi => by
 unfold bgTo
 rw [if_pos hi]
 rfl
theorem zd7 (hF : formB h = true) (hw : h.wf) : 0 ≤ usH h ∧ usH h ≤ 512 := by
 obtain ⟨-, h1, -, h3⟩ := zad.1 hF
 have := zfb (s := h.s) (k := h.m) fun i hi => ⟨h3 i hi, hw.2 i hi⟩
 unfold usH; omega
section
variable {w : World} {p : Option Addr} {n c : Nat} {q : Option Addr} {m d : Nat} {b : Bool} {h : Hp}
end
theorem Box4.ints {B : Nat} {z : Nat → Int} (g : Box4 B (.int .i64 (z 0)) (.int .i64 (z 1)) (.int .i64 (z 2)) (.int .i64 (z 3)) W) (hw : ∀ i, i < 4 → (Lit.int .i64 (z i)).wf = true) : Ints .i64 W (some ⟨B, 0, none⟩) 4 z := fun i hi => by
 refine ⟨⟨B, 0, rfl, g.1, ?_⟩, hw i hi⟩
 rw [Nat.zero_add]
 have : i = 0 ∨ i = 1 ∨ i = 2 ∨ i = 3 := by omega
 rcases this with rfl | rfl | rfl | rfl
 ·exact g.c0
 ·exact g.c1
 ·exact g.c2
 ·exact g.c3
theorem zsy (y : Nat → Int) (x : Int) (i : Nat) : hasY y x ((i + 1) * 4) = (hasY y x (i * 4) || hasY (fun j => y (i * 4 + j)) x 4) := by
 rw [show (i + 1) * 4 = i * 4 + 1 + 1 + 1 + 1 by omega]
 simp only [hasY, Nat.add_zero, Bool.false_or, Bool.or_assoc]
theorem zog (p : Option Addr) (n c : Nat) (z : Nat → Int) (x : Int) (w : World) (hin : Ints .i64 w p n z) (hn : n ≤ maxLen) :
  Calls Tryz.prog 186 #[.slice p n c, .int .i64 x] w fun e w' => ∃ i : Int, e = .returned (.int .i64 i) ∧ -1 ≤ i ∧ i < 9223372036854775807 ∧ (0 ≤ i ↔ hasY z x n = true) ∧ Below w.heap.size w w' := by
 simp only [maxLen] at hn
 go_enter Tryz.func186, Tryz.ntmps186
 go_wp2
 go_loopg [8] n (fun g iv wr => ∃ i : Nat, i ≤ n ∧ g = n - i ∧ iv = .int .i64 i ∧ hasY z x i = false ∧ Below w.heap.size w wr)
 case atStart => exact ⟨0, by omega, by omega, rfl, rfl, zr⟩
 case round =>
  obtain ⟨i, ih, rfl, rfl, hno, hbw⟩ := hrel
  by_cases hi : i < n
  ·obtain ⟨⟨b, off, rfl, hlt, hv⟩, -⟩ := (hin.below hbw) i hi
   by_cases hy : z i = x
   ·have hyes : Hid (0 ≤ (i : Int) ↔ hasY z x n = true) := ⟨fun _ => zf7 hy hi, fun _ => by omega⟩
    rw [hy] at hv
    clear hno
    go_wp2
    go_returns
    exact ⟨i, rfl, by omega, by omega, hyes.out, hbw⟩
   ·have hno2 : Hid (hasY z x (i + 1) = false) := zq0 hno hy
    have d : (x == z i) = false := by simp; omega
    clear hno hy
    generalize z i = v at *
    go_wp2
    go_roundg (n - (i + 1))
    case measure => omega
    case rel => exact ⟨i + 1, by omega, rfl, by go_num, hno2.out, hbw⟩
  ·obtain rfl : n = i := by omega
   have hyes : Hid (0 ≤ (-1 : Int) ↔ hasY z x n = true) := by show 0 ≤ (-1 : Int) ↔ hasY z x n = true; rw [hno]; simp
   clear hno
   go_wp2
   go_returns
   exact ⟨-1, rfl, by omega, by omega, hyes.out, hbw⟩
theorem zir (p : Option Addr) (n c : Nat) (z : Nat → Int) (x : Int) (w : World) (hin : Ints .i64 w p n z) (hn : n ≤ maxLen) :
  Calls Tryz.prog 150 #[.slice p n c, .int .i64 x] w fun e w' => e = .returned (.bool (hasY z x n)) ∧ Below w.heap.size w w' := by
 have hI := zog p n c z x w hin hn
 generalize hasY z x n = B at *
 go_enter Tryz.func150, Tryz.ntmps150
 go_wp2_with (first
  | (go_at_call 186; refine zm hI ?_; rintro e w1 ⟨i, rfl, i0, i1, hiff, hb⟩)
 )
 go_returns
 refine ⟨zab ?_, by go_grown⟩
 cases B
 ·simp at hiff; first | (simp; done) | (simp; omega)
 ·simp at hiff; first | (simp; done) | (simp; omega)
theorem zt0 (p : Option Addr) (n c : Nat) (y : Nat → Int) (x : Int) (w : World) (hin : Ints .i64 w p (n * 4) y) (hn : n ≤ 1000) :
  Calls Tryz.prog 113 #[.slice p n c, .int .i64 x] w fun e w' => e = .returned (.bool (keptY n y x)) ∧ Below w.heap.size w w' := by
 by_cases hx : x < 0
 ·have hk : keptY n y x = false := by simp [keptY]; omega
  rw [hk]
  go_enter Tryz.func113, Tryz.ntmps113
  go_wp2
  go_returns
  exact ⟨rfl, by go_grown⟩
 ·have hk : keptY n y x = hasY y x (n * 4) := by simp [keptY]; omega
  rw [hk]
  clear hk
  go_enter Tryz.func113, Tryz.ntmps113
  go_wp2
  go_loopg [11] n (fun g iv wr => ∃ i : Nat, i ≤ n ∧ g = n - i ∧ iv = .int .i64 i ∧ hasY y x (i * 4) = false ∧ Below w.heap.size w wr)
  case atStart => exact ⟨0, by omega, by omega, rfl, rfl, zr⟩
  case round =>
   obtain ⟨i, ih, rfl, rfl, hno, hbw⟩ := hrel
   by_cases hi : i < n
   ·have A : ∀ k, k < 4 → ∃ b off, p = some ⟨b, off, none⟩ ∧ b < wr.heap.size ∧ wr.cell? ⟨b, off + i * 4 + k, none⟩ = some (.int .i64 (y (i * 4 + k))) := fun k hk => by
     obtain ⟨⟨b', off', e, hlt', hv⟩, -⟩ := (hin.below hbw) (i * 4 + k) (by omega)
     exact ⟨b', off', e, hlt', by rw [Nat.add_assoc]; exact hv⟩
    have hwf : ∀ k, k < 4 → (Lit.int .i64 (y (i * 4 + k))).wf = true := fun k hk => (hin (i * 4 + k) (by omega)).2
    obtain ⟨b, off, rfl, hlt, a0⟩ := A 0 (by omega)
    simp only [Nat.add_zero] at a0
    have A' : ∀ k, k < 4 → wr.cell? ⟨b, off + i * 4 + k, none⟩ = some (.int .i64 (y (i * 4 + k))) := fun k hk => by
     obtain ⟨b', off', e, -, hv⟩ := A k hk
     injection e with e
     injection e with e1 e2
     subst e1 e2
     exact hv
    have a1 := A' 1 (by omega)
    have a2 := A' 2 (by omega)
    have a3 := A' 3 (by omega)
    clear A A'
    go_upto_region 6 with fail
    obtain ⟨wx, hwx⟩ : ∃ wx, wx = wr.alloc (.cells #[.int .i64 (y (i * 4)), .int .i64 (y (i * 4 + 1)), .int .i64 (y (i * 4 + 2)), .int .i64 (y (i * 4 + 3))] 71) := ⟨_, rfl⟩
    have gX : Box4 wr.heap.size (.int .i64 (y (i * 4))) (.int .i64 (y (i * 4 + 1))) (.int .i64 (y (i * 4 + 2))) (.int .i64 (y (i * 4 + 3))) wx := by rw [hwx]; exact Box4.new _ _ _ _ _ _
    have hbx : Below wr.heap.size wr wx := by rw [hwx]; exact zr.alloc (Nat.le_refl _) _
    have hbX := bjoin hbx hbw
    have hC := fun W (hW : Below wx.heap.size wx W) => zir (some ⟨wr.heap.size, 0, none⟩) 4 4 (fun j => y (i * 4 + j)) x W ((Box4.ints (z := fun j => y (i * 4 + j)) gX hwf).below hW) (by decide)
    have h4 := zsy y x i
    rw [hno, Bool.false_or] at h4
    obtain ⟨lX, -⟩ := id gX
    rw [← hwx]
    clear hwx a0 a1 a2 a3 hlt hbx hbw gX hwf hno
    generalize wr.heap.size = X at *
    generalize hasY (fun j => y (i * 4 + j)) x 4 = B at *
    cases B
    case' true =>
     have hyes : Hid (hasY y x (n * 4) = true) := by
      rcases Nat.lt_or_ge (i + 1) n with h | h
      ·have hm : ∀ a b : Nat, a ≤ b → hasY y x a = true → hasY y x b = true := fun a b hab ha => by
        induction b with
        | zero => obtain rfl : a = 0 := by omega
                  exact ha
        | succ b ihb =>
         by_cases e : a = b + 1
         ·subst e; exact ha
         ·show (hasY y x b || decide (y b = x)) = true
          rw [ihb (by omega)]; rfl
       exact hm _ _ (by omega) h4
      ·obtain rfl : n = i + 1 := by omega
       exact h4
     clear h4
     go_wp2_with (first
      | (go_at_call 150; refine zm (hC _ (by go_grown)) ?_; rintro e w1 ⟨rfl, hb1⟩)
     )
     go_returns
     exact ⟨by rw [hyes.out]; rfl, bjoin hb1 hbX⟩
    case' false =>
     have h5 : Hid (hasY y x ((i + 1) * 4) = false) := h4
     clear h4
     go_wp2_with (first
      | (go_at_call 150; refine zm (hC _ (by go_grown)) ?_; rintro e w1 ⟨rfl, hb1⟩)
     )
     go_roundg (n - (i + 1))
     case measure => omega
     case rel => exact ⟨i + 1, by omega, rfl, by go_num, h5.out, bjoin hb1 hbX⟩
   ·obtain rfl : n = i := by omega
    have h5 : Hid (hasY y x (n * 4) = false) := hno
    clear hno
    go_wp2
    go_returns
    exact ⟨by rw [h5.out]; rfl, hbw⟩
end Go.Proofs.YtkehankfnkjnlaaGreatDoor
