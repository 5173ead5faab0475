/- Contracts of the code's heap.* (chapter 7). -/
import Derived.Test.YtonjnedlnfdanaaDoorHeapCopy
import Derived.Test.YtonjnedlnfdanaaDoorSpan
import Derived.Test.YtonjnedlnfdanaaDoorHeader
import Derived.Shelf.Abstract
import Derived.Lib.SliceRun
namespace Go.Proofs.YtonjnedlnfdanaaDoor
set_option linter.unusedSimpArgs false
set_option linter.unusedVariables false
open Go.ChangeShapes Go.WideShapes Go.ChangeAt Go.RowKit Go.Joins

theorem used_bound {s : Sp} (hr : s.right = true) (hw : s.wf) : 0 ≤ usedN s.st s.cl s.fr ∧ usedN s.st s.cl s.fr ≤ 16 := by
  unfold usedN
  split
  · rename_i hu
    rcases right_iff.1 hr with ⟨h0, -⟩ | ⟨-, c0, c1, hs⟩
    · rw [h0] at hu; cases hu
    · obtain ⟨a, b⟩ := count_le hw.2.2 hs
      have := bl_bound s.cl
      omega
  · simp
set_option maxHeartbeats 1000000 in
theorem hfind_any (p : Option Addr) (c : Nat) (q : Option Addr) (d : Nat) (h : Hp) (a : Int) (w : World) (hS : Sz w) (hh : HpAt w p c q d h) (hF : formB h = true) :
    Calls Tryd.prog 43 #[.agg #[.slice p h.n c, .slice q h.m d, .bool h.b], .int .i64 a] w fun e w' => e = .returned (.tuple #[.int .i64 (fiP h a), .int .i64 (fiI h a), .bool (fiB h a)]) ∧ Below w.heap.size w w' := by
  have hm16 := (form_iff.1 hF).2.1
  by_cases hr : 0 ≤ a ∧ a < 32 * h.m
  · obtain ⟨a0, a1⟩ := hr
    have eB : fiB h a = (!((spH h (a / 32)).st == 0) && plB (spH h (a / 32)).cl a) := by unfold fiB; rw [inI_yes a0 (by omega), Bool.true_and]
    have eP : fiB h a = true → fiP h a = a / 32 := fun e => by unfold fiP; rw [if_pos e]
    have eI : fiB h a = true → fiI h a = plI (spH h (a / 32)).cl a := fun e => by unfold fiI; rw [if_pos e]
    have eN := fi_no (h := h) (a := a)
    have hp0 : 0 ≤ a / 32 := by omega
    have hp1 : a / 32 < h.m := by omega
    rw [show spH h (a / 32) = h.s (a / 32).toNat from rfl] at *
    obtain ⟨⟨b, off, rfl, hlt, s0, s1, s2⟩, hw⟩ := hh.spans (a / 32).toNat (by omega)
    generalize h.s (a / 32).toNat = S at *
    obtain ⟨st, cl, fr⟩ := S
    simp only [] at *
    clear hF hh hw
    by_cases hst : st = 0
    · have d0 : (st == 0) = true := by simp [hst]
      rw [d0] at eB
      obtain ⟨e1, e2, e3⟩ := eN (by simp [eB])
      rw [e1, e2, e3]
      clear eB eP eI eN e1 e2 e3 hst
      go_enter Tryd.func43, Tryd.ntmps43
      go_wp2
      go_returns
      exact ⟨rfl, by go_grown⟩
    · have d0 : (st == 0) = false := by simp [hst]
      rw [d0] at eB
      simp only [Bool.not_false, Bool.true_and] at eB
      have eP' : fiP h a = plP cl a := by unfold fiP plP; rw [eB]
      have eI' : fiI h a = plI cl a := by
        cases e : plB cl a with
        | true => exact eI (by rw [eB, e])
        | false => rw [(eN (by simp [eB, e])).2.2]; exact (pl_no (by simp [e])).2.2.symm
      rw [eB, eP', eI']
      clear eB eP eI eN eP' eI' hst
      go_enter Tryd.func43, Tryd.ntmps43
      go_wp2_with (first
    | (go_at_call 45; refine Calls.mono (aplace_any _ _ _ (hS.below (by go_grown))) ?_; rintro e w' ⟨rfl, hb⟩; obtain ⟨hc, hf, hb, hz⟩ := bstep hb (w := w) (by go_grown); try simp only [World.size_alloc, World.size_setCell, World.size_drew] at hc hf hz)
      )
      go_returns
      exact ⟨rfl, by go_grown⟩
  · have e : fiB h a = false := by unfold fiB; rw [inI_no (by omega)]; rfl
    obtain ⟨e1, e2, e3⟩ := fi_no (h := h) (a := a) (by simp [e])
    rw [e1, e2, e3]
    clear e e1 e2 e3 hF
    by_cases ha : 0 ≤ a
    · go_enter Tryd.func43, Tryd.ntmps43
      go_wp2
      go_returns
      exact ⟨rfl, by go_grown⟩
    · go_enter Tryd.func43, Tryd.ntmps43
      go_wp2
      go_returns
      exact ⟨rfl, by go_grown⟩
end Go.Proofs.YtonjnedlnfdanaaDoor
/-! Contracts of the code's heap.changeSpan, of whatever closure, and of Open and Close (chapter 7). -/
namespace Go.Proofs.YtonjnedlnfdanaaDoor
set_option linter.unusedSimpArgs false
set_option linter.unusedVariables false
open Go.ChangeShapes Go.WideShapes Go.ChangeAt Go.RowKit Go.Joins

/-- What changeSpan leaves: W1 where the closure is called, W2 behind it. -/
structure Changed (w : World) (h : Hp) (g : Int) (x : Sp) (ok : Bool) (T : Nat → Prop) (R : World → World → Prop) (p : Option Addr) (c : Nat) (q : Option Addr) (d : Nat) (p' : Option Addr) (c' : Nat) (q' : Option Addr) (d' : Nat) (w' : World) : Prop where
  new : ok = true → HpOwn w' w.heap.size p' c' q' d' (withS h g x)
  old : ok = false → p' = p ∧ c' = c ∧ q' = q ∧ d' = d
  way : ∃ W1 W2, Below w.heap.size w W1 ∧ Aside T W1 W2 ∧ R W1 W2 ∧ Below w.heap.size W2 w'
end Go.Proofs.YtonjnedlnfdanaaDoor
/-! Contracts of the code's heap.Open and heap.Close (chapter 7). -/
namespace Go.Proofs.YtonjnedlnfdanaaDoor
set_option linter.unusedSimpArgs false
set_option linter.unusedVariables false
open Go.ChangeShapes Go.WideShapes Go.ChangeAt Go.RowKit Go.Joins

/-- What Open's closure answers. -/
def opX (s : Sp) (k : Int) : Sp := if s.st = 0 then ⟨nwS k, nwC k, nwF k⟩ else s
theorem opX_wf {s : Sp} {k : Int} (h0 : s.st = 0) (hk : clB k = true) : opX s k = ⟨1, k, wholeW (blW k)⟩ ∧ (opX s k).wf := by
  have e : opX s k = ⟨1, k, wholeW (blW k)⟩ := by
    obtain ⟨a, b, c⟩ := nw_yes hk
    unfold opX; rw [if_pos h0, a, b, c]
  rw [e]
  have : 0 ≤ k ∧ k < 4 := by simpa [clB] using hk
  exact ⟨rfl, ⟨by show (-9223372036854775808 : Int) ≤ 1; decide, by show (1 : Int) ≤ 9223372036854775807; decide⟩, ⟨by show -9223372036854775808 ≤ k; omega, by show k ≤ 9223372036854775807; omega⟩, mask_whole _⟩
theorem zero_wf : (⟨0, 0, 0⟩ : Sp).wf := ⟨⟨by show (-9223372036854775808 : Int) ≤ 0; decide, by show (0 : Int) ≤ 9223372036854775807; decide⟩, ⟨by show (-9223372036854775808 : Int) ≤ 0; decide, by show (0 : Int) ≤ 9223372036854775807; decide⟩, ⟨by show (0 : Int) ≤ 0; decide, by show (0 : Int) < 4294967296; decide⟩⟩
theorem empty_lo {st cl fr : Int} (hr : rightB st cl fr = true) (hm : Mask fr) : emptyB st cl fr = (!(st == 0) && countW fr == blW cl) := by
  unfold emptyB
  rcases right_iff.1 hr with ⟨h0, -⟩ | ⟨h0, c0, c1, hs⟩
  · have : useB st = false := by rw [h0]; rfl
    rw [this, h0]; rfl
  · rw [(use_iff st).2 h0, show (st == 0) = false by simp; omega]
    simp only [Bool.true_and, Bool.not_false]
    rw [Bool.eq_iff_iff, beq_iff_eq, beq_iff_eq]
    exact (count_whole hm hs).symm
end Go.Proofs.YtonjnedlnfdanaaDoor
/-! Contracts of the code's heap.block and heap.Free (chapter 7). -/
namespace Go.Proofs.YtonjnedlnfdanaaDoor
set_option linter.unusedSimpArgs false
set_option linter.unusedVariables false
open Go.ChangeShapes Go.WideShapes Go.ChangeAt Go.RowKit Go.Joins

theorem HpOwn.cap {W : World} {base : Nat} {p : Option Addr} {c : Nat} {q : Option Addr} {d : Nat} {h : Hp} (o : HpOwn W base p c q d h) (h0 : 0 < h.n) : h.n ≤ c ∧ c ≤ maxLen := by
  rcases o.words.2 with ⟨-, h1⟩ | ⟨g, cap', cur, hv, -, -, h1, h2, -⟩
  · omega
  · injection hv with _ _ e; subst e; exact ⟨h1, h2⟩
/-- 'clear(s)', s a piece of n cells of a row. -/
theorem wpList_clear_words {P : Program} {w : World} {ops : Array Oper} {rest : List Oper} {o : Oper} {a : Act} {Q : Exit → Act → World → Prop} (hgd : o.guard = none) (s : Operand) (t e : TypeId)
    (ho : o.op = .call { callee := .builtin .clear, args := #[s], argTypes := #[t] }) (z : Value) (ht : P.underlying t = some (.slice e)) (hv : ∀ w, (zeroValue e).run P w = .ok z w) (hz : z.cells = #[z]) (h1 : z.oneCell' = true) (b off n c : Nat)
    (hs : a.eval s = .slice (some ⟨b, off, none⟩) n c) (hn : 0 < n) (hc : ∀ j, j < n → (w.cell? ⟨b, off + j, none⟩).isSome = true) (hf : ∀ j, j < n → w.frozen? ⟨b, off + j, none⟩ = false)
    (h : wpList P ops Q rest (a.put o.dst (.tuple #[])) (w.setCells b off (List.replicate n z))) : wpList P ops Q (o :: rest) a w := by
  refine wpList_plain hgd fun K hK => ?_
  have hrun := Lib.run_clear_slice (P := P) w t e o.type z ht hv hz h1 b off n c hn hc hf
  unfold Oper.wp
  simp [execOp, ho, resolve, invoke, builtin, hs, hrun, Result.andThen]
  exact hK _ _ h
theorem zero_u64 : ∀ w, (zeroValue 36).run Tryd.prog w = .ok (.int .u64 0) w := fun w => by
  simp [go_sem]
/-- What a change leaves, said without the closure's worlds. -/
theorem Changed.plain {w w' : World} {h : Hp} {g : Int} {x : Sp} {ok : Bool} {R : World → World → Prop} {p : Option Addr} {c : Nat} {q : Option Addr} {d : Nat} {p' : Option Addr} {c' : Nat} {q' : Option Addr} {d' : Nat} (hc : Changed w h g x ok (fun _ => False) R p c q d p' c' q' d' w') : Below w.heap.size w w' := by
  obtain ⟨W1, W2, hb1, hA, -, hb2⟩ := hc.way
  exact (hb1.trans (hA.pure.mono hb1.size)).trans hb2
end Go.Proofs.YtonjnedlnfdanaaDoor
/-! Contracts of the code's heap.Lay (chapter 7). -/
namespace Go.Proofs.YtonjnedlnfdanaaDoor
set_option linter.unusedSimpArgs false
set_option linter.unusedVariables false
open Go.ChangeShapes Go.WideShapes Go.ChangeAt Go.RowKit Go.Joins

theorem may_is {c : Bool} {k f : Int} (k0 : 0 ≤ k) (k1 : k < 4) : hmayB true c k f = (decide (0 ≤ f) && decide (f < szW k)) := by
  by_cases h : 0 ≤ f ∧ f < szW k
  · rw [may_of k0 k1 h.1 h.2, decide_eq_true h.1, decide_eq_true h.2]; rfl
  · have : hmayB true c k f = false := by
      cases e : hmayB true c k f with
      | false => rfl
      | true =>
        exfalso
        have h3 := hmay_cases e
        rcases cl_cases k with ⟨h0, h1, -⟩ | ⟨h0, h1, -⟩ | ⟨h0, h1, -⟩ | ⟨h0, h1, -⟩ | ⟨h0, -⟩
        all_goals (try rw [h1] at h); omega
    rw [this]
    symm
    simp only [Bool.and_eq_false_iff, decide_eq_false_iff_not]
    omega
theorem Aside.trans' {T : Nat → Prop} {a b c : World} (h : Aside T a b) (k : Below a.heap.size b c) : Aside T a c :=
  ⟨k.os.trans h.os, k.tape.trans h.tape, k.output.trans h.output, Nat.le_trans h.size k.size, fun i hi ht => (k.block i hi).trans (h.block i hi ht)⟩
theorem Changed.aside {w w' : World} {h : Hp} {g : Int} {x : Sp} {ok : Bool} {T : Nat → Prop} {R : World → World → Prop} {p : Option Addr} {c : Nat} {q : Option Addr} {d : Nat} {p' : Option Addr} {c' : Nat} {q' : Option Addr} {d' : Nat} (hc : Changed w h g x ok T R p c q d p' c' q' d' w') : Aside T w w' := by
  obtain ⟨W1, W2, hb1, hA, -, hb2⟩ := hc.way
  exact ((Aside.of hb1).trans hA).trans' hb2
theorem lay_boxes {w : World} {v0 v1 v2 g f u0 u1 u2 z1 z2 : Value} {t0 t1 t2 t3 t4 t5 : TypeId} : ∃ w0, w0 = (((((w.alloc (.cells #[v0, v1, v2] t0)).alloc (.cells #[g] t1)).alloc (.cells #[f] t2)).alloc (.cells #[u0, u1, u2] t3)).alloc (.cells #[z1] t4)).alloc (.cells #[z2] t5) ∧
    Box3 w.heap.size v0 v1 v2 w0 ∧ Box1 (w.heap.size + 1) g w0 ∧ Box1 (w.heap.size + 1 + 1) f w0 ∧ Box3 (w.heap.size + 1 + 1 + 1) u0 u1 u2 w0 ∧ Box1 (w.heap.size + 1 + 1 + 1 + 1) z1 w0 ∧ Box1 (w.heap.size + 1 + 1 + 1 + 1 + 1) z2 w0 ∧ Below w.heap.size w w0 ∧ w0.heap.size = w.heap.size + 6 := by
  have st : ∀ (W : World) (o : Obj), Below W.heap.size W (W.alloc o) := fun W o => (Below.refl _ _).alloc (Nat.le_refl _) _
  have a0 := Box3.new w v0 v1 v2 t0
  obtain ⟨w1, h1⟩ : ∃ w1, w1 = w.alloc (.cells #[v0, v1, v2] t0) := ⟨_, rfl⟩
  have s1 : w1.heap.size = w.heap.size + 1 := by rw [h1, World.size_alloc]
  have b1 : Below w.heap.size w w1 := by rw [h1]; exact st _ _
  rw [← h1] at a0 ⊢
  have a1 := Box1.new w1 g t1
  have b2 := st w1 (.cells #[g] t1)
  obtain ⟨w2, h2⟩ : ∃ w2, w2 = w1.alloc (.cells #[g] t1) := ⟨_, rfl⟩
  have s2 : w2.heap.size = w.heap.size + 1 + 1 := by rw [h2, World.size_alloc, s1]
  rw [← h2] at a1 b2 ⊢
  have a2 := Box1.new w2 f t2
  have b3 := st w2 (.cells #[f] t2)
  obtain ⟨w3, h3⟩ : ∃ w3, w3 = w2.alloc (.cells #[f] t2) := ⟨_, rfl⟩
  have s3 : w3.heap.size = w.heap.size + 1 + 1 + 1 := by rw [h3, World.size_alloc, s2]
  rw [← h3] at a2 b3 ⊢
  have a3 := Box3.new w3 u0 u1 u2 t3
  have b4 := st w3 (.cells #[u0, u1, u2] t3)
  obtain ⟨w4, h4⟩ : ∃ w4, w4 = w3.alloc (.cells #[u0, u1, u2] t3) := ⟨_, rfl⟩
  have s4 : w4.heap.size = w.heap.size + 1 + 1 + 1 + 1 := by rw [h4, World.size_alloc, s3]
  rw [← h4] at a3 b4 ⊢
  have a4 := Box1.new w4 z1 t4
  have b5 := st w4 (.cells #[z1] t4)
  obtain ⟨w5, h5⟩ : ∃ w5, w5 = w4.alloc (.cells #[z1] t4) := ⟨_, rfl⟩
  have s5 : w5.heap.size = w.heap.size + 1 + 1 + 1 + 1 + 1 := by rw [h5, World.size_alloc, s4]
  rw [← h5] at a4 b5 ⊢
  have a5 := Box1.new w5 z2 t5
  have b6 := st w5 (.cells #[z2] t5)
  have c5 := b6
  have c4 := b5.trans (b6.mono b5.size)
  have c3 := b4.trans (c4.mono b4.size)
  have c2 := b3.trans (c3.mono b3.size)
  have c1 := b2.trans (c2.mono b2.size)
  refine ⟨_, rfl, a0.below c1, ?_, ?_, ?_, ?_, ?_, b1.trans (c1.mono b1.size), by rw [World.size_alloc, s5]⟩
  · rw [← s1]; exact a1.below c2
  · rw [← s2]; exact a2.below c3
  · rw [← s3]; exact a3.below c4
  · rw [← s4]; exact a4.below c5
  · rw [← s5]; exact a5
theorem la_ok {h : Hp} {g f : Int} (hF : formB h = true) (hw : h.wf) (p0 : 0 ≤ g) (p1 : g < h.m) : laB h g f = (takeB (spH h g).st (spH h g).fr && hmayB true h.b (spH h g).cl f) := by
  unfold laB
  rw [inI_yes p0 p1, Bool.true_and]
  cases ht : takeB (spH h g).st (spH h g).fr with
  | false => simp
  | true =>
    obtain ⟨-, c0, c1, -⟩ := take_spec (form_at hF p0 p1) (wf_mask hw p0 p1) ht
    rw [may_is c0 c1, Bool.and_true, Bool.true_and]
theorem la_facts {h : Hp} {g f : Int} (hF : formB h = true) (hwf : h.wf) (p0 : 0 ≤ g) (e : laB h g f = true) :
    0 ≤ laA h g f ∧ laA h g f + szW (spH h g).cl ≤ h.n ∧ hmayB true h.b (spH h g).cl f = true ∧ adW g (spH h g).cl (leastW (spH h g).fr) = laA h g f ∧ 0 < szW (spH h g).cl ∧
      laH h g f = { withS h g ⟨(spH h g).st, (spH h g).cl, woutW (spH h g).fr (leastW (spH h g).fr)⟩ with z := putZ (zerZ h.z (laA h g f) (szW (spH h g).cl)) (laA h g f) (hputW true h.b (spH h g).cl f) } := by
  obtain ⟨a0, a1, a2, a3⟩ := la_at hF hwf e
  obtain ⟨-, -, p2, f0, f1, -, -, -, -, l0, l1⟩ := la_spec hF hwf e
  obtain ⟨b0, b1⟩ := ad_in (c := (spH h g).cl) p0 p2 l0 l1
  exact ⟨a0, a1, a3, by rw [b1, a2], by omega, by rw [a2]; unfold laH; rw [if_pos e]⟩
end Go.Proofs.YtonjnedlnfdanaaDoor
/-! Contracts of the code's heap.New (chapter 7), and of all of heap.* over a heap's three cells as they stand in a walk. -/
namespace Go.Proofs.YtonjnedlnfdanaaDoor
set_option linter.unusedSimpArgs false
set_option linter.unusedVariables false
open Go.ChangeShapes Go.WideShapes Go.ChangeAt Go.RowKit Go.Joins

section
variable {p : Option Addr} {n c : Nat} {q : Option Addr} {m d : Nat} {b : Bool} {h : Hp} {w : World}
end
end Go.Proofs.YtonjnedlnfdanaaDoor
