/- Contracts of span.*, of right spans (span.Right and span.New of any). -/
import Derived.Test.YtmbgodncagjncaaDoorB04
import Derived.Test.YtmbgodncagjncaaDoorB05
import Derived.Test.YtmbgodncagjncaaDoorB17
import Derived.Test.YtmbgodncagjncaaDoorB12
import Derived.Shelf.Abstract
import Derived.Lib.SliceRun
namespace Go.Proofs.YtmbgodncagjncaaDoor
set_option linter.unusedSimpArgs false
set_option linter.unusedVariables false
open Go.ChangeShapes Go.WideShapes Go.ChangeAt Go.RowKit

end Go.Proofs.YtmbgodncagjncaaDoor
namespace Go.Proofs.YtmbgodncagjncaaDoor
set_option linter.unusedSimpArgs false
set_option linter.unusedVariables false
open Go.ChangeShapes Go.WideShapes Go.ChangeAt Go.RowKit Go.Joins

set_option maxHeartbeats 1000000 in
theorem hfind_any (p : Option Addr) (c : Nat) (q : Option Addr) (d : Nat) (h : Hp) (a : Int) (w : World) (hS : Sz w) (hh : HpAt w p c q d h) (hF : formB h = true) :
    Calls Tryd.prog 84 #[.agg #[.slice p h.n c, .slice q h.m d, .bool h.b], .int .i64 a] w fun e w' => e = .returned (.tuple #[.int .i64 (fiP h a), .int .i64 (fiI h a), .bool (fiB h a)]) ∧ Below w.heap.size w w' := by
  have hm16 := (form_iff.1 hF).2.1
  by_cases hr : 0 ≤ a ∧ a < 32 * h.m
  · obtain ⟨a0, a1⟩ := hr
    have eB : fiB h a = (!((spH h (a / 32)).st == 0) && plB (spH h (a / 32)).cl a) := by unfold fiB; rw [inI_yes a0 (by omega), Bool.true_and]
    have eP : fiB h a = true → fiP h a = a / 32 := fun e => by unfold fiP; rw [if_pos e]
    have eI : fiB h a = true → fiI h a = plI (spH h (a / 32)).cl a := fun e => by unfold fiI; rw [if_pos e]
    have eN := fi_no (h := h) (a := a)
    have hp0 : 0 ≤ a / 32 := by omega
    have hp1 : a / 32 < h.m := by omega
    rw [show spH h (a / 32) = h.s (a / 32).toNat from rfl] at *
    obtain ⟨⟨b, off, rfl, hlt, s0, s1, s2⟩, hw⟩ := hh.spans (a / 32).toNat (by omega)
    generalize h.s (a / 32).toNat = S at *
    obtain ⟨st, cl, fr⟩ := S
    simp only [] at *
    clear hF hh hw
    by_cases hst : st = 0
    · have d0 : (st == 0) = true := by simp [hst]
      rw [d0] at eB
      obtain ⟨e1, e2, e3⟩ := eN (by simp [eB])
      rw [e1, e2, e3]
      clear eB eP eI eN e1 e2 e3 hst
      go_enter Tryd.func84, Tryd.ntmps84
      go_wp2
      go_returns
      exact ⟨rfl, by go_grown⟩
    · have d0 : (st == 0) = false := by simp [hst]
      rw [d0] at eB
      simp only [Bool.not_false, Bool.true_and] at eB
      have eP' : fiP h a = plP cl a := by unfold fiP plP; rw [eB]
      have eI' : fiI h a = plI cl a := by
        cases e : plB cl a with
        | true => exact eI (by rw [eB, e])
        | false => rw [(eN (by simp [eB, e])).2.2]; exact (pl_no (by simp [e])).2.2.symm
      rw [eB, eP', eI']
      clear eB eP eI eN eP' eI' hst
      go_enter Tryd.func84, Tryd.ntmps84
      go_wp2_with (first
    | (go_at_call 86; refine Calls.mono (aplace_any _ _ _ (hS.below (by go_grown))) ?_; rintro e w' ⟨rfl, hb⟩; obtain ⟨hc, hf, hb, hz⟩ := bstep hb (w := w) (by go_grown); try simp only [World.size_alloc, World.size_setCell, World.size_drew] at hc hf hz)
      )
      go_returns
      exact ⟨rfl, by go_grown⟩
  · have e : fiB h a = false := by unfold fiB; rw [inI_no (by omega)]; rfl
    obtain ⟨e1, e2, e3⟩ := fi_no (h := h) (a := a) (by simp [e])
    rw [e1, e2, e3]
    clear e e1 e2 e3 hF
    by_cases ha : 0 ≤ a
    · go_enter Tryd.func84, Tryd.ntmps84
      go_wp2
      go_returns
      exact ⟨rfl, by go_grown⟩
    · go_enter Tryd.func84, Tryd.ntmps84
      go_wp2
      go_returns
      exact ⟨rfl, by go_grown⟩
end Go.Proofs.YtmbgodncagjncaaDoor
/-! Contracts of the code's heap.changeSpan, of whatever closure, and of Open and Close (chapter 7). -/
namespace Go.Proofs.YtmbgodncagjncaaDoor
set_option linter.unusedSimpArgs false
set_option linter.unusedVariables false
open Go.ChangeShapes Go.WideShapes Go.ChangeAt Go.RowKit Go.Joins

/-- What changeSpan leaves: W1 where the closure is called, W2 behind it. -/
structure Changed (w : World) (h : Hp) (g : Int) (x : Sp) (ok : Bool) (T : Nat → Prop) (R : World → World → Prop) (p : Option Addr) (c : Nat) (q : Option Addr) (d : Nat) (p' : Option Addr) (c' : Nat) (q' : Option Addr) (d' : Nat) (w' : World) : Prop where
  new : ok = true → HpOwn w' w.heap.size p' c' q' d' (withS h g x)
  old : ok = false → p' = p ∧ c' = c ∧ q' = q ∧ d' = d
  way : ∃ W1 W2, Below w.heap.size w W1 ∧ Aside T W1 W2 ∧ R W1 W2 ∧ Below w.heap.size W2 w'
end Go.Proofs.YtmbgodncagjncaaDoor
/-! Contracts of the code's heap.Open and heap.Close (chapter 7). -/
namespace Go.Proofs.YtmbgodncagjncaaDoor
set_option linter.unusedSimpArgs false
set_option linter.unusedVariables false
open Go.ChangeShapes Go.WideShapes Go.ChangeAt Go.RowKit Go.Joins

end Go.Proofs.YtmbgodncagjncaaDoor
/-! Contracts of the code's heap.block and heap.Free (chapter 7). -/
namespace Go.Proofs.YtmbgodncagjncaaDoor
set_option linter.unusedSimpArgs false
set_option linter.unusedVariables false
open Go.ChangeShapes Go.WideShapes Go.ChangeAt Go.RowKit Go.Joins

theorem HpOwn.cap {W : World} {base : Nat} {p : Option Addr} {c : Nat} {q : Option Addr} {d : Nat} {h : Hp} (o : HpOwn W base p c q d h) (h0 : 0 < h.n) : h.n ≤ c ∧ c ≤ maxLen := by
  rcases o.words.2 with ⟨-, h1⟩ | ⟨g, cap', cur, hv, -, -, h1, h2, -⟩
  · omega
  · injection hv with _ _ e; subst e; exact ⟨h1, h2⟩
/-- What a change leaves, said without the closure's worlds. -/
theorem Changed.plain {w w' : World} {h : Hp} {g : Int} {x : Sp} {ok : Bool} {R : World → World → Prop} {p : Option Addr} {c : Nat} {q : Option Addr} {d : Nat} {p' : Option Addr} {c' : Nat} {q' : Option Addr} {d' : Nat} (hc : Changed w h g x ok (fun _ => False) R p c q d p' c' q' d' w') : Below w.heap.size w w' := by
  obtain ⟨W1, W2, hb1, hA, -, hb2⟩ := hc.way
  exact (hb1.trans (hA.pure.mono hb1.size)).trans hb2
end Go.Proofs.YtmbgodncagjncaaDoor
/-! Contracts of the code's heap.Lay (chapter 7). -/
namespace Go.Proofs.YtmbgodncagjncaaDoor
set_option linter.unusedSimpArgs false
set_option linter.unusedVariables false
open Go.ChangeShapes Go.WideShapes Go.ChangeAt Go.RowKit Go.Joins

theorem may_is {c : Bool} {k f : Int} (k0 : 0 ≤ k) (k1 : k < 4) : hmayB true c k f = (decide (0 ≤ f) && decide (f < szW k)) := by
  by_cases h : 0 ≤ f ∧ f < szW k
  · rw [may_of k0 k1 h.1 h.2, decide_eq_true h.1, decide_eq_true h.2]; rfl
  · have : hmayB true c k f = false := by
      cases e : hmayB true c k f with
      | false => rfl
      | true =>
        exfalso
        have h3 := hmay_cases e
        rcases cl_cases k with ⟨h0, h1, -⟩ | ⟨h0, h1, -⟩ | ⟨h0, h1, -⟩ | ⟨h0, h1, -⟩ | ⟨h0, -⟩
        all_goals (try rw [h1] at h); omega
    rw [this]
    symm
    simp only [Bool.and_eq_false_iff, decide_eq_false_iff_not]
    omega
theorem Aside.trans' {T : Nat → Prop} {a b c : World} (h : Aside T a b) (k : Below a.heap.size b c) : Aside T a c :=
  ⟨k.os.trans h.os, k.tape.trans h.tape, k.output.trans h.output, Nat.le_trans h.size k.size, fun i hi ht => (k.block i hi).trans (h.block i hi ht)⟩
theorem Changed.aside {w w' : World} {h : Hp} {g : Int} {x : Sp} {ok : Bool} {T : Nat → Prop} {R : World → World → Prop} {p : Option Addr} {c : Nat} {q : Option Addr} {d : Nat} {p' : Option Addr} {c' : Nat} {q' : Option Addr} {d' : Nat} (hc : Changed w h g x ok T R p c q d p' c' q' d' w') : Aside T w w' := by
  obtain ⟨W1, W2, hb1, hA, -, hb2⟩ := hc.way
  exact ((Aside.of hb1).trans hA).trans' hb2
end Go.Proofs.YtmbgodncagjncaaDoor
/-! Contracts of the code's heap.New (chapter 7), and of all of heap.* over a heap's three cells as they stand in a walk. -/
namespace Go.Proofs.YtmbgodncagjncaaDoor
set_option linter.unusedSimpArgs false
set_option linter.unusedVariables false
open Go.ChangeShapes Go.WideShapes Go.ChangeAt Go.RowKit Go.Joins

section
variable {p : Option Addr} {n c : Nat} {q : Option Addr} {m d : Nat} {b : Bool} {h : Hp} {w : World}
end
end Go.Proofs.YtmbgodncagjncaaDoor
