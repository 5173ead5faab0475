/- Contracts of the code's roots (chapter 14). -/
import Derived.Test.YtonjnedlnfdanaaDoorAppRow
import Derived.Test.YtonjnedlnfdanaaDoorRef14
import Derived.Test.YtonjnedlnfdanaaDoorConcatV
import Derived.Lib.AppendZerosOnto
import Derived.Laws.AppendOwnNone
namespace Go.Proofs.YtonjnedlnfdanaaDoor
set_option linter.unusedSimpArgs false
set_option linter.unusedVariables false
open Go.ChangeShapes Go.WideShapes Go.ChangeAt Go.RowKit Go.Joins


set_option maxHeartbeats 1000000 in
theorem vslot_any (p : Option Addr) (n c : Nat) (z : Nat → Vl) (i : Int) (w : World) (hz : VAt w p c n z) :
    Calls Tryd.prog 33 #[.slice p n c, .int .i64 i] w fun e w' => e = .returned (.tuple #[(vsX n z i).agg, .int .i64 (vsE n i)]) ∧ Below w.heap.size w w' := by
  have hn := hz.nle
  simp only [maxLen] at hn
  by_cases h0 : 0 ≤ i
  · by_cases h1 : i < n
    · have eX : vsX n z i = z i.toNat := by unfold vsX; rw [if_pos ⟨h0, h1⟩]
      have eE : vsE n i = 0 := by unfold vsE; rw [if_pos ⟨h0, h1⟩]
      rw [eX, eE]
      clear eX eE
      obtain ⟨⟨b, off, rfl, hlt, v0, v1⟩, -⟩ := hz.row i.toNat (by omega)
      unfold Vl.agg
      generalize z i.toNat = X at *
      obtain ⟨X0, X1⟩ := X
      dsimp only at *
      go_enter Tryd.func33, Tryd.ntmps33
      go_wp2
      refine bodyPost_ret (by simp [results, Tryd.results33, go_sem, *]; try rfl) rfl ?_
      exact ⟨rfl, by go_grown⟩
    · have eX : vsX n z i = ⟨0, 0⟩ := by unfold vsX; rw [if_neg (by omega)]
      have eE : vsE n i = 3 := by unfold vsE; rw [if_neg (by omega)]
      rw [eX, eE]
      clear eX eE
      unfold Vl.agg
      go_enter Tryd.func33, Tryd.ntmps33
      go_wp2
      refine bodyPost_ret (by simp [results, Tryd.results33, go_sem, *]; try rfl) rfl ?_
      exact ⟨rfl, by go_grown⟩
  · have eX : vsX n z i = ⟨0, 0⟩ := by unfold vsX; rw [if_neg (by omega)]
    have eE : vsE n i = 3 := by unfold vsE; rw [if_neg (by omega)]
    rw [eX, eE]
    clear eX eE
    unfold Vl.agg
    go_enter Tryd.func33, Tryd.ntmps33
    go_wp2
    refine bodyPost_ret (by simp [results, Tryd.results33, go_sem, *]; try rfl) rfl ?_
    exact ⟨rfl, by go_grown⟩
/-- The address that a value tells of; the error. -/
def vaE (k : Int) : Int := if k = 2 then 0 else if k = 0 then 2 else 7
def vaX (k x : Int) : Int := if k = 2 then x else 0
theorem vaddr_any (k x : Int) (w : World) :
    Calls Tryd.prog 38 #[.agg #[.int .i64 k, .int .i64 x]] w fun e w' => e = .returned (.tuple #[.int .i64 (vaX k x), .int .i64 (vaE k)]) ∧ Below w.heap.size w w' := by
  by_cases k2 : k = 2
  · subst k2
    go_enter Tryd.func38, Tryd.ntmps38
    go_wp2
    go_returns
    exact ⟨rfl, by go_grown⟩
  · have eX : vaX k x = 0 := by unfold vaX; rw [if_neg k2]
    rw [eX]
    by_cases k0 : k = 0
    · subst k0
      go_enter Tryd.func38, Tryd.ntmps38
      go_wp2
      go_returns
      exact ⟨rfl, by go_grown⟩
    · have eE : vaE k = 7 := by unfold vaE; rw [if_neg k2, if_neg k0]
      rw [eE]
      clear eX eE
      go_enter Tryd.func38, Tryd.ntmps38
      go_wp2
      go_returns
      exact ⟨rfl, by go_grown⟩
set_option maxHeartbeats 1000000 in
theorem vobj_any (p : Option Addr) (n c : Nat) (z : Nat → Vl) (i : Int) (w : World) (hz : VAt w p c n z) :
    Calls Tryd.prog 31 #[.slice p n c, .int .i64 i] w fun e w' => e = .returned (.tuple #[.int .i64 (voX n z i), .int .i64 (voE n z i)]) ∧ Below w.heap.size w w' := by
  have hS := fun W (hW : Below w.heap.size w W) => vslot_any p n c z i W (hz.below hW)
  by_cases h0 : 0 ≤ i ∧ i < n
  · have eS : vsX n z i = z i.toNat := by unfold vsX; rw [if_pos h0]
    have eT : vsE n i = 0 := by unfold vsE; rw [if_pos h0]
    have eE : voE n z i = vaE (z i.toNat).k := by
      unfold voE vaE
      rw [if_pos h0]
      by_cases k2 : (z i.toNat).k = 2
      · rw [if_neg (by omega), if_pos k2, if_pos k2]
      · by_cases k0 : (z i.toNat).k = 0
        · rw [if_pos k0, if_neg k2, if_pos k0]
        · rw [if_neg k0, if_neg k2, if_neg k2, if_neg k0]
    have eX : voX n z i = vaX (z i.toNat).k (z i.toNat).n := by
      unfold voX vaX
      rw [eE]
      unfold vaE
      by_cases k2 : (z i.toNat).k = 2
      · rw [if_pos k2, if_pos rfl, if_pos k2]
      · rw [if_neg k2, if_neg k2]
        by_cases k0 : (z i.toNat).k = 0
        · rw [if_pos k0, if_neg (by decide)]
        · rw [if_neg k0, if_neg (by decide)]
    rw [eE, eX]
    simp only [eS, eT, Vl.agg] at hS
    clear eS eT eE eX
    generalize z i.toNat = X at *
    obtain ⟨X0, X1⟩ := X
    dsimp only at *
    go_enter Tryd.func31, Tryd.ntmps31
    go_wp2_with (first
    | (go_at_call 33; refine Calls.mono (hS _ (by go_grown)) ?_; rintro e w' ⟨rfl, hb⟩; obtain ⟨hc, hf, hb, hz⟩ := bstep hb (w := w) (by go_grown); try simp only [World.size_alloc, World.size_setCell, World.size_drew] at hc hf hz)
    | (go_at_call 38; refine Calls.mono (vaddr_any X0 X1 _) ?_; rintro e w' ⟨rfl, hb⟩; obtain ⟨hc, hf, hb, hz⟩ := bstep hb (w := w) (by go_grown); try simp only [World.size_alloc, World.size_setCell, World.size_drew] at hc hf hz)
    )
    go_returns
    exact ⟨rfl, by go_grown⟩
  · have eE : voE n z i = 3 := by unfold voE; rw [if_neg h0]
    have eS : vsX n z i = ⟨0, 0⟩ := by unfold vsX; rw [if_neg h0]
    have eT : vsE n i = 3 := by unfold vsE; rw [if_neg h0]
    have eX : voX n z i = 0 := by unfold voX; rw [eE, if_neg (by decide)]
    rw [eE, eX]
    simp only [eS, eT, Vl.agg] at hS
    clear eS eT eE eX
    go_enter Tryd.func31, Tryd.ntmps31
    go_wp2_with (first
    | (go_at_call 33; refine Calls.mono (hS _ (by go_grown)) ?_; rintro e w' ⟨rfl, hb⟩; obtain ⟨hc, hf, hb, hz⟩ := bstep hb (w := w) (by go_grown); try simp only [World.size_alloc, World.size_setCell, World.size_drew] at hc hf hz)
    )
    go_returns
    exact ⟨rfl, by go_grown⟩
end Go.Proofs.YtonjnedlnfdanaaDoor
