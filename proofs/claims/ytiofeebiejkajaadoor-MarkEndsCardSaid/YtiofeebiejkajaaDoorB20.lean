/- Soundness as data: what chapter 9 says of a heap, plain definitions. -/
import Derived.Test.YtiofeebiejkajaaDoorB18
import Derived.Test.YtiofeebiejkajaaDoorB19
import Derived.Test.YtiofeebiejkajaaDoorB14
namespace Go.Proofs.YtiofeebiejkajaaDoor
set_option linter.unusedSimpArgs false
set_option linter.unusedVariables false
open Go.ChangeShapes Go.WideShapes Go.ChangeAt Go.RowKit

/-- Are so many words from an address on 0? -/
def noB (h : Hp) (a : Int) (n : Nat) : Bool := (List.range n).all fun i => woH h (a + i) == 0
/-- Where a block begins. -/
def bkA (h : Hp) (p : Nat) (i : Int) : Int := 32 * p + i * szW (h.s p).cl
def bk2 (h : Hp) (p : Nat) (i : Int) : Bool := if hasB (h.s p).fr i = true then noB h (bkA h p i) (szW (h.s p).cl).toNat else obB h (bkA h p i) && (obK h (bkA h p i) == (h.s p).cl)
def bk3 (h : Hp) (p : Nat) (i : Int) : Bool := if hasB (h.s p).fr i = true then true else noB h (bkA h p i + 1 + obN h (bkA h p i)) (szW (h.s p).cl - 1 - obN h (bkA h p i)).toNat
def pg2 (h : Hp) (p : Nat) : Bool := if (h.s p).st = 0 then noB h (32 * p) 32 else (List.range (blW (h.s p).cl).toNat).all fun i => bk2 h p i
def pg3 (h : Hp) (p : Nat) : Bool := if (h.s p).st = 0 then true else (List.range (blW (h.s p).cl).toNat).all fun i => bk3 h p i
/-! What Made makes is sound. -/
theorem spH_nat (h : Hp) (p : Nat) : spH h (p : Int) = h.s p := by unfold spH; rw [Int.toNat_natCast]
theorem may_class {c : Bool} {k f : Int} (h : hmayB true c k f = true) : 0 ≤ k ∧ k < 4 ∧ 0 ≤ f ∧ f < szW k := by
  have hk : 0 ≤ k ∧ k < 4 := by
    simp [hmayB] at h
    omega
  rw [may_is hk.1 hk.2] at h
  simp at h
  exact ⟨hk.1, hk.2, h.1, h.2⟩
/-! What a sound heap is like. -/
theorem wo_put {h : Hp} {p x b : Int} (b0 : 0 ≤ b) (hne : ¬ b = p) : woH (putH h p x) b = woH h b := by
  show putZ h.z p x b.toNat = h.z b.toNat
  unfold putZ; rw [if_neg (by omega)]
theorem wo_same {h : Hp} {p x : Int} (p0 : 0 ≤ p) : woH (putH h p x) p = x := by
  show putZ h.z p x p.toNat = x
  unfold putZ; rw [if_pos (by omega)]
/-! What leaves a heap sound. -/
theorem obL_congr {h g : Hp} (hob : ∀ b, obB g b = obB h b) : ∀ k, obL g k = obL h k
  | 0 => rfl
  | k + 1 => by
    have ih := obL_congr hob k
    unfold obL
    rw [hob, ih]
theorem rfL_mem {h : Hp} {a r : Int} : ∀ k : Nat, r ∈ rfL h a k ↔ ∃ j : Nat, j < k ∧ getK (woH h (a + 1 + j)) = 2 ∧ r = getN (woH h (a + 1 + j))
  | 0 => by simp [rfL]
  | k + 1 => by
    have ih := rfL_mem (h := h) (a := a) (r := r) k
    by_cases e : getK (woH h (a + 1 + k)) = 2
    · rw [rfL_yes e, List.mem_append, ih]
      constructor
      · rintro (⟨j, j0, j1, j2⟩ | hr)
        · exact ⟨j, by omega, j1, j2⟩
        · exact ⟨k, by omega, e, by simpa using hr⟩
      · rintro ⟨j, j0, j1, j2⟩
        by_cases ej : j = k
        · subst ej; exact .inr (by simpa using j2)
        · exact .inl ⟨j, by omega, j1, j2⟩
    · rw [rfL_no e, ih]
      constructor
      · rintro ⟨j, j0, j1, j2⟩; exact ⟨j, by omega, j1, j2⟩
      · rintro ⟨j, j0, j1, j2⟩
        by_cases ej : j = k
        · subst ej; exact absurd j1 e
        · exact ⟨j, by omega, j1, j2⟩
theorem rfH_mem {h : Hp} {a r : Int} : r ∈ rfH h a ↔ ∃ j : Nat, (j : Int) < obN h a ∧ getK (woH h (a + 1 + j)) = 2 ∧ r = getN (woH h (a + 1 + j)) := by
  unfold rfH
  rw [rfL_mem]
  constructor
  · rintro ⟨j, j0, j1⟩; exact ⟨j, by omega, j1⟩
  · rintro ⟨j, j0, j1⟩; exact ⟨j, by omega, j1⟩
end Go.Proofs.YtiofeebiejkajaaDoor
namespace Go.Proofs.YtiofeebiejkajaaDoor
set_option linter.unusedSimpArgs false
set_option linter.unusedVariables false
open Go.ChangeShapes Go.WideShapes Go.ChangeAt Go.RowKit

/-- Each waits for earlier ones alone; a guard is among them. -/
def depsGB (ops : Array Oper) : Bool := (List.range ops.size).all fun i => match ops[i]? with | some o => (match o.guard with | none => true | some (g, _) => o.after.any fun e => Region.binds .any e && e.on == g) && o.after.all fun e => !Region.binds .any e || decide (e.on < i) | none => false
section
variable {P : Program} {l : List Oper} {Q : Exit → Act → World → Prop} {a : Act} {ds : List (Option Nat)} {Φ : Nat → Value → Prop} {skip : Nat → Bool} {W : World}
end
end Go.Proofs.YtiofeebiejkajaaDoor
