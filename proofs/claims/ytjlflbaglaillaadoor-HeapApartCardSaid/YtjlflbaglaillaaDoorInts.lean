/- Slices of integers that come in: what a walk reads of them. -/
import Derived.Test.YtjlflbaglaillaaDoorLaw
import Derived.ChangeSlices
namespace Go.Proofs.YtjlflbaglaillaaDoor
set_option linter.unusedSimpArgs false
set_option linter.unusedVariables false
open Go.ChangeShapes Go.WideShapes Go.ChangeAt Go.RowKit Go.Joins

/-- A slice's n integers of kind k: z i each. -/
def Ints (k : IntKind) (W : World) (p : Option Addr) (n : Nat) (z : Nat → Int) : Prop :=
  ∀ i, i < n → (∃ b off, p = some ⟨b, off, none⟩ ∧ b < W.heap.size ∧ W.cell? ⟨b, off + i, none⟩ = some (.int k (z i))) ∧ (Lit.int k (z i)).wf = true
theorem Ints.below {k : IntKind} {W W' : World} {p : Option Addr} {n : Nat} {z : Nat → Int} (h : Ints k W p n z) (hb : Below W.heap.size W W') : Ints k W' p n z := fun i hi => by
  obtain ⟨⟨b, off, e, hlt, hc⟩, hw⟩ := h i hi
  exact ⟨⟨b, off, e, Nat.lt_of_lt_of_le hlt hb.size, by rw [hb.cell (p := ⟨b, off + i, none⟩) hlt]; exact hc⟩, hw⟩
theorem wf_u8 {a : Int} (h : (Lit.int .u8 a).wf = true) : 0 ≤ a ∧ a < 256 := by
  simp [Lit.wf, IntKind.min, IntKind.max, IntKind.signed, IntKind.bits] at h; omega

section
variable {H : Type} {enc : TypeId × Value → H} {P : Program} {W : World} {base : Nat}
theorem open_slice_ints {t e : TypeId} {k : IntKind} {v : Value} {d : DataW H} {ps : List MemPlace} (ht : P.underlying t = some (.slice e)) (he : P.underlying e = some (.int k)) (hc : P.cellsOf e = 1)
    (hok : Value.okWide P W .any base t v) (h : DataW.Trod enc P W 0 (fun _ => true) true t v d ps) :
    ∃ (p : Option Addr) (n cap : Nat) (z : Nat → Int), v = .slice p n cap ∧ n ≤ maxLen ∧ Ints k W p n z ∧ (p = none → n = 0 ∧ cap = 0) := by
  obtain ⟨p, n, cap, rfl⟩ := okWide_slice ht hok
  obtain ⟨fuel, hf⟩ := h
  rcases open_ints ht he hc hf with ⟨hcs, -⟩ | ⟨a, len, cap', zs, hcs, -, hl, hm, hz, -, hcell, hwz⟩
  · simp [Value.cells] at hcs
    obtain ⟨rfl, rfl, rfl⟩ := hcs
    exact ⟨none, 0, 0, fun _ => 0, rfl, by decide, fun i hi => by omega, fun _ => ⟨rfl, rfl⟩⟩
  · simp [Value.cells] at hcs
    obtain ⟨rfl, rfl, rfl⟩ := hcs
    simp only [if_true] at hz
    refine ⟨some a, n, cap, fun i => zs.getD i 0, rfl, by omega, fun i hi => ?_, fun h => by cases h⟩
    have h0 := hcell 0 (by omega)
    have hi' := hcell i (by omega)
    obtain ⟨b, off, sp⟩ := a
    have hsp : sp = none := by
      cases sp with
      | none => rfl
      | some s =>
        have e : (⟨b, off, some s⟩ : Addr).add 0 = ⟨b, off, some s⟩ := rfl
        rw [e] at h0
        unfold World.cell? at h0
        split at h0 <;> simp at h0
    subst hsp
    have e : ∀ j, (⟨b, off, none⟩ : Addr).add j = ⟨b, off + j, none⟩ := fun j => by unfold Addr.add; split <;> simp_all
    rw [e] at hi'
    exact ⟨⟨b, off, rfl, World.block_lt_of_cell? W _ hi', hi'⟩, hwz _ (by
      have hlt : i < zs.length := by omega
      show zs.getD i 0 ∈ zs
      simp [List.getD, hlt])⟩
theorem open_u8 {t : TypeId} {v : Value} {d : DataW H} {p : List MemPlace} (hu : P.underlying t = some (.int .u8))
    (hok : Value.okWide P W .any base t v) (h : DataW.Trod enc P W 0 (fun _ => true) true t v d p) : ∃ a : Int, v = .int .u8 a ∧ 0 ≤ a ∧ a < 256 := by
  obtain ⟨a, rfl, -, -, wa⟩ := open_int hu hok h
  exact ⟨a, rfl, wf_u8 wa⟩
theorem open_u16 {t : TypeId} {v : Value} {d : DataW H} {p : List MemPlace} (hu : P.underlying t = some (.int .u16))
    (hok : Value.okWide P W .any base t v) (h : DataW.Trod enc P W 0 (fun _ => true) true t v d p) : ∃ a : Int, v = .int .u16 a ∧ 0 ≤ a ∧ a < 65536 := by
  obtain ⟨a, rfl, -, -, wa⟩ := open_int hu hok h
  exact ⟨a, rfl, by simp [Lit.wf, IntKind.min, IntKind.max, IntKind.signed, IntKind.bits] at wa; omega⟩
end
end Go.Proofs.YtjlflbaglaillaaDoor
