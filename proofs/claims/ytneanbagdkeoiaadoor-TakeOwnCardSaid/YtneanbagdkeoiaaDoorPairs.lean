/- Slices of pairs of numbers that come in (layer 11's turns). -/
import Derived.Test.YtneanbagdkeoiaaDoorSpans
namespace Go.Proofs.YtneanbagdkeoiaaDoor
set_option linter.unusedSimpArgs false
set_option linter.unusedVariables false
open Go.ChangeShapes Go.WideShapes Go.ChangeAt Go.RowKit Go.Joins

structure Pr where
  t : Int
  x : Int
instance : Inhabited Pr := ⟨⟨0, 0⟩⟩
def Pairs (W : World) (p : Option Addr) (n : Nat) (s : Nat → Pr) : Prop :=
  ∀ i, i < n → (∃ b off, p = some ⟨b, off, none⟩ ∧ b < W.heap.size ∧ W.cell? ⟨b, off + i * 2, none⟩ = some (.int .i64 (s i).t) ∧ W.cell? ⟨b, off + i * 2 + 1, none⟩ = some (.int .i64 (s i).x)) ∧ (Lit.int .i64 (s i).t).wf = true ∧ (Lit.int .i64 (s i).x).wf = true
theorem Pairs.below {W W' : World} {p : Option Addr} {n : Nat} {s : Nat → Pr} (h : Pairs W p n s) (hb : Below W.heap.size W W') : Pairs W' p n s := fun i hi => by
  obtain ⟨⟨b, off, e, hlt, h0, h1⟩, hw⟩ := h i hi
  exact ⟨⟨b, off, e, Nat.lt_of_lt_of_le hlt hb.size, by rw [hb.cell (p := ⟨b, _, none⟩) hlt]; exact h0, by rw [hb.cell (p := ⟨b, _, none⟩) hlt]; exact h1⟩, hw⟩
section
variable {H : Type} {enc : TypeId × Value → H} {P : Program} {W : World} {base : Nat}
theorem trod_slice_pairs {t e : TypeId} {f0 f1 : Field} {fuel : Nat} {v : Value} {y : DataW H × List MemPlace} (ht : P.underlying t = some (.slice e)) (he : P.underlying e = some (.struct #[f0, f1])) (hc : P.cellsOf e = 2)
    (hone : Go.Deep.oneCellFields P #[f0, f1] = true) (hu0 : P.underlying f0.type = some (.int .i64)) (hu1 : P.underlying f1.type = some (.int .i64))
    (hf : DataW.trod enc P W 0 (fun _ => true) true fuel t [v] = some y) :
    ∃ (p : Option Addr) (n cap : Nat) (s : Nat → Pr), v = .slice p n cap ∧ n ≤ maxLen ∧ Pairs W p n s ∧ (p = none → n = 0 ∧ cap = 0) := by
  rcases Go.Deep.open_slice ht hf with ⟨hcs, -⟩ | ⟨a, len, cap, m, nf, D, Pl, hcs, -, hl, hm, hmm, -, hx⟩
  · simp at hcs
    subst hcs
    exact ⟨none, 0, 0, fun _ => ⟨0, 0⟩, rfl, by decide, fun i hi => by omega, fun _ => ⟨rfl, rfl⟩⟩
  · simp at hcs
    subst hcs
    simp only [if_true] at hmm
    rw [hc] at hx
    have each : ∀ i, i < len → ∃ q : Pr, ((Lit.int .i64 q.t).wf = true ∧ (Lit.int .i64 q.x).wf = true) ∧ W.cell? (a.add (i * 2)) = some (.int .i64 q.t) ∧ W.cell? (a.add (i * 2 + 1)) = some (.int .i64 q.x) := by
      intro i hi
      obtain ⟨cs', h1, h2⟩ := hx i (by omega)
      obtain ⟨-, hlen, hcell⟩ := World.cells?_some h1
      obtain ⟨xs, k, -, -, -, hxl, hfl⟩ := DataW.trod_struct he h2
      match xs, hxl, cs', hlen with
      | [y0, y1], _, [v0, v1], _ =>
        have g0 := hfl 0 f0 rfl
        have g1 := hfl 1 f1 rfl
        obtain ⟨o0, k0⟩ := Go.Deep.hone_of hone 0 f0 rfl
        obtain ⟨o1, k1⟩ := Go.Deep.hone_of hone 1 f1 rfl
        simp [o0, k0] at g0
        simp [o1, k1] at g1
        obtain ⟨a0, e', -, wa⟩ := DataW.trod_int hu0 g0
        simp at e'
        subst e'
        obtain ⟨b0, e, -, wb⟩ := DataW.trod_int hu1 g1
        simp at e
        subst e
        have e0 := hcell 0 (by omega)
        have e1 := hcell 1 (by omega)
        rw [Go.Deep.add_add] at e0 e1
        exact ⟨⟨a0, b0⟩, ⟨wa, wb⟩, by simpa using e0, by simpa using e1⟩
    obtain ⟨q, hq⟩ := Go.Deep.choose_lt (α := Pr) (h := each)
    refine ⟨some a, len, cap, q, rfl, by omega, fun i hi => ?_, fun h => by cases h⟩
    obtain ⟨hw, h0, h1⟩ := hq i hi
    obtain ⟨b, off, sp⟩ := a
    have hz := (hq 0 (by omega)).2.1
    rw [Nat.zero_mul, add_zero_self] at hz
    obtain rfl := no_spot hz
    rw [add_off] at h0 h1
    exact ⟨⟨b, off, rfl, World.block_lt_of_cell? W _ h0, h0, by rw [← Nat.add_assoc] at h1; exact h1⟩, hw⟩
theorem open_pairs {t e : TypeId} {f0 f1 : Field} {v : Value} {d : DataW H} {p : List MemPlace} (ht : P.underlying t = some (.slice e)) (he : P.underlying e = some (.struct #[f0, f1])) (hc : P.cellsOf e = 2)
    (hone : Go.Deep.oneCellFields P #[f0, f1] = true) (hu0 : P.underlying f0.type = some (.int .i64)) (hu1 : P.underlying f1.type = some (.int .i64))
    (hok : Value.okWide P W .any base t v) (h : DataW.Trod enc P W 0 (fun _ => true) true t v d p) : ∃ (p : Option Addr) (n cap : Nat) (s : Nat → Pr), v = .slice p n cap ∧ n ≤ maxLen ∧ Pairs W p n s ∧ (p = none → n = 0 ∧ cap = 0) := by
  obtain ⟨p, n, cap, rfl⟩ := okWide_slice ht hok
  obtain ⟨fuel, hf⟩ := h
  exact trod_slice_pairs ht he hc hone hu0 hu1 (by simpa [Value.cells] using hf)
end
end Go.Proofs.YtneanbagdkeoiaaDoor
