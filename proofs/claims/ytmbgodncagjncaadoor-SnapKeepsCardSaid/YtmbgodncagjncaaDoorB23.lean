/- Mutators (chapter 18), as data: what comes in, what registers hold, what pending writes take away. -/
import Derived.Test.YtmbgodncagjncaaDoorB22
import Derived.Test.YtmbgodncagjncaaDoorB18
import Derived.Laws.IdiomArrays
namespace Go.Proofs.YtmbgodncagjncaaDoor
set_option linter.unusedSimpArgs false
set_option linter.unusedVariables false
open Go.ChangeShapes Go.WideShapes Go.ChangeAt Go.RowKit

structure Mu where
  n : Nat
  st : Nat → Vl
  s : Int
  ok : Int
  oa : Int
  ob : Int
  oc : Int
  o : Int
  v : Vl
  c0 : Int
  c1 : Int
  c2 : Int
  c3 : Int
instance : Inhabited Mu := ⟨⟨0, fun _ => ⟨0, 0⟩, 0, 0, 0, 0, 0, 0, ⟨0, 0⟩, 0, 0, 0, 0⟩⟩
structure Mu.wf (m : Mu) : Prop where
  s : In64 m.s
  ok : In64 m.ok
  oa : In64 m.oa
  ob : In64 m.ob
  oc : In64 m.oc
  o : In64 m.o
  v : m.v.wf
  c : In64 m.c0 ∧ In64 m.c1 ∧ In64 m.c2 ∧ In64 m.c3
/-- A mutator's cells. -/
def Mu.cells (m : Mu) (p : Option Addr) (c : Nat) : List Value := [.slice p m.n c, .int .i64 m.s, .int .i64 m.ok, .int .i64 m.oa, .int .i64 m.ob, .int .i64 m.oc, .int .i64 m.o, .int .i64 m.v.k, .int .i64 m.v.n, .int .i64 m.c0, .int .i64 m.c1, .int .i64 m.c2, .int .i64 m.c3]
def MuC (W : World) (m : Mu) (L : List Value) : Prop := ∃ p c, L = m.cells p c ∧ VAt W p c m.n m.st ∧ m.wf
theorem muC_below : CBelow MuC := fun _ _ _ _ h hb => by
  obtain ⟨p, c, e, h, hr⟩ := h
  exact ⟨p, c, e, h.below hb, hr⟩
section
variable {H : Type} {enc : TypeId × Value → H} {P : Program} {W : World} {base : Nat}
theorem trod_mutator {t tv ia : TypeId} {f0 f1 f2 f3 f4 f5 g0 g1 g2 g3 v0 v1 : Field} {fuel : Nat} {cs : List Value} {y : DataW H × List MemPlace} (hs : P.underlying t = some (.struct #[f0, f1, f2, f3, f4, f5])) (hC : P.cellsOf t = 13)
    (hoff : f0.offset = 0 ∧ f1.offset = 1 ∧ f2.offset = 2 ∧ f3.offset = 6 ∧ f4.offset = 7 ∧ f5.offset = 9)
    (hcc : P.cellsOf f0.type = 1 ∧ P.cellsOf f1.type = 1 ∧ P.cellsOf f2.type = 4 ∧ P.cellsOf f3.type = 1 ∧ P.cellsOf f4.type = 2 ∧ P.cellsOf f5.type = 4)
    (hr : P.underlying f0.type = some (.slice tv)) (hv : P.underlying tv = some (.struct #[v0, v1])) (hcv : P.cellsOf tv = 2) (hone : Go.Deep.oneCellFields P #[v0, v1] = true) (hv0 : P.underlying v0.type = some (.int .i64)) (hv1 : P.underlying v1.type = some (.int .i64))
    (h1 : P.underlying f1.type = some (.int .i64)) (h3 : P.underlying f3.type = some (.int .i64)) (h4 : f4.type = tv)
    (hop : P.underlying f2.type = some (.struct #[g0, g1, g2, g3])) (go : g0.offset = 0 ∧ g1.offset = 1 ∧ g2.offset = 2 ∧ g3.offset = 3) (gc : P.cellsOf g0.type = 1 ∧ P.cellsOf g1.type = 1 ∧ P.cellsOf g2.type = 1 ∧ P.cellsOf g3.type = 1)
    (gu : P.underlying g0.type = some (.int .i64) ∧ P.underlying g1.type = some (.int .i64) ∧ P.underlying g2.type = some (.int .i64) ∧ P.underlying g3.type = some (.int .i64))
    (vo : v0.offset = 0 ∧ v1.offset = 1) (vc : P.cellsOf v0.type = 1 ∧ P.cellsOf v1.type = 1)
    (ha : P.underlying f5.type = some (.array 4 ia)) (hci : P.cellsOf ia = 1) (hui : P.underlying ia = some (.int .i64))
    (h : DataW.trod enc P W 0 (fun _ => true) true fuel t cs = some y) : ∃ m : Mu, MuC W m cs := by
  obtain ⟨hl, hp⟩ := trod_part hs h
  rw [hC] at hl
  obtain ⟨o0, o1, o2, o3, o4, o5⟩ := hoff
  obtain ⟨c0, c1, c2, c3, c4, c5⟩ := hcc
  match cs, hl with
  | [a0, a1, a2, a3, a4, a5, a6, a7, a8, a9, a10, a11, a12], _ =>
    obtain ⟨k0, y0, q0⟩ := hp 0 f0 rfl
    obtain ⟨k1, y1, q1⟩ := hp 1 f1 rfl
    obtain ⟨k2, y2, q2⟩ := hp 2 f2 rfl
    obtain ⟨k3, y3, q3⟩ := hp 3 f3 rfl
    obtain ⟨k4, y4, q4⟩ := hp 4 f4 rfl
    obtain ⟨k5, y5, q5⟩ := hp 5 f5 rfl
    rw [o0, c0] at q0
    rw [o1, c1] at q1
    rw [o2, c2] at q2
    rw [o3, c3] at q3
    rw [o4, c4] at q4
    rw [o5, c5] at q5
    simp at q0 q1 q2 q3 q4 q5
    obtain ⟨pr, nr, cr, ro, rfl, hro⟩ := trod_slice_vals hr hv hcv hone hv0 hv1 q0
    obtain ⟨s, e1, -, w1⟩ := DataW.trod_int h1 q1
    obtain ⟨o, e3, -, w3⟩ := DataW.trod_int h3 q3
    obtain ⟨-, hp2⟩ := trod_part hop q2
    obtain ⟨kk0, yy0, r0⟩ := hp2 0 g0 rfl
    obtain ⟨kk1, yy1, r1⟩ := hp2 1 g1 rfl
    obtain ⟨kk2, yy2, r2⟩ := hp2 2 g2 rfl
    obtain ⟨kk3, yy3, r3⟩ := hp2 3 g3 rfl
    rw [go.1, gc.1] at r0
    rw [go.2.1, gc.2.1] at r1
    rw [go.2.2.1, gc.2.2.1] at r2
    rw [go.2.2.2, gc.2.2.2] at r3
    simp at r0 r1 r2 r3
    obtain ⟨x0, ex0, -, wx0⟩ := DataW.trod_int gu.1 r0
    obtain ⟨x1, ex1, -, wx1⟩ := DataW.trod_int gu.2.1 r1
    obtain ⟨x2, ex2, -, wx2⟩ := DataW.trod_int gu.2.2.1 r2
    obtain ⟨x3, ex3, -, wx3⟩ := DataW.trod_int gu.2.2.2 r3
    rw [h4] at q4
    obtain ⟨-, hp4⟩ := trod_part hv q4
    obtain ⟨kv0, yv0, s0⟩ := hp4 0 v0 rfl
    obtain ⟨kv1, yv1, s1⟩ := hp4 1 v1 rfl
    rw [vo.1, vc.1] at s0
    rw [vo.2, vc.2] at s1
    simp at s0 s1
    obtain ⟨z0, ez0, -, wz0⟩ := DataW.trod_int hv0 s0
    obtain ⟨z1, ez1, -, wz1⟩ := DataW.trod_int hv1 s1
    obtain ⟨d0, d1, d2, d3, kd, -, u0, u1, u2, u3⟩ := trod_array4 ha hci q5
    obtain ⟨b0, eb0, -, wb0⟩ := DataW.trod_int hui u0
    obtain ⟨b1, eb1, -, wb1⟩ := DataW.trod_int hui u1
    obtain ⟨b2, eb2, -, wb2⟩ := DataW.trod_int hui u2
    obtain ⟨b3, eb3, -, wb3⟩ := DataW.trod_int hui u3
    simp at e1 e3 ex0 ex1 ex2 ex3 ez0 ez1 eb0 eb1 eb2 eb3
    subst e1 e3 ex0 ex1 ex2 ex3 ez0 ez1 eb0 eb1 eb2 eb3
    exact ⟨⟨nr, ro, s, x0, x1, x2, x3, o, ⟨z0, z1⟩, b0, b1, b2, b3⟩, pr, cr, rfl, hro, ⟨wf_i64 w1, wf_i64 wx0, wf_i64 wx1, wf_i64 wx2, wf_i64 wx3, wf_i64 w3, ⟨wz0, wz1⟩, ⟨wf_i64 wb0, wf_i64 wb1, wf_i64 wb2, wf_i64 wb3⟩⟩⟩
theorem open_mutators {t' t tv ia : TypeId} {f0 f1 f2 f3 f4 f5 g0 g1 g2 g3 v0 v1 : Field} {v : Value} {d : DataW H} {p : List MemPlace} (ht : P.underlying t' = some (.slice t)) (hs : P.underlying t = some (.struct #[f0, f1, f2, f3, f4, f5])) (hC : P.cellsOf t = 13)
    (hoff : f0.offset = 0 ∧ f1.offset = 1 ∧ f2.offset = 2 ∧ f3.offset = 6 ∧ f4.offset = 7 ∧ f5.offset = 9)
    (hcc : P.cellsOf f0.type = 1 ∧ P.cellsOf f1.type = 1 ∧ P.cellsOf f2.type = 4 ∧ P.cellsOf f3.type = 1 ∧ P.cellsOf f4.type = 2 ∧ P.cellsOf f5.type = 4)
    (hr : P.underlying f0.type = some (.slice tv)) (hv : P.underlying tv = some (.struct #[v0, v1])) (hcv : P.cellsOf tv = 2) (hone : Go.Deep.oneCellFields P #[v0, v1] = true) (hv0 : P.underlying v0.type = some (.int .i64)) (hv1 : P.underlying v1.type = some (.int .i64))
    (h1 : P.underlying f1.type = some (.int .i64)) (h3 : P.underlying f3.type = some (.int .i64)) (h4 : f4.type = tv)
    (hop : P.underlying f2.type = some (.struct #[g0, g1, g2, g3])) (go : g0.offset = 0 ∧ g1.offset = 1 ∧ g2.offset = 2 ∧ g3.offset = 3) (gc : P.cellsOf g0.type = 1 ∧ P.cellsOf g1.type = 1 ∧ P.cellsOf g2.type = 1 ∧ P.cellsOf g3.type = 1)
    (gu : P.underlying g0.type = some (.int .i64) ∧ P.underlying g1.type = some (.int .i64) ∧ P.underlying g2.type = some (.int .i64) ∧ P.underlying g3.type = some (.int .i64))
    (vo : v0.offset = 0 ∧ v1.offset = 1) (vc : P.cellsOf v0.type = 1 ∧ P.cellsOf v1.type = 1)
    (ha : P.underlying f5.type = some (.array 4 ia)) (hci : P.cellsOf ia = 1) (hui : P.underlying ia = some (.int .i64))
    (hok : Value.okWide P W .any base t' v) (h : DataW.Trod enc P W 0 (fun _ => true) true t' v d p) : ∃ (p : Option Addr) (n cap : Nat) (z : Nat → Mu), v = .slice p n cap ∧ RAt MuC 13 W p cap n z := by
  obtain ⟨p, n, cap, rfl⟩ := okWide_slice ht hok
  obtain ⟨fuel, hf⟩ := h
  exact trod_rows ht hC (by decide) (fun _ _ _ h _ => trod_mutator hs hC hoff hcc hr hv hcv hone hv0 hv1 h1 h3 h4 hop go gc gu vo vc ha hci hui h) (by simpa [Value.cells] using hf)
end
/-- What registers hold. -/
def regL (m : Mu) : List Vl := (if m.s = 2 ∨ m.s = 4 then [⟨2, m.o⟩] else []) ++ if m.s = 3 ∨ m.s = 4 then [m.v] else []
def stkL (m : Mu) : List Vl := (List.range m.n).map m.st
/-- What mutators hold. -/
def heldL (z : Nat → Mu) : Nat → List Vl
  | 0 => []
  | k + 1 => heldL z k ++ stkL (z k) ++ regL (z k)
/-- What pending writes take away. -/
def pendL (h : Hp) (z : Nat → Mu) : Nat → List Vl
  | 0 => []
  | k + 1 => if (z k).s = 4 then pendL h z k ++ [⟨getK (fdX h (z k).o (z k).ob), getN (fdX h (z k).o (z k).ob)⟩] else pendL h z k
def rootL (h : Hp) (z : Nat → Mu) (n : Nat) : List Vl := heldL z n ++ pendL h z n
theorem regL_len (m : Mu) : (regL m).length ≤ 2 := by
  unfold regL
  split <;> split <;> simp
theorem heldL_len {z : Nat → Mu} {b : Nat} : ∀ {n : Nat}, (∀ i, i < n → (z i).n ≤ b) → (heldL z n).length ≤ (b + 2) * n
  | 0, _ => by simp [heldL]
  | n + 1, h => by
    have ih := heldL_len (n := n) fun i hi => h i (by omega)
    have h1 := h n (by omega)
    have h2 := regL_len (z n)
    have h3 : (stkL (z n)).length = (z n).n := by simp [stkL]
    unfold heldL
    rw [List.length_append, List.length_append, h3, Nat.mul_add]
    omega
theorem pendL_len (h : Hp) (z : Nat → Mu) : ∀ n, (pendL h z n).length ≤ n
  | 0 => by simp [pendL]
  | n + 1 => by
    have ih := pendL_len h z n
    unfold pendL
    split
    · rw [List.length_append]; simp; omega
    · omega
end Go.Proofs.YtmbgodncagjncaaDoor
