import Derived.Test.YtkehankfnkjnlaaGreatDoorV11
import Derived.Deep.AppendLies
import Derived.Test.YtkehankfnkjnlaaGreatDoorV10
namespace Go.Proofs.YtkehankfnkjnlaaGreatDoor
set_option linter.unusedSimpArgs false
set_option linter.unusedVariables false
set_option maxHeartbeats 16000000
set_option maxRecDepth 20000
open Go.ChangeAt Go.ChangeShapes Go.Joins Go.RowKit Go.WideShapes
variable {h : Hp} {w w' W W' : World} {p q : Option Addr} {n g : Nat} {a : Int} {v : Value}
structure Dd where
 k : Int
 a : Int
 b : Int
instance : Inhabited Dd := ⟨⟨0, 0, 0⟩⟩
def In64 (x : Int) : Prop := -9223372036854775808 ≤ x ∧ x ≤ 9223372036854775807
section
variable {H : Type} {enc : TypeId × Value → H} {P : Program} {W : World} {base : Nat}
end
section
variable {W W' : World} {B base N M : Nat} {p : Option Addr} {c : Nat} {q : Option Addr} {d : Nat} {va vs : Value} {H : Hp} {xs ys : List Int}
end
def stay (a : Int) (L : List (Int × Int)) : List (Int × Int) := L.filter fun x => !decide (x.1 = a)
theorem got_of {c : Bool} {k n : Int} (h : hmayB true c k n = true) : gU (hputW true c k n) = true ∧ gC (hputW true c k n) = c ∧ gK (hputW true c k n) = k ∧ gN (hputW true c k n) = n := by
 obtain ⟨a, b, d, e⟩ := zto (hputW true c k n) c k n h rfl
 refine ⟨a, ?_, ?_, ?_⟩
 ·simp only [gC, a, Bool.true_and]; exact b.symm
 ·simp only [gK, a, if_true]; exact d.symm
 ·simp only [gN, a, if_true]; exact e.symm
def getK (x : Int) : Int := if x = 0 then 0 else if x % 2 = 1 then 1 else 2
def getN (x : Int) : Int := if x = 0 then 0 else if x % 2 = 1 then x / 2 else x / 2 - 1
theorem zq7 (x : Int) (w : World) (h0 : 0 ≤ x) (h1 : x < 18446744073709551616) :
  Calls Tryz.prog 105 #[.int .u64 x] w fun e w' => e = .returned (.agg #[.int .i64 (getK x), .int .i64 (getN x)]) ∧ Below w.heap.size w w' := by
 go_enter Tryz.func105, Tryz.ntmps105
 go_wp2
 all_goals
  go_returns
  exact ⟨zub (by simp_all [getK]) (by simp_all [getN]; try go_arith), by go_grown⟩
theorem zvl (x : Int) (w : World) (h0 : 0 ≤ x) (h1 : x < 18446744073709551616) :
  Calls Tryz.prog 97 #[.int .u64 x] w fun e w' => e = .returned (.agg #[.int .i64 (getK x), .int .i64 (getN x)]) ∧ Below w.heap.size w w' := by
 go_enter Tryz.func97, Tryz.ntmps97
 go_wp2
 all_goals
  go_returns
  exact ⟨zub (by simp_all [getK]) (by simp_all [getN]; try go_arith), by go_grown⟩
def woH (h : Hp) (a : Int) : Int := h.z a.toNat
def obB (h : Hp) (a : Int) : Bool := fiB h a && (gU (woH h a) && decide (a + gN (woH h a) < 32 * (a / 32) + 32))
def obC (h : Hp) (a : Int) : Bool := obB h a && gC (woH h a)
def obK (h : Hp) (a : Int) : Int := if obB h a = true then gK (woH h a) else 0
def obN (h : Hp) (a : Int) : Int := if obB h a = true then gN (woH h a) else 0
def fdE (h : Hp) (a i : Int) : Int := if obB h a = true then (if 0 ≤ i ∧ i < obN h a then 0 else 4) else 1
def fdX (h : Hp) (a i : Int) : Int := if fdE h a i = 0 then woH h (a + 1 + i) else 0
def putH (h : Hp) (p x : Int) : Hp := { h with z := putZ h.z p x }
def paH (h : Hp) (a : Int) : Hp := if obB h a = true then putH h a (hputW true h.b (obK h a) (obN h a)) else h
def blB (h : Hp) (a : Int) : Bool := obB h a && (obC h a == h.b)
theorem zfn (e : obB h a = false) : obC h a = false ∧ obK h a = 0 ∧ obN h a = 0 := by
 refine ⟨by unfold obC; rw [e]; rfl, ?_, ?_⟩
 ·unfold obK; rw [if_neg (by simp [e])]
 ·unfold obN; rw [if_neg (by simp [e])]
theorem zct {X : Int} : 0 ≤ gN X ∧ gN X ≤ 15 := by
 unfold gN
 split
 ·omega
 ·omega
theorem zpu (hw : h.wf) (a0 : 0 ≤ a) (a1 : a < h.n) : 0 ≤ woH h a ∧ woH h a < 18446744073709551616 := by
 have := hw.1 a.toNat (by omega)
 exact wf_u64 this
theorem zbj (hf : formB h = true) (e : obB h a = true) :
  fiB h a = true ∧ gU (woH h a) = true ∧ 0 ≤ a ∧ a < h.n ∧ a + gN (woH h a) < 32 * (a / 32) + 32 ∧ 32 * (a / 32) + 32 ≤ h.n ∧ obC h a = gC (woH h a) ∧ obK h a = gK (woH h a) ∧ obN h a = gN (woH h a) ∧ hmayB true (gC (woH h a)) (gK (woH h a)) (gN (woH h a)) = true := by
 have e' := e
 simp only [obB, Bool.and_eq_true, decide_eq_true_eq] at e'
 obtain ⟨h1, h2, h3⟩ := e'
 obtain ⟨p0, p1, -⟩ := zbd hf h1
 have hn := (zad.1 hf).2.2.1
 refine ⟨h1, h2, by omega, by omega, h3, by omega, by unfold obC; rw [e]; rfl, by unfold obK; rw [if_pos e], by unfold obN; rw [if_pos e], ?_⟩
 obtain ⟨-, -, -, h4, -⟩ := zi7 _ h2
 have e1 : gC (woH h a) = decide (woH h a / 64 % 2 = 1) := by unfold gC; rw [h2]; rfl
 have e2 : gK (woH h a) = woH h a / 16 % 4 := by unfold gK; rw [if_pos h2]
 have e3 : gN (woH h a) = woH h a % 16 := by unfold gN; rw [if_pos h2]
 rw [e1, e2, e3]
 exact h4
theorem zel {c c' : Bool} {k n : Int} (h : hmayB true c k n = true) : hmayB true c' k n = true := by simpa [hmayB] using h
theorem ze4 (h : Hp) (a i : Int) : (obB h a = true ∧ 0 ≤ i ∧ i < obN h a ∧ fdE h a i = 0 ∧ fdX h a i = woH h (a + 1 + i)) ∨ (obB h a = true ∧ ¬ (0 ≤ i ∧ i < obN h a) ∧ fdE h a i = 4 ∧ fdX h a i = 0) ∨ (obB h a = false ∧ fdE h a i = 1 ∧ fdX h a i = 0) := by
 cases e : obB h a with
 | true =>
  by_cases h1 : 0 ≤ i ∧ i < obN h a
  ·have e0 : fdE h a i = 0 := by unfold fdE; rw [if_pos e, if_pos h1]
   exact .inl ⟨rfl, h1.1, h1.2, e0, by unfold fdX; rw [if_pos e0]⟩
  ·have e0 : fdE h a i = 4 := by unfold fdE; rw [if_pos e, if_neg h1]
   exact .inr (.inl ⟨rfl, h1, e0, by unfold fdX; rw [if_neg (by omega)]⟩)
 | false =>
  have e0 : fdE h a i = 1 := by unfold fdE; rw [if_neg (by simp [e])]
  exact .inr (.inr ⟨rfl, e0, by unfold fdX; rw [if_neg (by omega)]⟩)
theorem zn6 : getK 0 = 0 ∧ getN 0 = 0 := by decide
theorem zxj (hf : formB h = true) (a : Int) : formB (paH h a) = true := by
 unfold paH; split
 ·exact hf
 ·exact hf
theorem zm6 {v0 v1 v2 u0 u1 u2 u3 : Value} {t t' : TypeId} : ∃ w0, w0 = (w.alloc (.cells #[v0, v1, v2] t)).alloc (.cells #[u0, u1, u2, u3] t') ∧ Box3 w.heap.size v0 v1 v2 w0 ∧ Box4 (w.heap.size + 1) u0 u1 u2 u3 w0 ∧ Below w.heap.size w w0 := by
 refine ⟨_, rfl, (Box3.new w _ _ _ _).below (zr.alloc (Nat.le_refl _) _), ?_, ?_⟩
 ·have := Box4.new (w.alloc (.cells #[v0, v1, v2] t)) u0 u1 u2 u3 t'
  simpa using this
 ·exact (zr.alloc (Nat.le_refl _) _).alloc (by simp) _
theorem ztr {X : Int} (h : gU X = false) : gC X = false ∧ gK X = 0 ∧ gN X = 0 := by
 refine ⟨by unfold gC; rw [h]; rfl, ?_, ?_⟩
 ·unfold gK; rw [if_neg (by simp [h])]
 ·unfold gN; rw [if_neg (by simp [h])]
theorem zgr (p : Option Addr) (c : Nat) (q : Option Addr) (d : Nat) (h : Hp) (a : Int) (w : World) (hh : HpAt w p c q d h) (hF : formB h = true) :
  Calls Tryz.prog 25 #[.agg #[.slice p h.n c, .slice q h.m d, .bool h.b], .int .i64 a] w fun e w' => e = .returned (.tuple #[.agg #[.bool (obB h a), .bool (obC h a), .int .i64 (obK h a), .int .i64 (obN h a)], .bool (obB h a)]) ∧ Below w.heap.size w w' := by
 obtain ⟨w0, hw0, gB, gR, hst⟩ := zm6 (w := w) (v0 := .slice p h.n c) (v1 := .slice q h.m d) (v2 := .bool h.b) (u0 := .bool false) (u1 := .bool false) (u2 := .int .i64 0) (u3 := .int .i64 0) (t := 27) (t' := 60)
 have hat := hh.below hst
 have hFi := zs7 p c q d h a w0 hat hF
 obtain ⟨l0, x0, x1, x2, -, -, -⟩ := gB
 obtain ⟨l1, y0, y1, y2, y3, f0, f1, f2, f3⟩ := gR
 cases hf : fiB h a with
 | false =>
  have e : obB h a = false := by unfold obB; rw [hf]; rfl
  obtain ⟨e1, e2, e3⟩ := zfn e
  rw [e, e1, e2, e3]
  rw [hf] at hFi
  clear e e1 e2 e3 hF
  go_enter Tryz.func25, Tryz.ntmps25
  go_upto_region 1 with fail
  rw [← hw0]
  clear hw0
  go_wp2_with (first
  | (go_at_call 57; refine zm (hFi) ?_; rintro e w' ⟨rfl, hb⟩; obtain ⟨hc, hf, hb, hz⟩ := bstep hb (w := w0) (by go_grown); try simp only [za, zb, zd] at hc hf hz)
  )
  refine bodyPost_ret (by simp [results, Tryz.results25, go_sem, *]; try rfl) rfl ?_
  exact ⟨rfl, by go_grown; exact bjoin hb hst⟩
 | true =>
  obtain ⟨q0, q1, -⟩ := zbd hF hf
  have hnn := (zad.1 hF).2.2.1
  have a0 : 0 ≤ a := by omega
  have a1 : a < h.n := by omega
  have a2 : a ≤ 512 := by have := (zad.1 hF).2.1; omega
  have eB : obB h a = (gU (woH h a) && decide (a + gN (woH h a) < 32 * (a / 32) + 32)) := by unfold obB; rw [hf, Bool.true_and]
  have eC : obB h a = true → obC h a = gC (woH h a) := fun e => by unfold obC; rw [e]; rfl
  have eK : obB h a = true → obK h a = gK (woH h a) := fun e => by unfold obK; rw [if_pos e]
  have eN : obB h a = true → obN h a = gN (woH h a) := fun e => by unfold obN; rw [if_pos e]
  have hX := zpu hh.wf a0 a1
  have eO := zfn (h := h) (a := a)
  have hNb := zct (X := woH h a)
  rw [hf] at hFi
  obtain ⟨⟨b, off, rfl, hlt, v0⟩, -⟩ := hat.ints a.toNat (by omega)
  rw [show h.z a.toNat = woH h a from rfl] at v0
  have hG := zta (woH h a)
  generalize woH h a = X at *
  obtain ⟨X0, X1⟩ := hX
  clear hF hnn hat hh
  cases hu : gU X with
  | false =>
   obtain ⟨u1, u2, u3⟩ := ztr hu
   rw [hu, Bool.false_and] at eB
   obtain ⟨e1, e2, e3⟩ := eO eB
   rw [eB, e1, e2, e3]
   rw [hu, u1, u2, u3] at hG
   simp only [Bool.false_or] at hG
   clear eB eC eK eN eO e1 e2 e3 u1 u2 u3 hu hNb
   cases hx : (X == 0)
   all_goals
    rw [hx] at hG
    go_enter Tryz.func25, Tryz.ntmps25
    go_upto_region 1 with fail
    rw [← hw0]
    clear hw0
    go_wp2_with (first
  | (go_at_call 57; refine zm (hFi) ?_; rintro e w' ⟨rfl, hb⟩; obtain ⟨hc, hf, hb, hz⟩ := bstep hb (w := w0) (by go_grown); try simp only [za, zb, zd] at hc hf hz)
  | (go_at_call 58; refine zm (hG _ X0 X1) ?_; rintro e w' ⟨rfl, hb⟩; obtain ⟨hc, hf, hb, hz⟩ := bstep hb (w := w0) (by go_grown); try simp only [za, zb, zd] at hc hf hz)
    )
    refine bodyPost_ret (by simp [results, Tryz.results25, go_sem, *]; try rfl) rfl ?_
    exact ⟨rfl, by go_grown; exact bjoin hb hst⟩
  | true =>
   rw [hu, Bool.true_and] at eB
   rw [hu] at hG
   simp only [Bool.true_or] at hG
   obtain ⟨F0, F1⟩ := hNb
   by_cases hl : a + gN X < 32 * (a / 32) + 32
   ·rw [decide_eq_true hl] at eB
    rw [eB, eC eB, eK eB, eN eB]
    have hd : decide (32 * (a / 32) + 32 ≤ a + gN X) = false := by simp; omega
    clear eB eC eK eN eO hu
    generalize gN X = F at *
    generalize gK X = K at *
    generalize gC X = C at *
    go_enter Tryz.func25, Tryz.ntmps25
    go_upto_region 1 with fail
    rw [← hw0]
    clear hw0
    go_wp2_with (first
  | (go_at_call 57; refine zm (hFi) ?_; rintro e w' ⟨rfl, hb⟩; obtain ⟨hc, hf, hb, hz⟩ := bstep hb (w := w0) (by go_grown); try simp only [za, zb, zd] at hc hf hz)
  | (go_at_call 58; refine zm (hG _ X0 X1) ?_; rintro e w' ⟨rfl, hb⟩; obtain ⟨hc, hf, hb, hz⟩ := bstep hb (w := w0) (by go_grown); try simp only [za, zb, zd] at hc hf hz)
    )
    refine bodyPost_ret (by simp [results, Tryz.results25, go_sem, *]; try rfl) rfl ?_
    exact ⟨rfl, by go_grown; exact bjoin hb hst⟩
   ·rw [decide_eq_false hl] at eB
    obtain ⟨e1, e2, e3⟩ := eO eB
    rw [eB, e1, e2, e3]
    have hd : decide (32 * (a / 32) + 32 ≤ a + gN X) = true := by simp; omega
    clear eB eC eK eN eO hu e1 e2 e3
    generalize gN X = F at *
    generalize gK X = K at *
    generalize gC X = C at *
    go_enter Tryz.func25, Tryz.ntmps25
    go_upto_region 1 with fail
    rw [← hw0]
    clear hw0
    go_wp2_with (first
  | (go_at_call 57; refine zm (hFi) ?_; rintro e w' ⟨rfl, hb⟩; obtain ⟨hc, hf, hb, hz⟩ := bstep hb (w := w0) (by go_grown); try simp only [za, zb, zd] at hc hf hz)
  | (go_at_call 58; refine zm (hG _ X0 X1) ?_; rintro e w' ⟨rfl, hb⟩; obtain ⟨hc, hf, hb, hz⟩ := bstep hb (w := w0) (by go_grown); try simp only [za, zb, zd] at hc hf hz)
    )
    refine bodyPost_ret (by simp [results, Tryz.results25, go_sem, *]; try rfl) rfl ?_
    exact ⟨rfl, by go_grown; exact bjoin hb hst⟩
theorem zlq {v0 v1 v2 u0 u1 : Value} {t t' : TypeId} : ∃ w0, w0 = (w.alloc (.cells #[v0, v1, v2] t)).alloc (.cells #[u0, u1] t') ∧ Box3 w.heap.size v0 v1 v2 w0 ∧ w.heap.size + 1 < w0.heap.size ∧ w0.cell? ⟨w.heap.size + 1, 0, none⟩ = some u0 ∧ w0.cell? ⟨w.heap.size + 1, 1, none⟩ = some u1 ∧ w0.frozen? ⟨w.heap.size + 1, 0, none⟩ = false ∧ w0.frozen? ⟨w.heap.size + 1, 1, none⟩ = false ∧ Below w.heap.size w w0 := by
 have hg := heap_alloc_new (w.alloc (.cells #[v0, v1, v2] t)) (.cells #[u0, u1] t')
 rw [World.size_alloc] at hg
 refine ⟨_, rfl, (Box3.new w _ _ _ _).below (zr.alloc (Nat.le_refl _) _), by simp, ?_, ?_, ?_, ?_, (zr.alloc (Nat.le_refl _) _).alloc (by simp) _⟩
 ·rw [cell_of_row _ _ _ _ _ _ hg]; rfl
 ·rw [cell_of_row _ _ _ _ _ _ hg]; rfl
 ·exact frozen_of_row _ _ _ _ _ hg
 ·exact frozen_of_row _ _ _ _ _ hg
theorem zmv (p : Option Addr) (c : Nat) (q : Option Addr) (d : Nat) (h : Hp) (a i : Int) (w : World) (hh : HpAt w p c q d h) (hF : formB h = true) :
  Calls Tryz.prog 63 #[.agg #[.slice p h.n c, .slice q h.m d, .bool h.b], .int .i64 a, .int .i64 i] w fun e w' => e = .returned (.tuple #[.agg #[.int .i64 (getK (fdX h a i)), .int .i64 (getN (fdX h a i))], .int .i64 (fdE h a i)]) ∧ Below w.heap.size w w' := by
 obtain ⟨w0, hw0, gB, l1, y0, y1, f0, f1, hst⟩ := zlq (w := w) (v0 := .slice p h.n c) (v1 := .slice q h.m d) (v2 := .bool h.b) (u0 := .int .i64 0) (u1 := .int .i64 0) (t := 27) (t' := 70)
 have hat := hh.below hst
 have hG := zgr p c q d h a w0 hat hF
 obtain ⟨l0, x0, x1, x2, -, -, -⟩ := gB
 obtain ⟨z0, z1⟩ := zn6
 rcases ze4 h a i with ⟨e0, i0, i1, e1, e2⟩ | ⟨e0, hi, e1, e2⟩ | ⟨e0, e1, e2⟩
 ·obtain ⟨-, -, a0, -, a2, a3, -, -, a4, -⟩ := zbj hF e0
  rw [a4] at i1
  rw [e1, e2]
  rw [e0] at hG
  have hm16 := (zad.1 hF).2.1
  have hnn := (zad.1 hF).2.2.1
  have a5 : a + 1 + i < h.n := by omega
  have a6 : a + 1 + i ≤ 512 := by omega
  have hX := zpu hh.wf (show 0 ≤ a + 1 + i by omega) a5
  obtain ⟨⟨b, off, rfl, hlt, v0⟩, -⟩ := hat.ints (a + 1 + i).toNat (by omega)
  rw [show h.z (a + 1 + i).toNat = woH h (a + 1 + i) from rfl] at v0
  have hV := zvl (woH h (a + 1 + i))
  have hd : decide (obN h a ≤ i) = false := by simp; omega
  generalize woH h (a + 1 + i) = X at *
  obtain ⟨X0, X1⟩ := hX
  generalize obN h a = F at *
  generalize obC h a = C at *
  generalize obK h a = K at *
  clear hF hnn hat hh e0 e1 e2 a2 a3 a4 i1 z0 z1
  go_enter Tryz.func63, Tryz.ntmps63
  go_upto_region 1 with fail
  rw [← hw0]
  clear hw0
  go_wp2_with (first
  | (go_at_call 25; refine zm (hG) ?_; rintro e w' ⟨rfl, hb⟩; obtain ⟨hc, hf, hb, hz⟩ := bstep hb (w := w0) (by go_grown); try simp only [za, zb, zd] at hc hf hz)
  | (go_at_call 97; refine zm (hV _ X0 X1) ?_; rintro e w' ⟨rfl, hb⟩; obtain ⟨hc, hf, hb, hz⟩ := bstep hb (w := w0) (by go_grown); try simp only [za, zb, zd] at hc hf hz)
  )
  refine bodyPost_ret (by simp [results, Tryz.results63, go_sem, *]; try rfl) rfl ?_
  exact ⟨rfl, by go_grown; exact bjoin hb hst⟩
 ·rw [e1, e2, z0, z1]
  rw [e0] at hG
  have hNb : 0 ≤ obN h a := by have := zct (X := woH h a); rw [(zbj hF e0).2.2.2.2.2.2.2.2.1]; omega
  have hd : decide (obN h a ≤ i) = true ∨ decide (i < 0) = true := by
   by_cases h0 : i < 0
   ·right; simp [h0]
   ·left; simp; omega
  have hi' : ¬ (0 ≤ i ∧ i < obN h a) := hi
  generalize obN h a = F at *
  generalize obC h a = C at *
  generalize obK h a = K at *
  clear hF hat hh e0 e1 e2 z0 z1 hi
  by_cases h0 : i < 0
  ·clear hd hi'
   go_enter Tryz.func63, Tryz.ntmps63
   go_upto_region 1 with fail
   rw [← hw0]
   clear hw0
   go_wp2_with (first
  | (go_at_call 25; refine zm (hG) ?_; rintro e w' ⟨rfl, hb⟩; obtain ⟨hc, hf, hb, hz⟩ := bstep hb (w := w0) (by go_grown); try simp only [za, zb, zd] at hc hf hz)
   )
   refine bodyPost_ret (by simp [results, Tryz.results63, go_sem, *]; try rfl) rfl ?_
   exact ⟨rfl, by go_grown; exact bjoin hb hst⟩
  ·have h1 : F ≤ i := by omega
   clear hd hi'
   go_enter Tryz.func63, Tryz.ntmps63
   go_upto_region 1 with fail
   rw [← hw0]
   clear hw0
   go_wp2_with (first
  | (go_at_call 25; refine zm (hG) ?_; rintro e w' ⟨rfl, hb⟩; obtain ⟨hc, hf, hb, hz⟩ := bstep hb (w := w0) (by go_grown); try simp only [za, zb, zd] at hc hf hz)
   )
   refine bodyPost_ret (by simp [results, Tryz.results63, go_sem, *]; try rfl) rfl ?_
   exact ⟨rfl, by go_grown; exact bjoin hb hst⟩
 ·obtain ⟨o1, o2, o3⟩ := zfn e0
  rw [e1, e2, z0, z1]
  rw [e0, o1, o2, o3] at hG
  clear hF hat hh e0 e1 e2 z0 z1 o1 o2 o3
  go_enter Tryz.func63, Tryz.ntmps63
  go_upto_region 1 with fail
  rw [← hw0]
  clear hw0
  go_wp2_with (first
  | (go_at_call 25; refine zm (hG) ?_; rintro e w' ⟨rfl, hb⟩; obtain ⟨hc, hf, hb, hz⟩ := bstep hb (w := w0) (by go_grown); try simp only [za, zb, zd] at hc hf hz)
  )
  refine bodyPost_ret (by simp [results, Tryz.results63, go_sem, *]; try rfl) rfl ?_
  exact ⟨rfl, by go_grown; exact bjoin hb hst⟩
theorem zeg (p : Option Addr) (c : Nat) (q : Option Addr) (d : Nat) (h : Hp) (a : Int) (w : World) (hS : Sz w) (hh : HpAt w p c q d h) (hF : formB h = true) :
  Calls Tryz.prog 66 #[.agg #[.slice p h.n c, .slice q h.m d, .bool h.b], .int .i64 a] w fun e w' => e = .returned (.tuple #[.agg #[.bool (obB h a), .bool (obC h a), .int .i64 (obK h a), .int .i64 (obN h a)], .bool (obB h a)]) ∧ Below w.heap.size w w' := by
 obtain ⟨w0, hw0, gB, gR, hst⟩ := zm6 (w := w) (v0 := .slice p h.n c) (v1 := .slice q h.m d) (v2 := .bool h.b) (u0 := .bool false) (u1 := .bool false) (u2 := .int .i64 0) (u3 := .int .i64 0) (t := 27) (t' := 60)
 have hat := hh.below hst
 have hFi := zlm p c q d h a w0 (hS.below hst) hat hF
 obtain ⟨l0, x0, x1, x2, -, -, -⟩ := gB
 obtain ⟨l1, y0, y1, y2, y3, f0, f1, f2, f3⟩ := gR
 cases hf : fiB h a with
 | false =>
  have e : obB h a = false := by unfold obB; rw [hf]; rfl
  obtain ⟨e1, e2, e3⟩ := zfn e
  rw [e, e1, e2, e3]
  rw [hf] at hFi
  generalize fiP h a = gp at *
  generalize fiI h a = gi at *
  clear e e1 e2 e3 hF
  go_enter Tryz.func66, Tryz.ntmps66
  go_upto_region 1 with fail
  rw [← hw0]
  clear hw0
  go_wp2_with (first
  | (go_at_call 101; refine zm (hFi) ?_; rintro e w' ⟨rfl, hb⟩; obtain ⟨hc, hf, hb, hz⟩ := bstep hb (w := w0) (by go_grown); try simp only [za, zb, zd] at hc hf hz)
  )
  refine bodyPost_ret (by simp [results, Tryz.results66, go_sem, *]; try rfl) rfl ?_
  exact ⟨rfl, by go_grown; exact bjoin hb hst⟩
 | true =>
  obtain ⟨q0, q1, -⟩ := zbd hF hf
  have hnn := (zad.1 hF).2.2.1
  have a0 : 0 ≤ a := by omega
  have a1 : a < h.n := by omega
  have a2 : a ≤ 512 := by have := (zad.1 hF).2.1; omega
  have hP : fiP h a = a / 32 := by unfold fiP; rw [if_pos hf]
  have eB : obB h a = (gU (woH h a) && decide (a + gN (woH h a) < 32 * (a / 32) + 32)) := by unfold obB; rw [hf, Bool.true_and]
  have eC : obB h a = true → obC h a = gC (woH h a) := fun e => by unfold obC; rw [e]; rfl
  have eK : obB h a = true → obK h a = gK (woH h a) := fun e => by unfold obK; rw [if_pos e]
  have eN : obB h a = true → obN h a = gN (woH h a) := fun e => by unfold obN; rw [if_pos e]
  have hX := zpu hh.wf a0 a1
  have eO := zfn (h := h) (a := a)
  have hNb := zct (X := woH h a)
  rw [hf, hP] at hFi
  obtain ⟨⟨b, off, rfl, hlt, v0⟩, -⟩ := hat.ints a.toNat (by omega)
  rw [show h.z a.toNat = woH h a from rfl] at v0
  have hG := zu9 (woH h a)
  generalize woH h a = X at *
  generalize fiI h a = gi at *
  obtain ⟨X0, X1⟩ := hX
  clear hF hnn hat hh hP
  have p0 : 32 * (a / 32) ≤ a := by omega
  have p1 : a < 32 * (a / 32) + 32 := by omega
  have p2 : 0 ≤ a / 32 := by omega
  generalize a / 32 = pg at *
  cases hu : gU X with
  | false =>
   obtain ⟨u1, u2, u3⟩ := ztr hu
   rw [hu, Bool.false_and] at eB
   obtain ⟨e1, e2, e3⟩ := eO eB
   rw [eB, e1, e2, e3]
   rw [hu, u1, u2, u3] at hG
   simp only [Bool.false_or] at hG
   clear eB eC eK eN eO e1 e2 e3 u1 u2 u3 hu hNb
   cases hx : (X == 0)
   all_goals
    rw [hx] at hG
    go_enter Tryz.func66, Tryz.ntmps66
    go_upto_region 1 with fail
    rw [← hw0]
    clear hw0
    go_wp2_with (first
  | (go_at_call 101; refine zm (hFi) ?_; rintro e w' ⟨rfl, hb⟩; obtain ⟨hc, hf, hb, hz⟩ := bstep hb (w := w0) (by go_grown); try simp only [za, zb, zd] at hc hf hz)
  | (go_at_call 102; refine zm (hG _ X0 X1) ?_; rintro e w' ⟨rfl, hb⟩; obtain ⟨hc, hf, hb, hz⟩ := bstep hb (w := w0) (by go_grown); try simp only [za, zb, zd] at hc hf hz)
    )
    refine bodyPost_ret (by simp [results, Tryz.results66, go_sem, *]; try rfl) rfl ?_
    exact ⟨rfl, by go_grown; exact bjoin hb hst⟩
  | true =>
   rw [hu, Bool.true_and] at eB
   rw [hu] at hG
   simp only [Bool.true_or] at hG
   obtain ⟨F0, F1⟩ := hNb
   by_cases hl : a + gN X < 32 * pg + 32
   ·rw [decide_eq_true hl] at eB
    rw [eB, eC eB, eK eB, eN eB]
    have hd : decide ((pg + 1) * 32 ≤ a + gN X) = false := by simp; omega
    clear eB eC eK eN eO hu
    generalize gN X = F at *
    generalize gK X = K at *
    generalize gC X = C at *
    go_enter Tryz.func66, Tryz.ntmps66
    go_upto_region 1 with fail
    rw [← hw0]
    clear hw0
    go_wp2_with (first
  | (go_at_call 101; refine zm (hFi) ?_; rintro e w' ⟨rfl, hb⟩; obtain ⟨hc, hf, hb, hz⟩ := bstep hb (w := w0) (by go_grown); try simp only [za, zb, zd] at hc hf hz)
  | (go_at_call 102; refine zm (hG _ X0 X1) ?_; rintro e w' ⟨rfl, hb⟩; obtain ⟨hc, hf, hb, hz⟩ := bstep hb (w := w0) (by go_grown); try simp only [za, zb, zd] at hc hf hz)
    )
    refine bodyPost_ret (by simp [results, Tryz.results66, go_sem, *]; try rfl) rfl ?_
    exact ⟨rfl, by go_grown; exact bjoin hb hst⟩
   ·rw [decide_eq_false hl] at eB
    obtain ⟨e1, e2, e3⟩ := eO eB
    rw [eB, e1, e2, e3]
    have hd : decide ((pg + 1) * 32 ≤ a + gN X) = true := by simp; omega
    clear eB eC eK eN eO hu e1 e2 e3
    generalize gN X = F at *
    generalize gK X = K at *
    generalize gC X = C at *
    go_enter Tryz.func66, Tryz.ntmps66
    go_upto_region 1 with fail
    rw [← hw0]
    clear hw0
    go_wp2_with (first
  | (go_at_call 101; refine zm (hFi) ?_; rintro e w' ⟨rfl, hb⟩; obtain ⟨hc, hf, hb, hz⟩ := bstep hb (w := w0) (by go_grown); try simp only [za, zb, zd] at hc hf hz)
  | (go_at_call 102; refine zm (hG _ X0 X1) ?_; rintro e w' ⟨rfl, hb⟩; obtain ⟨hc, hf, hb, hz⟩ := bstep hb (w := w0) (by go_grown); try simp only [za, zb, zd] at hc hf hz)
    )
    refine bodyPost_ret (by simp [results, Tryz.results66, go_sem, *]; try rfl) rfl ?_
    exact ⟨rfl, by go_grown; exact bjoin hb hst⟩
def fdP (h : Hp) (a i : Int) : Int := if fdE h a i = 0 then a + 1 + i else 0
theorem zp6 (p : Option Addr) (c : Nat) (q : Option Addr) (d : Nat) (h : Hp) (a i : Int) (w : World) (hS : Sz w) (hh : HpAt w p c q d h) (hF : formB h = true) :
  Calls Tryz.prog 188 #[.agg #[.slice p h.n c, .slice q h.m d, .bool h.b], .int .i64 a, .int .i64 i] w fun e w' => e = .returned (.tuple #[.int .i64 (fdP h a i), .int .i64 (fdE h a i)]) ∧ Below w.heap.size w w' := by
 obtain ⟨w0, hw0⟩ : ∃ w0, w0 = w.alloc (.cells #[.slice p h.n c, .slice q h.m d, .bool h.b] 27) := ⟨_, rfl⟩
 have gB : Box3 w.heap.size (.slice p h.n c) (.slice q h.m d) (.bool h.b) w0 := by rw [hw0]; exact Box3.new _ _ _ _ _
 have hst : Below w.heap.size w w0 := by rw [hw0]; go_grown
 have hat := hh.below hst
 have hG := zeg p c q d h a w0 (hS.below hst) hat hF
 obtain ⟨l0, x0, x1, x2, -, -, -⟩ := gB
 rcases ze4 h a i with ⟨e0, i0, i1, e1, e2⟩ | ⟨e0, hi, e1, e2⟩ | ⟨e0, e1, e2⟩
 ·obtain ⟨-, -, a0, -, a2, a3, -, -, a4, -⟩ := zbj hF e0
  have e3 : fdP h a i = a + 1 + i := by unfold fdP; rw [if_pos e1]
  rw [e3, e1]
  rw [e0] at hG
  have hm16 := (zad.1 hF).2.1
  have hnn := (zad.1 hF).2.2.1
  rw [a4] at i1
  have a5 : a ≤ 512 := by omega
  have a6 : i ≤ 512 := by omega
  rw [← a4] at i1
  have hd : decide (obN h a ≤ i) = false := by simp; omega
  generalize obN h a = F at *
  generalize obC h a = C at *
  generalize obK h a = K at *
  clear hF hnn hat hh e0 e1 e2 e3 a2 a3 a4 hm16
  go_enter Tryz.func188, Tryz.ntmps188
  go_upto_region 1 with fail
  rw [← hw0]
  clear hw0
  go_wp2_with (first
  | (go_at_call 66; refine zm (hG) ?_; rintro e w' ⟨rfl, hb⟩; obtain ⟨hc, hf, hb, hz⟩ := bstep hb (w := w0) (by go_grown); try simp only [za, zb, zd] at hc hf hz)
  )
  go_returns
  exact ⟨rfl, by go_grown; exact bjoin hb hst⟩
 ·have e3 : fdP h a i = 0 := by unfold fdP; rw [if_neg (by omega)]
  rw [e3, e1]
  rw [e0] at hG
  have hNb : 0 ≤ obN h a := by have := zct (X := woH h a); rw [(zbj hF e0).2.2.2.2.2.2.2.2.1]; omega
  have hi' : ¬ (0 ≤ i ∧ i < obN h a) := hi
  generalize obN h a = F at *
  generalize obC h a = C at *
  generalize obK h a = K at *
  clear hF hat hh e0 e1 e2 e3 hi
  by_cases h0 : i < 0
  ·clear hi'
   go_enter Tryz.func188, Tryz.ntmps188
   go_upto_region 1 with fail
   rw [← hw0]
   clear hw0
   go_wp2_with (first
  | (go_at_call 66; refine zm (hG) ?_; rintro e w' ⟨rfl, hb⟩; obtain ⟨hc, hf, hb, hz⟩ := bstep hb (w := w0) (by go_grown); try simp only [za, zb, zd] at hc hf hz)
   )
   go_returns
   exact ⟨rfl, by go_grown; exact bjoin hb hst⟩
  ·have h1 : F ≤ i := by omega
   clear hi'
   go_enter Tryz.func188, Tryz.ntmps188
   go_upto_region 1 with fail
   rw [← hw0]
   clear hw0
   go_wp2_with (first
  | (go_at_call 66; refine zm (hG) ?_; rintro e w' ⟨rfl, hb⟩; obtain ⟨hc, hf, hb, hz⟩ := bstep hb (w := w0) (by go_grown); try simp only [za, zb, zd] at hc hf hz)
   )
   go_returns
   exact ⟨rfl, by go_grown; exact bjoin hb hst⟩
 ·obtain ⟨o1, o2, o3⟩ := zfn e0
  have e3 : fdP h a i = 0 := by unfold fdP; rw [if_neg (by omega)]
  rw [e3, e1]
  rw [e0, o1, o2, o3] at hG
  clear hF hat hh e0 e1 e2 e3 o1 o2 o3
  go_enter Tryz.func188, Tryz.ntmps188
  go_upto_region 1 with fail
  rw [← hw0]
  clear hw0
  go_wp2_with (first
  | (go_at_call 66; refine zm (hG) ?_; rintro e w' ⟨rfl, hb⟩; obtain ⟨hc, hf, hb, hz⟩ := bstep hb (w := w0) (by go_grown); try simp only [za, zb, zd] at hc hf hz)
  )
  go_returns
  exact ⟨rfl, by go_grown; exact bjoin hb hst⟩
theorem zh4 (p : Option Addr) (c : Nat) (q : Option Addr) (d : Nat) (h : Hp) (a i : Int) (w : World) (hS : Sz w) (hh : HpAt w p c q d h) (hF : formB h = true) :
  Calls Tryz.prog 157 #[.agg #[.slice p h.n c, .slice q h.m d, .bool h.b], .int .i64 a, .int .i64 i] w fun e w' => e = .returned (.tuple #[.agg #[.int .i64 (getK (fdX h a i)), .int .i64 (getN (fdX h a i))], .int .i64 (fdE h a i)]) ∧ Below w.heap.size w w' := by
 obtain ⟨w0, hw0, gB, l1, y0, y1, f0, f1, hst⟩ := zlq (w := w) (v0 := .slice p h.n c) (v1 := .slice q h.m d) (v2 := .bool h.b) (u0 := .int .i64 0) (u1 := .int .i64 0) (t := 27) (t' := 70)
 have hat := hh.below hst
 have hG := zp6 p c q d h a i w0 (hS.below hst) hat hF
 obtain ⟨l0, x0, x1, x2, -, -, -⟩ := gB
 obtain ⟨z0, z1⟩ := zn6
 rcases ze4 h a i with ⟨e0, i0, i1, e1, e2⟩ | ⟨e0, hi, e1, e2⟩ | ⟨e0, e1, e2⟩
 ·obtain ⟨-, -, a0, -, a2, a3, -, -, a4, -⟩ := zbj hF e0
  have e3 : fdP h a i = a + 1 + i := by unfold fdP; rw [if_pos e1]
  rw [a4] at i1
  rw [e1, e3] at hG
  rw [e1, e2]
  have hm16 := (zad.1 hF).2.1
  have hnn := (zad.1 hF).2.2.1
  have a5 : a + 1 + i < h.n := by omega
  have a6 : a + 1 + i ≤ 512 := by omega
  have a7 : 0 ≤ a + 1 + i := by omega
  have hX := zpu hh.wf a7 a5
  obtain ⟨⟨b, off, rfl, hlt, v0⟩, -⟩ := hat.ints (a + 1 + i).toNat (by omega)
  rw [show h.z (a + 1 + i).toNat = woH h (a + 1 + i) from rfl] at v0
  have hV := zq7 (woH h (a + 1 + i))
  generalize woH h (a + 1 + i) = X at *
  obtain ⟨X0, X1⟩ := hX
  clear hF hnn hat hh e0 e1 e2 e3 a2 a3 a4 i1 z0 z1 hm16
  generalize a + 1 + i = P at *
  go_enter Tryz.func157, Tryz.ntmps157
  go_upto_region 1 with fail
  rw [← hw0]
  clear hw0
  go_wp2_with (first
  | (go_at_call 188; refine zm (hG) ?_; rintro e w' ⟨rfl, hb⟩; obtain ⟨hc, hf, hb, hz⟩ := bstep hb (w := w0) (by go_grown); try simp only [za, zb, zd] at hc hf hz)
  | (go_at_call 105; refine zm (hV _ X0 X1) ?_; rintro e w' ⟨rfl, hb⟩; obtain ⟨hc, hf, hb, hz⟩ := bstep hb (w := w0) (by go_grown); try simp only [za, zb, zd] at hc hf hz)
  )
  refine bodyPost_ret (by simp [results, Tryz.results157, go_sem, *]; try rfl) rfl ?_
  exact ⟨rfl, by go_grown; exact bjoin hb hst⟩
 all_goals
  have hne : ¬ fdE h a i = 0 := by omega
  have e3 : fdP h a i = 0 := by unfold fdP; rw [if_neg hne]
  rw [e1, e3] at hG
  rw [e1, e2, z0, z1]
  clear hF hat hh e0 e1 e2 e3 z0 z1 hne
  go_enter Tryz.func157, Tryz.ntmps157
  go_upto_region 1 with fail
  rw [← hw0]
  clear hw0
  go_wp2_with (first
  | (go_at_call 188; refine zm (hG) ?_; rintro e w' ⟨rfl, hb⟩; obtain ⟨hc, hf, hb, hz⟩ := bstep hb (w := w0) (by go_grown); try simp only [za, zb, zd] at hc hf hz)
  )
  refine bodyPost_ret (by simp [results, Tryz.results157, go_sem, *]; try rfl) rfl ?_
  exact ⟨rfl, by go_grown; exact bjoin hb hst⟩
theorem zol (p : Option Addr) (c : Nat) (q : Option Addr) (d : Nat) (h : Hp) (a : Int) (w : World) (hS : Sz w) (hh : HpAt w p c q d h) (hF : formB h = true) :
  Calls Tryz.prog 68 #[.agg #[.slice p h.n c, .slice q h.m d, .bool h.b], .int .i64 a] w fun e w' => e = .returned (.bool (blB h a)) ∧ Below w.heap.size w w' := by
 obtain ⟨w0, hw0⟩ : ∃ w0, w0 = w.alloc (.cells #[.slice p h.n c, .slice q h.m d, .bool h.b] 27) := ⟨_, rfl⟩
 have gB : Box3 w.heap.size (.slice p h.n c) (.slice q h.m d) (.bool h.b) w0 := by rw [hw0]; exact Box3.new _ _ _ _ _
 have hst : Below w.heap.size w w0 := by rw [hw0]; go_grown
 have hG := zeg p c q d h a w0 (hS.below hst) (hh.below hst) hF
 obtain ⟨l0, x0, x1, x2, -, -, -⟩ := gB
 have eB : blB h a = (obB h a && (obC h a == h.b)) := rfl
 generalize blB h a = V at *
 generalize obC h a = C at *
 generalize obB h a = O at *
 generalize obN h a = F at *
 generalize obK h a = K at *
 clear hh hF hS
 cases O
 all_goals
  go_enter Tryz.func68, Tryz.ntmps68
  go_upto_region 1 with fail
  rw [← hw0]
  clear hw0
  go_wp2_with (first
  | (go_at_call 66; refine zm (hG) ?_; rintro e w' ⟨rfl, hb⟩; obtain ⟨hc, hf, hb, hz⟩ := bstep hb (w := w0) (by go_grown); try simp only [za, zb, zd] at hc hf hz)
  )
  go_returns
  exact ⟨zab (by rw [eB]; simp), by go_grown; exact bjoin hb hst⟩
end Go.Proofs.YtkehankfnkjnlaaGreatDoor
