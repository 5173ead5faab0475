/- A heap's three cells with their lengths as they stand in a walk, and the contracts of the reference's functions so said. -/
import Derived.Test.YtjlflbaglaillaaDoorRef07e
namespace Go.Proofs.YtjlflbaglaillaaDoor
set_option linter.unusedSimpArgs false
set_option linter.unusedVariables false
open Go.ChangeShapes Go.WideShapes Go.ChangeAt Go.RowKit Go.Joins

/-- The value of three cells is the heap h. -/
structure HpIn (W : World) (p : Option Addr) (n c : Nat) (q : Option Addr) (m d : Nat) (b : Bool) (h : Hp) : Prop where
  n_eq : n = h.n
  m_eq : m = h.m
  b_eq : b = h.b
  at' : HpAt W p c q d h
def hpV (p : Option Addr) (n c : Nat) (q : Option Addr) (m d : Nat) (b : Bool) : Value := .agg #[.slice p n c, .slice q m d, .bool b]
theorem HpIn.below {W W' : World} {p : Option Addr} {n c : Nat} {q : Option Addr} {m d : Nat} {b : Bool} {h : Hp} (hh : HpIn W p n c q m d b h) (hb : Below W.heap.size W W') : HpIn W' p n c q m d b h := ⟨hh.n_eq, hh.m_eq, hh.b_eq, hh.at'.below hb⟩
theorem HpAt.in {W : World} {p : Option Addr} {c : Nat} {q : Option Addr} {d : Nat} {h : Hp} (hh : HpAt W p c q d h) : HpIn W p h.n c q h.m d h.b h := ⟨rfl, rfl, rfl, hh⟩
theorem op_n (h : Hp) (g k : Int) : (opH h g k).n = h.n ∧ (opH h g k).m = h.m ∧ (opH h g k).b = h.b := by unfold opH; split <;> exact ⟨rfl, rfl, rfl⟩
theorem lo_n (h : Hp) (g : Int) : (loH h g).n = h.n ∧ (loH h g).m = h.m ∧ (loH h g).b = h.b := by unfold loH; split <;> exact ⟨rfl, rfl, rfl⟩
theorem la_n (h : Hp) (g f : Int) : (laH h g f).n = h.n ∧ (laH h g f).m = h.m ∧ (laH h g f).b = h.b := by unfold laH; split <;> exact ⟨rfl, rfl, rfl⟩
theorem fr_n (h : Hp) (a : Int) : (frH h a).n = h.n ∧ (frH h a).m = h.m ∧ (frH h a).b = h.b := by unfold frH; split <;> exact ⟨rfl, rfl, rfl⟩
section
variable {p : Option Addr} {n c : Nat} {q : Option Addr} {m d : Nat} {b : Bool} {h : Hp} {w : World}
theorem rform_in (hh : HpIn w p n c q m d b h) :
    Calls Tryd.prog 14 #[.agg #[.slice p n c, .slice q m d, .bool b]] w fun e w' => e = .returned (.bool (formB h)) ∧ Below w.heap.size w w' := by
  obtain ⟨rfl, rfl, rfl, hh⟩ := hh
  exact rform_any _ _ _ _ _ _ hh
theorem rused_in (hh : HpIn w p n c q m d b h) (hF : formB h = true) :
    Calls Tryd.prog 18 #[.agg #[.slice p n c, .slice q m d, .bool b]] w fun e w' => e = .returned (.int .i64 (usH h)) ∧ Below w.heap.size w w' := by
  obtain ⟨rfl, rfl, rfl, hh⟩ := hh
  exact rused_any _ _ _ _ _ _ hh hF
theorem rfind_in {a : Int} (hh : HpIn w p n c q m d b h) (hF : formB h = true) :
    Calls Tryd.prog 16 #[.agg #[.slice p n c, .slice q m d, .bool b], .int .i64 a] w fun e w' => e = .returned (.tuple #[.int .i64 (fiP h a), .int .i64 (fiI h a), .bool (fiB h a)]) ∧ Below w.heap.size w w' := by
  obtain ⟨rfl, rfl, rfl, hh⟩ := hh
  exact rfind_any _ _ _ _ _ _ _ hh hF
theorem rsame_in {p' : Option Addr} {n' c' : Nat} {q' : Option Addr} {m' d' : Nat} {b' : Bool} {h' : Hp} (hh : HpIn w p n c q m d b h) (hk : HpIn w p' n' c' q' m' d' b' h') :
    Calls Tryd.prog 11 #[.agg #[.slice p n c, .slice q m d, .bool b], .agg #[.slice p' n' c', .slice q' m' d', .bool b']] w fun e w' => e = .returned (.bool (sameH h h')) ∧ Below w.heap.size w w' := by
  obtain ⟨rfl, rfl, rfl, hh⟩ := hh
  obtain ⟨rfl, rfl, rfl, hk⟩ := hk
  exact rsameH_any _ _ _ _ _ _ _ _ _ _ _ hh hk
theorem ropen_in {g k : Int} (hh : HpIn w p n c q m d b h) (hF : formB h = true) :
    Calls Tryd.prog 20 #[.agg #[.slice p n c, .slice q m d, .bool b], .int .i64 g, .int .i64 k] w fun e w' => ∃ p' c' q' d', e = .returned (.tuple #[.agg #[.slice p' n c', .slice q' m d', .bool b], .bool (opB h g k)]) ∧
      HpIn w' p' n c' q' m d' b (opH h g k) ∧ Src w.heap.size (opB h g k) n m p c q d p' c' q' d' ∧ Below w.heap.size w w' := by
  obtain ⟨rfl, rfl, rfl, hh⟩ := hh
  refine Calls.mono (ropen_any _ _ _ _ _ g k _ hh hF) ?_
  rintro e w' ⟨p', c', q', d', rfl, h1, h2, h3⟩
  obtain ⟨a1, a2, a3⟩ := op_n h g k
  exact ⟨p', c', q', d', rfl, ⟨a1.symm, a2.symm, a3.symm, h1⟩, h2, h3⟩
theorem rclose_in {g : Int} (hh : HpIn w p n c q m d b h) (hF : formB h = true) :
    Calls Tryd.prog 22 #[.agg #[.slice p n c, .slice q m d, .bool b], .int .i64 g] w fun e w' => ∃ p' c' q' d', e = .returned (.tuple #[.agg #[.slice p' n c', .slice q' m d', .bool b], .bool (loB h g)]) ∧
      HpIn w' p' n c' q' m d' b (loH h g) ∧ Src w.heap.size (loB h g) n m p c q d p' c' q' d' ∧ Below w.heap.size w w' := by
  obtain ⟨rfl, rfl, rfl, hh⟩ := hh
  refine Calls.mono (rclose_any _ _ _ _ _ g _ hh hF) ?_
  rintro e w' ⟨p', c', q', d', rfl, h1, h2, h3⟩
  obtain ⟨a1, a2, a3⟩ := lo_n h g
  exact ⟨p', c', q', d', rfl, ⟨a1.symm, a2.symm, a3.symm, h1⟩, h2, h3⟩
theorem rfree_in {a : Int} (hh : HpIn w p n c q m d b h) (hF : formB h = true) :
    Calls Tryd.prog 24 #[.agg #[.slice p n c, .slice q m d, .bool b], .int .i64 a] w fun e w' => ∃ p' c' q' d', e = .returned (.tuple #[.agg #[.slice p' n c', .slice q' m d', .bool b], .bool (frB h a)]) ∧
      HpIn w' p' n c' q' m d' b (frH h a) ∧ Src w.heap.size (frB h a) n m p c q d p' c' q' d' ∧ Below w.heap.size w w' := by
  obtain ⟨rfl, rfl, rfl, hh⟩ := hh
  refine Calls.mono (rfree7_any _ _ _ _ _ a _ hh hF) ?_
  rintro e w' ⟨p', c', q', d', rfl, h1, h2, h3⟩
  obtain ⟨a1, a2, a3⟩ := fr_n h a
  exact ⟨p', c', q', d', rfl, ⟨a1.symm, a2.symm, a3.symm, h1⟩, h2, h3⟩
theorem rlay_in {g f : Int} (hh : HpIn w p n c q m d b h) (hF : formB h = true) :
    Calls Tryd.prog 26 #[.agg #[.slice p n c, .slice q m d, .bool b], .int .i64 g, .int .i64 f] w fun e w' => ∃ p' c' q' d', e = .returned (.tuple #[.agg #[.slice p' n c', .slice q' m d', .bool b], .int .i64 (laA h g f), .bool (laB h g f)]) ∧
      HpIn w' p' n c' q' m d' b (laH h g f) ∧ Src w.heap.size (laB h g f) n m p c q d p' c' q' d' ∧ Below w.heap.size w w' := by
  obtain ⟨rfl, rfl, rfl, hh⟩ := hh
  refine Calls.mono (rlay_any _ _ _ _ _ g f _ hh hF) ?_
  rintro e w' ⟨p', c', q', d', rfl, h1, h2, h3⟩
  obtain ⟨a1, a2, a3⟩ := la_n h g f
  exact ⟨p', c', q', d', rfl, ⟨a1.symm, a2.symm, a3.symm, h1⟩, h2, h3⟩
end
/-- The block holds neither row. -/
def Clear (g : Nat) (p q : Option Addr) : Prop := (∀ b off sp, p = some ⟨b, off, sp⟩ → b ≠ g) ∧ ∀ b off sp, q = some ⟨b, off, sp⟩ → b ≠ g
theorem Spans.setCell {w : World} {p : Option Addr} {n : Nat} {s : Nat → Sp} (h : Spans w p n s) {g : Nat} (hg : ∀ b off sp, p = some ⟨b, off, sp⟩ → b ≠ g) (j : Nat) (u : Value) : Spans (w.setCell ⟨g, j, none⟩ u) p n s := fun i hi => by
  obtain ⟨⟨b, off, e, hlt, h0, h1, h2⟩, hw⟩ := h i hi
  have hb := Below.heap_setCell w ⟨g, j, none⟩ u b (hg b off none e)
  exact ⟨⟨b, off, e, by simpa [World.setCell] using hlt, by rw [World.cell?_of_block (w := w) (a := ⟨b, _, none⟩) hb]; exact h0, by rw [World.cell?_of_block (w := w) (a := ⟨b, _, none⟩) hb]; exact h1, by rw [World.cell?_of_block (w := w) (a := ⟨b, _, none⟩) hb]; exact h2⟩, hw⟩
theorem HpIn.setCell {W : World} {p : Option Addr} {n c : Nat} {q : Option Addr} {m d : Nat} {b : Bool} {h : Hp} (hh : HpIn W p n c q m d b h) {g : Nat} (hg : Clear g p q) (j : Nat) (u : Value) : HpIn (W.setCell ⟨g, j, none⟩ u) p n c q m d b h :=
  ⟨hh.n_eq, hh.m_eq, hh.b_eq, ⟨hh.at'.ints.setCell (fun b off e => hg.1 b off none e) j u, hh.at'.spans.setCell hg.2 j u, hh.at'.nle, hh.at'.mle, hh.at'.pnil, hh.at'.qnil⟩⟩
/-- All its rows lie below. -/
def Lower (B : Nat) (p q : Option Addr) : Prop := (∀ b off sp, p = some ⟨b, off, sp⟩ → b < B) ∧ ∀ b off sp, q = some ⟨b, off, sp⟩ → b < B
theorem Src.clear {B : Nat} {ok : Bool} {n m : Nat} {p : Option Addr} {c : Nat} {q : Option Addr} {d : Nat} {p' : Option Addr} {c' : Nat} {q' : Option Addr} {d' : Nat} (s : Src B ok n m p c q d p' c' q' d') {g A : Nat} (hA : Lower A p q) (h1 : A ≤ g) (h2 : g < B) : Clear g p' q' := by
  cases ok with
  | true =>
    obtain ⟨a, b⟩ := s.new rfl
    refine ⟨fun b' off sp e => ?_, fun b' off sp e => ?_⟩
    · have := a b' (by rw [e]; rfl); omega
    · have := b b' (by rw [e]; rfl); omega
  | false =>
    obtain ⟨rfl, -, rfl, -⟩ := s.old rfl
    refine ⟨fun b' off sp e => ?_, fun b' off sp e => ?_⟩
    · have := hA.1 b' off sp e; omega
    · have := hA.2 b' off sp e; omega
theorem HpIn.lower {W : World} {p : Option Addr} {n c : Nat} {q : Option Addr} {m d : Nat} {b : Bool} {h : Hp} (hh : HpIn W p n c q m d b h) (hF : formB h = true) : Lower W.heap.size p q := by
  obtain ⟨m1, -, hn, -⟩ := form_iff.1 hF
  obtain ⟨⟨b1, o1, e1, l1, -⟩, -⟩ := hh.at'.ints 0 (by omega)
  obtain ⟨⟨b2, o2, e2, l2, -⟩, -⟩ := hh.at'.spans 0 (by omega)
  refine ⟨fun b' off sp e => ?_, fun b' off sp e => ?_⟩
  · rw [e1] at e; injection e with e; injection e with e; omega
  · rw [e2] at e; injection e with e; injection e with e; omega
theorem HpIn.stores {W : World} {p : Option Addr} {n c : Nat} {q : Option Addr} {m d : Nat} {b : Bool} {h : Hp} (hh : HpIn W p n c q m d b h) {g : Nat} (hg : Clear g p q) (x y z : Value) :
    HpIn (((W.setCell ⟨g, 0, none⟩ x).setCell ⟨g, 1, none⟩ y).setCell ⟨g, 2, none⟩ z) p n c q m d b h := ((hh.setCell hg 0 x).setCell hg 1 y).setCell hg 2 z
theorem Box3.stores {b : Nat} {x y z : Value} {W : World} (h : Box3 b x y z W) (x' y' z' : Value) : Box3 b x' y' z' (((W.setCell ⟨b, 0, none⟩ x').setCell ⟨b, 1, none⟩ y').setCell ⟨b, 2, none⟩ z') := ((h.store0 x').store1 y').store2 z'
theorem Box3.others {b : Nat} {x y z : Value} {W : World} (h : Box3 b x y z W) {g : Nat} (hg : ¬ g = b) (x' y' z' : Value) : Box3 b x y z (((W.setCell ⟨g, 0, none⟩ x').setCell ⟨g, 1, none⟩ y').setCell ⟨g, 2, none⟩ z') := ((h.other hg 0 x').other hg 1 y').other hg 2 z'
theorem below_stores {W w1 : World} {n : Nat} (hb : Below n W w1) {g : Nat} (hg : n ≤ g) (x y z : Value) : Below n W (((w1.setCell ⟨g, 0, none⟩ x).setCell ⟨g, 1, none⟩ y).setCell ⟨g, 2, none⟩ z) := ((hb.setCell hg x).setCell hg y).setCell hg z
theorem Lower.clear {A : Nat} {p q : Option Addr} (h : Lower A p q) {g : Nat} (hg : A ≤ g) : Clear g p q :=
  ⟨fun b off sp e => by have := h.1 b off sp e; omega, fun b off sp e => by have := h.2 b off sp e; omega⟩
/-- The heap of the other colour. -/
def flipB (h : Hp) : Hp := { h with b := !h.b }
theorem HpIn.flip {W : World} {p : Option Addr} {n c : Nat} {q : Option Addr} {m d : Nat} {b : Bool} {h : Hp} (hh : HpIn W p n c q m d b h) : HpIn W p n c q m d (!b) (flipB h) :=
  ⟨hh.n_eq, hh.m_eq, by rw [hh.b_eq]; rfl, ⟨hh.at'.ints, hh.at'.spans, hh.at'.nle, hh.at'.mle, hh.at'.pnil, hh.at'.qnil⟩⟩
theorem la_z {h : Hp} {g f : Int} (e : laB h g f = true) : (laH h g f).z = putZ (zerZ h.z (laA h g f) (szW (spH h g).cl)) (laA h g f) (hputW true h.b (spH h g).cl f) := by
  have ea : laA h g f = 32 * g + leastW (spH h g).fr * szW (spH h g).cl := by unfold laA; rw [if_pos e]
  rw [ea]; unfold laH; rw [if_pos e]
/-- The cell of a word. -/
theorem HpIn.word {W : World} {p : Option Addr} {n c : Nat} {q : Option Addr} {m d : Nat} {b : Bool} {h : Hp} (hh : HpIn W p n c q m d b h) (h0 : 0 < n) : ∃ g o, p = some ⟨g, o, none⟩ ∧ g < W.heap.size ∧ ∀ i : Int, 0 ≤ i → i < n → W.cell? ⟨g, o + i.toNat, none⟩ = some (.int .u64 (h.z i.toNat)) := by
  have hn := hh.n_eq
  obtain ⟨⟨g, o, e, l, -⟩, -⟩ := hh.at'.ints 0 (by omega)
  refine ⟨g, o, e, l, fun i i0 i1 => ?_⟩
  obtain ⟨⟨g', o', e', -, hc⟩, -⟩ := hh.at'.ints i.toNat (by omega)
  rw [e] at e'
  injection e' with e'
  injection e' with e1 e2
  subst e1 e2
  exact hc
/-- What New answers. -/
def nuB (n : Int) : Bool := decide (1 ≤ n) && decide (n ≤ 16)
def nuH (n : Int) : Hp := if nuB n = true then newH n.toNat else ⟨0, fun _ => 0, 0, fun _ => ⟨0, 0, 0⟩, false⟩
def nuE (n : Int) : Int := if nuB n = true then 0 else 1
theorem nu_yes {n : Int} (h : nuB n = true) : nuH n = newH n.toNat ∧ nuE n = 0 ∧ 1 ≤ n ∧ n ≤ 16 := by
  refine ⟨by unfold nuH; rw [if_pos h], by unfold nuE; rw [if_pos h], ?_⟩
  simpa [nuB] using h
theorem nu_no {n : Int} (h : nuB n = false) : nuH n = ⟨0, fun _ => 0, 0, fun _ => ⟨0, 0, 0⟩, false⟩ ∧ nuE n = 1 := ⟨by unfold nuH; rw [if_neg (by simp [h])], by unfold nuE; rw [if_neg (by simp [h])]⟩
theorem nil_in (W : World) : HpIn W none 0 0 none 0 0 false ⟨0, fun _ => 0, 0, fun _ => ⟨0, 0, 0⟩, false⟩ :=
  ⟨rfl, rfl, rfl, ⟨fun i hi => absurd hi (Nat.not_lt_zero _), fun i hi => absurd hi (Nat.not_lt_zero _), by decide, by decide, fun _ => ⟨rfl, rfl⟩, fun _ => ⟨rfl, rfl⟩⟩⟩
end Go.Proofs.YtjlflbaglaillaaDoor
