/- Regions that draw their order and lay a variable of a heap (XLate): heaps that calls answer. -/
import Derived.Test.YtmbgodncagjncaaDoorB07
import Derived.Test.YtmbgodncagjncaaDoorB18
import Derived.Test.YtmbgodncagjncaaDoorB09
import Derived.Deep.Cut
namespace Go.Proofs.YtmbgodncagjncaaDoor
set_option linter.unusedSimpArgs false
set_option linter.unusedVariables false
open Go.ChangeShapes Go.WideShapes Go.ChangeAt Go.RowKit

/-! A variable of a heap, told apart from a heap's rows by what its cells hold. -/
def ShapeH (g : Nat) (w : World) : Prop := (∃ p n c q m d b, Box3 g (.slice p n c) (.slice q m d) (.bool b) w) ∧ ∀ k, 3 ≤ k → w.cell? ⟨g, k, none⟩ = none
theorem shapeH_clear {g : Nat} {w : World} {p : Option Addr} {n c : Nat} {q : Option Addr} {m d : Nat} {b : Bool} {h : Hp} (hs : ShapeH g w) (hh : HpIn w p n c q m d b h) (hn : 0 < n) (hm : 0 < m) : Clear g p q := by
  obtain ⟨⟨p', n', c', q', m', d', b', hB⟩, hk⟩ := hs
  obtain ⟨-, k0, k1, k2, -, -, -⟩ := hB
  obtain ⟨rfl, rfl, rfl, hat⟩ := hh
  have hno : ∀ (k : Nat) (kd : IntKind) (x : Int), ¬ w.cell? ⟨g, k, none⟩ = some (.int kd x) := fun k kd x e => by
    match k, e with
    | 0, e => rw [k0] at e; cases e
    | 1, e => rw [k1] at e; cases e
    | 2, e => rw [k2] at e; cases e
    | k + 3, e => rw [hk (k + 3) (by omega)] at e; cases e
  constructor
  · intro b off sp e he
    obtain ⟨⟨b1, off1, e1, -, v⟩, -⟩ := hat.ints 0 hn
    rw [e] at e1
    injection e1 with e1
    injection e1 with e1 e2 e3
    subst e1 e2 e3
    subst he
    exact hno _ _ _ v
  · intro b off sp e he
    obtain ⟨⟨b1, off1, e1, -, v, -, -⟩, -⟩ := hat.spans 0 hm
    rw [e] at e1
    injection e1 with e1
    injection e1 with e1 e2 e3
    subst e1 e2 e3
    subst he
    exact hno _ _ _ v
/-- A heap that a call answers, as data. -/
def HpV (n m : Nat) (b : Bool) (H : Hp) (v : Value) (w : World) : Prop := ∃ p c q d, v = .agg #[.slice p n c, .slice q m d, .bool b] ∧ HpIn w p n c q m d b H
def HpT (n m : Nat) (b : Bool) (H : Hp) (t : Value) (v : Value) (w : World) : Prop := ∃ p c q d, v = .tuple #[.agg #[.slice p n c, .slice q m d, .bool b], t] ∧ HpIn w p n c q m d b H
theorem HpV.below {n m : Nat} {b : Bool} {H : Hp} {v : Value} {w w' : World} (h : HpV n m b H v w) (hb : Below w.heap.size w w') : HpV n m b H v w' := by
  obtain ⟨p, c, q, d, e, h⟩ := h
  exact ⟨p, c, q, d, e, h.below hb⟩
theorem HpT.below {n m : Nat} {b : Bool} {H : Hp} {t v : Value} {w w' : World} (h : HpT n m b H t v w) (hb : Below w.heap.size w w') : HpT n m b H t v w' := by
  obtain ⟨p, c, q, d, e, h⟩ := h
  exact ⟨p, c, q, d, e, h.below hb⟩
theorem HpV.puts {n m : Nat} {b : Bool} {H : Hp} {v : Value} {w : World} (h : HpV n m b H v w) {g : Nat} (hs : ShapeH g w) (hn : 0 < n) (hm : 0 < m) (y0 y1 y2 : Value) : HpV n m b H v (puts3 g y0 y1 y2 w) := by
  obtain ⟨p, c, q, d, e, h⟩ := h
  exact ⟨p, c, q, d, e, h.stores (shapeH_clear hs h hn hm) _ _ _⟩
theorem HpT.puts {n m : Nat} {b : Bool} {H : Hp} {t v : Value} {w : World} (h : HpT n m b H t v w) {g : Nat} (hs : ShapeH g w) (hn : 0 < n) (hm : 0 < m) (y0 y1 y2 : Value) : HpT n m b H t v (puts3 g y0 y1 y2 w) := by
  obtain ⟨p, c, q, d, e, h⟩ := h
  exact ⟨p, c, q, d, e, h.stores (shapeH_clear hs h hn hm) _ _ _⟩
end Go.Proofs.YtmbgodncagjncaaDoor
namespace Go.Proofs.YtmbgodncagjncaaDoor
set_option linter.unusedSimpArgs false
set_option linter.unusedVariables false
open Go.ChangeShapes Go.WideShapes Go.ChangeAt Go.RowKit Go.Joins

def sameI (n : Nat) (z : Nat → Int) (m : Nat) (y : Nat → Int) : Bool := decide (n = m ∧ ∀ i, i < n → z i = y i)
theorem sameI_self (n : Nat) (z : Nat → Int) : sameI n z n z = true := by simp [sameI]
set_option maxHeartbeats 1000000 in
theorem rintsG_any (p q : Option Addr) (n cap m cap' : Nat) (z y : Nat → Int) (w : World) (hz : Ints .i64 w p n z) (hy : Ints .i64 w q m y) (hn : n ≤ maxLen) (hm : m ≤ maxLen) :
    Calls Tryd.prog 15 #[.slice p n cap, .slice q m cap'] w fun e w' => e = .returned (.bool (sameI n z m y)) ∧ Below w.heap.size w w' := by
  simp only [maxLen] at hn hm
  by_cases hnm : n = m
  · subst hnm
    go_enter Tryd.func15, Tryd.ntmps15
    go_wp2
    go_loopg [5] n (fun g jv wr => ∃ j : Int, 0 ≤ j ∧ j ≤ n ∧ g = (n - j).toNat ∧ jv = .int .i64 j ∧ (∀ t : Nat, t < j → z t = y t) ∧ Below w.heap.size w wr)
    case atStart => exact ⟨0, by omega, by omega, by omega, rfl, fun t ht => by omega, Below.refl _ _⟩
    case round =>
      obtain ⟨j, jl, jh, rfl, rfl, hall, hbw⟩ := hrel
      by_cases hj : j < n
      · obtain ⟨⟨b, off, rfl, hlt, hcell⟩, hwf⟩ := (hz.below hbw) j.toNat (by omega)
        obtain ⟨⟨b', off', rfl, hlt', hcell'⟩, hwf'⟩ := (hy.below hbw) j.toNat (by omega)
        by_cases e : z j.toNat = y j.toNat
        · go_wp2
          go_region
          all_goals
            go_wp2
            go_roundg ((n : Int) - (j + 1)).toNat
            case measure => omega
            case rel => exact ⟨j + 1, by omega, by omega, rfl, rfl, fun t ht => by
              by_cases ht' : (t : Int) < j
              · exact hall t ht'
              · obtain rfl : t = j.toNat := by omega
                exact e, by go_grown⟩
        · have e' : sameI n z n y = false := by
            simp only [sameI, decide_eq_false_iff_not]
            exact fun h => e (h.2 _ (by omega))
          go_wp2
          go_region
          all_goals
            go_wp2
            go_returns
            exact ⟨ret_bool (by simp [e']), by go_grown⟩
      · have e' : sameI n z n y = true := by
          simp only [sameI, decide_eq_true_eq]
          exact ⟨trivial, fun t ht => hall t (by omega)⟩
        go_wp2
        go_returns
        exact ⟨ret_bool (by simp [e']), by go_grown⟩
  · have e' : sameI n z m y = false := by simp [sameI, hnm]
    have hnm' : ¬ (n : Int) = m := by omega
    go_enter Tryd.func15, Tryd.ntmps15
    go_wp2
    go_returns
    exact ⟨ret_bool (by simp [e']), by go_grown⟩
end Go.Proofs.YtmbgodncagjncaaDoor
namespace Go.Proofs.YtmbgodncagjncaaDoor
set_option linter.unusedSimpArgs false
set_option linter.unusedVariables false
open Go.ChangeShapes Go.WideShapes Go.ChangeAt Go.RowKit Go.Joins

/-- What a row's slice reads as. -/
structure GrAt (W : World) (p : Option Addr) (c n : Nat) (z : Nat → Int) : Prop where
  ints : Ints .i64 W p n z
  nle : n ≤ maxLen
  pnil : p = none → n = 0 ∧ c = 0
  ncap : n ≤ c ∧ c ≤ maxLen
theorem GrAt.below {W W' : World} {p : Option Addr} {c n : Nat} {z : Nat → Int} (h : GrAt W p c n z) (hb : Below W.heap.size W W') : GrAt W' p c n z := ⟨h.ints.below hb, h.nle, h.pnil, h.ncap⟩
theorem GrAt.setCell {W : World} {p : Option Addr} {c n : Nat} {z : Nat → Int} (h : GrAt W p c n z) {g : Nat} (hg : ∀ b off, p = some ⟨b, off, none⟩ → b ≠ g) (j : Nat) (u : Value) : GrAt (W.setCell ⟨g, j, none⟩ u) p c n z := ⟨h.ints.setCell hg j u, h.nle, h.pnil, h.ncap⟩
theorem gr_nil (W : World) (z : Nat → Int) : GrAt W none 0 0 z := ⟨fun i hi => by omega, by decide, fun _ => ⟨rfl, rfl⟩, Nat.le_refl _, by decide⟩
section
variable {H : Type} {enc : TypeId × Value → H} {P : Program} {W : World} {base : Nat}
end
/-- A row that is right. -/
def rightG (r : Int) (n : Nat) (z : Nat → Int) : Bool := decide (0 ≤ r ∧ r ≤ 16 ∧ (n : Int) ≤ r) && decide (∀ i, i < n → 0 ≤ z i)
/-- A number at the end. -/
def pzZ (z : Nat → Int) (n : Nat) (a : Int) : Nat → Int := fun i => if i = n then a else z i
/-- Push: is it done? The row then. -/
def gpB (r : Int) (n : Nat) (a : Int) : Bool := decide (0 ≤ a) && decide ((n : Int) < r)
def gpN (r : Int) (n : Nat) (a : Int) : Nat := if gpB r n a = true then n + 1 else n
def gpZ (r : Int) (n : Nat) (z : Nat → Int) (a : Int) : Nat → Int := if gpB r n a = true then pzZ z n a else z
/-- Rows that are the same. -/
def sameG (r : Int) (n : Nat) (z : Nat → Int) (r' : Int) (n' : Nat) (z' : Nat → Int) : Bool := (r == r') && sameI n z n' z'
theorem sameG_self (r : Int) (n : Nat) (z : Nat → Int) : sameG r n z r n z = true := by simp [sameG, sameI_self]
theorem int_infoG : (Tryd.prog.info? 3).map (fun i => (i.zero, i.size, i.bytes)) = some (some (.int .i64 0), 1, 8) := by kernel_rfl
end Go.Proofs.YtmbgodncagjncaaDoor
namespace Go.Proofs.YtmbgodncagjncaaDoor
set_option linter.unusedSimpArgs false
set_option linter.unusedVariables false
open Go.ChangeShapes Go.WideShapes Go.ChangeAt Go.RowKit Go.Joins

theorem GrAt.of_block {w w' : World} {p : Option Addr} {c n : Nat} {z : Nat → Int} (h : GrAt w p c n z) (hl : w.heap.size ≤ w'.heap.size) (e : 0 < n → ∀ b off sp, p = some ⟨b, off, sp⟩ → w'.heap[b]? = w.heap[b]?) : GrAt w' p c n z := ⟨h.ints.of_block hl e, h.nle, h.pnil, h.ncap⟩
theorem GrAt.putsL {w : World} {p : Option Addr} {c n : Nat} {z : Nat → Int} (h : GrAt w p c n z) {N : Nat} {T : TypeId} (ht : NoTag N T n p w) {m g : Nat} (hs : ShapeT T m g w) (hg : N ≤ g) (xs : List Value) : GrAt (putsL g 0 xs w) p c n z :=
  h.of_block (by rw [putsL_size]; exact Nat.le_refl _) fun h0 b off sp e => putsL_other (ht.ne hs hg h0 e) xs 0 w
/-- A row that a call answers, as data: N the heap's size ahead, T the variable's type. -/
def GreyA (N : Nat) (T : TypeId) (K : Int) (n : Nat) (z : Nat → Int) (v : Value) (w : World) : Prop := ∃ p c, v = .agg #[.int .i64 K, .slice p n c] ∧ GrAt w p c n z ∧ NoTag N T n p w
def GreyT (N : Nat) (T : TypeId) (K : Int) (n : Nat) (z : Nat → Int) (ts : List Value) (v : Value) (w : World) : Prop := ∃ p c, v = .tuple (#[.agg #[.int .i64 K, .slice p n c]] ++ ts.toArray) ∧ GrAt w p c n z ∧ NoTag N T n p w
theorem GreyA.below {N : Nat} {T : TypeId} {K : Int} {n : Nat} {z : Nat → Int} {v : Value} {w w' : World} (h : GreyA N T K n z v w) (hb : Below w.heap.size w w') : GreyA N T K n z v w' := by
  obtain ⟨p, c, e, h, ht⟩ := h
  exact ⟨p, c, e, h.below hb, ht.below hb⟩
theorem GreyT.below {N : Nat} {T : TypeId} {K : Int} {n : Nat} {z : Nat → Int} {ts : List Value} {v : Value} {w w' : World} (h : GreyT N T K n z ts v w) (hb : Below w.heap.size w w') : GreyT N T K n z ts v w' := by
  obtain ⟨p, c, e, h, ht⟩ := h
  exact ⟨p, c, e, h.below hb, ht.below hb⟩
theorem GreyA.puts {N : Nat} {T : TypeId} {K : Int} {n : Nat} {z : Nat → Int} {v : Value} {w : World} (h : GreyA N T K n z v w) {m g : Nat} (hs : ShapeT T m g w) (hg : N ≤ g) (xs : List Value) : GreyA N T K n z v (putsL g 0 xs w) := by
  obtain ⟨p, c, e, h, ht⟩ := h
  exact ⟨p, c, e, h.putsL ht hs hg xs, ht.puts hs hg xs⟩
theorem GreyT.puts {N : Nat} {T : TypeId} {K : Int} {n : Nat} {z : Nat → Int} {ts : List Value} {v : Value} {w : World} (h : GreyT N T K n z ts v w) {m g : Nat} (hs : ShapeT T m g w) (hg : N ≤ g) (xs : List Value) : GreyT N T K n z ts v (putsL g 0 xs w) := by
  obtain ⟨p, c, e, h, ht⟩ := h
  exact ⟨p, c, e, h.putsL ht hs hg xs, ht.puts hs hg xs⟩
end Go.Proofs.YtmbgodncagjncaaDoor
