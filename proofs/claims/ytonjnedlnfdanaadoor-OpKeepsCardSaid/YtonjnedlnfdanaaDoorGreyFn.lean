/- Rows of objects that are still to be scanned (chapter 13), as data; numbers compared. -/
import Derived.Test.YtonjnedlnfdanaaDoorSameI
import Derived.Deep.Cut
namespace Go.Proofs.YtonjnedlnfdanaaDoor
set_option linter.unusedSimpArgs false
set_option linter.unusedVariables false
open Go.ChangeShapes Go.WideShapes Go.ChangeAt Go.RowKit Go.Joins

/-- What a row's slice reads as. -/
structure GrAt (W : World) (p : Option Addr) (c n : Nat) (z : Nat → Int) : Prop where
  ints : Ints .i64 W p n z
  nle : n ≤ maxLen
  pnil : p = none → n = 0 ∧ c = 0
  ncap : n ≤ c ∧ c ≤ maxLen
theorem GrAt.below {W W' : World} {p : Option Addr} {c n : Nat} {z : Nat → Int} (h : GrAt W p c n z) (hb : Below W.heap.size W W') : GrAt W' p c n z := ⟨h.ints.below hb, h.nle, h.pnil, h.ncap⟩
theorem GrAt.setCell {W : World} {p : Option Addr} {c n : Nat} {z : Nat → Int} (h : GrAt W p c n z) {g : Nat} (hg : ∀ b off, p = some ⟨b, off, none⟩ → b ≠ g) (j : Nat) (u : Value) : GrAt (W.setCell ⟨g, j, none⟩ u) p c n z := ⟨h.ints.setCell hg j u, h.nle, h.pnil, h.ncap⟩
theorem gr_nil (W : World) (z : Nat → Int) : GrAt W none 0 0 z := ⟨fun i hi => by omega, by decide, fun _ => ⟨rfl, rfl⟩, Nat.le_refl _, by decide⟩
theorem gr_owned {W : World} {N : Nat} {p : Option Addr} {c n : Nat} {z : Nat → Int} (h : W.ownsRow N 3 1 (.slice p n c) n (vals .i64 n z)) (hn : n ≤ maxLen) (hw : ∀ i, i < n → (Lit.int .i64 (z i)).wf = true) : GrAt W p c n z where
  ints := ints_owned h hw
  nle := hn
  pnil := fun e => by
    subst e
    rcases h.2 with ⟨hv, h0⟩ | ⟨g, cap', cur, hv, -⟩
    · injection hv with _ _ e; exact ⟨h0, e⟩
    · injection hv with e; cases e
  ncap := by
    rcases h.2 with ⟨hv, h0⟩ | ⟨g, cap', cur, hv, -, -, h1, h2, -⟩
    · injection hv with _ _ e; rw [h0, e]; exact ⟨Nat.le_refl _, by decide⟩
    · injection hv with _ _ e; subst e; exact ⟨h1, h2⟩
section
variable {H : Type} {enc : TypeId × Value → H} {P : Program} {W : World} {base : Nat}
theorem open_grey {t e : TypeId} {f0 f1 : Field} {v : Value} {d : DataW H} {p : List MemPlace}
    (hs : P.underlying t = some (.struct #[f0, f1])) (hone : Go.Deep.oneCellFields P #[f0, f1] = true) (hC : P.cellsOf t = 2) (hu : P.underlying f0.type = some (.int .i64)) (hu' : P.underlying f1.type = some (.slice e)) (he : P.underlying e = some (.int .i64)) (hc : P.cellsOf e = 1)
    (hok : Value.okWide P W .any base t v) (h : DataW.Trod enc P W 0 (fun _ => true) true t v d p) :
    ∃ (r : Int) (q : Option Addr) (n c : Nat) (z : Nat → Int), v = .agg #[.int .i64 r, .slice q n c] ∧ (-9223372036854775808 ≤ r ∧ r ≤ 9223372036854775807) ∧ GrAt W q c n z := by
  obtain ⟨c0, c1, y0, y1, m, rfl, -, -, hy0, hy1⟩ := open_agg2 hs hone hC hok h
  obtain ⟨a, e0, -, wa⟩ := DataW.trod_int hu hy0
  obtain ⟨q, n, c, z, rfl, hn, hz, hq, hc1, hc2⟩ := trod_slice_ints hu' he hc hy1
  simp at e0
  subst e0
  exact ⟨a, q, n, c, z, rfl, wf_i64 wa, hz, hn, hq, hc1, hc2⟩
end
/-- A row that is right. -/
def rightG (r : Int) (n : Nat) (z : Nat → Int) : Bool := decide (0 ≤ r ∧ r ≤ 16 ∧ (n : Int) ≤ r) && decide (∀ i, i < n → 0 ≤ z i)
theorem rightG_iff {r : Int} {n : Nat} {z : Nat → Int} : rightG r n z = true ↔ (0 ≤ r ∧ r ≤ 16 ∧ (n : Int) ≤ r) ∧ ∀ i, i < n → 0 ≤ z i := by simp [rightG]
/-- A number at the end. -/
def pzZ (z : Nat → Int) (n : Nat) (a : Int) : Nat → Int := fun i => if i = n then a else z i
theorem pz_vals (z : Nat → Int) (n : Nat) (a : Int) : vals .i64 n z ++ [.int .i64 a] = vals .i64 (n + 1) (pzZ z n a) := by
  rw [← vals_snoc]
  congr 1
  · exact vals_congr .i64 fun i hi => by unfold pzZ; rw [if_neg (by omega)]
  · unfold pzZ; rw [if_pos rfl]
theorem pz_wf {z : Nat → Int} {n : Nat} {a : Int} (hz : ∀ i, i < n → (Lit.int .i64 (z i)).wf = true) (ha : (Lit.int .i64 a).wf = true) : ∀ i, i < n + 1 → (Lit.int .i64 (pzZ z n a i)).wf = true := fun i hi => by
  unfold pzZ
  split
  · exact ha
  · exact hz i (by omega)
/-- Push: is it done? The row then. -/
def gpB (r : Int) (n : Nat) (a : Int) : Bool := decide (0 ≤ a) && decide ((n : Int) < r)
def gpN (r : Int) (n : Nat) (a : Int) : Nat := if gpB r n a = true then n + 1 else n
def gpZ (r : Int) (n : Nat) (z : Nat → Int) (a : Int) : Nat → Int := if gpB r n a = true then pzZ z n a else z
/-- Pop: the number. -/
def gqX (n : Nat) (z : Nat → Int) : Int := if n = 0 then 0 else z (n - 1)
/-- Rows that are the same. -/
def sameG (r : Int) (n : Nat) (z : Nat → Int) (r' : Int) (n' : Nat) (z' : Nat → Int) : Bool := (r == r') && sameI n z n' z'
theorem sameG_self (r : Int) (n : Nat) (z : Nat → Int) : sameG r n z r n z = true := by simp [sameG, sameI_self]
theorem int_infoG : (Tryd.prog.info? 3).map (fun i => (i.zero, i.size, i.bytes)) = some (some (.int .i64 0), 1, 8) := by kernel_rfl
end Go.Proofs.YtonjnedlnfdanaaDoor
