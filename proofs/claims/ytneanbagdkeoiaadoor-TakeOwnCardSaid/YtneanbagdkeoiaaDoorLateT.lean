/- What Take answers, within a region that draws its order (chapter 11): a heap, caches, two values. -/
import Derived.Test.YtneanbagdkeoiaaDoorLate
import Derived.Test.YtneanbagdkeoiaaDoorTakeIn
namespace Go.Proofs.YtneanbagdkeoiaaDoor
set_option linter.unusedSimpArgs false
set_option linter.unusedVariables false
open Go.ChangeShapes Go.WideShapes Go.ChangeAt Go.RowKit

theorem shapeH_ints {g : Nat} {w : World} {k : IntKind} {p : Option Addr} {n : Nat} {z : Nat → Int} (hs : ShapeH g w) (h : Ints k w p n z) (hn : 0 < n) : ∀ b off sp, p = some ⟨b, off, sp⟩ → b ≠ g := by
  obtain ⟨⟨p', n', c', q', m', d', b', hB⟩, hk⟩ := hs
  obtain ⟨-, k0, k1, k2, -, -, -⟩ := hB
  have hno : ∀ (j : Nat) (kd : IntKind) (x : Int), ¬ w.cell? ⟨g, j, none⟩ = some (.int kd x) := fun j kd x e => by
    match j, e with
    | 0, e => rw [k0] at e; cases e
    | 1, e => rw [k1] at e; cases e
    | 2, e => rw [k2] at e; cases e
    | j + 3, e => rw [hk (j + 3) (by omega)] at e; cases e
  intro b off sp e he
  obtain ⟨⟨b1, off1, e1, -, v⟩, -⟩ := h 0 hn
  rw [e] at e1
  injection e1 with e1
  injection e1 with e1 e2 e3
  subst e1 e2 e3
  subst he
  exact hno _ _ _ v
def HpVE (n m : Nat) (b : Bool) (H : Hp) (E : Option Addr → Nat → Option Addr → Nat → Prop) (v : Value) (w : World) : Prop := ∃ p c q d, v = .agg #[.slice p n c, .slice q m d, .bool b] ∧ HpIn w p n c q m d b H ∧ E p c q d
def RowVE (k : Nat) (Y : Nat → Int) (F : Option Addr → Nat → Prop) (v : Value) (w : World) : Prop := ∃ pc cc, v = .slice pc k cc ∧ Ints .i64 w pc (k * 4) Y ∧ F pc cc
def TookV (n m : Nat) (b : Bool) (H : Hp) (E : Option Addr → Nat → Option Addr → Nat → Prop) (k : Nat) (Y : Nat → Int) (F : Option Addr → Nat → Prop) (t u : Value) (v : Value) (w : World) : Prop :=
  ∃ p c q d pc cc, v = .tuple #[.agg #[.slice p n c, .slice q m d, .bool b], .slice pc k cc, t, u] ∧ HpIn w p n c q m d b H ∧ E p c q d ∧ Ints .i64 w pc (k * 4) Y ∧ F pc cc
def FullHE (n m : Nat) (b : Bool) (H : Hp) (E : Option Addr → Nat → Option Addr → Nat → Prop) (g : Nat) (w : World) : Prop := ∃ p c q d, Box3 g (.slice p n c) (.slice q m d) (.bool b) w ∧ HpIn w p n c q m d b H ∧ E p c q d
section
variable {n m k : Nat} {b : Bool} {H : Hp} {E : Option Addr → Nat → Option Addr → Nat → Prop} {Y : Nat → Int} {F : Option Addr → Nat → Prop} {t u v : Value} {w w' : World}
theorem HpVE.below (h : HpVE n m b H E v w) (hb : Below w.heap.size w w') : HpVE n m b H E v w' := by
  obtain ⟨p, c, q, d, e, h, r⟩ := h
  exact ⟨p, c, q, d, e, h.below hb, r⟩
theorem RowVE.below (h : RowVE k Y F v w) (hb : Below w.heap.size w w') : RowVE k Y F v w' := by
  obtain ⟨p, c, e, h, r⟩ := h
  exact ⟨p, c, e, h.below hb, r⟩
theorem TookV.below (h : TookV n m b H E k Y F t u v w) (hb : Below w.heap.size w w') : TookV n m b H E k Y F t u v w' := by
  obtain ⟨p, c, q, d, pc, cc, e, h, r, i, f⟩ := h
  exact ⟨p, c, q, d, pc, cc, e, h.below hb, r, i.below hb, f⟩
theorem fullHE_below (g : Nat) (w w' : World) (h : FullHE n m b H E g w) (hb : Below w.heap.size w w') : FullHE n m b H E g w' := by
  obtain ⟨p, c, q, d, e, h, r⟩ := h
  exact ⟨p, c, q, d, e.below hb, h.below hb, r⟩
theorem Ints.stores {kd : IntKind} {p : Option Addr} {n : Nat} {z : Nat → Int} (h : Ints kd w p n z) {g : Nat} (hg : ∀ b off sp, p = some ⟨b, off, sp⟩ → b ≠ g) (y0 y1 y2 : Value) : Ints kd (puts3 g y0 y1 y2 w) p n z := by
  unfold puts3
  exact ((h.setCell (fun b off e => hg b off none e) 0 y0).setCell (fun b off e => hg b off none e) 1 y1).setCell (fun b off e => hg b off none e) 2 y2
theorem HpVE.puts (h : HpVE n m b H E v w) {g : Nat} (hs : ShapeH g w) (hn : 0 < n) (hm : 0 < m) (y0 y1 y2 : Value) : HpVE n m b H E v (puts3 g y0 y1 y2 w) := by
  obtain ⟨p, c, q, d, e, h, r⟩ := h
  exact ⟨p, c, q, d, e, h.stores (shapeH_clear hs h hn hm) _ _ _, r⟩
theorem RowVE.puts (h : RowVE k Y F v w) {g : Nat} (hs : ShapeH g w) (hk : 0 < k) (y0 y1 y2 : Value) : RowVE k Y F v (puts3 g y0 y1 y2 w) := by
  obtain ⟨p, c, e, h, r⟩ := h
  exact ⟨p, c, e, h.stores (shapeH_ints hs h (by omega)) _ _ _, r⟩
theorem TookV.puts (h : TookV n m b H E k Y F t u v w) {g : Nat} (hs : ShapeH g w) (hn : 0 < n) (hm : 0 < m) (hk : 0 < k) (y0 y1 y2 : Value) : TookV n m b H E k Y F t u v (puts3 g y0 y1 y2 w) := by
  obtain ⟨p, c, q, d, pc, cc, e, h, r, i, f⟩ := h
  exact ⟨p, c, q, d, pc, cc, e, h.stores (shapeH_clear hs h hn hm) _ _ _, r, i.stores (shapeH_ints hs i (by omega)) _ _ _, f⟩
end
theorem Src.mono {A B : Nat} {ok : Bool} {n m : Nat} {p : Option Addr} {c : Nat} {q : Option Addr} {d : Nat} {p' : Option Addr} {c' : Nat} {q' : Option Addr} {d' : Nat} (s : Src B ok n m p c q d p' c' q' d') (h : A ≤ B) : Src A ok n m p c q d p' c' q' d' :=
  ⟨fun e => ⟨fun b hb => Nat.le_trans h ((s.new e).1 b hb), fun b hb => Nat.le_trans h ((s.new e).2 b hb)⟩, s.old⟩
/-- Whence the answered caches are. -/
def CSrc (B : Nat) (ok : Bool) (k : Nat) (pc : Option Addr) (cc : Nat) (pc' : Option Addr) (cc' : Nat) : Prop := (pc' = none → k = 0 ∧ cc' = 0) ∧ (ok = true → NewV B (.slice pc' k cc')) ∧ (ok = false → pc' = pc ∧ cc' = cc)
end Go.Proofs.YtneanbagdkeoiaaDoor
