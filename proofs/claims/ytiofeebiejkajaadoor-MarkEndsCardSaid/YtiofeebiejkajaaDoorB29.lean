/- Append of a row of whatever elements, be it nil or not, to an own row. -/
import Derived.Test.YtiofeebiejkajaaDoorB23
import Derived.Test.YtiofeebiejkajaaDoorB24
import Derived.Test.YtiofeebiejkajaaDoorB27
import Derived.Test.YtiofeebiejkajaaDoorB25
namespace Go.Proofs.YtiofeebiejkajaaDoor
set_option linter.unusedSimpArgs false
set_option linter.unusedVariables false
open Go.ChangeShapes Go.WideShapes Go.ChangeAt Go.RowKit

theorem wpList_append_row {P : Program} {w : World} {ops : Array Oper} {rest : List Oper} {o : Oper} {a : Act} {Q : Exit → Act → World → Prop} (hgd : o.guard = none) (s x : Operand) (t : TypeId)
    (ho : o.op = .call { callee := .builtin .append, args := #[s, x], argTypes := #[t, t] })
    (base : Nat) (e : TypeId) (i : TypeInfo) (z0 : Value) (size bytes : Nat) (ht : P.underlying t = some (.slice e)) (hi : P.info? e = some i) (hz : i.zero = some z0) (hsize : i.size = size) (hby : i.bytes = bytes) (hzs : z0.cells.size = size) (hsz : 0 < size)
    (v : Value) (m : Nat) (xs : List Value) (hs : a.eval s = v) (hown : w.ownsRow base e size v m xs)
    (p : Option Addr) (n cap : Nat) (ys : List Value) (hx : a.eval x = .slice p n cap) (hl : ys.length = n * size) (hcells : ∀ ad, p = some ad → ∀ j u, ys[j]? = some u → w.cell? (ad.add j) = some u) (h1 : ∀ u ∈ ys, u.oneCell' = true) (hq : p = none → n = 0 ∧ cap = 0)
    (h63 : m + n ≤ maxLen) (hbytes : (m + n) * bytes ≤ 140737488355328) (hbase : base ≤ w.heap.size)
    (h : ∀ v' w', w'.ownsRow base e size v' (m + n) (xs ++ ys) → w.grownBy w' v.ownBlock → wpList P ops Q rest (a.put o.dst v') w') : wpList P ops Q (o :: rest) a w := by
  cases p with
  | none =>
    obtain ⟨rfl, rfl⟩ := hq rfl
    obtain rfl : ys = [] := List.eq_nil_of_length_eq_zero (by omega)
    exact wpList_append_own_none hgd s x t ho base e i size ht hi v m xs hs hown hx (h v w (by simpa using hown) (World.grownBy.refl _ _))
  | some ad =>
    exact wpList_append_own _ hgd s x t ho base e i z0 size bytes ht hi hz hsize hby hzs hsz v m xs hs hown ad n cap ys hx hl (hcells ad rfl) h1 h63 hbytes hbase (fun v' w' h1 h2 _ => h v' w' h1 h2)
end Go.Proofs.YtiofeebiejkajaaDoor
namespace Go.Proofs.YtiofeebiejkajaaDoor
set_option linter.unusedSimpArgs false
set_option linter.unusedVariables false
open Go.ChangeShapes Go.WideShapes Go.ChangeAt Go.RowKit Go.Joins

set_option maxHeartbeats 1000000 in
theorem rgright_any (r : Int) (p : Option Addr) (n c : Nat) (z : Nat → Int) (w : World) (hz : GrAt w p c n z) :
    Calls Tryd.prog 37 #[.agg #[.int .i64 r, .slice p n c]] w fun e w' => e = .returned (.bool (rightG r n z)) ∧ Below w.heap.size w w' := by
  by_cases h0 : r < 0
  · have e : rightG r n z = false := by simp [rightG]; omega
    rw [e]
    go_enter Tryd.func37, Tryd.ntmps37
    go_wp2
    go_returns
    exact ⟨rfl, by go_grown⟩
  by_cases h1 : 16 < r
  · have e : rightG r n z = false := by simp [rightG]; omega
    rw [e]
    go_enter Tryd.func37, Tryd.ntmps37
    go_wp2
    go_returns
    exact ⟨rfl, by go_grown⟩
  by_cases h2 : r < n
  · have e : rightG r n z = false := by simp [rightG]; omega
    rw [e]
    go_enter Tryd.func37, Tryd.ntmps37
    go_wp2
    go_returns
    exact ⟨rfl, by go_grown⟩
  obtain ⟨w0, hw0⟩ : ∃ w0, w0 = w.alloc (.cells #[.int .i64 r, .slice p n c] 28) := ⟨_, rfl⟩
  have hB0 : Below w.heap.size w w0 := by rw [hw0]; exact (Below.refl _ _).alloc (Nat.le_refl _) _
  have g2 : w.heap.size < w0.heap.size ∧ w0.cell? ⟨w.heap.size, 0, none⟩ = some (.int .i64 r) ∧ w0.cell? ⟨w.heap.size, 1, none⟩ = some (.slice p n c) := by rw [hw0]; simp [go_sem]
  have hin := hz.ints.below hB0
  obtain ⟨l0, x0, x1⟩ := g2
  go_enter Tryd.func37, Tryd.ntmps37
  go_upto_region 1 with fail
  rw [← hw0]
  clear hw0
  go_wp2
  go_loopg [3] n (fun g iv wr => ∃ i : Nat, i ≤ n ∧ g = n - i ∧ iv = .int .i64 i ∧ (∀ j, j < i → 0 ≤ z j) ∧ Below w0.heap.size w0 wr)
  case atStart => exact ⟨0, by omega, by omega, rfl, fun j hj => absurd hj (Nat.not_lt_zero _), Below.refl _ _⟩
  case round =>
    obtain ⟨i, ih, rfl, rfl, hall, hbw⟩ := hrel
    have x1' := (hbw.cell (p := ⟨w.heap.size, 1, none⟩) l0).trans x1
    by_cases hi : i < n
    · obtain ⟨⟨b, off, rfl, hlt, v0⟩, -⟩ := (hin.below hbw) i hi
      by_cases e : 0 ≤ z i
      · have hnx : Hid (∀ j, j < i + 1 → 0 ≤ z j) := fun j hj => by
          by_cases e' : j = i
          · subst e'; exact e
          · exact hall j (by omega)
        clear hall
        generalize z i = x at *
        go_wp2
        go_roundg (n - (i + 1))
        case measure => omega
        case rel => exact ⟨i + 1, by omega, rfl, by go_num, hnx.out, hbw⟩
      · have hno : Hid (rightG r n z = false) := by
          show rightG r n z = false
          simp only [rightG, Bool.and_eq_false_iff, decide_eq_false_iff_not]
          exact .inr fun h => e (h i hi)
        clear hall
        generalize z i = x at *
        go_wp2
        go_returns
        exact ⟨ret_bool hno.out.symm, bjoin hbw hB0⟩
    · obtain rfl : i = n := by omega
      have hyes : Hid (rightG r i z = true) := rightG_iff.2 ⟨by omega, hall⟩
      clear hall
      go_wp2
      go_returns
      exact ⟨ret_bool hyes.out.symm, bjoin hbw hB0⟩
/-- A box of two cells that holds a row. -/
theorem boxed2g {w : World} {v0 v1 u0 u1 : Value} {t : TypeId} : ∃ w0, w0 = (w.alloc (.cells #[v0, v1] t)).alloc (.cells #[u0, u1] t) ∧ (w.heap.size < w0.heap.size ∧ w0.cell? ⟨w.heap.size, 0, none⟩ = some v0 ∧ w0.cell? ⟨w.heap.size, 1, none⟩ = some v1) ∧ (w.heap.size + 1 < w0.heap.size ∧ w0.cell? ⟨w.heap.size + 1, 0, none⟩ = some u0 ∧ w0.cell? ⟨w.heap.size + 1, 1, none⟩ = some u1 ∧ w0.frozen? ⟨w.heap.size + 1, 0, none⟩ = false ∧ w0.frozen? ⟨w.heap.size + 1, 1, none⟩ = false) ∧ Below w.heap.size w w0 := by
  refine ⟨_, rfl, ?_, ?_, ((Below.refl _ _).alloc (Nat.le_refl _) _).alloc (by simp) _⟩
  · have h1 := heap_alloc_new w (.cells #[v0, v1] t)
    refine ⟨by simp; omega, ?_, ?_⟩
    · exact (((Below.refl _ _).alloc (Nat.le_refl _) _).cell (p := ⟨w.heap.size, 0, none⟩) (by simp)).trans (cell_of_row _ _ _ _ _ _ h1)
    · exact (((Below.refl _ _).alloc (Nat.le_refl _) _).cell (p := ⟨w.heap.size, 1, none⟩) (by simp)).trans (cell_of_row _ _ _ _ _ _ h1)
  · have h1 := heap_alloc_new (w.alloc (.cells #[v0, v1] t)) (.cells #[u0, u1] t)
    rw [World.size_alloc] at h1
    exact ⟨by simp, cell_of_row _ _ _ _ _ _ h1, cell_of_row _ _ _ _ _ _ h1, frozen_of_row _ _ _ _ _ h1, frozen_of_row _ _ _ _ _ h1⟩
end Go.Proofs.YtiofeebiejkajaaDoor
namespace Go.Proofs.YtiofeebiejkajaaDoor
set_option linter.unusedSimpArgs false
set_option linter.unusedVariables false
open Go.ChangeShapes Go.WideShapes Go.ChangeAt Go.RowKit Go.Joins

theorem form_room {h : Hp} (hF : formB h = true) : 32 ≤ h.n ∧ 0 < h.m ∧ h.n ≤ 512 := by
  have := form_iff.1 hF
  omega
theorem sh_no {r : Int} {s : Sd} {v : Vl} (e : shB s.h v = false) : sdS r s v = s := by unfold sdS; rw [if_neg (by simp [e])]
theorem sh_yes {r : Int} {s : Sd} {v : Vl} (e : shB s.h v = true) : sdS r s v = ⟨paH s.h v.n, gpN r s.n v.n, gpZ r s.n s.z v.n, s.o || !gpB r s.n v.n⟩ := by unfold sdS; rw [if_pos e]
theorem tbox_five {w w0 : World} {x1 x2 x3 x4 x5 : Array Value} {t1 t2 t3 t4 t5 : TypeId} (e : w0 = ((((w.alloc (.cells x1 t1)).alloc (.cells x2 t2)).alloc (.cells x3 t3)).alloc (.cells x4 t4)).alloc (.cells x5 t5)) :
    TBox t1 w.heap.size x1 w0 ∧ TBox t2 (w.heap.size + 1) x2 w0 ∧ TBox t3 (w.heap.size + 1 + 1) x3 w0 ∧ TBox t4 (w.heap.size + 1 + 1 + 1) x4 w0 ∧ TBox t5 (w.heap.size + 1 + 1 + 1 + 1) x5 w0 ∧ Below w.heap.size w w0 := by
  have ba : ∀ (W : World) (o : Obj), Below W.heap.size W (W.alloc o) := fun W o => (Below.refl _ _).alloc (Nat.le_refl _) _
  have sz : ∀ (W : World) (o : Obj), (W.alloc o).heap.size = W.heap.size + 1 := fun W o => by simp
  have b1 := ba w (.cells x1 t1)
  have n1 := TBox.new t1 w x1
  have s1 := sz w (.cells x1 t1)
  generalize w.alloc (.cells x1 t1) = w1 at *
  have b2 := ba w1 (.cells x2 t2)
  have n2 := TBox.new t2 w1 x2
  have s2 := sz w1 (.cells x2 t2)
  generalize w1.alloc (.cells x2 t2) = w2 at *
  have b3 := ba w2 (.cells x3 t3)
  have n3 := TBox.new t3 w2 x3
  have s3 := sz w2 (.cells x3 t3)
  generalize w2.alloc (.cells x3 t3) = w3 at *
  have b4 := ba w3 (.cells x4 t4)
  have n4 := TBox.new t4 w3 x4
  have s4 := sz w3 (.cells x4 t4)
  generalize w3.alloc (.cells x4 t4) = w4 at *
  have b5 := ba w4 (.cells x5 t5)
  have n5 := TBox.new t5 w4 x5
  rw [← e] at b5 n5
  rw [s1] at n2
  rw [show w2.heap.size = w.heap.size + 1 + 1 by omega] at n3
  rw [show w3.heap.size = w.heap.size + 1 + 1 + 1 by omega] at n4
  rw [show w4.heap.size = w.heap.size + 1 + 1 + 1 + 1 by omega] at n5
  exact ⟨(((n1.below b2).below b3).below b4).below b5, ((n2.below b3).below b4).below b5, (n3.below b4).below b5, n4.below b5, n5, bjoin b5 (bjoin b4 (bjoin b3 (bjoin b2 b1)))⟩
theorem below_st5 {w W : World} {B B' : Nat} (hb : Below w.heap.size w W) (h1 : w.heap.size ≤ B) (h2 : w.heap.size ≤ B') (a b c x y : Value) : Below w.heap.size w (((((W.setCell ⟨B, 0, none⟩ a).setCell ⟨B, 1, none⟩ b).setCell ⟨B, 2, none⟩ c).setCell ⟨B', 0, none⟩ x).setCell ⟨B', 1, none⟩ y) :=
  ((((hb.setCell (p := ⟨B, 0, none⟩) h1 a).setCell (p := ⟨B, 1, none⟩) h1 b).setCell (p := ⟨B, 2, none⟩) h1 c).setCell (p := ⟨B', 0, none⟩) h2 x).setCell (p := ⟨B', 1, none⟩) h2 y
theorem tbox_four {w w0 : World} {x1 x2 x3 x4 : Array Value} {t1 t2 t3 t4 : TypeId} (e : w0 = (((w.alloc (.cells x1 t1)).alloc (.cells x2 t2)).alloc (.cells x3 t3)).alloc (.cells x4 t4)) :
    TBox t1 w.heap.size x1 w0 ∧ TBox t2 (w.heap.size + 1) x2 w0 ∧ TBox t3 (w.heap.size + 1 + 1) x3 w0 ∧ TBox t4 (w.heap.size + 1 + 1 + 1) x4 w0 ∧ Below w.heap.size w w0 := by
  have ba : ∀ (W : World) (o : Obj), Below W.heap.size W (W.alloc o) := fun W o => (Below.refl _ _).alloc (Nat.le_refl _) _
  have sz : ∀ (W : World) (o : Obj), (W.alloc o).heap.size = W.heap.size + 1 := fun W o => by simp
  have b1 := ba w (.cells x1 t1)
  have n1 := TBox.new t1 w x1
  have s1 := sz w (.cells x1 t1)
  generalize w.alloc (.cells x1 t1) = w1 at *
  have b2 := ba w1 (.cells x2 t2)
  have n2 := TBox.new t2 w1 x2
  have s2 := sz w1 (.cells x2 t2)
  generalize w1.alloc (.cells x2 t2) = w2 at *
  have b3 := ba w2 (.cells x3 t3)
  have n3 := TBox.new t3 w2 x3
  have s3 := sz w2 (.cells x3 t3)
  generalize w2.alloc (.cells x3 t3) = w3 at *
  have b4 := ba w3 (.cells x4 t4)
  have n4 := TBox.new t4 w3 x4
  rw [← e] at b4 n4
  rw [s1] at n2
  rw [show w2.heap.size = w.heap.size + 1 + 1 by omega] at n3
  rw [show w3.heap.size = w.heap.size + 1 + 1 + 1 by omega] at n4
  exact ⟨((n1.below b2).below b3).below b4, (n2.below b3).below b4, n3.below b4, n4, bjoin b4 (bjoin b3 (bjoin b2 b1))⟩
end Go.Proofs.YtiofeebiejkajaaDoor
namespace Go.Proofs.YtiofeebiejkajaaDoor
set_option linter.unusedSimpArgs false
set_option linter.unusedVariables false
open Go.ChangeShapes Go.WideShapes Go.ChangeAt Go.RowKit Go.Joins

/-- A row beside other values, as one call answers them. -/
def GreyTE (N : Nat) (K : Int) (k : Nat) (z : Nat → Int) (ts : List Value) (v : Value) (w : World) : Prop := ∃ p c, v = .tuple (#[.agg #[.int .i64 K, .slice p k c]] ++ ts.toArray) ∧ GrAt w p c k z ∧ RowE N 3 k p w
section
variable {T : TypeId} {N m g : Nat} {K : Int} {k : Nat} {z : Nat → Int} {ts : List Value} {v : Value} {w w' : World}
theorem GreyTE.below (h : GreyTE N K k z ts v w) (hb : Below w.heap.size w w') : GreyTE N K k z ts v w' := by
  obtain ⟨p, c, e, h, ht⟩ := h
  exact ⟨p, c, e, h.below hb, ht.below hb⟩
theorem GreyTE.putsV (h : GreyTE N K k z ts v w) (hv : VarT T m g w) (hT : ¬ 3 = T) (hg : N ≤ g) (ys : List Value) : GreyTE N K k z ts v (putsL g 0 ys w) := by
  obtain ⟨p, c, e, h, ht⟩ := h
  exact ⟨p, c, e, grAt_puts h ht hv hT hg ys, ht.puts hv hT hg ys⟩
end
end Go.Proofs.YtiofeebiejkajaaDoor
namespace Go.Proofs.YtiofeebiejkajaaDoor
set_option linter.unusedSimpArgs false
set_option linter.unusedVariables false
open Go.ChangeShapes Go.WideShapes Go.ChangeAt Go.RowKit Go.Joins

theorem putsL_aside {T : Nat → Prop} {g : Nat} (hg : T g) : ∀ (xs : List Value) (k : Nat) (w : World), Aside T w (putsL g k xs w)
  | [], _, _ => Aside.of (Below.refl _ _)
  | x :: xs, k, w => ((Aside.of (Below.refl _ _)).setCell hg k x).trans (putsL_aside hg xs (k + 1) _)
theorem Aside.setNew {T : Nat → Prop} {W W' : World} (h : Aside T W W') {g : Nat} (hg : W.heap.size ≤ g) (i : Nat) (u : Value) : Aside T W (W'.setCell ⟨g, i, none⟩ u) :=
  ⟨h.os, h.tape, h.output, by simpa [World.setCell] using h.size, fun k hk hne => (Below.heap_setCell W' _ u k (fun e => by have : k = g := e; omega)).trans (h.block k hk hne)⟩
theorem row_putsL {N : Nat} {E T : TypeId} {m g n k : Nat} {p : Option Addr} {w : World} (h : RowE N E n p w) (hv : VarT T m g w) (hT : ¬ E = T) (hg : N ≤ g) (ys : List Value) : RowE N E n p (putsL g k ys w) := fun h0 b off sp e => by
  obtain ⟨hl, h1⟩ := h h0 b off sp e
  refine ⟨by rw [putsL_size]; exact hl, ?_⟩
  rcases h1 with h1 | ⟨cs, h1⟩
  · exact .inl h1
  · exact .inr ⟨cs, (putsL_other (h.ne hv hT hg h0 e) ys k w).trans h1⟩
theorem gr_putsL {N : Nat} {E T : TypeId} {m g k : Nat} {p : Option Addr} {n c : Nat} {z : Nat → Int} {w : World} (h : GrAt w p c n z) (he : RowE N E n p w) (hv : VarT T m g w) (hT : ¬ E = T) (hg : N ≤ g) (ys : List Value) : GrAt (putsL g k ys w) p c n z :=
  h.of_block (by rw [putsL_size]; exact Nat.le_refl _) fun h0 b off sp e => putsL_other (he.ne hv hT hg h0 e) ys k w
end Go.Proofs.YtiofeebiejkajaaDoor
