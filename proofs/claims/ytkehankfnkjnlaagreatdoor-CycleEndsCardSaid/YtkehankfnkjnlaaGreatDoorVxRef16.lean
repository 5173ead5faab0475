import Derived.Test.YtkehankfnkjnlaaGreatDoorV21
namespace Go.Proofs.YtkehankfnkjnlaaGreatDoor
set_option linter.unusedSimpArgs false
set_option linter.unusedVariables false
set_option maxHeartbeats 16000000
set_option maxRecDepth 20000
open Go.ChangeAt Go.ChangeShapes Go.Joins Go.RowKit Go.WideShapes
variable {h : Hp} {w w' W W' : World} {p q : Option Addr} {n g : Nat} {a : Int} {v : Value}
theorem zcf (hF : formB h = true) : 32 ≤ h.n ∧ 0 < h.m ∧ h.n ≤ 512 := by
 have := zad.1 hF
 omega
theorem sh_no {r : Int} {s : Sd} {v : Vl} (e : shB s.h v = false) : sdS r s v = s := by unfold sdS; rw [if_neg (by simp [e])]
theorem sh_yes {r : Int} {s : Sd} {v : Vl} (e : shB s.h v = true) : sdS r s v = ⟨paH s.h v.n, gpN r s.n v.n, gpZ r s.n s.z v.n, s.o || !gpB r s.n v.n⟩ := by unfold sdS; rw [if_pos e]
theorem zsn {w w0 : World} {x1 x2 x3 x4 x5 : Array Value} {t1 t2 t3 t4 t5 : TypeId} (e : w0 = ((((w.alloc (.cells x1 t1)).alloc (.cells x2 t2)).alloc (.cells x3 t3)).alloc (.cells x4 t4)).alloc (.cells x5 t5)) :
  TBox t1 w.heap.size x1 w0 ∧ TBox t2 (w.heap.size + 1) x2 w0 ∧ TBox t3 (w.heap.size + 1 + 1) x3 w0 ∧ TBox t4 (w.heap.size + 1 + 1 + 1) x4 w0 ∧ TBox t5 (w.heap.size + 1 + 1 + 1 + 1) x5 w0 ∧ Below w.heap.size w w0 := by
 have ba : ∀ (W : World) (o : Obj), Below W.heap.size W (W.alloc o) := fun W o => zr.alloc (Nat.le_refl _) _
 have sz : ∀ (W : World) (o : Obj), (W.alloc o).heap.size = W.heap.size + 1 := fun W o => by simp
 have b1 := ba w (.cells x1 t1)
 have n1 := TBox.new t1 w x1
 have s1 := sz w (.cells x1 t1)
 generalize w.alloc (.cells x1 t1) = w1 at *
 have b2 := ba w1 (.cells x2 t2)
 have n2 := TBox.new t2 w1 x2
 have s2 := sz w1 (.cells x2 t2)
 generalize w1.alloc (.cells x2 t2) = w2 at *
 have b3 := ba w2 (.cells x3 t3)
 have n3 := TBox.new t3 w2 x3
 have s3 := sz w2 (.cells x3 t3)
 generalize w2.alloc (.cells x3 t3) = w3 at *
 have b4 := ba w3 (.cells x4 t4)
 have n4 := TBox.new t4 w3 x4
 have s4 := sz w3 (.cells x4 t4)
 generalize w3.alloc (.cells x4 t4) = w4 at *
 have b5 := ba w4 (.cells x5 t5)
 have n5 := TBox.new t5 w4 x5
 rw [← e] at b5 n5
 rw [s1] at n2
 rw [show w2.heap.size = w.heap.size + 1 + 1 by omega] at n3
 rw [show w3.heap.size = w.heap.size + 1 + 1 + 1 by omega] at n4
 rw [show w4.heap.size = w.heap.size + 1 + 1 + 1 + 1 by omega] at n5
 exact ⟨(((n1.below b2).below b3).below b4).below b5, ((n2.below b3).below b4).below b5, (n3.below b4).below b5, n4.below b5, n5, bjoin b5 (bjoin b4 (bjoin b3 (bjoin b2 b1)))⟩
theorem zry {B B' : Nat} (hb : Below w.heap.size w W) (h1 : w.heap.size ≤ B) (h2 : w.heap.size ≤ B') (a b c x y : Value) : Below w.heap.size w (((((W.setCell ⟨B, 0, none⟩ a).setCell ⟨B, 1, none⟩ b).setCell ⟨B, 2, none⟩ c).setCell ⟨B', 0, none⟩ x).setCell ⟨B', 1, none⟩ y) :=
 ((((hb.setCell (p := ⟨B, 0, none⟩) h1 a).setCell (p := ⟨B, 1, none⟩) h1 b).setCell (p := ⟨B, 2, none⟩) h1 c).setCell (p := ⟨B', 0, none⟩) h2 x).setCell (p := ⟨B', 1, none⟩) h2 y
theorem zsr {w w0 : World} {x1 x2 x3 x4 : Array Value} {t1 t2 t3 t4 : TypeId} (e : w0 = (((w.alloc (.cells x1 t1)).alloc (.cells x2 t2)).alloc (.cells x3 t3)).alloc (.cells x4 t4)) :
  TBox t1 w.heap.size x1 w0 ∧ TBox t2 (w.heap.size + 1) x2 w0 ∧ TBox t3 (w.heap.size + 1 + 1) x3 w0 ∧ TBox t4 (w.heap.size + 1 + 1 + 1) x4 w0 ∧ Below w.heap.size w w0 := by
 have ba : ∀ (W : World) (o : Obj), Below W.heap.size W (W.alloc o) := fun W o => zr.alloc (Nat.le_refl _) _
 have sz : ∀ (W : World) (o : Obj), (W.alloc o).heap.size = W.heap.size + 1 := fun W o => by simp
 have b1 := ba w (.cells x1 t1)
 have n1 := TBox.new t1 w x1
 have s1 := sz w (.cells x1 t1)
 generalize w.alloc (.cells x1 t1) = w1 at *
 have b2 := ba w1 (.cells x2 t2)
 have n2 := TBox.new t2 w1 x2
 have s2 := sz w1 (.cells x2 t2)
 generalize w1.alloc (.cells x2 t2) = w2 at *
 have b3 := ba w2 (.cells x3 t3)
 have n3 := TBox.new t3 w2 x3
 have s3 := sz w2 (.cells x3 t3)
 generalize w2.alloc (.cells x3 t3) = w3 at *
 have b4 := ba w3 (.cells x4 t4)
 have n4 := TBox.new t4 w3 x4
 rw [← e] at b4 n4
 rw [s1] at n2
 rw [show w2.heap.size = w.heap.size + 1 + 1 by omega] at n3
 rw [show w3.heap.size = w.heap.size + 1 + 1 + 1 by omega] at n4
 exact ⟨((n1.below b2).below b3).below b4, (n2.below b3).below b4, n3.below b4, n4, bjoin b4 (bjoin b3 (bjoin b2 b1))⟩
end Go.Proofs.YtkehankfnkjnlaaGreatDoor
