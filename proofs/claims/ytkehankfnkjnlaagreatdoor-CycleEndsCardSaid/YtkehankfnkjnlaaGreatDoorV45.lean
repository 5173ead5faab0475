import Derived.Test.YtkehankfnkjnlaaGreatDoorV31
import Derived.Test.YtkehankfnkjnlaaGreatDoorV44
namespace Go.Proofs.YtkehankfnkjnlaaGreatDoor
set_option linter.unusedSimpArgs false
set_option linter.unusedVariables false
set_option maxHeartbeats 16000000
set_option maxRecDepth 20000
open Go.ChangeAt Go.ChangeShapes Go.Joins Go.RowKit Go.WideShapes
variable {h : Hp} {w w' W W' : World} {p q : Option Addr} {n g : Nat} {a : Int} {v : Value}
theorem zj7 (Z : Wd) (q : Wp) (w : World) (hS : Sz w) (hv : WdIn w Z q) :
  Calls Tryz.prog 51 #[.agg (Z.cells q).toArray] w fun e w' => e = .returned (.bool (formB Z.h && ((Z.h.m : Int) == Z.c0))) ∧ Below w.heap.size w w' := by
 obtain ⟨w0, hw0⟩ : ∃ w0, w0 = w.alloc (.cells (Z.cells q).toArray 38) := ⟨_, rfl⟩
 have gW : TBox 38 w.heap.size (Z.cells q).toArray w0 := by rw [hw0]; exact TBox.new _ _ _
 have hst : Below w.heap.size w w0 := by rw [hw0]; exact zr.alloc (Nat.le_refl _) _
 obtain ⟨l0, ⟨a0, a1, a2, a3, a4⟩, ⟨a5, a6, a7, a8⟩, -⟩ := zac gW
 have hFm := fun W (hW : Below w.heap.size w W) => zqj q.h q.hc q.s q.sc Z.h W (hS.below hW) (hv.heap.below hW)
 cases hF : formB Z.h with
 | false =>
  rw [hF] at hFm
  rw [Bool.false_and]
  go_enter Tryz.func51, Tryz.ntmps51
  go_upto_region 1 with fail
  rw [← hw0]
  clear hw0
  go_wp2_with (first
  | (go_at_call 88; refine zm (hFm _ (bjoin (by go_grown) hst)) ?_; rintro e w' ⟨rfl, hb⟩; obtain ⟨hc, hf, hb, hz⟩ := bstep hb (w := w0) (by go_grown); try simp only [za, zb, zd] at hc hf hz)
  )
  go_returns
  exact ⟨rfl, bjoin (by go_grown) hst⟩
 | true =>
  rw [hF] at hFm
  rw [Bool.true_and]
  generalize hE : ((Z.h.m : Int) == Z.c0) = E
  go_enter Tryz.func51, Tryz.ntmps51
  go_upto_region 1 with fail
  rw [← hw0]
  clear hw0
  go_wp2_with (first
  | (go_at_call 88; refine zm (hFm _ (bjoin (by go_grown) hst)) ?_; rintro e w' ⟨rfl, hb⟩; obtain ⟨hc, hf, hb, hz⟩ := bstep hb (w := w0) (by go_grown); try simp only [za, zb, zd] at hc hf hz)
  )
  go_returns
  exact ⟨rfl, bjoin (by go_grown) hst⟩
theorem zkp (Z : Wd) (q : Wp) (w : World) (hS : Sz w) (hv : WdIn w Z q) (hF : formB Z.h = true) (hb : Z.m.nb ≤ 1000) {B : Bool} (hB : B = true ↔ rightM Z.h Z.m ∧ Z.m.nb = Z.n) :
  Calls Tryz.prog 53 #[.agg (Z.cells q).toArray] w fun e w' => e = .returned (.bool B) ∧ Below w.heap.size w w' := by
 obtain ⟨w0, hw0⟩ : ∃ w0, w0 = w.alloc (.cells (Z.cells q).toArray 38) := ⟨_, rfl⟩
 have gW : TBox 38 w.heap.size (Z.cells q).toArray w0 := by rw [hw0]; exact TBox.new _ _ _
 have hst : Below w.heap.size w w0 := by rw [hw0]; exact zr.alloc (Nat.le_refl _) _
 obtain ⟨l0, -, ⟨a5, a6, a7, a8⟩, ⟨a9, a10, a11, a12, a13, a14, a15, a16⟩, -⟩ := zac gW
 have hM := WdE.old (N := w.heap.size) hv (Nat.le_refl _)
 obtain ⟨D, hD⟩ : ∃ D : Bool, (D = true ↔ rightM Z.h Z.m) := ⟨@decide (rightM Z.h Z.m) (Classical.propDecidable _), @decide_eq_true_iff _ (Classical.propDecidable _)⟩
 have hRt := fun W (hW : Below w.heap.size w W) => zsc (hS.below hW) (hv.heap.below hW).in hF (hM.mark.below hW) hb hv.mark hD
 generalize hE : ((Z.m.nb : Int) == (Z.n : Int)) = E
 have hEq : Z.m.nb = Z.n ↔ E = true := by rw [← hE, beq_iff_eq]; omega
 cases D with
 | false =>
  have hBf : B = false := by
   cases B with
   | false => rfl
   | true => exact absurd (hD.2 (hB.1 rfl).1) (by decide)
  rw [hBf]
  clear hB hD hBf hEq
  go_enter Tryz.func53, Tryz.ntmps53
  go_upto_region 1 with fail
  rw [← hw0]
  clear hw0
  go_wp2_with (first
  | (go_at_call 90; refine zm (hRt _ (bjoin (by go_grown) hst)) ?_; rintro e w' ⟨rfl, hb⟩; obtain ⟨hc, hf, hb, hz⟩ := bstep hb (w := w0) (by go_grown); try simp only [za, zb, zd] at hc hf hz)
  )
  go_returns
  exact ⟨rfl, bjoin (by go_grown) hst⟩
 | true =>
  have hBe : B = E := by
   cases B with
   | true => exact (hEq.1 (hB.1 rfl).2).symm
   | false =>
    cases E with
    | false => rfl
    | true => exact absurd (hB.2 ⟨hD.1 rfl, hEq.2 rfl⟩) (by decide)
  rw [hBe]
  clear hB hD hBe hEq
  go_enter Tryz.func53, Tryz.ntmps53
  go_upto_region 1 with fail
  rw [← hw0]
  clear hw0
  go_wp2_with (first
  | (go_at_call 90; refine zm (hRt _ (bjoin (by go_grown) hst)) ?_; rintro e w' ⟨rfl, hb⟩; obtain ⟨hc, hf, hb, hz⟩ := bstep hb (w := w0) (by go_grown); try simp only [za, zb, zd] at hc hf hz)
  )
  go_returns
  exact ⟨rfl, bjoin (by go_grown) hst⟩
theorem zlp (Z : Wd) (q : Wp) (w : World) (hS : Sz w) (hv : WdIn w Z q) (hF : formB Z.h = true) (hn : Z.n ≤ 10) {B : Bool} (hB : B = true ↔ (∀ i, i < Z.n → ((Z.z i).n : Int) ≤ Z.c2) ∧ (Z.n : Int) = Z.c1 ∧ rightY Z.h Z.n (caY Z.z) = true) :
  Calls Tryz.prog 52 #[.agg (Z.cells q).toArray] w fun e w' => e = .returned (.bool B) ∧ Below w.heap.size w w' := by
 obtain ⟨w0, hw0⟩ : ∃ w0, w0 = w.alloc (.cells (Z.cells q).toArray 38) := ⟨_, rfl⟩
 have gW : TBox 38 w.heap.size (Z.cells q).toArray w0 := by rw [hw0]; exact TBox.new _ _ _
 have hst : Below w.heap.size w w0 := by rw [hw0]; exact zr.alloc (Nat.le_refl _) _
 have lW := gW.lt
 have hB' : Hid (B = true ↔ (∀ i, i < Z.n → ((Z.z i).n : Int) ≤ Z.c2) ∧ (Z.n : Int) = Z.c1 ∧ rightY Z.h Z.n (caY Z.z) = true) := hB
 clear hB
 obtain ⟨l0, ⟨a0, a1, a2, a3, a4⟩, ⟨a5, a6, a7, a8⟩, -⟩ := zac gW
 go_enter Tryz.func52, Tryz.ntmps52
 go_upto_region 1 with fail
 rw [← hw0]
 clear hw0
 go_wp2
 go_loopg [8] Z.n (fun g iv wr => ∃ i : Nat, i ≤ Z.n ∧ g = Z.n - i ∧ iv = .int .i64 i ∧ (∀ j, j < i → ((Z.z j).n : Int) ≤ Z.c2) ∧ Below w0.heap.size w0 wr)
 case atStart => exact ⟨0, by omega, by omega, rfl, fun j hj => absurd hj (Nat.not_lt_zero _), zr⟩
 case round =>
  clear a0 a1 a2 a3 a4 a5 a6 a7 a8 l0
  obtain ⟨i, ih, rfl, rfl, hall, hbw⟩ := hrel
  have hbR := bjoin hbw hst
  have gWr := gW.below hbw
  by_cases hi : i < Z.n
  ·obtain ⟨bb, off, ps, cs, hq, hlt, hc, -, -⟩ := (hv.muts.below zat hbR).mu hi
   have v0 := hc 0 _ rfl
   have v1 := hc 1 _ rfl
   have v2 := hc 2 _ rfl
   have v3 := hc 3 _ rfl
   have v4 := hc 4 _ rfl
   have v5 := hc 5 _ rfl
   have v6 := hc 6 _ rfl
   have v7 := hc 7 _ rfl
   have v8 := hc 8 _ rfl
   have v9 := hc 9 _ rfl
   have v10 := hc 10 _ rfl
   have v11 := hc 11 _ rfl
   have v12 := hc 12 _ rfl
   rw [Nat.add_zero] at v0
   clear hc
   have hq' : Hid (q.m = some ⟨bb, off, none⟩) := hq
   rw [hq]
   clear hq
   go_upto_region 4 with fail
   obtain ⟨w5, hw5⟩ : ∃ W, W = wr.alloc (.cells ((Z.z i).cells ps cs).toArray 73) := ⟨_, rfl⟩
   have gM : TBox 73 wr.heap.size ((Z.z i).cells ps cs).toArray w5 := by rw [hw5]; exact TBox.new _ _ _
   have hb5 : Below wr.heap.size wr w5 := by rw [hw5]; exact zr.alloc (Nat.le_refl _) _
   have hbw5 := bjoin hb5 hbw
   have lM := gM.lt
   have x0 := gM.cell 0
   simp only [Mu.cells, List.getElem?_toArray, List.getElem?_cons_zero] at x0
   simp only [Mu.cells] at hw5
   rw [← hw5]
   clear hw5 v0 v1 v2 v3 v4 v5 v6 v7 v8 v9 v10 v11 v12 hlt gM
   replace gWr := gWr.below hb5
   obtain ⟨l0, ⟨-, -, a2, -, -⟩, -⟩ := zac gWr
   by_cases e : ((Z.z i).n : Int) ≤ Z.c2
   ·have hall2 : Hid (∀ j, j < i + 1 → ((Z.z j).n : Int) ≤ Z.c2) := fun j hj => by
     by_cases e' : j = i
     ·subst e'; exact e
     ·exact hall j (by omega)
    clear hall
    have e' : ¬ ((Z.z i).n : Int) > Z.c2 := by omega
    generalize (Z.z i).n = k at *
    go_wp2
    rw [← hq'.out]
    clear hq'
    go_roundg (Z.n - (i + 1))
    case measure => omega
    case rel => exact ⟨i + 1, by omega, rfl, by go_num, hall2.out, by go_grown⟩
   ·have hR : Hid (B = false) := by
     show B = false
     cases hb : B with
     | false => rfl
     | true => exact absurd ((hB'.out.1 hb).1 i hi) e
    have e' : ((Z.z i).n : Int) > Z.c2 := by omega
    clear hall
    generalize (Z.z i).n = k at *
    go_wp2
    go_returns
    exact ⟨zab hR.out.symm, bjoin (by go_grown) hst⟩
  ·obtain rfl : i = Z.n := by omega
   have hall' : Hid (∀ j, j < Z.n → ((Z.z j).n : Int) ≤ Z.c2) := hall
   clear hall
   have hvr := hv.below hbR
   obtain ⟨l0, ⟨-, a1, -, -, -⟩, -⟩ := zac gWr
   have hHr : ∀ W x, Below wr.heap.size wr W → CaV Z.n Z.z x W → Calls Tryz.prog 89 #[.agg #[.slice q.h Z.h.n q.hc, .slice q.s Z.h.m q.sc, .bool Z.h.b], x] W fun e w' => e = .returned (.bool (rightY Z.h Z.n (caY Z.z))) ∧ Below W.heap.size W w' := fun W x hW hx => by
    obtain ⟨pc, cc, rfl, hin⟩ := hx
    exact zon q.h q.hc q.s q.sc Z.h pc Z.n cc (caY Z.z) W (hvr.heap.below hW) (zad.1 hF).2.1 hin (by omega)
   have hCr : ∀ W, Below wr.heap.size wr W → Calls Tryz.prog 22 #[.agg (Z.cells q).toArray] W fun e w' => ∃ x, e = .returned x ∧ CaV Z.n Z.z x w' ∧ Below W.heap.size W w' := fun W hW => by
    refine zm (zgk Z q W (hvr.below hW) hn) ?_
    rintro e w' ⟨p', c', rfl, hin, hb⟩
    exact ⟨_, rfl, ⟨p', c', rfl, hin⟩, hb⟩
   generalize hRI : rightY Z.h Z.n (caY Z.z) = RI at *
   by_cases hc : (Z.n : Int) = Z.c1
   ·have hR : Hid (B = RI) := by
     show B = RI
     cases RI with
     | true => exact hB'.out.2 ⟨hall'.out, hc, rfl⟩
     | false =>
      cases hb : B with
      | false => rfl
      | true => exact absurd (hB'.out.1 hb).2.2 (by decide)
    clear hRI hB' hall'
    have hce : ((Z.n : Int) == Z.c1) = true := by simpa using hc
    clear hc
    go_upto_region 7 with fail
    refine zbg [some 20, some 21, some 22, some 23, some 24, some 25, some 26, some 27, some 28, some 29, some 30, some 31, some 32, some 33, some 2] [20, 21, 22, 23, 24, 25, 26, 27, 28, 29, 30, 31, 32, 33, 2] [(fun v _ => v = .pointer (some ⟨w.heap.size, 8, none⟩)), (fun v _ => v = .slice q.m Z.n q.mc), (fun v _ => v = .int .i64 Z.n), (fun v _ => v = .pointer (some ⟨w.heap.size, 0, none⟩)), (fun v _ => v = .pointer (some ⟨w.heap.size, 1, none⟩)), (fun v _ => v = .int .i64 Z.c1), (fun v _ => v = .bool true), (fun v _ => v = .bool true), (fun v _ => v = .pointer (some ⟨w.heap.size, 5, none⟩)), (fun v _ => v = .agg #[.slice q.h Z.h.n q.hc, .slice q.s Z.h.m q.sc, .bool Z.h.b]), (fun v _ => v = .agg (Z.cells q).toArray), (CaV Z.n Z.z), (fun v _ => v = .bool RI), (fun v _ => v = .bool RI), (fun v _ => v = .bool RI)] (fun _ => false) 34 (by kernel_rfl) (by kernel_rfl) rfl rfl (by decide) (by decide) (by simp) ⟨kv, kv, kv, kv, kv, kv, kv, kv, kv, kv, kv, fun _ _ _ h hb => h.below hb, kv, kv, kv, trivial⟩ ⟨rfl, rfl, rfl, rfl, rfl, rfl, rfl, rfl, ⟨rfl, ⟨_, rfl⟩, fun _ _ h => h⟩, ⟨rfl, ⟨_, rfl⟩, fun _ _ h => h⟩, ⟨rfl, ⟨_, rfl⟩, fun _ _ h => h⟩, ⟨rfl, ⟨_, rfl⟩, fun _ _ h => h⟩, ⟨rfl, ⟨_, rfl⟩, fun _ _ h => h⟩, rfl, rfl, trivial⟩ ?_ ?_
    ·refine ⟨?_, ?_, ?_, ?_, ?_, ?_, ?_, ?_, ?_, ?_, ?_, ?_, ?_, ?_, ?_, trivial⟩
     ·intro _ a' w' hb' hs hd Kc hK
      have f1 : a'.tmps[1]?.getD undef = .pointer (some ⟨w.heap.size, 0, none⟩) := (hs 1 (by decide)).trans rfl
      clear hs hd
      unfold Oper.wp
      go_simp
      try go_bits
      exact hK _ _ zr rfl
     ·intro _ a' w' hb' hs hd Kc hK
      have f20 : a'.tmps[20]?.getD undef = .pointer (some ⟨w.heap.size, 8, none⟩) := hd 0 20 zt rfl rfl
      clear hs hd
      have hG := gWr.below hb'
      obtain ⟨l0, ⟨-, a1, -, -, -⟩, ⟨a5, a6, a7, a8⟩, -⟩ := zac hG
      unfold Oper.wp
      go_simp
      try go_bits
      exact hK _ _ zr rfl
     ·intro _ a' w' hb' hs hd Kc hK
      have f21 : a'.tmps[21]?.getD undef = .slice q.m Z.n q.mc := hd 1 21 zt rfl rfl
      clear hs hd
      unfold Oper.wp
      go_simp
      try go_bits
      exact hK _ _ zr rfl
     ·intro _ a' w' hb' hs hd Kc hK
      have f1 : a'.tmps[1]?.getD undef = .pointer (some ⟨w.heap.size, 0, none⟩) := (hs 1 (by decide)).trans rfl
      clear hs hd
      unfold Oper.wp
      go_simp
      try go_bits
      exact hK _ _ zr rfl
     ·intro _ a' w' hb' hs hd Kc hK
      have f23 : a'.tmps[23]?.getD undef = .pointer (some ⟨w.heap.size, 0, none⟩) := hd 3 23 zt rfl rfl
      clear hs hd
      unfold Oper.wp
      go_simp
      try go_bits
      exact hK _ _ zr rfl
     ·intro _ a' w' hb' hs hd Kc hK
      have f24 : a'.tmps[24]?.getD undef = .pointer (some ⟨w.heap.size, 1, none⟩) := hd 4 24 zt rfl rfl
      clear hs hd
      have hG := gWr.below hb'
      obtain ⟨l0, ⟨-, a1, -, -, -⟩, ⟨a5, a6, a7, a8⟩, -⟩ := zac hG
      unfold Oper.wp
      go_simp
      try go_bits
      exact hK _ _ zr rfl
     ·intro _ a' w' hb' hs hd Kc hK
      have f22 : a'.tmps[22]?.getD undef = .int .i64 Z.n := hd 2 22 zt rfl rfl
      have f25 : a'.tmps[25]?.getD undef = .int .i64 Z.c1 := hd 5 25 zt rfl rfl
      clear hs hd
      unfold Oper.wp
      go_simp
      try go_bits
      exact hK _ _ zr zl
     ·intro _ a' w' hb' hs hd Kc hK
      have f26 : a'.tmps[26]?.getD undef = .bool true := hd 6 26 zt rfl rfl
      clear hs hd
      unfold Oper.wp
      go_simp
      try go_bits
      exact hK _ _ zr rfl
     ·intro _ a' w' hb' hs hd Kc hK
      have f1 : a'.tmps[1]?.getD undef = .pointer (some ⟨w.heap.size, 0, none⟩) := (hs 1 (by decide)).trans rfl
      clear hs hd
      unfold Oper.wp
      go_simp
      try go_bits
      exact hK _ _ zr rfl
     ·intro _ a' w' hb' hs hd Kc hK
      have f28 : a'.tmps[28]?.getD undef = .pointer (some ⟨w.heap.size, 5, none⟩) := hd 8 28 zt rfl rfl
      clear hs hd
      have hG := gWr.below hb'
      obtain ⟨l0, ⟨-, a1, -, -, -⟩, ⟨a5, a6, a7, a8⟩, -⟩ := zac hG
      unfold Oper.wp
      go_simp
      try go_bits
      exact hK _ _ zr rfl
     ·intro _ a' w' hb' hs hd Kc hK
      have f1 : a'.tmps[1]?.getD undef = .pointer (some ⟨w.heap.size, 0, none⟩) := (hs 1 (by decide)).trans rfl
      clear hs hd
      have hG := gWr.below hb'
      obtain ⟨l0, ⟨-, a1, -, -, -⟩, ⟨a5, a6, a7, a8⟩, -⟩ := zac hG
      refine wp_load_mid 38 (.tmp 1) rfl w.heap.size 0 (by simp [Act.eval, f1]) (Z.cells q) _ hG.range Tryz.underlying38 rfl zfu ?_
      exact hK _ _ zr rfl
     ·intro _ a' w' hb' hs hd Kc hK
      have f30 : a'.tmps[30]?.getD undef = .agg (Z.cells q).toArray := hd 10 30 zt rfl rfl
      clear hs hd
      have hG := gWr.below hb'
      obtain ⟨l0, ⟨-, a1, -, -, -⟩, ⟨a5, a6, a7, a8⟩, -⟩ := zac hG
      unfold Oper.wp
      go_simp
      refine zm (hCr _ hb') ?_
      rintro e w'' ⟨v9, rfl, hA, hb2⟩
      exact hK _ _ hb2 hA
     ·intro _ a' w' hb' hs hd Kc hK
      have f29 : a'.tmps[29]?.getD undef = .agg #[.slice q.h Z.h.n q.hc, .slice q.s Z.h.m q.sc, .bool Z.h.b] := hd 9 29 zt rfl rfl
      have f31 : (CaV Z.n Z.z) (a'.tmps[31]?.getD undef) w' := hd 11 31 zt rfl rfl
      clear hs hd
      have hG := gWr.below hb'
      obtain ⟨l0, ⟨-, a1, -, -, -⟩, ⟨a5, a6, a7, a8⟩, -⟩ := zac hG
      unfold Oper.wp
      go_simp
      try go_bits
      refine zm (hHr _ _ hb' (by assumption)) ?_
      rintro e w'' ⟨rfl, hb2⟩
      exact hK _ _ hb2 rfl
     ·intro _ a' w' hb' hs hd Kc hK
      have f27 : a'.tmps[27]?.getD undef = .bool true := hd 7 27 zt rfl rfl
      have f32 : a'.tmps[32]?.getD undef = .bool RI := hd 12 32 zt rfl rfl
      clear hs hd
      unfold Oper.wp
      go_simp
      try go_bits
      exact hK _ _ zr zl
     ·intro _ a' w' hb' hs hd Kc hK
      have f33 : a'.tmps[33]?.getD undef = .bool RI := hd 13 33 zt rfl rfl
      clear hs hd
      unfold Oper.wp
      go_simp
      try go_bits
      exact hK _ _ zr rfl
    intro Xf w' hb hv
    have q2 : Xf 2 = .bool RI := hv 14 2 rfl rfl
    clear hv
    simp only [List.map_cons, List.map_nil, q2, puts, Act.put, Nat.reduceAdd, List.setIfInBounds_toArray, List.set_cons_succ, List.set_cons_zero]
    have hb9 := bjoin hb hbR
    go_wp2
    go_returns
    exact ⟨zab hR.out.symm, by first | exact hb9 | exact bjoin (by go_grown) hb9⟩
   ·have hR : Hid (B = false) := by
     show B = false
     cases hb : B with
     | false => rfl
     | true => exact absurd (hB'.out.1 hb).2.1 hc
    clear hRI hB' hall' hHr hCr
    have hce : ((Z.n : Int) == Z.c1) = false := by simpa using hc
    clear hc
    go_upto_region 7 with fail
    refine zbg [some 20, some 21, some 22, some 23, some 24, some 25, some 26, some 27, some 28, some 29, some 30, some 31, some 32, some 33, some 2] [20, 21, 22, 23, 24, 25, 26, 27, 28, 29, 30, 31, 32, 33, 2] [(fun v _ => v = .pointer (some ⟨w.heap.size, 8, none⟩)), (fun v _ => v = .slice q.m Z.n q.mc), (fun v _ => v = .int .i64 Z.n), (fun v _ => v = .pointer (some ⟨w.heap.size, 0, none⟩)), (fun v _ => v = .pointer (some ⟨w.heap.size, 1, none⟩)), (fun v _ => v = .int .i64 Z.c1), (fun v _ => v = .bool false), (fun v _ => v = .bool false), (fun _ _ => True), (fun _ _ => True), (fun _ _ => True), (fun _ _ => True), (fun _ _ => True), (fun v _ => v = .bool false), (fun v _ => v = .bool false)] (fun i => ([8, 9, 10, 11, 12] : List Nat).contains i) 34 (by kernel_rfl) (by kernel_rfl) rfl rfl (by decide) (by decide) (by simp) ⟨kv, kv, kv, kv, kv, kv, kv, kv, fun _ _ _ h _ => h, fun _ _ _ h _ => h, fun _ _ _ h _ => h, fun _ _ _ h _ => h, fun _ _ _ h _ => h, kv, kv, trivial⟩ ⟨rfl, rfl, rfl, rfl, rfl, rfl, rfl, rfl, ⟨rfl, ⟨_, rfl⟩, fun _ _ h => h⟩, ⟨rfl, ⟨_, rfl⟩, fun _ _ h => h⟩, ⟨rfl, ⟨_, rfl⟩, fun _ _ h => h⟩, ⟨rfl, ⟨_, rfl⟩, fun _ _ h => h⟩, ⟨rfl, ⟨_, rfl⟩, fun _ _ h => h⟩, rfl, rfl, trivial⟩ ?_ ?_
    ·refine ⟨?_, ?_, ?_, ?_, ?_, ?_, ?_, ?_, ?_, ?_, ?_, ?_, ?_, ?_, ?_, trivial⟩
     ·intro _ a' w' hb' hs hd Kc hK
      have f1 : a'.tmps[1]?.getD undef = .pointer (some ⟨w.heap.size, 0, none⟩) := (hs 1 (by decide)).trans rfl
      clear hs hd
      unfold Oper.wp
      go_simp
      try go_bits
      exact hK _ _ zr rfl
     ·intro _ a' w' hb' hs hd Kc hK
      have f20 : a'.tmps[20]?.getD undef = .pointer (some ⟨w.heap.size, 8, none⟩) := hd 0 20 zt rfl rfl
      clear hs hd
      have hG := gWr.below hb'
      obtain ⟨l0, ⟨-, a1, -, -, -⟩, ⟨a5, a6, a7, a8⟩, -⟩ := zac hG
      unfold Oper.wp
      go_simp
      try go_bits
      exact hK _ _ zr rfl
     ·intro _ a' w' hb' hs hd Kc hK
      have f21 : a'.tmps[21]?.getD undef = .slice q.m Z.n q.mc := hd 1 21 zt rfl rfl
      clear hs hd
      unfold Oper.wp
      go_simp
      try go_bits
      exact hK _ _ zr rfl
     ·intro _ a' w' hb' hs hd Kc hK
      have f1 : a'.tmps[1]?.getD undef = .pointer (some ⟨w.heap.size, 0, none⟩) := (hs 1 (by decide)).trans rfl
      clear hs hd
      unfold Oper.wp
      go_simp
      try go_bits
      exact hK _ _ zr rfl
     ·intro _ a' w' hb' hs hd Kc hK
      have f23 : a'.tmps[23]?.getD undef = .pointer (some ⟨w.heap.size, 0, none⟩) := hd 3 23 zt rfl rfl
      clear hs hd
      unfold Oper.wp
      go_simp
      try go_bits
      exact hK _ _ zr rfl
     ·intro _ a' w' hb' hs hd Kc hK
      have f24 : a'.tmps[24]?.getD undef = .pointer (some ⟨w.heap.size, 1, none⟩) := hd 4 24 zt rfl rfl
      clear hs hd
      have hG := gWr.below hb'
      obtain ⟨l0, ⟨-, a1, -, -, -⟩, ⟨a5, a6, a7, a8⟩, -⟩ := zac hG
      unfold Oper.wp
      go_simp
      try go_bits
      exact hK _ _ zr rfl
     ·intro _ a' w' hb' hs hd Kc hK
      have f22 : a'.tmps[22]?.getD undef = .int .i64 Z.n := hd 2 22 zt rfl rfl
      have f25 : a'.tmps[25]?.getD undef = .int .i64 Z.c1 := hd 5 25 zt rfl rfl
      clear hs hd
      unfold Oper.wp
      go_simp
      try go_bits
      exact hK _ _ zr zl
     ·intro _ a' w' hb' hs hd Kc hK
      have f26 : a'.tmps[26]?.getD undef = .bool false := hd 6 26 zt rfl rfl
      clear hs hd
      unfold Oper.wp
      go_simp
      try go_bits
      exact hK _ _ zr rfl
     ·exact fun h => absurd h (by decide)
     ·exact fun h => absurd h (by decide)
     ·exact fun h => absurd h (by decide)
     ·exact fun h => absurd h (by decide)
     ·exact fun h => absurd h (by decide)
     ·intro _ a' w' hb' hs hd Kc hK
      have f27 : a'.tmps[27]?.getD undef = .bool false := hd 7 27 zt rfl rfl
      clear hs hd
      unfold Oper.wp
      go_simp
      try go_bits
      exact hK _ _ zr zl
     ·intro _ a' w' hb' hs hd Kc hK
      have f33 : a'.tmps[33]?.getD undef = .bool false := hd 13 33 zt rfl rfl
      clear hs hd
      unfold Oper.wp
      go_simp
      try go_bits
      exact hK _ _ zr rfl
    intro Xf w' hb hv
    have q2 : Xf 2 = .bool false := hv 14 2 rfl rfl
    clear hv
    simp only [List.map_cons, List.map_nil, q2, puts, Act.put, Nat.reduceAdd, List.setIfInBounds_toArray, List.set_cons_succ, List.set_cons_zero]
    have hb9 := bjoin hb hbR
    go_wp2
    go_returns
    exact ⟨zab hR.out.symm, by first | exact hb9 | exact bjoin (by go_grown) hb9⟩
end Go.Proofs.YtkehankfnkjnlaaGreatDoor
