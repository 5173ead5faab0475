/- 'g, ok := Get(h.Words[at[i]])' of HeapApart: one region that draws its order, stores into a new variable, and reads. -/
import Derived.Test.YtjlflbaglaillaaDoorWhole
import Derived.Test.YtjlflbaglaillaaDoorMarks
import Derived.Test.YtjlflbaglaillaaDoorOwnCopy
namespace Go.Proofs.YtjlflbaglaillaaDoor
set_option linter.unusedSimpArgs false
set_option linter.unusedVariables false
open Go.ChangeShapes Go.WideShapes Go.ChangeAt Go.RowKit Go.Joins

/-- A variable of four cells. -/
structure Box4 (b : Nat) (x0 x1 x2 x3 : Value) (W : World) : Prop where
  lt : b < W.heap.size
  c0 : W.cell? ⟨b, 0, none⟩ = some x0
  c1 : W.cell? ⟨b, 1, none⟩ = some x1
  c2 : W.cell? ⟨b, 2, none⟩ = some x2
  c3 : W.cell? ⟨b, 3, none⟩ = some x3
  f0 : W.frozen? ⟨b, 0, none⟩ = false
  f1 : W.frozen? ⟨b, 1, none⟩ = false
  f2 : W.frozen? ⟨b, 2, none⟩ = false
  f3 : W.frozen? ⟨b, 3, none⟩ = false
theorem Box4.of_block {b : Nat} {x0 x1 x2 x3 : Value} {W W' : World} (h : Box4 b x0 x1 x2 x3 W) (e : W'.heap[b]? = W.heap[b]?) (hl : W.heap.size ≤ W'.heap.size) : Box4 b x0 x1 x2 x3 W' :=
  ⟨Nat.lt_of_lt_of_le h.lt hl, by rw [World.cell?_of_block (w := W) (a := ⟨b, 0, none⟩) e]; exact h.c0, by rw [World.cell?_of_block (w := W) (a := ⟨b, 1, none⟩) e]; exact h.c1, by rw [World.cell?_of_block (w := W) (a := ⟨b, 2, none⟩) e]; exact h.c2, by rw [World.cell?_of_block (w := W) (a := ⟨b, 3, none⟩) e]; exact h.c3,
    by rw [World.frozen?_of_block (w := W) (a := ⟨b, 0, none⟩) e]; exact h.f0, by rw [World.frozen?_of_block (w := W) (a := ⟨b, 1, none⟩) e]; exact h.f1, by rw [World.frozen?_of_block (w := W) (a := ⟨b, 2, none⟩) e]; exact h.f2, by rw [World.frozen?_of_block (w := W) (a := ⟨b, 3, none⟩) e]; exact h.f3⟩
theorem Box4.below {b : Nat} {x0 x1 x2 x3 : Value} {W W' : World} (h : Box4 b x0 x1 x2 x3 W) (hb : Below W.heap.size W W') : Box4 b x0 x1 x2 x3 W' := h.of_block (hb.block b h.lt) hb.size
theorem Box4.new (W : World) (x0 x1 x2 x3 : Value) (t : TypeId) : Box4 W.heap.size x0 x1 x2 x3 (W.alloc (.cells #[x0, x1, x2, x3] t)) := by
  refine ⟨by simp, ?_, ?_, ?_, ?_, ?_, ?_, ?_, ?_⟩ <;> simp [go_sem]
def puts4 (b : Nat) (y0 y1 y2 y3 : Value) (W : World) : World := (((W.setCell ⟨b, 0, none⟩ y0).setCell ⟨b, 1, none⟩ y1).setCell ⟨b, 2, none⟩ y2).setCell ⟨b, 3, none⟩ y3
theorem Box4.put {b : Nat} {x0 x1 x2 x3 : Value} {W : World} (h : Box4 b x0 x1 x2 x3 W) (y0 y1 y2 y3 : Value) : Box4 b y0 y1 y2 y3 (puts4 b y0 y1 y2 y3 W) := by
  obtain ⟨h0, h1, h2, h3, h4, h5, h6, h7, h8⟩ := h
  unfold puts4
  refine ⟨by simpa [World.setCell] using h0, ?_, ?_, ?_, ?_, ?_, ?_, ?_, ?_⟩ <;> simp [go_sem, *]
theorem puts4_block {b : Nat} (y0 y1 y2 y3 : Value) (W : World) {k : Nat} (hk : ¬ k = b) : (puts4 b y0 y1 y2 y3 W).heap[k]? = W.heap[k]? := by
  unfold puts4
  rw [Below.heap_setCell _ _ _ _ hk, Below.heap_setCell _ _ _ _ hk, Below.heap_setCell _ _ _ _ hk, Below.heap_setCell _ _ _ _ hk]
theorem puts4_size (b : Nat) (y0 y1 y2 y3 : Value) (W : World) : (puts4 b y0 y1 y2 y3 W).heap.size = W.heap.size := by simp [puts4, World.setCell]
theorem puts4_below {n b : Nat} (hn : n ≤ b) (y0 y1 y2 y3 : Value) (W : World) : Below n W (puts4 b y0 y1 y2 y3 W) := ((((Below.refl n W).setCell hn _).setCell hn _).setCell hn _).setCell hn _

def grOps : List Oper :=
  [{ dst := some 226, op := .fieldAddr 25 (.tmp 6) 0, type := 0, pos := "law.go:125", after := #[], guard := none },
   { dst := some 227, op := .load 22 (.tmp 226), type := 22, pos := "law.go:125", after := #[{ on := 0, ground := .data }], guard := none },
   { dst := some 228, op := .move (.tmp 8), type := 43, pos := "law.go:125", after := #[], guard := none },
   { dst := some 229, op := .move (.tmp 22), type := 3, pos := "law.go:125", after := #[], guard := none },
   { dst := some 230, op := .indexAddr 43 (.tmp 228) (.tmp 229), type := 0, pos := "law.go:125", after := #[{ on := 2, ground := .data }, { on := 3, ground := .data }], guard := none },
   { dst := some 231, op := .load 3 (.tmp 230), type := 3, pos := "law.go:125", after := #[{ on := 4, ground := .data }], guard := none },
   { dst := some 232, op := .indexAddr 22 (.tmp 227) (.tmp 231), type := 0, pos := "law.go:125", after := #[{ on := 1, ground := .data }, { on := 5, ground := .data }], guard := none },
   { dst := some 233, op := .load 50 (.tmp 232), type := 50, pos := "law.go:125", after := #[{ on := 6, ground := .data }], guard := none },
   { dst := some 234, op := .call { callee := .value (.func 27), args := #[.tmp 233], argTypes := #[50] }, type := 53, pos := "law.go:125", after := #[{ on := 7, ground := .data }], guard := none },
   { dst := some 225, op := .move (.tmp 234), type := 53, pos := "law.go:125", after := #[{ on := 8, ground := .data }], guard := none },
   { dst := some 235, op := .extract (.tmp 225) 0, type := 52, pos := "law.go:125", after := #[{ on := 9, ground := .data }], guard := none },
   { dst := some 236, op := .extract (.tmp 225) 1, type := 4, pos := "law.go:125", after := #[{ on := 9, ground := .data }, { on := 13, ground := .gcOnly .lateStores }], guard := none },
   { dst := some 24, op := .alloc 52, type := 0, pos := "law.go:125", after := #[], guard := none },
   { dst := none, op := .store 52 (.tmp 24) (.tmp 235), type := 0, pos := "law.go:125", after := #[{ on := 12, ground := .data }, { on := 10, ground := .data }, { on := 8, ground := .chain }, { on := 0, ground := .phase }, { on := 1, ground := .phase }, { on := 2, ground := .phase }, { on := 3, ground := .phase }, { on := 4, ground := .phase }, { on := 5, ground := .phase }, { on := 6, ground := .phase }, { on := 7, ground := .phase }, { on := 8, ground := .phase }, { on := 9, ground := .phase }, { on := 10, ground := .phase }, { on := 11, ground := .textOnly .lateStores }, { on := 12, ground := .phase }], guard := none },
   { dst := some 25, op := .assign (.tmp 236), type := 4, pos := "law.go:125", after := #[{ on := 11, ground := .data }, { on := 13, ground := .chain }, { on := 0, ground := .phase }, { on := 1, ground := .phase }, { on := 2, ground := .phase }, { on := 3, ground := .phase }, { on := 4, ground := .phase }, { on := 5, ground := .phase }, { on := 6, ground := .phase }, { on := 7, ground := .phase }, { on := 8, ground := .phase }, { on := 9, ground := .phase }, { on := 10, ground := .phase }, { on := 11, ground := .phase }, { on := 12, ground := .phase }, { on := 13, ground := .phase }], guard := none }]
def grSlots : List (Option Nat) := [some 226, some 227, some 228, some 229, some 230, some 231, some 232, some 233, some 234, some 225, some 235, some 236, some 24, none, some 25]
/-- What each leaves. -/
def grPhi (N B bw ow n1 c' ga l ca j : Nat) (a X K F : Int) (C : Bool) : Nat → (Nat → Value) → World → Prop
  | 0, V, _ => V 0 = .pointer (some ⟨B, 0, none⟩)
  | 1, V, _ => V 1 = .slice (some ⟨bw, ow, none⟩) n1 c'
  | 2, V, _ => V 2 = .slice (some ⟨ga, 0, none⟩) l ca
  | 3, V, _ => V 3 = .int .i64 j
  | 4, V, _ => V 4 = .pointer (some ⟨ga, j, none⟩)
  | 5, V, _ => V 5 = .int .i64 a
  | 6, V, _ => V 6 = .pointer (some ⟨bw, ow + a.toNat, none⟩)
  | 7, V, _ => V 7 = .int .u64 X
  | 8, V, _ => V 8 = .tuple #[.agg #[.bool true, .bool C, .int .i64 K, .int .i64 F], .bool true]
  | 9, V, _ => V 9 = .tuple #[.agg #[.bool true, .bool C, .int .i64 K, .int .i64 F], .bool true]
  | 10, V, _ => V 10 = .agg #[.bool true, .bool C, .int .i64 K, .int .i64 F]
  | 11, V, _ => V 11 = .bool true
  | 12, V, w => ∃ g, V 12 = .pointer (some ⟨g, 0, none⟩) ∧ N ≤ g ∧ ∃ x0 x1 x2 x3, Box4 g x0 x1 x2 x3 w
  | 13, V, w => ∃ g, V 12 = .pointer (some ⟨g, 0, none⟩) ∧ N ≤ g ∧ Box4 g (.bool true) (.bool C) (.int .i64 K) (.int .i64 F) w
  | 14, V, _ => V 14 = .bool true
  | _, _, _ => True
def grPer (N i : Nat) (w w' : World) : Prop := if i = 13 then Below N w w' ∧ ∀ g x0 x1 x2 x3, Box4 g x0 x1 x2 x3 w → ∃ y0 y1 y2 y3, Box4 g y0 y1 y2 y3 w' else Below w.heap.size w w'
theorem gr_per {N B bw ow n1 c' ga l ca j : Nat} {a X K F : Int} {C : Bool} (i k : Nat) (V : Nat → Value) (v : Value) (w w' : World) (hne : i ≠ k) (hdep : ∀ o, grOps.toArray[k]? = some o → (o.after.any fun e => Region.binds .any e && e.on == i) = false)
    (hp : grPer N i w w') (h : grPhi N B bw ow n1 c' ga l ca j a X K F C k V w) : grPhi N B bw ow n1 c' ga l ca j a X K F C k (upd V i v) w' := by
  have e : upd V i v k = V k := by unfold upd; rw [if_neg (Ne.symm hne)]
  match k, hne, hdep, h, e with
  | 0, _, _, h, e => exact e.trans h
  | 1, _, _, h, e => exact e.trans h
  | 2, _, _, h, e => exact e.trans h
  | 3, _, _, h, e => exact e.trans h
  | 4, _, _, h, e => exact e.trans h
  | 5, _, _, h, e => exact e.trans h
  | 6, _, _, h, e => exact e.trans h
  | 7, _, _, h, e => exact e.trans h
  | 8, _, _, h, e => exact e.trans h
  | 9, _, _, h, e => exact e.trans h
  | 10, _, _, h, e => exact e.trans h
  | 11, _, _, h, e => exact e.trans h
  | 12, hne, _, ⟨g, h1, h2, x0, x1, x2, x3, h3⟩, e =>
    refine ⟨g, e.trans h1, h2, ?_⟩
    unfold grPer at hp
    by_cases hi : i = 13
    · rw [if_pos hi] at hp; exact hp.2 g x0 x1 x2 x3 h3
    · rw [if_neg hi] at hp; exact ⟨x0, x1, x2, x3, h3.below hp⟩
  | 13, hne, hdep, ⟨g, h1, h2, h3⟩, _ =>
    have hi : ¬ i = 12 := fun hi => by
      subst hi
      have hx : ((grOps[13]'(by decide)).after.any fun e => Region.binds .any e && e.on == 12) = true := by kernel_rfl
      rw [hdep (grOps[13]'(by decide)) (by kernel_rfl)] at hx
      cases hx
    unfold grPer at hp
    rw [if_neg hne] at hp
    exact ⟨g, by unfold upd; rw [if_neg (fun h => hi h.symm)]; exact h1, h2, h3.below hp⟩
  | 14, _, _, h, e => exact e.trans h
  | _ + 15, _, _, _, _ => trivial
theorem upd_self (V : Nat → Value) (i : Nat) (v : Value) : upd V i v i = v := by unfold upd; rw [if_pos rfl]
theorem upd_other (V : Nat → Value) {i k : Nat} (v : Value) (h : ¬ k = i) : upd V i v k = V k := by unfold upd; rw [if_neg h]
set_option maxHeartbeats 1000000 in
theorem gr_step {N B bw ow n1 c' ga l ca j : Nat} {a X K F : Int} {C : Bool} {q v2 : Value} {W : World} {A : Act} {Q : Exit → Act → World → Prop} (hN : N = W.heap.size)
    (hB : Box3 B (.slice (some ⟨bw, ow, none⟩) n1 c') q v2 W) (hj : j < l) (vA : W.cell? ⟨ga, j, none⟩ = some (.int .i64 a)) (lA : ga < W.heap.size) (a0 : 0 ≤ a) (a1 : a < n1) (hn : n1 ≤ 512) (hl : l ≤ 100) (vW : W.cell? ⟨bw, ow + a.toNat, none⟩ = some (.int .u64 X)) (lW : bw < W.heap.size)
    (hG : ∀ W, Calls Tryd.prog 27 #[.int .u64 X] W fun e w' => e = .returned (.tuple #[.agg #[.bool true, .bool C, .int .i64 K, .int .i64 F], .bool true]) ∧ Below W.heap.size W w')
    (e6 : A.tmps.getD 6 undef = .pointer (some ⟨B, 0, none⟩)) (e8 : A.tmps.getD 8 undef = .slice (some ⟨ga, 0, none⟩) l ca) (e22 : A.tmps.getD 22 undef = .int .i64 j) :
    ∀ i o, grOps.toArray[i]? = some o → ∀ (a' : Act) (w' : World), Below N W w' → (∀ t, some t ∉ grSlots → a'.tmps.getD t undef = A.tmps.getD t undef) →
      (∀ k, (o.after.any fun e => Region.binds .any e && e.on == k) = true → grPhi N B bw ow n1 c' ga l ca j a X K F C k (slotVals a' grSlots) w') →
      ∀ K' : Act → World → Prop, (∀ v w'', Below N W w'' → grPer N i w' w'' → grPhi N B bw ow n1 c' ga l ca j a X K F C i (upd (slotVals a' grSlots) i (valOf o v)) w'' → K' (a'.put o.dst v) w'') → o.wp Tryd.prog a' w' K' Q := by
  intro i o ho a' w' hb hsame hdep K' hK
  have s6 : a'.tmps[6]?.getD undef = .pointer (some ⟨B, 0, none⟩) := by rw [← Array.getD_eq_getD_getElem?]; exact (hsame 6 (by decide)).trans e6
  have s8 : a'.tmps[8]?.getD undef = .slice (some ⟨ga, 0, none⟩) l ca := by rw [← Array.getD_eq_getD_getElem?]; exact (hsame 8 (by decide)).trans e8
  have s22 : a'.tmps[22]?.getD undef = .int .i64 j := by rw [← Array.getD_eq_getD_getElem?]; exact (hsame 22 (by decide)).trans e22
  subst hN
  have hB' := hB.below hb
  obtain ⟨lB, k0, k1, k2, -, -, -⟩ := hB'
  have vA' : w'.cell? ⟨ga, j, none⟩ = some (.int .i64 a) := by rw [hb.cell (p := ⟨ga, j, none⟩) lA]; exact vA
  have vW' : w'.cell? ⟨bw, ow + a.toNat, none⟩ = some (.int .u64 X) := by rw [hb.cell (p := ⟨bw, ow + a.toNat, none⟩) lW]; exact vW
  have hself : Below w'.heap.size w' w' := Below.refl _ _
  have hin : i < 15 := by
    rcases Nat.lt_or_ge i 15 with h | h
    · exact h
    · have : grOps.toArray[i]? = none := by simp [grOps]; omega
      rw [this] at ho; cases ho
  clear hsame e6 e8 e22 hB vA vW
  match i, hin with
  | 0, _ =>
    simp only [grOps, List.getElem?_toArray, List.getElem?_cons_zero, List.getElem?_cons_succ, Option.some.injEq] at ho
    subst ho
    clear hdep
    unfold Oper.wp
    go_simp
    exact hK _ _ hb (by unfold grPer; rw [if_neg (by decide)]; exact hself) (upd_self _ _ _)
  | 1, _ =>
    simp only [grOps, List.getElem?_toArray, List.getElem?_cons_zero, List.getElem?_cons_succ, Option.some.injEq] at ho
    subst ho
    have d0 : a'.tmps[226]?.getD undef = .pointer (some ⟨B, 0, none⟩) := by
      have := hdep 0 (by simp [Region.binds])
      rw [← Array.getD_eq_getD_getElem?]; exact this
    clear hdep
    unfold Oper.wp
    go_simp
    exact hK _ _ hb (by unfold grPer; rw [if_neg (by decide)]; exact hself) (upd_self _ _ _)
  | 2, _ =>
    simp only [grOps, List.getElem?_toArray, List.getElem?_cons_zero, List.getElem?_cons_succ, Option.some.injEq] at ho
    subst ho
    clear hdep
    unfold Oper.wp
    go_simp
    exact hK _ _ hb (by unfold grPer; rw [if_neg (by decide)]; exact hself) (upd_self _ _ _)
  | 3, _ =>
    simp only [grOps, List.getElem?_toArray, List.getElem?_cons_zero, List.getElem?_cons_succ, Option.some.injEq] at ho
    subst ho
    clear hdep
    unfold Oper.wp
    go_simp
    exact hK _ _ hb (by unfold grPer; rw [if_neg (by decide)]; exact hself) (upd_self _ _ _)
  | 4, _ =>
    simp only [grOps, List.getElem?_toArray, List.getElem?_cons_zero, List.getElem?_cons_succ, Option.some.injEq] at ho
    subst ho
    have d0 : a'.tmps[228]?.getD undef = .slice (some ⟨ga, 0, none⟩) l ca := by
      have := hdep 2 (by simp [Region.binds])
      rw [← Array.getD_eq_getD_getElem?]; exact this
    have d1 : a'.tmps[229]?.getD undef = .int .i64 j := by
      have := hdep 3 (by simp [Region.binds])
      rw [← Array.getD_eq_getD_getElem?]; exact this
    clear hdep
    unfold Oper.wp
    go_simp
    exact hK _ _ hb (by unfold grPer; rw [if_neg (by decide)]; exact hself) (upd_self _ _ _)
  | 5, _ =>
    simp only [grOps, List.getElem?_toArray, List.getElem?_cons_zero, List.getElem?_cons_succ, Option.some.injEq] at ho
    subst ho
    have d0 : a'.tmps[230]?.getD undef = .pointer (some ⟨ga, j, none⟩) := by
      have := hdep 4 (by simp [Region.binds])
      rw [← Array.getD_eq_getD_getElem?]; exact this
    clear hdep
    unfold Oper.wp
    go_simp
    exact hK _ _ hb (by unfold grPer; rw [if_neg (by decide)]; exact hself) (upd_self _ _ _)
  | 6, _ =>
    simp only [grOps, List.getElem?_toArray, List.getElem?_cons_zero, List.getElem?_cons_succ, Option.some.injEq] at ho
    subst ho
    have d0 : a'.tmps[227]?.getD undef = .slice (some ⟨bw, ow, none⟩) n1 c' := by
      have := hdep 1 (by simp [Region.binds])
      rw [← Array.getD_eq_getD_getElem?]; exact this
    have d1 : a'.tmps[231]?.getD undef = .int .i64 a := by
      have := hdep 5 (by simp [Region.binds])
      rw [← Array.getD_eq_getD_getElem?]; exact this
    clear hdep
    unfold Oper.wp
    go_simp
    exact hK _ _ hb (by unfold grPer; rw [if_neg (by decide)]; exact hself) (upd_self _ _ _)
  | 7, _ =>
    simp only [grOps, List.getElem?_toArray, List.getElem?_cons_zero, List.getElem?_cons_succ, Option.some.injEq] at ho
    subst ho
    have d0 : a'.tmps[232]?.getD undef = .pointer (some ⟨bw, ow + a.toNat, none⟩) := by
      have := hdep 6 (by simp [Region.binds])
      rw [← Array.getD_eq_getD_getElem?]; exact this
    clear hdep
    unfold Oper.wp
    go_simp
    exact hK _ _ hb (by unfold grPer; rw [if_neg (by decide)]; exact hself) (upd_self _ _ _)
  | 8, _ =>
    simp only [grOps, List.getElem?_toArray, List.getElem?_cons_zero, List.getElem?_cons_succ, Option.some.injEq] at ho
    subst ho
    have d0 : a'.tmps[233]?.getD undef = .int .u64 X := by
      have := hdep 7 (by simp [Region.binds])
      rw [← Array.getD_eq_getD_getElem?]; exact this
    clear hdep
    unfold Oper.wp
    go_simp
    refine Calls.mono (hG w') ?_
    rintro e w'' ⟨rfl, hb'⟩
    exact hK _ _ (bjoin hb' hb) (by unfold grPer; rw [if_neg (by decide)]; exact hb') (upd_self _ _ _)
  | 9, _ =>
    simp only [grOps, List.getElem?_toArray, List.getElem?_cons_zero, List.getElem?_cons_succ, Option.some.injEq] at ho
    subst ho
    have d0 : a'.tmps[234]?.getD undef = .tuple #[.agg #[.bool true, .bool C, .int .i64 K, .int .i64 F], .bool true] := by
      have := hdep 8 (by simp [Region.binds])
      rw [← Array.getD_eq_getD_getElem?]; exact this
    clear hdep
    unfold Oper.wp
    go_simp
    exact hK _ _ hb (by unfold grPer; rw [if_neg (by decide)]; exact hself) (upd_self _ _ _)
  | 10, _ =>
    simp only [grOps, List.getElem?_toArray, List.getElem?_cons_zero, List.getElem?_cons_succ, Option.some.injEq] at ho
    subst ho
    have d0 : a'.tmps[225]?.getD undef = .tuple #[.agg #[.bool true, .bool C, .int .i64 K, .int .i64 F], .bool true] := by
      have := hdep 9 (by simp [Region.binds])
      rw [← Array.getD_eq_getD_getElem?]; exact this
    clear hdep
    unfold Oper.wp
    go_simp
    exact hK _ _ hb (by unfold grPer; rw [if_neg (by decide)]; exact hself) (upd_self _ _ _)
  | 11, _ =>
    simp only [grOps, List.getElem?_toArray, List.getElem?_cons_zero, List.getElem?_cons_succ, Option.some.injEq] at ho
    subst ho
    have d0 : a'.tmps[225]?.getD undef = .tuple #[.agg #[.bool true, .bool C, .int .i64 K, .int .i64 F], .bool true] := by
      have := hdep 9 (by simp [Region.binds])
      rw [← Array.getD_eq_getD_getElem?]; exact this
    clear hdep
    unfold Oper.wp
    go_simp
    exact hK _ _ hb (by unfold grPer; rw [if_neg (by decide)]; exact hself) (upd_self _ _ _)
  | 12, _ =>
    simp only [grOps, List.getElem?_toArray, List.getElem?_cons_zero, List.getElem?_cons_succ, Option.some.injEq] at ho
    subst ho
    clear hdep
    unfold Oper.wp
    go_simp
    have hal : Below w'.heap.size w' (w'.alloc (.cells #[.bool false, .bool false, .int .i64 0, .int .i64 0] 52)) := (Below.refl _ _).alloc (Nat.le_refl _) _
    exact hK _ _ (bjoin hal hb) (by unfold grPer; rw [if_neg (by decide)]; exact hal) ⟨w'.heap.size, upd_self _ _ _, hb.size, _, _, _, _, Box4.new _ _ _ _ _ _⟩
  | 13, _ =>
    simp only [grOps, List.getElem?_toArray, List.getElem?_cons_zero, List.getElem?_cons_succ, Option.some.injEq] at ho
    subst ho
    have d0 : a'.tmps[235]?.getD undef = .agg #[.bool true, .bool C, .int .i64 K, .int .i64 F] := by
      have := hdep 10 (by simp [Region.binds])
      rw [← Array.getD_eq_getD_getElem?]; exact this
    obtain ⟨g, h1, h2, x0, x1, x2, x3, h3⟩ := hdep 12 (by simp [Region.binds])
    have d1 : a'.tmps[24]?.getD undef = .pointer (some ⟨g, 0, none⟩) := by rw [← Array.getD_eq_getD_getElem?]; exact h1
    have hput := h3.put (.bool true) (.bool C) (.int .i64 K) (.int .i64 F)
    have hbl := puts4_below h2 (.bool true) (.bool C) (.int .i64 K) (.int .i64 F) w'
    have hsh : ∀ g' y0 y1 y2 y3, Box4 g' y0 y1 y2 y3 w' → ∃ z0 z1 z2 z3, Box4 g' z0 z1 z2 z3 (puts4 g (.bool true) (.bool C) (.int .i64 K) (.int .i64 F) w') := fun g' y0 y1 y2 y3 hy => by
      by_cases e : g' = g
      · subst e; exact ⟨_, _, _, _, hput⟩
      · exact ⟨y0, y1, y2, y3, hy.of_block (puts4_block _ _ _ _ _ e) (by rw [puts4_size]; exact Nat.le_refl _)⟩
    have hfin := hK (.tuple #[]) (puts4 g (.bool true) (.bool C) (.int .i64 K) (.int .i64 F) w') (hb.trans hbl) (by unfold grPer; rw [if_pos rfl]; exact ⟨hbl, hsh⟩) ⟨g, (upd_other _ _ (by decide)).trans h1, h2, hput⟩
    obtain ⟨h0, c0, c1, c2, c3, f0, f1, f2, f3⟩ := h3
    unfold puts4 at hfin
    clear hdep hput hbl hsh hK
    unfold Oper.wp
    go_simp
    exact hfin
  | 14, _ =>
    simp only [grOps, List.getElem?_toArray, List.getElem?_cons_zero, List.getElem?_cons_succ, Option.some.injEq] at ho
    subst ho
    have d0 : a'.tmps[236]?.getD undef = .bool true := by
      have := hdep 11 (by simp [Region.binds])
      rw [← Array.getD_eq_getD_getElem?]; exact this
    clear hdep
    unfold Oper.wp
    go_simp
    exact hK _ _ hb (by unfold grPer; rw [if_neg (by decide)]; exact hself) (upd_self _ _ _)
theorem gr_nodup : ∀ (j k : Nat) (d : Nat), grSlots[j]? = some (some d) → grSlots[k]? = some (some d) → j = k := by
  intro j k d hj hk
  have h1 : j < 15 := by rcases Nat.lt_or_ge j 15 with h | h; exact h; rw [List.getElem?_eq_none (by simp [grSlots]; omega)] at hj; cases hj
  have h2 : k < 15 := by rcases Nat.lt_or_ge k 15 with h | h; exact h; rw [List.getElem?_eq_none (by simp [grSlots]; omega)] at hk; cases hk
  have hd : (List.range 15).all (fun j => (List.range 15).all fun k => decide (j = k) || decide (grSlots[j]? = some none) || !decide (grSlots[j]? = grSlots[k]?)) = true := by decide
  have h3 := List.all_eq_true.1 (List.all_eq_true.1 hd j (List.mem_range.2 h1)) k (List.mem_range.2 h2)
  rw [hj, hk] at h3
  simpa using h3
set_option maxHeartbeats 1000000 in
theorem wp_got_row {id : Nat} {B bw ow n1 c' ga l ca j : Nat} {a X K F : Int} {C : Bool} {q v2 : Value} {W : World} {A : Act} {Q : Exit → Act → World → Prop} (hm : Tryd.prog.follows .mixedOrders = true) (hsz : 236 < A.tmps.size)
    (hB : Box3 B (.slice (some ⟨bw, ow, none⟩) n1 c') q v2 W) (hj : j < l) (vA : W.cell? ⟨ga, j, none⟩ = some (.int .i64 a)) (lA : ga < W.heap.size) (a0 : 0 ≤ a) (a1 : a < n1) (hn : n1 ≤ 512) (hl : l ≤ 100) (vW : W.cell? ⟨bw, ow + a.toNat, none⟩ = some (.int .u64 X)) (lW : bw < W.heap.size)
    (hG : ∀ W, Calls Tryd.prog 27 #[.int .u64 X] W fun e w' => e = .returned (.tuple #[.agg #[.bool true, .bool C, .int .i64 K, .int .i64 F], .bool true]) ∧ Below W.heap.size W w')
    (e6 : A.tmps.getD 6 undef = .pointer (some ⟨B, 0, none⟩)) (e8 : A.tmps.getD 8 undef = .slice (some ⟨ga, 0, none⟩) l ca) (e22 : A.tmps.getD 22 undef = .int .i64 j)
    (hK : ∀ x0 x1 x2 x3 x4 x5 x6 x7 x8 x9 x10 x11 g w', W.heap.size ≤ g → Box4 g (.bool true) (.bool C) (.int .i64 K) (.int .i64 F) w' → Below W.heap.size W w' →
      Q .normal (puts [226, 227, 228, 229, 230, 231, 232, 233, 234, 225, 235, 236, 24, 25] [x0, x1, x2, x3, x4, x5, x6, x7, x8, x9, x10, x11, .pointer (some ⟨g, 0, none⟩), .bool true] A) w') :
    (Code.region id grOps.toArray true).wp Tryd.prog Q A W := by
  refine wp_region_whole (Φ := grPhi W.heap.size B bw ow n1 c' ga l ca j a X K F C) (R := fun w' => Below W.heap.size W w') (Per := grPer W.heap.size) grSlots hm (by kernel_rfl) rfl gr_nodup (fun d hd => ?_) (fun i k V v w w' hne hdep _ hp h => gr_per i k V v w w' hne hdep hp h) (Below.refl _ _).drew
    (gr_step rfl hB hj vA lA a0 a1 hn hl vW lW hG e6 e8 e22) ?_
  · have : d ≤ 236 := by
      simp only [grSlots, List.mem_cons, Option.some.injEq, List.not_mem_nil, or_false, reduceCtorEq, false_or] at hd
      omega
    omega
  intro a' w' hb hdf hsz' hsame hf
  obtain ⟨g, h1, h2, h3⟩ := hf 13 (by decide)
  have h25 := hf 14 (by decide)
  have h25' : a'.tmps.getD 25 undef = .bool true := h25
  have h24' : a'.tmps.getD 24 undef = .pointer (some ⟨g, 0, none⟩) := h1
  have hputs := puts_of [226, 227, 228, 229, 230, 231, 232, 233, 234, 225, 235, 236, 24, 25] A hdf hsz' (by simp; omega) (fun t ht => hsame t (by simpa [grSlots] using ht))
  simp only [List.map_cons, List.map_nil, h25', h24'] at hputs
  have hQ := hK (a'.tmps.getD 226 undef) (a'.tmps.getD 227 undef) (a'.tmps.getD 228 undef) (a'.tmps.getD 229 undef) (a'.tmps.getD 230 undef) (a'.tmps.getD 231 undef) (a'.tmps.getD 232 undef) (a'.tmps.getD 233 undef) (a'.tmps.getD 234 undef) (a'.tmps.getD 225 undef) (a'.tmps.getD 235 undef) (a'.tmps.getD 236 undef) g w' h2 h3 hb
  rw [← hputs] at hQ
  exact hQ
end Go.Proofs.YtjlflbaglaillaaDoor
