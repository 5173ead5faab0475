/- 'x, ok := F(h, l[i])', F of a header and a Bool: one region that draws its order, reads, calls, and stores into a new variable: of whatever function and slots. -/
import Derived.Test.YthhehhlibkdmgaaDoorObjIn
namespace Go.Proofs.YthhehhlibkdmgaaDoor
set_option linter.unusedSimpArgs false
set_option linter.unusedVariables false
open Go.ChangeShapes Go.WideShapes Go.ChangeAt Go.RowKit Go.Joins

def gtOps (f s r d0 d1 hb lb ib : Nat) (pos : String) : List Oper :=
  [{ dst := some s, op := .load 25 (.tmp hb), type := 25, pos := pos, after := #[], guard := none },
   { dst := some (s + 1), op := .move (.tmp lb), type := 29, pos := pos, after := #[], guard := none },
   { dst := some (s + 2), op := .move (.tmp ib), type := 3, pos := pos, after := #[], guard := none },
   { dst := some (s + 3), op := .indexAddr 29 (.tmp (s + 1)) (.tmp (s + 2)), type := 0, pos := pos, after := #[{ on := 1, ground := .data }, { on := 2, ground := .data }], guard := none },
   { dst := some (s + 4), op := .load 3 (.tmp (s + 3)), type := 3, pos := pos, after := #[{ on := 3, ground := .data }], guard := none },
   { dst := some (s + 5), op := .call { callee := .value (.func f), args := #[.tmp s, .tmp (s + 4)], argTypes := #[25, 3] }, type := 33, pos := pos, after := #[{ on := 0, ground := .data }, { on := 4, ground := .data }], guard := none },
   { dst := some r, op := .move (.tmp (s + 5)), type := 33, pos := pos, after := #[{ on := 5, ground := .data }], guard := none },
   { dst := some (s + 6), op := .extract (.tmp r) 0, type := 32, pos := pos, after := #[{ on := 6, ground := .data }], guard := none },
   { dst := some (s + 7), op := .extract (.tmp r) 1, type := 4, pos := pos, after := #[{ on := 6, ground := .data }, { on := 10, ground := .gcOnly .lateStores }], guard := none },
   { dst := some d0, op := .alloc 32, type := 0, pos := pos, after := #[], guard := none },
   { dst := none, op := .store 32 (.tmp d0) (.tmp (s + 6)), type := 0, pos := pos, after := #[{ on := 9, ground := .data }, { on := 7, ground := .data }, { on := 5, ground := .chain }, { on := 0, ground := .phase }, { on := 1, ground := .phase }, { on := 2, ground := .phase }, { on := 3, ground := .phase }, { on := 4, ground := .phase }, { on := 5, ground := .phase }, { on := 6, ground := .phase }, { on := 7, ground := .phase }, { on := 8, ground := .textOnly .lateStores }, { on := 9, ground := .phase }], guard := none },
   { dst := some d1, op := .assign (.tmp (s + 7)), type := 4, pos := pos, after := #[{ on := 8, ground := .data }, { on := 10, ground := .chain }, { on := 0, ground := .phase }, { on := 1, ground := .phase }, { on := 2, ground := .phase }, { on := 3, ground := .phase }, { on := 4, ground := .phase }, { on := 5, ground := .phase }, { on := 6, ground := .phase }, { on := 7, ground := .phase }, { on := 8, ground := .phase }, { on := 9, ground := .phase }, { on := 10, ground := .phase }], guard := none }]
def gtSlots (s r d0 d1 : Nat) : List (Option Nat) := [some s, some (s + 1), some (s + 2), some (s + 3), some (s + 4), some (s + 5), some r, some (s + 6), some (s + 7), some d0, none, some d1]
def gtDec (s r d0 d1 d : Nat) : Nat := if d = r then 6 else if d = d0 then 9 else if d = d1 then 11 else if d ≤ s + 5 then d - s else d - s + 1
theorem gt_dec {s r d0 d1 : Nat} (hr : r < s) (h0 : d0 < s) (h1 : d1 < s) (n1 : ¬ r = d0) (n2 : ¬ r = d1) (n3 : ¬ d0 = d1) : ∀ (j d : Nat), (gtSlots s r d0 d1)[j]? = some (some d) → j = gtDec s r d0 d1 d := by
  intro j d hj
  match j, hj with
  | 0, hj =>
    obtain rfl : s = d := by simpa [gtSlots] using hj
    unfold gtDec
    (repeat' split) <;> omega
  | 1, hj =>
    obtain rfl : s + 1 = d := by simpa [gtSlots] using hj
    unfold gtDec
    (repeat' split) <;> omega
  | 2, hj =>
    obtain rfl : s + 2 = d := by simpa [gtSlots] using hj
    unfold gtDec
    (repeat' split) <;> omega
  | 3, hj =>
    obtain rfl : s + 3 = d := by simpa [gtSlots] using hj
    unfold gtDec
    (repeat' split) <;> omega
  | 4, hj =>
    obtain rfl : s + 4 = d := by simpa [gtSlots] using hj
    unfold gtDec
    (repeat' split) <;> omega
  | 5, hj =>
    obtain rfl : s + 5 = d := by simpa [gtSlots] using hj
    unfold gtDec
    (repeat' split) <;> omega
  | 6, hj =>
    obtain rfl : r = d := by simpa [gtSlots] using hj
    unfold gtDec
    (repeat' split) <;> omega
  | 7, hj =>
    obtain rfl : s + 6 = d := by simpa [gtSlots] using hj
    unfold gtDec
    (repeat' split) <;> omega
  | 8, hj =>
    obtain rfl : s + 7 = d := by simpa [gtSlots] using hj
    unfold gtDec
    (repeat' split) <;> omega
  | 9, hj =>
    obtain rfl : d0 = d := by simpa [gtSlots] using hj
    unfold gtDec
    (repeat' split) <;> omega
  | 10, hj => exact absurd hj (by simp [gtSlots])
  | 11, hj =>
    obtain rfl : d1 = d := by simpa [gtSlots] using hj
    unfold gtDec
    (repeat' split) <;> omega
  | _ + 12, hj => exact absurd hj (by simp [gtSlots])
theorem gt_nodup {s r d0 d1 : Nat} (hr : r < s) (h0 : d0 < s) (h1 : d1 < s) (n1 : ¬ r = d0) (n2 : ¬ r = d1) (n3 : ¬ d0 = d1) : ∀ (j k d : Nat), (gtSlots s r d0 d1)[j]? = some (some d) → (gtSlots s r d0 d1)[k]? = some (some d) → j = k := fun j k d hj hk =>
  (gt_dec hr h0 h1 n1 n2 n3 j d hj).trans (gt_dec hr h0 h1 n1 n2 n3 k d hk).symm
/-- What each leaves. -/
def gtPhi (N bl off M cl : Nat) (t x : Int) (vH : Value) (U C O : Bool) (K F : Int) : Nat → (Nat → Value) → World → Prop
  | 0, V, _ => V 0 = vH
  | 1, V, _ => V 1 = .slice (some ⟨bl, off, none⟩) M cl
  | 2, V, _ => V 2 = .int .i64 t
  | 3, V, _ => V 3 = .pointer (some ⟨bl, off + t.toNat, none⟩)
  | 4, V, _ => V 4 = .int .i64 x
  | 5, V, _ => V 5 = .tuple #[.agg #[.bool U, .bool C, .int .i64 K, .int .i64 F], .bool O]
  | 6, V, _ => V 6 = .tuple #[.agg #[.bool U, .bool C, .int .i64 K, .int .i64 F], .bool O]
  | 7, V, _ => V 7 = .agg #[.bool U, .bool C, .int .i64 K, .int .i64 F]
  | 8, V, _ => V 8 = .bool O
  | 9, V, w => ∃ g, V 9 = .pointer (some ⟨g, 0, none⟩) ∧ N ≤ g ∧ ∃ x0 x1 x2 x3, Box4 g x0 x1 x2 x3 w
  | 10, V, w => ∃ g, V 9 = .pointer (some ⟨g, 0, none⟩) ∧ N ≤ g ∧ Box4 g (.bool U) (.bool C) (.int .i64 K) (.int .i64 F) w
  | 11, V, _ => V 11 = .bool O
  | _, _, _ => True
def gtPer (N i : Nat) (w w' : World) : Prop := if i = 10 then Below N w w' ∧ ∀ g x0 x1 x2 x3, Box4 g x0 x1 x2 x3 w → ∃ y0 y1 y2 y3, Box4 g y0 y1 y2 y3 w' else Below w.heap.size w w'
theorem gt_per {f s r d0 d1 hb lb ib : Nat} {pos : String} {N bl off M cl : Nat} {t x : Int} {vH : Value} {U C O : Bool} {K F : Int} (i k : Nat) (V : Nat → Value) (v : Value) (w w' : World) (hne : i ≠ k) (hdep : ∀ o, (gtOps f s r d0 d1 hb lb ib pos).toArray[k]? = some o → (o.after.any fun e => Region.binds .any e && e.on == i) = false)
    (hp : gtPer N i w w') (h : gtPhi N bl off M cl t x vH U C O K F k V w) : gtPhi N bl off M cl t x vH U C O K F k (upd V i v) w' := by
  have e : upd V i v k = V k := by unfold upd; rw [if_neg (Ne.symm hne)]
  match k, hne, hdep, h, e with
  | 0, _, _, h, e => exact e.trans h
  | 1, _, _, h, e => exact e.trans h
  | 2, _, _, h, e => exact e.trans h
  | 3, _, _, h, e => exact e.trans h
  | 4, _, _, h, e => exact e.trans h
  | 5, _, _, h, e => exact e.trans h
  | 6, _, _, h, e => exact e.trans h
  | 7, _, _, h, e => exact e.trans h
  | 8, _, _, h, e => exact e.trans h
  | 9, hne, _, ⟨g, h1, h2, x0, x1, x2, x3, h3⟩, e =>
    refine ⟨g, e.trans h1, h2, ?_⟩
    unfold gtPer at hp
    by_cases hi : i = 10
    · rw [if_pos hi] at hp; exact hp.2 g x0 x1 x2 x3 h3
    · rw [if_neg hi] at hp; exact ⟨x0, x1, x2, x3, h3.below hp⟩
  | 10, hne, hdep, ⟨g, h1, h2, h3⟩, _ =>
    have hi : ¬ i = 9 := fun hi => by
      subst hi
      have hx := hdep _ (show (gtOps f s r d0 d1 hb lb ib pos).toArray[10]? = some _ from rfl)
      revert hx
      simp [gtOps, Region.binds]
    unfold gtPer at hp
    rw [if_neg hne] at hp
    exact ⟨g, by unfold upd; rw [if_neg (fun h => hi h.symm)]; exact h1, h2, h3.below hp⟩
  | 11, _, _, h, e => exact e.trans h
  | _ + 12, _, _, _, _ => trivial
set_option maxHeartbeats 1000000 in
theorem gt_step {f s r d0 d1 hb lb ib : Nat} {pos : String} {N B bl off M cl : Nat} {t x : Int} {p : Option Addr} {n c : Nat} {q : Option Addr} {m d : Nat} {b : Bool} {U C O : Bool} {K F : Int} {W : World} {A : Act} {Q : Exit → Act → World → Prop} (hent : ∀ args w, (callFunc f args).run Tryd.prog w = .ok (.enter f args) w) (hN : N = W.heap.size)
    (hr : r < s) (h0 : d0 < s) (h1 : d1 < s) (hh : hb < s) (hl : lb < s) (hi : ib < s) (m1 : ¬ hb = r) (m2 : ¬ hb = d0) (m3 : ¬ hb = d1) (m4 : ¬ lb = r) (m5 : ¬ lb = d0) (m6 : ¬ lb = d1) (m7 : ¬ ib = r) (m8 : ¬ ib = d0) (m9 : ¬ ib = d1)
    (hB : Box3 B (.slice p n c) (.slice q m d) (.bool b) W) (t0 : 0 ≤ t) (t1 : t < M) (hM : M ≤ 512) (vX : W.cell? ⟨bl, off + t.toNat, none⟩ = some (.int .i64 x)) (lX : bl < W.heap.size)
    (hG : ∀ W', Below W.heap.size W W' → Calls Tryd.prog f #[.agg #[.slice p n c, .slice q m d, .bool b], .int .i64 x] W' fun e w' => e = .returned (.tuple #[.agg #[.bool U, .bool C, .int .i64 K, .int .i64 F], .bool O]) ∧ Below W'.heap.size W' w')
    (eh : A.tmps.getD hb undef = .pointer (some ⟨B, 0, none⟩)) (el : A.tmps.getD lb undef = .slice (some ⟨bl, off, none⟩) M cl) (ei : A.tmps.getD ib undef = .int .i64 t) :
    ∀ i o, (gtOps f s r d0 d1 hb lb ib pos).toArray[i]? = some o → ∀ (a' : Act) (w' : World), Below N W w' → (∀ t, some t ∉ gtSlots s r d0 d1 → a'.tmps.getD t undef = A.tmps.getD t undef) →
      (∀ k, (o.after.any fun e => Region.binds .any e && e.on == k) = true → gtPhi N bl off M cl t x (.agg #[.slice p n c, .slice q m d, .bool b]) U C O K F k (slotVals a' (gtSlots s r d0 d1)) w') →
      ∀ K' : Act → World → Prop, (∀ v w'', Below N W w'' → gtPer N i w' w'' → gtPhi N bl off M cl t x (.agg #[.slice p n c, .slice q m d, .bool b]) U C O K F i (upd (slotVals a' (gtSlots s r d0 d1)) i (valOf o v)) w'' → K' (a'.put o.dst v) w'') → o.wp Tryd.prog a' w' K' Q := by
  intro i o ho a' w' hb' hsame hdep K' hK
  have sh : a'.tmps[hb]?.getD undef = .pointer (some ⟨B, 0, none⟩) := by rw [← Array.getD_eq_getD_getElem?]; exact (hsame hb (by simp [gtSlots]; omega)).trans eh
  have sl : a'.tmps[lb]?.getD undef = .slice (some ⟨bl, off, none⟩) M cl := by rw [← Array.getD_eq_getD_getElem?]; exact (hsame lb (by simp [gtSlots]; omega)).trans el
  have si : a'.tmps[ib]?.getD undef = .int .i64 t := by rw [← Array.getD_eq_getD_getElem?]; exact (hsame ib (by simp [gtSlots]; omega)).trans ei
  subst hN
  have hGw := hG w' hb'
  obtain ⟨lB, k0, k1, k2, -, -, -⟩ := hB.below hb'
  have vX' : w'.cell? ⟨bl, off + t.toNat, none⟩ = some (.int .i64 x) := by rw [hb'.cell (p := ⟨bl, off + t.toNat, none⟩) lX]; exact vX
  have hself : Below w'.heap.size w' w' := Below.refl _ _
  have hin : i < 12 := by
    rcases Nat.lt_or_ge i 12 with h | h
    · exact h
    · have : (gtOps f s r d0 d1 hb lb ib pos).toArray[i]? = none := by simp [gtOps]; omega
      rw [this] at ho; cases ho
  clear hsame eh el ei hB vX hG m1 m2 m3 m4 m5 m6 m7 m8 m9 hr h0 h1 hh hl hi
  match i, hin with
  | 0, _ =>
    simp only [gtOps, List.getElem?_toArray, List.getElem?_cons_zero, List.getElem?_cons_succ, Option.some.injEq] at ho
    subst ho
    clear hdep
    unfold Oper.wp
    go_simp
    exact hK _ _ hb' (by unfold gtPer; rw [if_neg (by decide)]; exact hself) (upd_self _ _ _)
  | 1, _ =>
    simp only [gtOps, List.getElem?_toArray, List.getElem?_cons_zero, List.getElem?_cons_succ, Option.some.injEq] at ho
    subst ho
    clear hdep
    unfold Oper.wp
    go_simp
    exact hK _ _ hb' (by unfold gtPer; rw [if_neg (by decide)]; exact hself) (upd_self _ _ _)
  | 2, _ =>
    simp only [gtOps, List.getElem?_toArray, List.getElem?_cons_zero, List.getElem?_cons_succ, Option.some.injEq] at ho
    subst ho
    clear hdep
    unfold Oper.wp
    go_simp
    exact hK _ _ hb' (by unfold gtPer; rw [if_neg (by decide)]; exact hself) (upd_self _ _ _)
  | 3, _ =>
    simp only [gtOps, List.getElem?_toArray, List.getElem?_cons_zero, List.getElem?_cons_succ, Option.some.injEq] at ho
    subst ho
    have e0 : a'.tmps[s + 1]?.getD undef = .slice (some ⟨bl, off, none⟩) M cl := by
      have := hdep 1 (by simp [Region.binds])
      rw [← Array.getD_eq_getD_getElem?]; exact this
    have e1 : a'.tmps[s + 2]?.getD undef = .int .i64 t := by
      have := hdep 2 (by simp [Region.binds])
      rw [← Array.getD_eq_getD_getElem?]; exact this
    clear hdep
    unfold Oper.wp
    go_simp
    exact hK _ _ hb' (by unfold gtPer; rw [if_neg (by decide)]; exact hself) (upd_self _ _ _)
  | 4, _ =>
    simp only [gtOps, List.getElem?_toArray, List.getElem?_cons_zero, List.getElem?_cons_succ, Option.some.injEq] at ho
    subst ho
    have e0 : a'.tmps[s + 3]?.getD undef = .pointer (some ⟨bl, off + t.toNat, none⟩) := by
      have := hdep 3 (by simp [Region.binds])
      rw [← Array.getD_eq_getD_getElem?]; exact this
    clear hdep
    unfold Oper.wp
    go_simp
    exact hK _ _ hb' (by unfold gtPer; rw [if_neg (by decide)]; exact hself) (upd_self _ _ _)
  | 5, _ =>
    simp only [gtOps, List.getElem?_toArray, List.getElem?_cons_zero, List.getElem?_cons_succ, Option.some.injEq] at ho
    subst ho
    have e0 : a'.tmps[s]?.getD undef = .agg #[.slice p n c, .slice q m d, .bool b] := by
      have := hdep 0 (by simp [Region.binds])
      rw [← Array.getD_eq_getD_getElem?]; exact this
    have e1 : a'.tmps[s + 4]?.getD undef = .int .i64 x := by
      have := hdep 4 (by simp [Region.binds])
      rw [← Array.getD_eq_getD_getElem?]; exact this
    clear hdep
    unfold Oper.wp
    go_simp
    refine Calls.mono hGw ?_
    rintro e w'' ⟨rfl, hb2⟩
    exact hK _ _ (bjoin hb2 hb') (by unfold gtPer; rw [if_neg (by decide)]; exact hb2) (upd_self _ _ _)
  | 6, _ =>
    simp only [gtOps, List.getElem?_toArray, List.getElem?_cons_zero, List.getElem?_cons_succ, Option.some.injEq] at ho
    subst ho
    have e0 : a'.tmps[s + 5]?.getD undef = .tuple #[.agg #[.bool U, .bool C, .int .i64 K, .int .i64 F], .bool O] := by
      have := hdep 5 (by simp [Region.binds])
      rw [← Array.getD_eq_getD_getElem?]; exact this
    clear hdep
    unfold Oper.wp
    go_simp
    exact hK _ _ hb' (by unfold gtPer; rw [if_neg (by decide)]; exact hself) (upd_self _ _ _)
  | 7, _ =>
    simp only [gtOps, List.getElem?_toArray, List.getElem?_cons_zero, List.getElem?_cons_succ, Option.some.injEq] at ho
    subst ho
    have e0 : a'.tmps[r]?.getD undef = .tuple #[.agg #[.bool U, .bool C, .int .i64 K, .int .i64 F], .bool O] := by
      have := hdep 6 (by simp [Region.binds])
      rw [← Array.getD_eq_getD_getElem?]; exact this
    clear hdep
    unfold Oper.wp
    go_simp
    exact hK _ _ hb' (by unfold gtPer; rw [if_neg (by decide)]; exact hself) (upd_self _ _ _)
  | 8, _ =>
    simp only [gtOps, List.getElem?_toArray, List.getElem?_cons_zero, List.getElem?_cons_succ, Option.some.injEq] at ho
    subst ho
    have e0 : a'.tmps[r]?.getD undef = .tuple #[.agg #[.bool U, .bool C, .int .i64 K, .int .i64 F], .bool O] := by
      have := hdep 6 (by simp [Region.binds])
      rw [← Array.getD_eq_getD_getElem?]; exact this
    clear hdep
    unfold Oper.wp
    go_simp
    exact hK _ _ hb' (by unfold gtPer; rw [if_neg (by decide)]; exact hself) (upd_self _ _ _)
  | 9, _ =>
    simp only [gtOps, List.getElem?_toArray, List.getElem?_cons_zero, List.getElem?_cons_succ, Option.some.injEq] at ho
    subst ho
    clear hdep
    unfold Oper.wp
    go_simp
    have hal : Below w'.heap.size w' (w'.alloc (.cells #[.bool false, .bool false, .int .i64 0, .int .i64 0] 32)) := (Below.refl _ _).alloc (Nat.le_refl _) _
    exact hK _ _ (bjoin hal hb') (by unfold gtPer; rw [if_neg (by decide)]; exact hal) ⟨w'.heap.size, upd_self _ _ _, hb'.size, _, _, _, _, Box4.new _ _ _ _ _ _⟩
  | 10, _ =>
    simp only [gtOps, List.getElem?_toArray, List.getElem?_cons_zero, List.getElem?_cons_succ, Option.some.injEq] at ho
    subst ho
    have e0 : a'.tmps[s + 6]?.getD undef = .agg #[.bool U, .bool C, .int .i64 K, .int .i64 F] := by
      have := hdep 7 (by simp [Region.binds])
      rw [← Array.getD_eq_getD_getElem?]; exact this
    obtain ⟨g, h1, h2, x0, x1, x2, x3, h3⟩ := hdep 9 (by simp [Region.binds])
    have e1 : a'.tmps[d0]?.getD undef = .pointer (some ⟨g, 0, none⟩) := by rw [← Array.getD_eq_getD_getElem?]; exact h1
    have hput := h3.put (.bool U) (.bool C) (.int .i64 K) (.int .i64 F)
    have hbl := puts4_below h2 (.bool U) (.bool C) (.int .i64 K) (.int .i64 F) w'
    have hsh : ∀ g' y0 y1 y2 y3, Box4 g' y0 y1 y2 y3 w' → ∃ z0 z1 z2 z3, Box4 g' z0 z1 z2 z3 (puts4 g (.bool U) (.bool C) (.int .i64 K) (.int .i64 F) w') := fun g' y0 y1 y2 y3 hy => by
      by_cases e : g' = g
      · subst e; exact ⟨_, _, _, _, hput⟩
      · exact ⟨y0, y1, y2, y3, hy.of_block (puts4_block _ _ _ _ _ e) (by rw [puts4_size]; exact Nat.le_refl _)⟩
    have hfin := hK (.tuple #[]) (puts4 g (.bool U) (.bool C) (.int .i64 K) (.int .i64 F) w') (hb'.trans hbl) (by unfold gtPer; rw [if_pos rfl]; exact ⟨hbl, hsh⟩) ⟨g, (upd_other _ _ (by decide)).trans h1, h2, hput⟩
    obtain ⟨h0, c0, c1, c2, c3, f0, f1, f2, f3⟩ := h3
    unfold puts4 at hfin
    clear hdep hput hbl hsh hK
    unfold Oper.wp
    go_simp
    exact hfin
  | 11, _ =>
    simp only [gtOps, List.getElem?_toArray, List.getElem?_cons_zero, List.getElem?_cons_succ, Option.some.injEq] at ho
    subst ho
    have e0 : a'.tmps[s + 7]?.getD undef = .bool O := by
      have := hdep 8 (by simp [Region.binds])
      rw [← Array.getD_eq_getD_getElem?]; exact this
    clear hdep
    unfold Oper.wp
    go_simp
    exact hK _ _ hb' (by unfold gtPer; rw [if_neg (by decide)]; exact hself) (upd_self _ _ _)
set_option maxHeartbeats 1000000 in
theorem wp_got {id f s r d0 d1 hb lb ib : Nat} {pos : String} {B bl off M cl : Nat} {t x : Int} {p : Option Addr} {n c : Nat} {q : Option Addr} {m d : Nat} {b : Bool} {U C O : Bool} {K F : Int} {W : World} {A : Act} {Q : Exit → Act → World → Prop} (hent : ∀ args w, (callFunc f args).run Tryd.prog w = .ok (.enter f args) w) (hm : Tryd.prog.follows .mixedOrders = true) (hsz : s + 7 < A.tmps.size)
    (hr : r < s) (h0 : d0 < s) (h1 : d1 < s) (hh : hb < s) (hl : lb < s) (hi : ib < s) (n1 : ¬ r = d0) (n2 : ¬ r = d1) (n3 : ¬ d0 = d1) (m1 : ¬ hb = r) (m2 : ¬ hb = d0) (m3 : ¬ hb = d1) (m4 : ¬ lb = r) (m5 : ¬ lb = d0) (m6 : ¬ lb = d1) (m7 : ¬ ib = r) (m8 : ¬ ib = d0) (m9 : ¬ ib = d1)
    (hB : Box3 B (.slice p n c) (.slice q m d) (.bool b) W) (t0 : 0 ≤ t) (t1 : t < M) (hM : M ≤ 512) (vX : W.cell? ⟨bl, off + t.toNat, none⟩ = some (.int .i64 x)) (lX : bl < W.heap.size)
    (hG : ∀ W', Below W.heap.size W W' → Calls Tryd.prog f #[.agg #[.slice p n c, .slice q m d, .bool b], .int .i64 x] W' fun e w' => e = .returned (.tuple #[.agg #[.bool U, .bool C, .int .i64 K, .int .i64 F], .bool O]) ∧ Below W'.heap.size W' w')
    (eh : A.tmps.getD hb undef = .pointer (some ⟨B, 0, none⟩)) (el : A.tmps.getD lb undef = .slice (some ⟨bl, off, none⟩) M cl) (ei : A.tmps.getD ib undef = .int .i64 t)
    (hK : ∀ x0 x1 x2 x3 x4 x5 x6 x7 x8 g w', W.heap.size ≤ g → Box4 g (.bool U) (.bool C) (.int .i64 K) (.int .i64 F) w' → Below W.heap.size W w' →
      Q .normal (puts [s, s + 1, s + 2, s + 3, s + 4, s + 5, r, s + 6, s + 7, d0, d1] [x0, x1, x2, x3, x4, x5, x6, x7, x8, .pointer (some ⟨g, 0, none⟩), .bool O] A) w') :
    (Code.region id (gtOps f s r d0 d1 hb lb ib pos).toArray true).wp Tryd.prog Q A W := by
  refine wp_region_whole (Φ := gtPhi W.heap.size bl off M cl t x (.agg #[.slice p n c, .slice q m d, .bool b]) U C O K F) (R := fun w' => Below W.heap.size W w') (Per := gtPer W.heap.size) (gtSlots s r d0 d1) hm (by kernel_rfl) rfl (gt_nodup hr h0 h1 n1 n2 n3) (fun d hd => ?_) (fun i k V v w w' hne hdep _ hp h => gt_per i k V v w w' hne hdep hp h) (Below.refl _ _).drew
    (gt_step hent rfl hr h0 h1 hh hl hi m1 m2 m3 m4 m5 m6 m7 m8 m9 hB t0 t1 hM vX lX hG eh el ei) ?_
  · have : d ≤ s + 7 := by
      simp only [gtSlots, List.mem_cons, Option.some.injEq, List.not_mem_nil, or_false, reduceCtorEq, false_or] at hd
      omega
    omega
  intro a' w' hb' hdf hsz' hsame hf
  obtain ⟨g, g1, g2, g3⟩ := hf 10 (by simp [gtOps])
  have e1 : a'.tmps.getD d1 undef = .bool O := hf 11 (by simp [gtOps])
  have e0 : a'.tmps.getD d0 undef = .pointer (some ⟨g, 0, none⟩) := g1
  have hputs := puts_of [s, s + 1, s + 2, s + 3, s + 4, s + 5, r, s + 6, s + 7, d0, d1] A hdf hsz' (by simp; omega) (fun t ht => hsame t (by simpa [gtSlots] using ht))
  simp only [List.map_cons, List.map_nil, e1, e0] at hputs
  have hQ := hK (a'.tmps.getD s undef) (a'.tmps.getD (s + 1) undef) (a'.tmps.getD (s + 2) undef) (a'.tmps.getD (s + 3) undef) (a'.tmps.getD (s + 4) undef) (a'.tmps.getD (s + 5) undef) (a'.tmps.getD r undef) (a'.tmps.getD (s + 6) undef) (a'.tmps.getD (s + 7) undef) g w' g2 g3 hb'
  rw [← hputs] at hQ
  exact hQ
end Go.Proofs.YthhehhlibkdmgaaDoor
