/- 'copy' into a row of the call's own, of elements of whatever size; rows of values written one by one. -/
import Derived.Test.YtcackfimcpheoaaVals
import Derived.Test.YtcackfimcpheoaaSoftS
import Derived.Laws.IdiomCopy
namespace Go.Proofs.Ytcackfimcpheoaa
set_option linter.unusedSimpArgs false
set_option linter.unusedVariables false
open Go.ChangeShapes Go.WideShapes Go.ChangeAt Go.RowKit Go.Joins

theorem vlVals_at (s : Nat → Vl) {n j : Nat} (h : j < n * 2) : (vlVals n s)[j]? = some (if j % 2 = 0 then .int .i64 (s (j / 2)).k else .int .i64 (s (j / 2)).n) := by
  obtain ⟨g0, g1⟩ := vlVals_get s (n := n) (i := j / 2) (by omega)
  by_cases hj : j % 2 = 0
  · rw [if_pos hj, ← g0]; congr 1; omega
  · rw [if_neg hj, ← g1]; congr 1; omega
theorem setFrom_drop : ∀ (ys : List Value) (k : Nat) (cur : Array Value), (setFrom cur k ys).toList.drop (k + ys.length) = cur.toList.drop (k + ys.length)
  | [], _, _ => rfl
  | y :: ys, k, cur => by
    have ih := setFrom_drop ys (k + 1) (cur.setIfInBounds k y)
    rw [setFrom, List.length_cons, show k + (ys.length + 1) = k + 1 + ys.length by omega, ih, Array.toList_setIfInBounds, List.drop_set_of_lt (by omega)]
theorem wpList_copy_s {P : Program} {w : World} {ops : Array Oper} {rest : List Oper} {o : Oper} {a : Act} {Q : Exit → Act → World → Prop} (hgd : o.guard = none) (d s : Operand) (dT sT : TypeId)
    (ho : o.op = .call { callee := .builtin .copy, args := #[d, s], argTypes := #[dT, sT] }) (elem : TypeId) (i : TypeInfo) (sz : Nat) (hu : P.underlying dT = some (.slice elem)) (hi : P.info? elem = some i) (hsz : i.size = sz)
    (g dLen dCap : Nat) (p : Option Addr) (n c : Nat) (hd : a.eval d = .slice (some ⟨g, 0, none⟩) dLen dCap) (hs : a.eval s = .slice p n c) (T : TypeId) (cur : Array Value) (hg : TBox T g cur w)
    (cs : List Value) (hle : n ≤ dLen) (hl : cs.length = n * sz) (hnil : p = none → n = 0) (hcells : ∀ ad, p = some ad → ∀ j u, cs[j]? = some u → w.cell? (ad.add j) = some u) (hfit : cs.length ≤ cur.size) (h1 : ∀ v ∈ cs, v.oneCell' = true)
    (h : wpList P ops Q rest (a.put o.dst (goInt n)) (putsL g 0 cs w)) : wpList P ops Q (o :: rest) a w := by
  refine wpList_plain hgd fun K hK => ?_
  have hmin : Nat.min n dLen = n := Nat.min_eq_left hle
  have hst := run_storeCells_cells (P := P) g 0 cs 0 w (fun j hj => by
    simp only [Nat.zero_add]
    rw [hg.cell, Array.getElem?_eq_getElem (show j < cur.size by omega)]; rfl) (fun j hj => hg.frozen _) h1
  have hrun : (Builtin.copy_ #[dT, sT] o.type #[.slice (some ⟨g, 0, none⟩) dLen dCap, .slice p n c]).run P w = .ok (goInt n) (putsL g 0 cs w) := by
    rw [← setCells_putsL]
    cases p with
    | none =>
      obtain rfl := hnil rfl
      obtain rfl : cs = [] := List.eq_nil_of_length_eq_zero (by omega)
      simp [Builtin.copy_, run_underlying hu, Builtin.lenOf, Builtin.firstCells, sizeOf, typeInfo, hi, storeCells, World.setCells]
    | some ad =>
      have hfc := run_firstCells_some (P := P) w i.size n ad n c cs (by rw [hl, hsz]) (hcells ad rfl)
      simp only [Nat.zero_add, Nat.add_zero] at hst
      simp [Builtin.copy_, run_underlying hu, Builtin.lenOf, sizeOf, typeInfo, hi, hmin, hfc, hst]
  unfold Oper.wp
  simp [execOp, ho, resolve, invoke, builtin, hd, hs, hrun, Result.andThen]
  exact hK _ _ h
/-- The values, and noughts behind them. -/
def cvZ (n : Nat) (z : Nat → Vl) : Nat → Vl := fun j => if j < n then z j else ⟨0, 0⟩
theorem cv_from (n m : Nat) (hm : n ≤ m) (z : Nat → Vl) : setFrom (vlVals m (fun _ => ⟨0, 0⟩)).toArray 0 (vlVals n z) = (vlVals m (cvZ n z)).toArray := by
  have h := setFrom_take (vlVals n z) 0 (vlVals m (fun _ => (⟨0, 0⟩ : Vl))).toArray (by simp [vlVals_length]; omega)
  have hs := setFrom_size (vlVals n z) 0 (vlVals m (fun _ => (⟨0, 0⟩ : Vl))).toArray
  have hd := setFrom_drop (vlVals n z) 0 (vlVals m (fun _ => (⟨0, 0⟩ : Vl))).toArray
  simp only [Nat.zero_add, List.take_zero, List.nil_append] at h hd
  apply Array.ext'
  rw [← List.take_append_drop (vlVals n z).length (setFrom (vlVals m (fun _ => (⟨0, 0⟩ : Vl))).toArray 0 (vlVals n z)).toList, h, hd]
  simp only []
  apply List.ext_getElem?
  intro j
  rw [List.getElem?_append, vlVals_length, List.getElem?_drop]
  by_cases hj : j < n * 2
  · rw [if_pos hj, vlVals_at z hj, vlVals_at (cvZ n z) (by omega)]
    have e : cvZ n z (j / 2) = z (j / 2) := if_pos (by omega)
    rw [e]
  · rw [if_neg hj, show n * 2 + (j - n * 2) = j by omega]
    by_cases hj2 : j < m * 2
    · rw [vlVals_at _ hj2, vlVals_at _ hj2]
      have e : cvZ n z (j / 2) = ⟨0, 0⟩ := if_neg (by omega)
      rw [e]
    · rw [List.getElem?_eq_none (by rw [vlVals_length]; omega), List.getElem?_eq_none (by rw [vlVals_length]; omega)]
theorem made_vals (m : Nat) : (madeCells (Value.agg #[.int .i64 0, .int .i64 0]).cells (m * 2)).toList = vlVals m (fun _ => ⟨0, 0⟩) := by
  apply List.ext_getElem?
  intro j
  by_cases h : j < m * 2
  · rw [vlVals_at _ h]
    have e : (Value.agg #[.int .i64 0, .int .i64 0]).cells = #[Value.int .i64 0, Value.int .i64 0] := rfl
    rw [e]
    unfold madeCells
    simp [h]
    rcases Nat.mod_two_eq_zero_or_one j with e | e <;> simp [e]
  · rw [List.getElem?_eq_none (by rw [Array.length_toList, size_madeCells]; omega), List.getElem?_eq_none (by rw [vlVals_length]; omega)]
theorem tbox_owned {w : World} {base : Nat} {e : TypeId} {g n s : Nat} {xs : List Value} (h : w.ownsRow base e s (.slice (some ⟨g, 0, none⟩) n n) n xs) : TBox e g xs.toArray w := by
  rcases h.2 with ⟨h', -⟩ | ⟨g', cap', cur, hv, -, hg, -, -, hs, ht⟩
  · simp at h'
  · simp only [Value.slice.injEq, Option.some.injEq, Addr.mk.injEq, and_true, true_and] at hv
    obtain ⟨rfl, rfl⟩ := hv
    unfold TBox
    rw [hg, ← ht, List.take_of_length_le (by simp [hs])]
/-- One value of a row written. -/
def svZ (z : Nat → Vl) (k : Nat) (v : Vl) : Nat → Vl := fun i => if i = k then v else z i
theorem sv_set (m : Nat) (z : Nat → Vl) (k : Nat) (v : Vl) (hk : k < m) : ((vlVals m z).toArray.setIfInBounds (k * 2) (.int .i64 v.k)).setIfInBounds (k * 2 + 1) (.int .i64 v.n) = (vlVals m (svZ z k v)).toArray := by
  apply Array.ext'
  rw [Array.toList_setIfInBounds, Array.toList_setIfInBounds]
  apply List.ext_getElem?
  intro j
  by_cases h : j < m * 2
  · rw [List.getElem?_set, List.getElem?_set]
    simp only [List.length_set, vlVals_length]
    rw [vlVals_at (svZ z k v) h]
    by_cases h1 : k * 2 + 1 = j
    · rw [if_pos h1, if_pos (by omega)]
      have e : svZ z k v (j / 2) = v := if_pos (by omega)
      rw [e, if_neg (by omega)]
    · rw [if_neg h1]
      by_cases h2 : k * 2 = j
      · rw [if_pos h2, if_pos (by omega)]
        have e : svZ z k v (j / 2) = v := if_pos (by omega)
        rw [e, if_pos (by omega)]
      · rw [if_neg h2, vlVals_at z h]
        have e : svZ z k v (j / 2) = z (j / 2) := if_neg (by omega)
        rw [e]
  · rw [List.getElem?_eq_none (by simp [vlVals_length]; omega), List.getElem?_eq_none (by rw [vlVals_length]; omega)]
end Go.Proofs.Ytcackfimcpheoaa
