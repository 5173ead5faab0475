/- A set of numbers as a map of the call's own, and slices.Sorted of its keys. -/
import Derived.Test.YtmkcjolaboggnaaDoorSameI
import Derived.Maps.OwnSet
import Derived.Shelf.SlIterI.Nil
import Derived.Shelf.SortM.Plain
import Derived.Shelf.SortM.SortNone
namespace Go.Proofs.YtmkcjolaboggnaaDoor
set_option linter.unusedSimpArgs false
set_option linter.unusedVariables false
open Go.ChangeShapes Go.WideShapes Go.ChangeAt Go.RowKit Go.Joins Go.Maps Go.Sort Go.Shelf

theorem int_keyedS : Keyed Tryd.prog 3 := int_keyed Tryd.underlying3
theorem false_zero (w : World) : (zeroValue 4).run Tryd.prog w = .ok (.bool false) w := by kernel_rfl
/-- Block b is a map whose keys are the numbers of K, each true. -/
def SetAt (w : World) (b : Nat) (K : List Int) : Prop :=
  ∃ D : DataW Unit, w.ownsMap Tryd.prog 3 (plainElem Tryd.prog 4) b K.length D ∧ K.Nodup ∧ (∀ x, Maps.has D (.int .i64 x) = decide (x ∈ K)) ∧ (∀ x, D.atKey (.int .i64 x) (.lit (.bool false)) = .lit (.bool (decide (x ∈ K))))
theorem SetAt.made (w : World) : SetAt (w.alloc (.map #[] 0)) w.heap.size [] :=
  ⟨.map [], World.ownsMap_made _ _ _ _, List.nodup_nil, fun x => by simp [Maps.has], fun x => by simp [DataW.atKey]⟩
theorem SetAt.lt {w : World} {b : Nat} {K : List Int} (h : SetAt w b K) : b < w.heap.size := by obtain ⟨D, h, -⟩ := h; exact h.lt
theorem SetAt.kept {w w' : World} {b : Nat} {K : List Int} {row : Option Nat} (h : SetAt w b K) (hg : w.grownBy w' row) (hne : some b ≠ row) : SetAt w' b K := by
  obtain ⟨D, h, r⟩ := h
  exact ⟨D, h.kept hg hne, r⟩
theorem SetAt.below {w w' : World} {b : Nat} {K : List Int} (h : SetAt w b K) (hb : Below w.heap.size w w') : SetAt w' b K := by
  have hlt := h.lt
  obtain ⟨D, ⟨es, clock, he, F, hs, hD⟩, r⟩ := h
  exact ⟨D, ⟨es, clock, (hb.block b hlt).trans he, F, hs, hD⟩, r⟩
theorem SetAt.nodup {w : World} {b : Nat} {K : List Int} (h : SetAt w b K) : K.Nodup := by obtain ⟨D, -, h, -⟩ := h; exact h
theorem bool_inv {P : Program} {t : TypeId} (he : P.underlying t = some .bool) {v : Value} {x : Bool} {ps : List MemPlace} (h : plainElem (H := Unit) P t v = some (.lit (.bool x), ps)) : v = .bool x := by
  unfold plainElem at h
  rw [he] at h
  cases v <;> simp at h
  rw [h.1]
/-- 'm[x]' of such a map. -/
theorem wpList_set_ask {w : World} {ops : Array Oper} {rest : List Oper} {o : Oper} {a : Act} {Q : Exit → Act → World → Prop} (hg : o.guard = none) (m x : Operand) (hop : o.op = Op.lookup 43 m x false)
    {b : Nat} {K : List Int} {k : Int} (hs : SetAt w b K) (hw : (Lit.int .i64 k).wf = true) {B : Bool} (hB : decide (k ∈ K) = B) (hm : a.eval m = .map (some b)) (hx : a.eval x = .int .i64 k)
    (hK : wpList Tryd.prog ops Q rest (a.put o.dst (.bool B)) w) : wpList Tryd.prog ops Q (o :: rest) a w := by
  obtain ⟨D, hown, -, -, hat⟩ := hs
  refine wpList_plain hg fun K' hK' => ?_
  obtain ⟨v, ps, hrun, hv⟩ := hown.lookup int_keyedS (t := 43) Tryd.underlying43 (false_zero w) (plainElem_bool Tryd.underlying4 false) (keyOf_int_mk Tryd.underlying3 hw)
  rw [hat k, hB] at hv
  obtain rfl := bool_inv Tryd.underlying4 hv
  unfold Oper.wp
  simp [execOp, hop, hm, hx, hrun, Result.andThen]
  exact hK' _ _ hK
/-- 'm[x] = true'. -/
theorem wpList_set_put {w : World} {ops : Array Oper} {rest : List Oper} {o : Oper} {a : Act} {Q : Exit → Act → World → Prop} (hg : o.guard = none) (m x v : Operand) (hop : o.op = Op.mapUpdate 43 m x v)
    {b : Nat} {K : List Int} {k : Int} (hs : SetAt w b K) (hw : (Lit.int .i64 k).wf = true) (hnew : k ∉ K) (hn : K.length < maxLen) (hm : a.eval m = .map (some b)) (hx : a.eval x = .int .i64 k) (hv : a.eval v = .bool true)
    (hK : ∀ w', SetAt w' b (k :: K) → w.grownBy w' (some b) → wpList Tryd.prog ops Q rest (a.put o.dst undef) w') : wpList Tryd.prog ops Q (o :: rest) a w := by
  obtain ⟨D, hown, hnd, hhas, hat⟩ := hs
  have hD := (hown.tidy int_keyedS).isMap
  have hkl : WideAt.IsKeyLit (.int .i64 k) := trivial
  refine wpList_mapUpdate_own w hg m x v 43 hop 3 4 int_keyedS Tryd.underlying43 _ b K.length D hm hown hn _ _ (.int .i64 k) hx hv (keyOf_int_mk Tryd.underlying3 hw) _ [] (plainElem_bool Tryd.underlying4 true) ?_
  intro w' h1 h2
  refine hK w' ⟨_, h1, List.nodup_cons.2 ⟨hnew, hnd⟩, fun y => ?_, fun y => ?_⟩ h2
  · by_cases e : y = k
    · subst e; rw [Maps.has_put_same hD hkl]; simp
    · rw [Maps.has_put_other (fun he => e (by injection he)), hhas y]; simp [e]
  · by_cases e : y = k
    · subst e; rw [Maps.atKey_put_same hD hkl]; simp
    · rw [Maps.atKey_put_other (fun he => e (by injection he)), hat y]; simp [e]
theorem set_keys {w : World} {b : Nat} {K : List Int} {D : DataW Unit} (hown : w.ownsMap Tryd.prog 3 (plainElem Tryd.prog 4) b K.length D) (hnd : K.Nodup) (hhas : ∀ x, Maps.has D (.int .i64 x) = decide (x ∈ K)) : K.Perm (intKeys D) := by
  obtain ⟨es, hD, hpw, _⟩ := hown.entries int_keyedS
  obtain ⟨es', hD', hko⟩ := hown.keysOf
  obtain rfl : es = es' := by rw [hD] at hD'; simpa using hD'
  subst hD
  exact perm_intKeys hpw (fun p hp => by obtain ⟨v, hv⟩ := hko p hp; obtain ⟨x, _, hx, _⟩ := Maps.keyOf_i64 Tryd.underlying3 hv; exact ⟨x, hx⟩) hnd (fun x => by rw [hhas x]; simp)
def keysA_ren : Go.Shelf.Ren := ⟨fun | 7 => 17 | 10 => 31 | n => n, fun | 23 => 43 | 26 => 3 | 3 => 4 | 28 => 49 | 0 => 0 | 27 => 48 | 33 => 71 | 4 => 4 | n => n, fun | n => n⟩
theorem keysA : Go.Proofs.SlLaysZI.n7 Tryd.prog keysA_ren := {
  mixed := by kernel_rfl,
  f7 := ⟨Tryd.f17.name, by decide, Tryd.func17.trans (congrArg some (by kernel_rfl))⟩,
  f10 := ⟨Tryd.f31.name, by decide, Tryd.func31.trans (congrArg some (by kernel_rfl))⟩,
  t0 := Tryd.underlying0,
  a0 := Tryd.isAgg0,
  z0 := Tryd.sizeOf0,
  v0 := Tryd.zeroValue0,
  t4 := Tryd.underlying4,
  a4 := Tryd.isAgg4,
  z4 := Tryd.sizeOf4,
  v4 := Tryd.zeroValue4,
  t23 := Tryd.underlying43,
  a23 := Tryd.isAgg43,
  z23 := Tryd.sizeOf43,
  v23 := Tryd.zeroValue43,
  t26 := Tryd.underlying3,
  a26 := Tryd.isAgg3,
  z26 := Tryd.sizeOf3,
  v26 := Tryd.zeroValue3,
  t27 := Tryd.underlying48,
  a27 := Tryd.isAgg48,
  z27 := Tryd.sizeOf48,
  v27 := Tryd.zeroValue48,
  t28 := Tryd.underlying49,
  a28 := Tryd.isAgg49,
  z28 := Tryd.sizeOf49,
  v28 := Tryd.zeroValue49,
  t33 := Tryd.underlying71,
  a33 := Tryd.isAgg71,
  z33 := Tryd.sizeOf71,
  v33 := Tryd.zeroValue71 }
def sortedA_ren : Go.Shelf.Ren := ⟨fun | 6 => 16 | 8 => 29 | 9 => 30 | 11 => 41 | 13 => 43 | 12 => 42 | 23 => 71 | 24 => 72 | 14 => 62 | 15 => 63 | 16 => 64 | 17 => 65 | 18 => 66 | 19 => 67 | 20 => 68 | 21 => 69 | 22 => 70 | 25 => 80 | 26 => 81 | 27 => 82 | 28 => 83 | 29 => 84 | 30 => 85 | 31 => 89 | n => n, fun | 26 => 3 | 28 => 49 | 24 => 29 | 0 => 0 | 3 => 3 | 37 => 87 | 48 => 40 | 50 => 68 | 4 => 4 | 40 => 109 | 39 => 108 | 45 => 96 | 5 => 5 | 9 => 9 | 51 => 121 | 55 => 125 | 57 => 128 | 58 => 129 | 33 => 71 | n => n, fun | n => n⟩
theorem sortedA : Go.Proofs.SlLaysZI.n6 Tryd.prog sortedA_ren := {
  mixed := by kernel_rfl,
  f6 := ⟨Tryd.f16.name, by decide, Tryd.func16.trans (congrArg some (by kernel_rfl))⟩,
  f8 := ⟨Tryd.f29.name, by decide, Tryd.func29.trans (congrArg some (by kernel_rfl))⟩,
  f11 := ⟨Tryd.f41.name, by decide, Tryd.func41.trans (congrArg some (by kernel_rfl))⟩,
  t0 := Tryd.underlying0,
  a0 := Tryd.isAgg0,
  z0 := Tryd.sizeOf0,
  v0 := Tryd.zeroValue0,
  t24 := Tryd.underlying29,
  a24 := Tryd.isAgg29,
  z24 := Tryd.sizeOf29,
  v24 := Tryd.zeroValue29,
  t26 := Tryd.underlying3,
  a26 := Tryd.isAgg3,
  z26 := Tryd.sizeOf3,
  v26 := Tryd.zeroValue3,
  t28 := Tryd.underlying49,
  a28 := Tryd.isAgg49,
  z28 := Tryd.sizeOf49,
  v28 := Tryd.zeroValue49,
  i26 := by kernel_rfl }
def sortA_ren : Go.Shelf.Ren := ⟨fun | 5 => 30 | 8 => 43 | 7 => 42 | 19 => 71 | 20 => 72 | 10 => 62 | 11 => 63 | 12 => 64 | 13 => 65 | 14 => 66 | 15 => 67 | 16 => 68 | 17 => 69 | 18 => 70 | 30 => 80 | 31 => 81 | 32 => 82 | 33 => 83 | 34 => 84 | 35 => 85 | 40 => 89 | n => n, fun | 23 => 29 | 25 => 3 | 3 => 3 | 32 => 87 | 22 => 29 | 0 => 0 | 44 => 40 | 46 => 68 | 4 => 4 | 36 => 109 | 35 => 108 | 41 => 96 | 5 => 5 | 9 => 9 | 53 => 121 | 57 => 125 | 63 => 128 | 64 => 129 | n => n, fun | n => n⟩
theorem sortA : Go.Proofs.SlLaysM.n5 Tryd.prog sortA_ren := {
  mixed := by kernel_rfl,
  f5 := ⟨Tryd.f30.name, by decide, Tryd.func30.trans (congrArg some (by kernel_rfl))⟩,
  f7 := ⟨Tryd.f42.name, by decide, Tryd.func42.trans (congrArg some (by kernel_rfl))⟩,
  f8 := Tryd.func43.trans (congrArg some (by kernel_rfl)),
  f10 := ⟨Tryd.f62.name, by decide, Tryd.func62.trans (congrArg some (by kernel_rfl))⟩,
  f11 := ⟨Tryd.f63.name, by decide, Tryd.func63.trans (congrArg some (by kernel_rfl))⟩,
  f12 := ⟨Tryd.f64.name, by decide, Tryd.func64.trans (congrArg some (by kernel_rfl))⟩,
  f13 := ⟨Tryd.f65.name, by decide, Tryd.func65.trans (congrArg some (by kernel_rfl))⟩,
  f14 := ⟨Tryd.f66.name, by decide, Tryd.func66.trans (congrArg some (by kernel_rfl))⟩,
  f15 := ⟨Tryd.f67.name, by decide, Tryd.func67.trans (congrArg some (by kernel_rfl))⟩,
  f16 := ⟨Tryd.f68.name, by decide, Tryd.func68.trans (congrArg some (by kernel_rfl))⟩,
  f17 := ⟨Tryd.f69.name, by decide, Tryd.func69.trans (congrArg some (by kernel_rfl))⟩,
  f18 := ⟨Tryd.f70.name, by decide, Tryd.func70.trans (congrArg some (by kernel_rfl))⟩,
  f19 := Tryd.func71.trans (congrArg some (by kernel_rfl)),
  f20 := Tryd.func72.trans (congrArg some (by kernel_rfl)),
  f30 := ⟨Tryd.f80.name, by decide, Tryd.func80.trans (congrArg some (by kernel_rfl))⟩,
  f31 := Tryd.func81.trans (congrArg some (by kernel_rfl)),
  f32 := Tryd.func82.trans (congrArg some (by kernel_rfl)),
  f33 := ⟨Tryd.f83.name, by decide, Tryd.func83.trans (congrArg some (by kernel_rfl))⟩,
  f34 := ⟨Tryd.f84.name, by decide, Tryd.func84.trans (congrArg some (by kernel_rfl))⟩,
  f35 := ⟨Tryd.f85.name, by decide, Tryd.func85.trans (congrArg some (by kernel_rfl))⟩,
  f40 := ⟨Tryd.f89.name, by decide, Tryd.func89.trans (congrArg some (by kernel_rfl))⟩,
  t0 := Tryd.underlying0,
  a0 := Tryd.isAgg0,
  z0 := Tryd.sizeOf0,
  v0 := Tryd.zeroValue0,
  t3 := Tryd.underlying3,
  a3 := Tryd.isAgg3,
  z3 := Tryd.sizeOf3,
  v3 := Tryd.zeroValue3,
  t4 := Tryd.underlying4,
  a4 := Tryd.isAgg4,
  z4 := Tryd.sizeOf4,
  v4 := Tryd.zeroValue4,
  t5 := Tryd.underlying5,
  a5 := Tryd.isAgg5,
  z5 := Tryd.sizeOf5,
  v5 := Tryd.zeroValue5,
  t9 := Tryd.underlying9,
  a9 := Tryd.isAgg9,
  z9 := Tryd.sizeOf9,
  v9 := Tryd.zeroValue9,
  t22 := Tryd.underlying29,
  a22 := Tryd.isAgg29,
  z22 := Tryd.sizeOf29,
  v22 := Tryd.zeroValue29,
  t23 := Tryd.underlying29,
  a23 := Tryd.isAgg29,
  z23 := Tryd.sizeOf29,
  v23 := Tryd.zeroValue29,
  t25 := Tryd.underlying3,
  a25 := Tryd.isAgg3,
  z25 := Tryd.sizeOf3,
  v25 := Tryd.zeroValue3,
  t32 := Tryd.underlying87,
  a32 := Tryd.isAgg87,
  z32 := Tryd.sizeOf87,
  v32 := Tryd.zeroValue87,
  t35 := Tryd.underlying108,
  a35 := Tryd.isAgg108,
  z35 := Tryd.sizeOf108,
  v35 := Tryd.zeroValue108,
  t36 := Tryd.underlying109,
  a36 := Tryd.isAgg109,
  z36 := Tryd.sizeOf109,
  v36 := Tryd.zeroValue109,
  t41 := Tryd.underlying96,
  a41 := Tryd.isAgg96,
  z41 := Tryd.sizeOf96,
  v41 := Tryd.zeroValue96,
  t44 := Tryd.underlying40,
  a44 := Tryd.isAgg40,
  z44 := Tryd.sizeOf40,
  v44 := Tryd.zeroValue40,
  t46 := Tryd.underlying68,
  a46 := Tryd.isAgg68,
  z46 := Tryd.sizeOf68,
  v46 := Tryd.zeroValue68,
  t53 := Tryd.underlying121,
  a53 := Tryd.isAgg121,
  z53 := Tryd.sizeOf121,
  v53 := Tryd.zeroValue121,
  t57 := Tryd.underlying125,
  a57 := Tryd.isAgg125,
  z57 := Tryd.sizeOf125,
  v57 := Tryd.zeroValue125,
  t63 := Tryd.underlying128,
  a63 := Tryd.isAgg128,
  z63 := Tryd.sizeOf128,
  v63 := Tryd.zeroValue128,
  t64 := Tryd.underlying129,
  a64 := Tryd.isAgg129,
  z64 := Tryd.sizeOf129,
  v64 := Tryd.zeroValue129 }
theorem sortsA (m : Nat) : AnyZI.SortsIn Tryd.prog sortedA_ren Fence.wide m :=
  ⟨fun blk off cap ss W hH hblk hsz => callsIn_wide.2 (AnyM.slices_Sort_int sortA blk off cap ss W hH hblk hsz),
   fun p cap W => callsIn_wide.2 (AnyM.slices_Sort_int_none sortA p cap W)⟩
/-- maps.Keys of a map. -/
theorem keys_any (b : Nat) (w : World) : Calls Tryd.prog 17 #[.map (some b)] w fun e w' => e = .returned (.func (.func 31) #[] #[.pointer (some ⟨w.heap.size, 0, none⟩)]) ∧ w' = w.alloc (.cells #[.map (some b)] 43) :=
  callsIn_wide.1 (AnyZI.keys_in keysA Fence.wide 5 trivial rfl (some b) w)
/-- slices.Sorted of what maps.Keys answers: the numbers, rising. -/
theorem sorted_any {b B : Nat} {K : List Int} {w : World} (hs : SetAt w b K) (hc : w.cell? ⟨B, 0, none⟩ = some (.map (some b))) (hB : B < w.heap.size) (hk : K.length ≤ 1000000) :
    Calls Tryd.prog 16 #[.func (.func 31) #[] #[.pointer (some ⟨B, 0, none⟩)]] w fun e w' => ∃ (v : Value) (ss : List Int), e = .returned v ∧ ss.Perm K ∧ ss.Pairwise (· < ·) ∧ w'.ownsRow w.heap.size 3 1 v ss.length (ss.map (Value.int .i64)) ∧ Below w.heap.size w w' := by
  obtain ⟨D, hown, hnd, hhas, -⟩ := hs
  have hp := set_keys hown hnd hhas
  have hsz := hown.size_le
  have hseq : SeqGives Fence.wide 2 Tryd.prog 31 #[.pointer (some ⟨B, 0, none⟩)] encZ (fun ss => ss.Perm (intKeys D)) (Maps.size D) w :=
    AnyZI.keys_gives (ρ := keysA_ren) { keysA with } Fence.wide _ trivial rfl (by omega) B b _ D w hB hc hown
  have cS := AnyZI.sorted_in sortedA Fence.wide 5 trivial trivial trivial trivial rfl (by omega) (sortsA _) (enters_of Tryd.func30 (by kernel_rfl) rfl) 31 #[.pointer (some ⟨B, 0, none⟩)] trivial (enters_of Tryd.func31 (by kernel_rfl) rfl) _ _ (by simp only [maxLen]; omega) (by omega) _ hseq
  refine Calls.mono (callsIn_wide.1 cS) ?_
  rintro e w' ⟨v, ss, rfl, hS, hrow, -, hb⟩
  have hpm : (ss.mergeSort (fun x y => decide (x ≤ y))).Perm K := (List.mergeSort_perm _ _).trans (hS.trans hp.symm)
  have hle : (ss.mergeSort (fun x y => decide (x ≤ y))).length = ss.length := (List.mergeSort_perm ss _).length_eq
  have hsort := List.pairwise_mergeSort (le := leI) (fun a b c h1 h2 => by simp only [leI, decide_eq_true_eq] at *; omega) (fun a b => by simp only [leI, Bool.or_eq_true, decide_eq_true_eq]; omega) ss
  have hnd' : (ss.mergeSort leI).Nodup := (hpm.nodup_iff).2 hnd
  refine ⟨v, ss.mergeSort leI, rfl, hpm, ?_, by rw [hle]; exact hrow, hb⟩
  exact (hsort.and hnd').imp fun ⟨h1, h2⟩ => by simp only [leI, decide_eq_true_eq] at h1; omega
end Go.Proofs.YtmkcjolaboggnaaDoor
