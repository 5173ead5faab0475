/- Contract of the reference's Played, of no turns (chapter 11). -/
import Derived.Test.YtjoepiopigmmnaaDoorTakeR
import Derived.Test.YtjoepiopigmmnaaDoorMade
namespace Go.Proofs.YtjoepiopigmmnaaDoor
set_option linter.unusedSimpArgs false
set_option linter.unusedVariables false
open Go.ChangeShapes Go.WideShapes Go.ChangeAt Go.RowKit Go.Joins

def plOps : List Oper :=
  [{ dst := some 20, op := .move (.tmp 0), type := 3, pos := "ref.go:117", after := #[], guard := none },
   { dst := some 21, op := .binOp .mul 3 (.const (.int .i64 32)) (.tmp 20) 3, type := 3, pos := "ref.go:117", after := #[{ on := 0, ground := .data }], guard := none },
   { dst := some 22, op := .makeSlice 22 (.tmp 21) (.tmp 21), type := 22, pos := "ref.go:117", after := #[{ on := 1, ground := .data }, { on := 1, ground := .data }], guard := none },
   { dst := some 23, op := .move (.tmp 0), type := 3, pos := "ref.go:117", after := #[], guard := none },
   { dst := some 24, op := .makeSlice 23 (.tmp 23) (.tmp 23), type := 23, pos := "ref.go:117", after := #[{ on := 3, ground := .data }, { on := 3, ground := .data }], guard := none },
   { dst := some 25, op := .build 25 #[(0, .tmp 22), (1, .tmp 24)], type := 25, pos := "ref.go:117", after := #[{ on := 2, ground := .data }, { on := 4, ground := .data }], guard := none },
   { dst := some 8, op := .alloc 25, type := 0, pos := "ref.go:117", after := #[], guard := none },
   { dst := none, op := .store 25 (.tmp 8) (.tmp 25), type := 0, pos := "ref.go:117", after := #[{ on := 6, ground := .data }, { on := 5, ground := .data }, { on := 0, ground := .phase }, { on := 1, ground := .phase }, { on := 2, ground := .phase }, { on := 3, ground := .phase }, { on := 4, ground := .phase }, { on := 5, ground := .phase }, { on := 6, ground := .phase }], guard := none }]
def plSlots : List Nat := [20, 21, 22, 23, 24, 25, 8]
def plPhi (N : Nat) (K : Int) : Nat → Value → World → Prop
  | 0, v, _ => v = .int .i64 K
  | 1, v, _ => v = .int .i64 (32 * K)
  | 2, v, w => w.ownsRow N 61 1 v (32 * K.toNat) (vals .u64 (32 * K.toNat) fun _ => 0)
  | 3, v, _ => v = .int .i64 K
  | 4, v, w => w.ownsRow N 42 3 v K.toNat (spVals K.toNat fun _ => ⟨0, 0, 0⟩)
  | 5, v, w => ∃ v1 v2, v = .agg #[v1, v2, .bool false] ∧ w.ownsRow N 61 1 v1 (32 * K.toNat) (vals .u64 (32 * K.toNat) fun _ => 0) ∧ w.ownsRow N 42 3 v2 K.toNat (spVals K.toNat fun _ => ⟨0, 0, 0⟩)
  | 6, v, w => ∃ g, v = .pointer (some ⟨g, 0, none⟩) ∧ N ≤ g ∧ w.heap[g]? = some (.cells #[.slice none 0 0, .slice none 0 0, .bool false] 25 (0, 0))
  | _, _, _ => True
theorem plPhi_below {N : Nat} {K : Int} (i : Nat) (v : Value) (w w' : World) (hp : plPhi N K i v w) (hb : Below w.heap.size w w') : plPhi N K i v w' := by
  match i, hp with
  | 0, hp => exact hp
  | 1, hp => exact hp
  | 2, hp => exact owned_below hp hb
  | 3, hp => exact hp
  | 4, hp => exact owned_below hp hb
  | 5, ⟨v1, v2, e, h1, h2⟩ => exact ⟨v1, v2, e, owned_below h1 hb, owned_below h2 hb⟩
  | 6, ⟨g, e, hg, h1⟩ =>
    refine ⟨g, e, hg, ?_⟩
    rw [hb.block g ?_]
    · exact h1
    · rcases Nat.lt_or_ge g w.heap.size with h' | h'
      · exact h'
      · rw [Array.getElem?_eq_none h'] at h1; cases h1
  | _ + 7, _ => trivial
set_option maxRecDepth 20000 in
theorem pl_step {K : Int} (k1 : 1 ≤ K) (k2 : K ≤ 16) {W : World} {a : Act} {Q : Exit → Act → World → Prop} (ha : a.tmps.getD 0 undef = .int .i64 K) :
    ∀ i o, i < 7 → plOps.toArray[i]? = some o → ∀ (a' : Act) (w' : World), Below W.heap.size W w' → (∀ t, t ∉ plSlots → a'.tmps.getD t undef = a.tmps.getD t undef) →
      (∀ j x, j < 7 → plSlots[j]? = some x → (o.after.any fun e => Region.binds .any e && e.on == j) = true → plPhi W.heap.size K j (a'.tmps.getD x undef) w') →
      ∀ K' : Act → World → Prop, (∀ v w'', Below w'.heap.size w' w'' → plPhi W.heap.size K i v w'' → K' (a'.put o.dst v) w'') → o.wp Tryd.prog a' w' K' Q := by
  intro i o hi ho a' w' hb hsame hdep K' hK
  have s0 : a'.tmps[0]?.getD undef = .int .i64 K := by rw [← Array.getD_eq_getD_getElem?]; exact (hsame 0 (by decide)).trans ha
  have dep : ∀ (j x : Nat), j < 7 → plSlots[j]? = some x → (o.after.any fun e => Region.binds .any e && e.on == j) = true → plPhi W.heap.size K j (a'.tmps[x]?.getD undef) w' := fun j x h1 h2 h3 => by
    have := hdep j x h1 h2 h3
    rwa [Array.getD_eq_getD_getElem?] at this
  clear hdep hsame ha
  match i, hi with
  | 0, _ =>
    simp only [plOps, List.getElem?_toArray, List.getElem?_cons_zero, List.getElem?_cons_succ, Option.some.injEq] at ho
    subst ho
    unfold Oper.wp
    go_simp
    exact hK _ _ (Below.refl _ _) rfl
  | 1, _ =>
    simp only [plOps, List.getElem?_toArray, List.getElem?_cons_zero, List.getElem?_cons_succ, Option.some.injEq] at ho
    subst ho
    have e : a'.tmps[20]?.getD undef = .int .i64 K := dep 0 20 (by decide) rfl (by simp [Region.binds])
    have hw : IntKind.i64.wrap (32 * K) = 32 * K := by rw [IntKind.wrap_i64]; omega
    unfold Oper.wp
    go_simp
    exact hK _ _ (Below.refl _ _) (by first | rfl | (show Value.int .i64 _ = _; rw [hw]))
  | 2, _ =>
    simp only [plOps, List.getElem?_toArray, List.getElem?_cons_zero, List.getElem?_cons_succ, Option.some.injEq] at ho
    subst ho
    have e : a'.tmps[21]?.getD undef = .int .i64 (32 * K) := dep 1 21 (by decide) rfl (by simp [Region.binds])
    have hm := make_words K k1 k2 w'
    clear dep
    unfold Oper.wp
    go_simp
    have hal : Below w'.heap.size w' (w'.alloc (.cells (madeCells #[.int .u64 0] (32 * K.toNat)) 61)) := (Below.refl _ _).alloc (Nat.le_refl _) _
    exact hK _ _ hal (made_own hb.size (by rw [made_one, vals_const]) (by rw [size_madeCells]; omega) (by simp only [maxLen]; omega) (by decide))
  | 3, _ =>
    simp only [plOps, List.getElem?_toArray, List.getElem?_cons_zero, List.getElem?_cons_succ, Option.some.injEq] at ho
    subst ho
    unfold Oper.wp
    go_simp
    exact hK _ _ (Below.refl _ _) rfl
  | 4, _ =>
    simp only [plOps, List.getElem?_toArray, List.getElem?_cons_zero, List.getElem?_cons_succ, Option.some.injEq] at ho
    subst ho
    have e : a'.tmps[23]?.getD undef = .int .i64 K := dep 3 23 (by decide) rfl (by simp [Region.binds])
    have hm := make_spans K k1 k2 w'
    clear dep
    unfold Oper.wp
    go_simp
    have hal : Below w'.heap.size w' (w'.alloc (.cells (madeCells #[.int .i64 0, .int .i64 0, .int .u32 0] (K.toNat * 3)) 42)) := (Below.refl _ _).alloc (Nat.le_refl _) _
    exact hK _ _ hal (made_own hb.size (made_spans _) (by rw [size_madeCells]) (by simp only [maxLen]; omega) (by decide))
  | 5, _ =>
    simp only [plOps, List.getElem?_toArray, List.getElem?_cons_zero, List.getElem?_cons_succ, Option.some.injEq] at ho
    subst ho
    have o1 : w'.ownsRow W.heap.size 61 1 (a'.tmps[22]?.getD undef) (32 * K.toNat) (vals .u64 (32 * K.toNat) fun _ => 0) := dep 2 22 (by decide) rfl (by simp [Region.binds])
    have o2 : w'.ownsRow W.heap.size 42 3 (a'.tmps[24]?.getD undef) K.toNat (spVals K.toNat fun _ => ⟨0, 0, 0⟩) := dep 4 24 (by decide) rfl (by simp [Region.binds])
    obtain ⟨p1, c1, e1, -⟩ := owned_new o1
    obtain ⟨q1, d1, e2, -⟩ := owned_new o2
    rw [e1] at o1
    rw [e2] at o2
    clear dep
    unfold Oper.wp
    go_simp
    exact hK _ _ (Below.refl _ _) ⟨_, _, rfl, o1, o2⟩
  | 6, _ =>
    simp only [plOps, List.getElem?_toArray, List.getElem?_cons_zero, List.getElem?_cons_succ, Option.some.injEq] at ho
    subst ho
    clear dep
    unfold Oper.wp
    go_simp
    exact hK _ _ ((Below.refl _ _).alloc (Nat.le_refl _) _) ⟨w'.heap.size, rfl, hb.size, heap_alloc_new _ _⟩
set_option maxHeartbeats 1000000 in
theorem wp_play_row {id : Nat} {K : Int} (k1 : 1 ≤ K) (k2 : K ≤ 16) {W : World} {a : Act} {Q : Exit → Act → World → Prop} (hm : Tryd.prog.follows .mixedOrders = true) (h4 : 25 < a.tmps.size) (ha : a.tmps.getD 0 undef = .int .i64 K)
    (hK : ∀ x0 x1 x2 x3 x4 x5 g p' c' q' d'' w', HpOwn w' W.heap.size p' c' q' d'' (newH K.toNat) → Box3 g (.slice p' (32 * K.toNat) c') (.slice q' K.toNat d'') (.bool false) w' → W.heap.size ≤ g → (Value.slice p' (32 * K.toNat) c').ownBlock ≠ some g → (Value.slice q' K.toNat d'').ownBlock ≠ some g → Below W.heap.size W w' →
      Q .normal (puts plSlots [x0, x1, x2, x3, x4, x5, .pointer (some ⟨g, 0, none⟩)] a) w') :
    (Code.region id plOps.toArray true).wp Tryd.prog Q a W := by
  refine wp_region_soft 7 plSlots (plPhi W.heap.size K) hm (by kernel_rfl) (by kernel_rfl) (by simp [plOps]) (by kernel_rfl) (by kernel_rfl) rfl rfl (by decide) (by simp [plSlots]; omega) plPhi_below (pl_step k1 k2 ha) ?_
  intro a' w' hb hdf hsz hsame hf
  have f (i x : Nat) (hi : i < 7) (hx : plSlots[i]? = some x) : plPhi W.heap.size K i (a'.tmps.getD x undef) w' := hf i x hi hx
  obtain ⟨g, e7, hg, hgh⟩ := f 6 8 (by decide) rfl
  obtain ⟨v1, v2, e10, o1, o2⟩ := f 5 25 (by decide) rfl
  obtain ⟨p1, c1, rfl, -⟩ := owned_new o1
  obtain ⟨q1, d1, rfl, -⟩ := owned_new o2
  have hbox := box_of_heap hgh
  have n1 : (Value.slice p1 (32 * K.toNat) c1).ownBlock ≠ some g := fun e => by
    obtain ⟨cur, hc⟩ := owned_block o1 e
    rw [hgh] at hc; injection hc with hc; injection hc with _ hc; revert hc; decide
  have n2 : (Value.slice q1 K.toNat d1).ownBlock ≠ some g := fun e => by
    obtain ⟨cur, hc⟩ := owned_block o2 e
    rw [hgh] at hc; injection hc with hc; injection hc with _ hc; revert hc; decide
  have hne : ∀ b b', (Value.slice p1 (32 * K.toNat) c1).ownBlock = some b → (Value.slice q1 K.toNat d1).ownBlock = some b' → b ≠ b' := fun b b' e e' eb => by
    subst eb
    obtain ⟨cur, hc⟩ := owned_block o1 e
    obtain ⟨cur', hc'⟩ := owned_block o2 e'
    rw [hc] at hc'; injection hc' with hc'; injection hc' with _ hc'; revert hc'; decide
  have hown : HpOwn w' W.heap.size p1 c1 q1 d1 (newH K.toNat) := ⟨o1, o2, hne, wf_new _, by show 32 * K.toNat ≤ maxLen; simp only [maxLen]; omega, by show K.toNat ≤ maxLen; simp only [maxLen]; omega⟩
  have e7' : a'.tmps[8]?.getD undef = .pointer (some ⟨g, 0, none⟩) := by rw [← Array.getD_eq_getD_getElem?]; exact e7
  have e10' : a'.tmps[25]?.getD undef = .agg #[.slice p1 (32 * K.toNat) c1, .slice q1 K.toNat d1, .bool false] := by rw [← Array.getD_eq_getD_getElem?]; exact e10
  have hputs := puts_of plSlots a hdf hsz (by simp [plSlots]; omega) hsame
  simp only [plSlots, List.map_cons, List.map_nil, e7] at hputs
  have hQ := hK (a'.tmps.getD 20 undef) (a'.tmps.getD 21 undef) (a'.tmps.getD 22 undef) (a'.tmps.getD 23 undef) (a'.tmps.getD 24 undef) (a'.tmps.getD 25 undef) g p1 c1 q1 d1 _ ((hown.other n1 n2 0 (.slice p1 (32 * K.toNat) c1)).other n1 n2 1 (.slice q1 K.toNat d1) |>.other n1 n2 2 (.bool false)) (hbox.stores _ _ _) hg n1 n2 (below_stores hb hg _ _ _)
  simp only [plSlots] at hQ
  rw [← hputs] at hQ
  obtain ⟨lg, k0, k1', k2', f0, f1, f2⟩ := hbox
  clear hf f e7 e10 hK hputs hsame h4 hsz
  simp only [plOps, List.drop_succ_cons, List.drop_zero]
  refine wpList_plain rfl fun K2 hK' => ?_
  have hK2 := hK' a' _ (show wpList _ _ Q [] a' _ from hQ)
  clear hK' hQ
  unfold Oper.wp
  go_simp
  exact hK2
end Go.Proofs.YtjoepiopigmmnaaDoor
