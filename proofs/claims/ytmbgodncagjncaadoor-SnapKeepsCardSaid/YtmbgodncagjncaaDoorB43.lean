/- The copy of a heap in the other sense (chapter 18): 'api.Heap{Words: slices.Clone(h.Words), Spans: slices.Clone(h.Spans), Sense: !h.Sense}': one region that draws its order. -/
import Derived.Test.YtmbgodncagjncaaDoorB17
namespace Go.Proofs.YtmbgodncagjncaaDoor
set_option linter.unusedSimpArgs false
set_option linter.unusedVariables false
open Go.ChangeShapes Go.WideShapes Go.ChangeAt Go.RowKit Go.Joins

/-- The region's operations: from slot s on, the heap's pointer in slot h, the new one's in slot d. -/
def cnOps (s h d : Nat) (pos : String) : List Oper :=
  [{ dst := some s, op := .fieldAddr 25 (.tmp h) 0, type := 0, pos := pos, after := #[], guard := none },
   { dst := some (s + 1), op := .load 22 (.tmp s), type := 22, pos := pos, after := #[{ on := 0, ground := .data }], guard := none },
   { dst := some (s + 2), op := .call { callee := .value (.func 26), args := #[.tmp (s + 1)], argTypes := #[22] }, type := 22, pos := pos, after := #[{ on := 1, ground := .data }], guard := none },
   { dst := some (s + 3), op := .fieldAddr 25 (.tmp h) 1, type := 0, pos := pos, after := #[], guard := none },
   { dst := some (s + 4), op := .load 23 (.tmp (s + 3)), type := 23, pos := pos, after := #[{ on := 3, ground := .data }], guard := none },
   { dst := some (s + 5), op := .call { callee := .value (.func 27), args := #[.tmp (s + 4)], argTypes := #[23] }, type := 23, pos := pos, after := #[{ on := 4, ground := .data }, { on := 2, ground := .chain }], guard := none },
   { dst := some (s + 6), op := .fieldAddr 25 (.tmp h) 2, type := 0, pos := pos, after := #[], guard := none },
   { dst := some (s + 7), op := .load 4 (.tmp (s + 6)), type := 4, pos := pos, after := #[{ on := 6, ground := .data }], guard := none },
   { dst := some (s + 8), op := .unOp .not 4 (.tmp (s + 7)), type := 4, pos := pos, after := #[{ on := 7, ground := .data }], guard := none },
   { dst := some (s + 9), op := .build 25 #[(0, .tmp (s + 2)), (1, .tmp (s + 5)), (2, .tmp (s + 8))], type := 25, pos := pos, after := #[{ on := 2, ground := .data }, { on := 5, ground := .data }, { on := 8, ground := .data }], guard := none },
   { dst := some d, op := .alloc 25, type := 0, pos := pos, after := #[], guard := none },
   { dst := none, op := .store 25 (.tmp d) (.tmp (s + 9)), type := 0, pos := pos, after := #[{ on := 10, ground := .data }, { on := 9, ground := .data }, { on := 5, ground := .chain }, { on := 0, ground := .phase }, { on := 1, ground := .phase }, { on := 2, ground := .phase }, { on := 3, ground := .phase }, { on := 4, ground := .phase }, { on := 5, ground := .phase }, { on := 6, ground := .phase }, { on := 7, ground := .phase }, { on := 8, ground := .phase }, { on := 9, ground := .phase }, { on := 10, ground := .phase }], guard := none }]
def cnSlots (s d : Nat) : List Nat := [s, s + 1, s + 2, s + 3, s + 4, s + 5, s + 6, s + 7, s + 8, s + 9, d]
/-- What each leaves. -/
def cnPhi (B : Nat) (N : Nat) (p : Option Addr) (c : Nat) (q : Option Addr) (d : Nat) (h : Hp) : Nat → Value → World → Prop
  | 0, v, _ => v = .pointer (some ⟨B, 0, none⟩)
  | 1, v, _ => v = .slice p h.n c
  | 2, v, w => w.ownsRow N 56 1 v h.n (vals .u64 h.n h.z)
  | 3, v, _ => v = .pointer (some ⟨B, 1, none⟩)
  | 4, v, _ => v = .slice q h.m d
  | 5, v, w => w.ownsRow N 68 3 v h.m (spVals h.m h.s)
  | 6, v, _ => v = .pointer (some ⟨B, 2, none⟩)
  | 7, v, _ => v = .bool h.b
  | 8, v, _ => v = .bool (!h.b)
  | 9, v, w => ∃ v1 v2, v = .agg #[v1, v2, .bool (!h.b)] ∧ w.ownsRow N 56 1 v1 h.n (vals .u64 h.n h.z) ∧ w.ownsRow N 68 3 v2 h.m (spVals h.m h.s)
  | 10, v, w => ∃ g, v = .pointer (some ⟨g, 0, none⟩) ∧ N ≤ g ∧ w.heap[g]? = some (.cells #[.slice none 0 0, .slice none 0 0, .bool false] 25 (0, 0))
  | _, _, _ => True
theorem cnPhi_below {B N : Nat} {p : Option Addr} {c : Nat} {q : Option Addr} {d : Nat} {h : Hp} (i : Nat) (v : Value) (w w' : World) (hp : cnPhi B N p c q d h i v w) (hb : Below w.heap.size w w') : cnPhi B N p c q d h i v w' := by
  match i, hp with
  | 0, hp => exact hp
  | 1, hp => exact hp
  | 2, hp => exact owned_below hp hb
  | 3, hp => exact hp
  | 4, hp => exact hp
  | 5, hp => exact owned_below hp hb
  | 6, hp => exact hp
  | 7, hp => exact hp
  | 8, hp => exact hp
  | 9, ⟨v1, v2, e, h1, h2⟩ => exact ⟨v1, v2, e, owned_below h1 hb, owned_below h2 hb⟩
  | 10, ⟨g, e, hg, h1⟩ =>
    refine ⟨g, e, hg, ?_⟩
    rw [hb.block g ?_]
    · exact h1
    · rcases Nat.lt_or_ge g w.heap.size with h' | h'
      · exact h'
      · rw [Array.getElem?_eq_none h'] at h1; cases h1
  | _ + 11, _ => trivial
set_option maxRecDepth 20000 in
theorem cn_step (s h' d' : Nat) (pos : String) {B : Nat} {p : Option Addr} {c : Nat} {q : Option Addr} {d : Nat} {h : Hp} {W : World} {a : Act} {Q : Exit → Act → World → Prop} (hF : formB h = true) (hh : HpAt W p c q d h) (hbx : Box3 B (.slice p h.n c) (.slice q h.m d) (.bool h.b) W) (ha : a.tmps.getD h' undef = .pointer (some ⟨B, 0, none⟩)) (hh' : h' ∉ cnSlots s d') :
    ∀ i o, i < 11 → (cnOps s h' d' pos).toArray[i]? = some o → ∀ (a' : Act) (w' : World), Below W.heap.size W w' → (∀ t, t ∉ cnSlots s d' → a'.tmps.getD t undef = a.tmps.getD t undef) →
      (∀ j x, j < 11 → (cnSlots s d')[j]? = some x → (o.after.any fun e => Region.binds .any e && e.on == j) = true → cnPhi B W.heap.size p c q d h j (a'.tmps.getD x undef) w') →
      ∀ K : Act → World → Prop, (∀ v w'', Below w'.heap.size w' w'' → cnPhi B W.heap.size p c q d h i v w'' → K (a'.put o.dst v) w'') → o.wp Tryd.prog a' w' K Q := by
  intro i o hi ho a' w' hb hsame hdep K hK
  have hptr : a'.tmps.getD h' undef = .pointer (some ⟨B, 0, none⟩) := (hsame h' hh').trans ha
  have hat := hh.below hb
  have hbx' := hbx.below hb
  obtain ⟨lB, k0, k1, k2, -, -, -⟩ := hbx'
  obtain ⟨m1, m16, hnH, -⟩ := form_iff.1 hF
  replace hnH : Hid (h.n = 32 * h.m) := hnH
  have dep : ∀ (j x : Nat), j < 11 → (cnSlots s d')[j]? = some x → (o.after.any fun e => Region.binds .any e && e.on == j) = true → cnPhi B W.heap.size p c q d h j (a'.tmps[x]?.getD undef) w' := fun j x h1 h2 h3 => by
    have := hdep j x h1 h2 h3
    rwa [Array.getD_eq_getD_getElem?] at this
  clear hdep hsame ha hh hbx
  match i, hi with
  | 0, _ =>
    simp only [cnOps, List.getElem?_toArray, List.getElem?_cons_zero, List.getElem?_cons_succ, Option.some.injEq] at ho
    subst ho
    unfold Oper.wp
    go_simp
    exact hK _ _ (Below.refl _ _) rfl
  | 1, _ =>
    simp only [cnOps, List.getElem?_toArray, List.getElem?_cons_zero, List.getElem?_cons_succ, Option.some.injEq] at ho
    subst ho
    have e1 : a'.tmps[s]?.getD undef = .pointer (some ⟨B, 0, none⟩) := dep 0 (s) (by decide) rfl (by simp [Region.binds])
    unfold Oper.wp
    go_simp
    exact hK _ _ (Below.refl _ _) rfl
  | 2, _ =>
    simp only [cnOps, List.getElem?_toArray, List.getElem?_cons_zero, List.getElem?_cons_succ, Option.some.injEq] at ho
    subst ho
    have e1 : a'.tmps[s + 1]?.getD undef = .slice p h.n c := dep 1 (s + 1) (by decide) rfl (by simp [Region.binds])
    unfold Oper.wp
    go_simp
    have hn := hnH.out
    refine Calls.mono (clone_words p h.n c h.z w' hat.ints (by omega) (by omega)) ?_
    rintro e w'' ⟨p', c', rfl, hown, hb'⟩
    exact hK _ _ hb' (owned_base hown hb.size)
  | 3, _ =>
    simp only [cnOps, List.getElem?_toArray, List.getElem?_cons_zero, List.getElem?_cons_succ, Option.some.injEq] at ho
    subst ho
    unfold Oper.wp
    go_simp
    exact hK _ _ (Below.refl _ _) rfl
  | 4, _ =>
    simp only [cnOps, List.getElem?_toArray, List.getElem?_cons_zero, List.getElem?_cons_succ, Option.some.injEq] at ho
    subst ho
    have e1 : a'.tmps[s + 3]?.getD undef = .pointer (some ⟨B, 1, none⟩) := dep 3 (s + 3) (by decide) rfl (by simp [Region.binds])
    unfold Oper.wp
    go_simp
    exact hK _ _ (Below.refl _ _) rfl
  | 5, _ =>
    simp only [cnOps, List.getElem?_toArray, List.getElem?_cons_zero, List.getElem?_cons_succ, Option.some.injEq] at ho
    subst ho
    have e1 : a'.tmps[s + 4]?.getD undef = .slice q h.m d := dep 4 (s + 4) (by decide) rfl (by simp [Region.binds])
    unfold Oper.wp
    go_simp
    have hn := hnH.out
    refine Calls.mono (clone_spans q h.m d h.s w' hat.spans (by omega) (by omega)) ?_
    rintro e w'' ⟨p', c', rfl, hown, hb'⟩
    exact hK _ _ hb' (owned_base hown hb.size)
  | 6, _ =>
    simp only [cnOps, List.getElem?_toArray, List.getElem?_cons_zero, List.getElem?_cons_succ, Option.some.injEq] at ho
    subst ho
    unfold Oper.wp
    go_simp
    exact hK _ _ (Below.refl _ _) rfl
  | 7, _ =>
    simp only [cnOps, List.getElem?_toArray, List.getElem?_cons_zero, List.getElem?_cons_succ, Option.some.injEq] at ho
    subst ho
    have e1 : a'.tmps[s + 6]?.getD undef = .pointer (some ⟨B, 2, none⟩) := dep 6 (s + 6) (by decide) rfl (by simp [Region.binds])
    unfold Oper.wp
    go_simp
    exact hK _ _ (Below.refl _ _) rfl
  | 8, _ =>
    simp only [cnOps, List.getElem?_toArray, List.getElem?_cons_zero, List.getElem?_cons_succ, Option.some.injEq] at ho
    subst ho
    have e1 : a'.tmps[s + 7]?.getD undef = .bool h.b := dep 7 (s + 7) (by decide) rfl (by simp [Region.binds])
    unfold Oper.wp
    go_simp
    exact hK _ _ (Below.refl _ _) rfl
  | 9, _ =>
    simp only [cnOps, List.getElem?_toArray, List.getElem?_cons_zero, List.getElem?_cons_succ, Option.some.injEq] at ho
    subst ho
    have o1 : w'.ownsRow W.heap.size 56 1 (a'.tmps[s + 2]?.getD undef) h.n (vals .u64 h.n h.z) := dep 2 (s + 2) (by decide) rfl (by simp [Region.binds])
    have o2 : w'.ownsRow W.heap.size 68 3 (a'.tmps[s + 5]?.getD undef) h.m (spVals h.m h.s) := dep 5 (s + 5) (by decide) rfl (by simp [Region.binds])
    have e9 : a'.tmps[s + 8]?.getD undef = .bool (!h.b) := dep 8 (s + 8) (by decide) rfl (by simp [Region.binds])
    obtain ⟨p1, c1, e1, -⟩ := owned_new o1
    obtain ⟨q1, d1, e2, -⟩ := owned_new o2
    rw [e1] at o1
    rw [e2] at o2
    unfold Oper.wp
    go_simp
    exact hK _ _ (Below.refl _ _) ⟨_, _, rfl, o1, o2⟩
  | 10, _ =>
    simp only [cnOps, List.getElem?_toArray, List.getElem?_cons_zero, List.getElem?_cons_succ, Option.some.injEq] at ho
    subst ho
    unfold Oper.wp
    go_simp
    exact hK _ _ ((Below.refl _ _).alloc (Nat.le_refl _) _) ⟨w'.heap.size, rfl, hb.size, heap_alloc_new _ _⟩
set_option maxHeartbeats 1000000 in
theorem wp_clone_turn {id s h' d' : Nat} {pos : String} {B : Nat} {p : Option Addr} {c : Nat} {q : Option Addr} {d : Nat} {h : Hp} {W : World} {a : Act} {Q : Exit → Act → World → Prop} (hm : Tryd.prog.follows .mixedOrders = true)
    (h1 : h' < s) (h2 : d' < s) (h3 : h' ≠ d') (h4 : s + 9 < a.tmps.size) (hF : formB h = true) (hh : HpAt W p c q d h) (hbx : Box3 B (.slice p h.n c) (.slice q h.m d) (.bool h.b) W) (ha : a.tmps.getD h' undef = .pointer (some ⟨B, 0, none⟩))
    (hK : ∀ x0 x1 x2 x3 x4 x5 x6 x7 x8 x9 g p' c' q' d'' w', HpOwn w' W.heap.size p' c' q' d'' (flipB h) → Box3 g (.slice p' h.n c') (.slice q' h.m d'') (.bool (!h.b)) w' → W.heap.size ≤ g → (Value.slice p' h.n c').ownBlock ≠ some g → (Value.slice q' h.m d'').ownBlock ≠ some g → Below W.heap.size W w' →
      Q .normal (puts [s, s + 1, s + 2, s + 3, s + 4, s + 5, s + 6, s + 7, s + 8, s + 9, d'] [x0, x1, x2, x3, x4, x5, x6, x7, x8, x9, .pointer (some ⟨g, 0, none⟩)] a) w') :
    (Code.region id (cnOps s h' d' pos).toArray true).wp Tryd.prog Q a W := by
  have hmem : h' ∉ cnSlots s d' := by simp [cnSlots]; omega
  refine wp_region_soft 11 (cnSlots s d') (cnPhi B W.heap.size p c q d h) hm (by kernel_rfl) (by kernel_rfl) (by simp [cnOps]) (by kernel_rfl) (by kernel_rfl) rfl rfl (by simp [cnSlots]; omega) (by simp [cnSlots]; omega) cnPhi_below (cn_step s h' d' pos hF hh hbx ha hmem) ?_
  intro a' w' hb hdf hsz hsame hf
  have f (i x : Nat) (hi : i < 11) (hx : (cnSlots s d')[i]? = some x) : cnPhi B W.heap.size p c q d h i (a'.tmps.getD x undef) w' := hf i x hi hx
  obtain ⟨g, e7, hg, hgh⟩ := f 10 d' (by decide) rfl
  obtain ⟨v1, v2, e10, o1, o2⟩ := f 9 (s + 9) (by decide) rfl
  obtain ⟨p1, c1, rfl, -⟩ := owned_new o1
  obtain ⟨q1, d1, rfl, -⟩ := owned_new o2
  have hbox := box_of_heap hgh
  have n1 : (Value.slice p1 h.n c1).ownBlock ≠ some g := fun e => by
    obtain ⟨cur, hc⟩ := owned_block o1 e
    rw [hgh] at hc; injection hc with hc; injection hc with _ hc; revert hc; decide
  have n2 : (Value.slice q1 h.m d1).ownBlock ≠ some g := fun e => by
    obtain ⟨cur, hc⟩ := owned_block o2 e
    rw [hgh] at hc; injection hc with hc; injection hc with _ hc; revert hc; decide
  have hne : ∀ b b', (Value.slice p1 h.n c1).ownBlock = some b → (Value.slice q1 h.m d1).ownBlock = some b' → b ≠ b' := fun b b' e e' eb => by
    subst eb
    obtain ⟨cur, hc⟩ := owned_block o1 e
    obtain ⟨cur', hc'⟩ := owned_block o2 e'
    rw [hc] at hc'; injection hc' with hc'; injection hc' with _ hc'; revert hc'; decide
  have hown : HpOwn w' W.heap.size p1 c1 q1 d1 (flipB h) := ⟨o1, o2, hne, hh.wf, hh.nle, hh.mle⟩
  have e7' : a'.tmps[d']?.getD undef = .pointer (some ⟨g, 0, none⟩) := by rw [← Array.getD_eq_getD_getElem?]; exact e7
  have e10' : a'.tmps[s + 9]?.getD undef = .agg #[.slice p1 h.n c1, .slice q1 h.m d1, .bool (!h.b)] := by rw [← Array.getD_eq_getD_getElem?]; exact e10
  have hputs := puts_of (cnSlots s d') a hdf hsz (by simp [cnSlots]; omega) hsame
  simp only [cnSlots, List.map_cons, List.map_nil, e7] at hputs
  have hQ := hK (a'.tmps.getD s undef) (a'.tmps.getD (s + 1) undef) (a'.tmps.getD (s + 2) undef) (a'.tmps.getD (s + 3) undef) (a'.tmps.getD (s + 4) undef) (a'.tmps.getD (s + 5) undef) (a'.tmps.getD (s + 6) undef) (a'.tmps.getD (s + 7) undef) (a'.tmps.getD (s + 8) undef) (a'.tmps.getD (s + 9) undef) g p1 c1 q1 d1 _ ((hown.other n1 n2 0 (.slice p1 h.n c1)).other n1 n2 1 (.slice q1 h.m d1) |>.other n1 n2 2 (.bool (!h.b))) (hbox.stores _ _ _) hg n1 n2 (below_stores hb hg _ _ _)
  rw [← hputs] at hQ
  obtain ⟨lg, k0, k1, k2, f0, f1, f2⟩ := hbox
  clear hf f e7 e10 hK hputs hsame h4 hsz
  simp only [cnOps, List.drop_succ_cons, List.drop_zero]
  refine wpList_plain rfl fun K hK' => ?_
  have hK2 := hK' a' _ (show wpList _ _ Q [] a' _ from hQ)
  clear hK' hQ
  unfold Oper.wp
  go_simp
  exact hK2
end Go.Proofs.YtmbgodncagjncaaDoor
