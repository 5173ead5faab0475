/- Contract of the reference's Made, of whatever deeds (chapter 7). -/
import Derived.Test.YtonjnedlnfdanaaDoorHeapCopy
import Derived.Test.YtonjnedlnfdanaaDoorRowOne
namespace Go.Proofs.YtonjnedlnfdanaaDoor
set_option linter.unusedSimpArgs false
set_option linter.unusedVariables false
open Go.ChangeShapes Go.WideShapes Go.ChangeAt Go.RowKit Go.Joins

/-- What a deed does. -/
def deH (h : Hp) (d : Dd) : Hp := if d.k = 0 then opH h d.a d.b else if d.k = 1 ∨ d.k = 2 then laH h d.a d.b else if d.k = 3 then frH h d.a else if d.k = 4 then loH h d.a else flipB h
def maH (h : Hp) (f : Nat → Dd) : Nat → Hp
  | 0 => h
  | n + 1 => deH (maH h f n) (f n)
theorem de_form {h : Hp} (hF : formB h = true) (hw : h.wf) (d : Dd) : formB (deH h d) = true := by
  unfold deH
  split
  · exact form_open hF _ _
  · split
    · exact form_lay hF hw _ _
    · split
      · exact form_free hF hw _
      · split
        · exact form_close hF _
        · exact hF
def mdOps : List Oper :=
  [{ dst := some 11, op := .move (.tmp 0), type := 3, pos := "ref.go:139", after := #[], guard := none },
   { dst := some 12, op := .binOp .mul 3 (.const (.int .i64 32)) (.tmp 11) 3, type := 3, pos := "ref.go:139", after := #[{ on := 0, ground := .data }], guard := none },
   { dst := some 13, op := .makeSlice 22 (.tmp 12) (.tmp 12), type := 22, pos := "ref.go:139", after := #[{ on := 1, ground := .data }, { on := 1, ground := .data }], guard := none },
   { dst := some 14, op := .move (.tmp 0), type := 3, pos := "ref.go:139", after := #[], guard := none },
   { dst := some 15, op := .makeSlice 23 (.tmp 14) (.tmp 14), type := 23, pos := "ref.go:139", after := #[{ on := 3, ground := .data }, { on := 3, ground := .data }], guard := none },
   { dst := some 16, op := .build 25 #[(0, .tmp 13), (1, .tmp 15)], type := 25, pos := "ref.go:139", after := #[{ on := 2, ground := .data }, { on := 4, ground := .data }], guard := none },
   { dst := some 5, op := .alloc 25, type := 0, pos := "ref.go:139", after := #[], guard := none },
   { dst := none, op := .store 25 (.tmp 5) (.tmp 16), type := 0, pos := "ref.go:139", after := #[{ on := 6, ground := .data }, { on := 5, ground := .data }, { on := 0, ground := .phase }, { on := 1, ground := .phase }, { on := 2, ground := .phase }, { on := 3, ground := .phase }, { on := 4, ground := .phase }, { on := 5, ground := .phase }, { on := 6, ground := .phase }], guard := none }]
def mdSlots : List Nat := [11, 12, 13, 14, 15, 16, 5]
def mdPhi (N : Nat) (K : Int) : Nat → Value → World → Prop
  | 0, v, _ => v = .int .i64 K
  | 1, v, _ => v = .int .i64 (32 * K)
  | 2, v, w => w.ownsRow N 36 1 v (32 * K.toNat) (vals .u64 (32 * K.toNat) fun _ => 0)
  | 3, v, _ => v = .int .i64 K
  | 4, v, w => w.ownsRow N 46 3 v K.toNat (spVals K.toNat fun _ => ⟨0, 0, 0⟩)
  | 5, v, w => ∃ v1 v2, v = .agg #[v1, v2, .bool false] ∧ w.ownsRow N 36 1 v1 (32 * K.toNat) (vals .u64 (32 * K.toNat) fun _ => 0) ∧ w.ownsRow N 46 3 v2 K.toNat (spVals K.toNat fun _ => ⟨0, 0, 0⟩)
  | 6, v, w => ∃ g, v = .pointer (some ⟨g, 0, none⟩) ∧ N ≤ g ∧ w.heap[g]? = some (.cells #[.slice none 0 0, .slice none 0 0, .bool false] 25 (0, 0))
  | _, _, _ => True
theorem mdPhi_below {N : Nat} {K : Int} (i : Nat) (v : Value) (w w' : World) (hp : mdPhi N K i v w) (hb : Below w.heap.size w w') : mdPhi N K i v w' := by
  match i, hp with
  | 0, hp => exact hp
  | 1, hp => exact hp
  | 2, hp => exact owned_below hp hb
  | 3, hp => exact hp
  | 4, hp => exact owned_below hp hb
  | 5, ⟨v1, v2, e, h1, h2⟩ => exact ⟨v1, v2, e, owned_below h1 hb, owned_below h2 hb⟩
  | 6, ⟨g, e, hg, h1⟩ =>
    refine ⟨g, e, hg, ?_⟩
    rw [hb.block g ?_]
    · exact h1
    · rcases Nat.lt_or_ge g w.heap.size with h' | h'
      · exact h'
      · rw [Array.getElem?_eq_none h'] at h1; cases h1
  | _ + 7, _ => trivial
theorem made_own {w : World} {N e size n : Nat} {R : Array Value} {xs : List Value} (hN : N ≤ w.heap.size) (hR : R.toList = xs) (hs : R.size = n * size) (hm : n ≤ maxLen) (h0 : 0 < size) : (w.alloc (.cells R e)).ownsRow N e size (.slice (some ⟨w.heap.size, 0, none⟩) n n) n xs := by
  refine ⟨by rw [← hR, Array.length_toList, hs], .inr ⟨w.heap.size, n, R, rfl, hN, heap_alloc_new _ _, Nat.le_refl _, hm, hs, ?_⟩⟩
  rw [hR, List.take_of_length_le (by rw [← hR, Array.length_toList, hs]; exact Nat.le_refl _)]
set_option maxRecDepth 20000 in
theorem md_step {K : Int} (k1 : 1 ≤ K) (k2 : K ≤ 16) {W : World} {a : Act} {Q : Exit → Act → World → Prop} (ha : a.tmps.getD 0 undef = .int .i64 K) :
    ∀ i o, i < 7 → mdOps.toArray[i]? = some o → ∀ (a' : Act) (w' : World), Below W.heap.size W w' → (∀ t, t ∉ mdSlots → a'.tmps.getD t undef = a.tmps.getD t undef) →
      (∀ j x, j < 7 → mdSlots[j]? = some x → (o.after.any fun e => Region.binds .any e && e.on == j) = true → mdPhi W.heap.size K j (a'.tmps.getD x undef) w') →
      ∀ K' : Act → World → Prop, (∀ v w'', Below w'.heap.size w' w'' → mdPhi W.heap.size K i v w'' → K' (a'.put o.dst v) w'') → o.wp Tryd.prog a' w' K' Q := by
  intro i o hi ho a' w' hb hsame hdep K' hK
  have s0 : a'.tmps[0]?.getD undef = .int .i64 K := by rw [← Array.getD_eq_getD_getElem?]; exact (hsame 0 (by decide)).trans ha
  have dep : ∀ (j x : Nat), j < 7 → mdSlots[j]? = some x → (o.after.any fun e => Region.binds .any e && e.on == j) = true → mdPhi W.heap.size K j (a'.tmps[x]?.getD undef) w' := fun j x h1 h2 h3 => by
    have := hdep j x h1 h2 h3
    rwa [Array.getD_eq_getD_getElem?] at this
  clear hdep hsame ha
  match i, hi with
  | 0, _ =>
    simp only [mdOps, List.getElem?_toArray, List.getElem?_cons_zero, List.getElem?_cons_succ, Option.some.injEq] at ho
    subst ho
    unfold Oper.wp
    go_simp
    exact hK _ _ (Below.refl _ _) rfl
  | 1, _ =>
    simp only [mdOps, List.getElem?_toArray, List.getElem?_cons_zero, List.getElem?_cons_succ, Option.some.injEq] at ho
    subst ho
    have e : a'.tmps[11]?.getD undef = .int .i64 K := dep 0 11 (by decide) rfl (by simp [Region.binds])
    have hw : IntKind.i64.wrap (32 * K) = 32 * K := by rw [IntKind.wrap_i64]; omega
    unfold Oper.wp
    go_simp
    exact hK _ _ (Below.refl _ _) (by first | rfl | (show Value.int .i64 _ = _; rw [hw]))
  | 2, _ =>
    simp only [mdOps, List.getElem?_toArray, List.getElem?_cons_zero, List.getElem?_cons_succ, Option.some.injEq] at ho
    subst ho
    have e : a'.tmps[12]?.getD undef = .int .i64 (32 * K) := dep 1 12 (by decide) rfl (by simp [Region.binds])
    have hm := make_words K k1 k2 w'
    clear dep
    unfold Oper.wp
    go_simp
    have hal : Below w'.heap.size w' (w'.alloc (.cells (madeCells #[.int .u64 0] (32 * K.toNat)) 36)) := (Below.refl _ _).alloc (Nat.le_refl _) _
    exact hK _ _ hal (made_own hb.size (by rw [made_one, vals_const]) (by rw [size_madeCells]; omega) (by simp only [maxLen]; omega) (by decide))
  | 3, _ =>
    simp only [mdOps, List.getElem?_toArray, List.getElem?_cons_zero, List.getElem?_cons_succ, Option.some.injEq] at ho
    subst ho
    unfold Oper.wp
    go_simp
    exact hK _ _ (Below.refl _ _) rfl
  | 4, _ =>
    simp only [mdOps, List.getElem?_toArray, List.getElem?_cons_zero, List.getElem?_cons_succ, Option.some.injEq] at ho
    subst ho
    have e : a'.tmps[14]?.getD undef = .int .i64 K := dep 3 14 (by decide) rfl (by simp [Region.binds])
    have hm := make_spans K k1 k2 w'
    clear dep
    unfold Oper.wp
    go_simp
    have hal : Below w'.heap.size w' (w'.alloc (.cells (madeCells #[.int .i64 0, .int .i64 0, .int .u32 0] (K.toNat * 3)) 46)) := (Below.refl _ _).alloc (Nat.le_refl _) _
    exact hK _ _ hal (made_own hb.size (made_spans _) (by rw [size_madeCells]) (by simp only [maxLen]; omega) (by decide))
  | 5, _ =>
    simp only [mdOps, List.getElem?_toArray, List.getElem?_cons_zero, List.getElem?_cons_succ, Option.some.injEq] at ho
    subst ho
    have o1 : w'.ownsRow W.heap.size 36 1 (a'.tmps[13]?.getD undef) (32 * K.toNat) (vals .u64 (32 * K.toNat) fun _ => 0) := dep 2 13 (by decide) rfl (by simp [Region.binds])
    have o2 : w'.ownsRow W.heap.size 46 3 (a'.tmps[15]?.getD undef) K.toNat (spVals K.toNat fun _ => ⟨0, 0, 0⟩) := dep 4 15 (by decide) rfl (by simp [Region.binds])
    obtain ⟨p1, c1, e1, -⟩ := owned_new o1
    obtain ⟨q1, d1, e2, -⟩ := owned_new o2
    rw [e1] at o1
    rw [e2] at o2
    clear dep
    unfold Oper.wp
    go_simp
    exact hK _ _ (Below.refl _ _) ⟨_, _, rfl, o1, o2⟩
  | 6, _ =>
    simp only [mdOps, List.getElem?_toArray, List.getElem?_cons_zero, List.getElem?_cons_succ, Option.some.injEq] at ho
    subst ho
    clear dep
    unfold Oper.wp
    go_simp
    exact hK _ _ ((Below.refl _ _).alloc (Nat.le_refl _) _) ⟨w'.heap.size, rfl, hb.size, heap_alloc_new _ _⟩
set_option maxHeartbeats 1000000 in
theorem wp_made_row {id : Nat} {K : Int} (k1 : 1 ≤ K) (k2 : K ≤ 16) {W : World} {a : Act} {Q : Exit → Act → World → Prop} (hm : Tryd.prog.follows .mixedOrders = true) (h4 : 16 < a.tmps.size) (ha : a.tmps.getD 0 undef = .int .i64 K)
    (hK : ∀ x0 x1 x2 x3 x4 x5 g p' c' q' d'' w', HpOwn w' W.heap.size p' c' q' d'' (newH K.toNat) → Box3 g (.slice p' (32 * K.toNat) c') (.slice q' K.toNat d'') (.bool false) w' → W.heap.size ≤ g → (Value.slice p' (32 * K.toNat) c').ownBlock ≠ some g → (Value.slice q' K.toNat d'').ownBlock ≠ some g → Below W.heap.size W w' →
      Q .normal (puts mdSlots [x0, x1, x2, x3, x4, x5, .pointer (some ⟨g, 0, none⟩)] a) w') :
    (Code.region id mdOps.toArray true).wp Tryd.prog Q a W := by
  refine wp_region_soft 7 mdSlots (mdPhi W.heap.size K) hm (by kernel_rfl) (by kernel_rfl) (by simp [mdOps]) (by kernel_rfl) (by kernel_rfl) rfl rfl (by decide) (by simp [mdSlots]; omega) mdPhi_below (md_step k1 k2 ha) ?_
  intro a' w' hb hdf hsz hsame hf
  have f (i x : Nat) (hi : i < 7) (hx : mdSlots[i]? = some x) : mdPhi W.heap.size K i (a'.tmps.getD x undef) w' := hf i x hi hx
  obtain ⟨g, e7, hg, hgh⟩ := f 6 5 (by decide) rfl
  obtain ⟨v1, v2, e10, o1, o2⟩ := f 5 16 (by decide) rfl
  obtain ⟨p1, c1, rfl, -⟩ := owned_new o1
  obtain ⟨q1, d1, rfl, -⟩ := owned_new o2
  have hbox := box_of_heap hgh
  have n1 : (Value.slice p1 (32 * K.toNat) c1).ownBlock ≠ some g := fun e => by
    obtain ⟨cur, hc⟩ := owned_block o1 e
    rw [hgh] at hc; injection hc with hc; injection hc with _ hc; revert hc; decide
  have n2 : (Value.slice q1 K.toNat d1).ownBlock ≠ some g := fun e => by
    obtain ⟨cur, hc⟩ := owned_block o2 e
    rw [hgh] at hc; injection hc with hc; injection hc with _ hc; revert hc; decide
  have hne : ∀ b b', (Value.slice p1 (32 * K.toNat) c1).ownBlock = some b → (Value.slice q1 K.toNat d1).ownBlock = some b' → b ≠ b' := fun b b' e e' eb => by
    subst eb
    obtain ⟨cur, hc⟩ := owned_block o1 e
    obtain ⟨cur', hc'⟩ := owned_block o2 e'
    rw [hc] at hc'; injection hc' with hc'; injection hc' with _ hc'; revert hc'; decide
  have hown : HpOwn w' W.heap.size p1 c1 q1 d1 (newH K.toNat) := ⟨o1, o2, hne, wf_new _, by show 32 * K.toNat ≤ maxLen; simp only [maxLen]; omega, by show K.toNat ≤ maxLen; simp only [maxLen]; omega⟩
  have e7' : a'.tmps[5]?.getD undef = .pointer (some ⟨g, 0, none⟩) := by rw [← Array.getD_eq_getD_getElem?]; exact e7
  have e10' : a'.tmps[16]?.getD undef = .agg #[.slice p1 (32 * K.toNat) c1, .slice q1 K.toNat d1, .bool false] := by rw [← Array.getD_eq_getD_getElem?]; exact e10
  have hputs := puts_of mdSlots a hdf hsz (by simp [mdSlots]; omega) hsame
  simp only [mdSlots, List.map_cons, List.map_nil, e7] at hputs
  have hQ := hK (a'.tmps.getD 11 undef) (a'.tmps.getD 12 undef) (a'.tmps.getD 13 undef) (a'.tmps.getD 14 undef) (a'.tmps.getD 15 undef) (a'.tmps.getD 16 undef) g p1 c1 q1 d1 _ ((hown.other n1 n2 0 (.slice p1 (32 * K.toNat) c1)).other n1 n2 1 (.slice q1 K.toNat d1) |>.other n1 n2 2 (.bool false)) (hbox.stores _ _ _) hg n1 n2 (below_stores hb hg _ _ _)
  simp only [mdSlots] at hQ
  rw [← hputs] at hQ
  obtain ⟨lg, k0, k1', k2', f0, f1, f2⟩ := hbox
  clear hf f e7 e10 hK hputs hsame h4 hsz
  simp only [mdOps, List.drop_succ_cons, List.drop_zero]
  refine wpList_plain rfl fun K2 hK' => ?_
  have hK2 := hK' a' _ (show wpList _ _ Q [] a' _ from hQ)
  clear hK' hQ
  unfold Oper.wp
  go_simp
  exact hK2
theorem newV_clear {A n m c d : Nat} {p q : Option Addr} (h1 : NewV A (.slice p n c)) (h2 : NewV A (.slice q m d)) {g : Nat} (hg : g < A) : Clear g p q :=
  ⟨fun b off sp e => by have := h1 b (by rw [e]; rfl); omega, fun b off sp e => by have := h2 b (by rw [e]; rfl); omega⟩
theorem Src.newV {A B : Nat} {ok : Bool} {n m : Nat} {p : Option Addr} {c : Nat} {q : Option Addr} {d : Nat} {p' : Option Addr} {c' : Nat} {q' : Option Addr} {d' : Nat} (s : Src B ok n m p c q d p' c' q' d') (hB : A ≤ B) (h1 : NewV A (.slice p n c)) (h2 : NewV A (.slice q m d)) : NewV A (.slice p' n c') ∧ NewV A (.slice q' m d') := by
  cases ok with
  | true =>
    obtain ⟨a, b⟩ := s.new rfl
    exact ⟨fun g hg => Nat.le_trans hB (a g hg), fun g hg => Nat.le_trans hB (b g hg)⟩
  | false =>
    obtain ⟨rfl, rfl, rfl, rfl⟩ := s.old rfl
    exact ⟨h1, h2⟩
theorem ma_next (h : Hp) (f : Nat → Dd) {i : Int} (i0 : 0 ≤ i) : maH h f (i + 1).toNat = deH (maH h f i.toNat) (f i.toNat) := by
  rw [show (i + 1).toNat = i.toNat + 1 by omega]; rfl
/-- What Made's loop carries. -/
structure MadeAt (W : World) (g A N M : Nat) (p : Option Addr) (c : Nat) (q : Option Addr) (d : Nat) (b : Bool) (H : Hp) : Prop where
  heap : HpIn W p N c q M d b H
  form : formB H = true
  clr : Clear g p q
  newW : NewV A (.slice p N c)
  newS : NewV A (.slice q M d)
  box : Box3 g (.slice p N c) (.slice q M d) (.bool b) W
section
variable {W W' : World} {g A N M : Nat} {p : Option Addr} {c : Nat} {q : Option Addr} {d : Nat} {b : Bool} {H : Hp}
theorem MadeAt.below (m : MadeAt W g A N M p c q d b H) (hb : Below W.heap.size W W') : MadeAt W' g A N M p c q d b H := ⟨m.heap.below hb, m.form, m.clr, m.newW, m.newS, m.box.below hb⟩
theorem MadeAt.put (m : MadeAt W g A N M p c q d b H) {p' : Option Addr} {c' : Nat} {q' : Option Addr} {d' : Nat} {b' : Bool} {H' : Hp} {S : Nat} {ok : Bool} (hh : HpIn W p' N c' q' M d' b' H') (hf : formB H' = true) (hs : Src S ok N M p c q d p' c' q' d') (hA : A ≤ S) (hg : g < S) :
    MadeAt (((W.setCell ⟨g, 0, none⟩ (.slice p' N c')).setCell ⟨g, 1, none⟩ (.slice q' M d')).setCell ⟨g, 2, none⟩ (.bool b')) g A N M p' c' q' d' b' H' := by
  have hc := hs.keep m.clr hg
  obtain ⟨n1, n2⟩ := hs.newV hA m.newW m.newS
  exact ⟨hh.stores hc _ _ _, hf, hc, n1, n2, m.box.stores _ _ _⟩
theorem MadeAt.turn (m : MadeAt W g A N M p c q d b H) : MadeAt (W.setCell ⟨g, 2, none⟩ (.bool (!b))) g A N M p c q d (!b) (flipB H) :=
  ⟨(m.heap.setCell m.clr _ _).flip, m.form, m.clr, m.newW, m.newS, m.box.store2 _⟩
end
set_option maxHeartbeats 8000000 in
theorem rmade_any (K : Int) (p : Option Addr) (n cap : Nat) (f : Nat → Dd) (w : World) (k1 : 1 ≤ K) (k2 : K ≤ 16) (hin : Deeds w p n f) (hn : n ≤ maxLen) :
    Calls Tryd.prog 8 #[.int .i64 K, .slice p n cap] w fun e w' => ∃ p' c' q' d', e = .returned (.agg #[.slice p' (32 * K.toNat) c', .slice q' K.toNat d', .bool (maH (newH K.toNat) f n).b]) ∧
      HpIn w' p' (32 * K.toNat) c' q' K.toNat d' (maH (newH K.toNat) f n).b (maH (newH K.toNat) f n) ∧ NewV w.heap.size (.slice p' (32 * K.toNat) c') ∧ NewV w.heap.size (.slice q' K.toNat d') ∧ formB (maH (newH K.toNat) f n) = true ∧ Below w.heap.size w w' := by
  simp only [maxLen] at hn
  obtain ⟨w0, hw0⟩ : ∃ w0, w0 = w.alloc (.cells #[.slice none 0 0, .slice none 0 0, .bool false] 25) := ⟨_, rfl⟩
  have gR : Box3 w.heap.size (.slice none 0 0) (.slice none 0 0) (.bool false) w0 := by rw [hw0]; exact Box3.new _ _ _ _ _
  have hb0 : Below w.heap.size w w0 := by rw [hw0]; exact (Below.refl _ _).alloc (Nat.le_refl _) _
  have hl0 : w0.heap.size = w.heap.size + 1 := by rw [hw0]; simp
  have hF0 : formB (newH K.toNat) = true := form_new (by omega) (by omega)
  go_enter Tryd.func8, Tryd.ntmps8
  go_upto_region 1 with fail
  rw [← hw0]
  refine wp_made_row k1 k2 (by kernel_rfl) (by simp) rfl ?_
  intro x0 x1 x2 x3 x4 x5 g p1 c1 q1 d1 w1 hown g5 hg n1 n2 hb1
  simp only [puts, mdSlots, Act.put]
  have hm0 : MadeAt w1 g w0.heap.size (32 * K.toNat) K.toNat p1 c1 q1 d1 false (newH K.toNat) :=
    ⟨hown.at.in, hF0, ⟨fun b off sp e => fun h => n1 (by rw [e, ← h]; rfl), fun b off sp e => fun h => n2 (by rw [e, ← h]; rfl)⟩, hown.newW, hown.newS, g5⟩
  replace gR := gR.below hb1
  have hbW : Below w.heap.size w w1 := bjoin hb1 hb0
  have hl1 : w0.heap.size ≤ w1.heap.size := hb1.size
  clear hw0 hown g5 n1 n2 hb1 hb0
  generalize hA : w0.heap.size = A at *
  have hA' : A = w.heap.size + 1 := hl0
  clear hl0 hA
  obtain ⟨N, hN⟩ : ∃ N, N = 32 * K.toNat := ⟨_, rfl⟩
  rw [← hN] at hm0
  have hNH : Hid (N = 32 * K.toNat) := hN
  clear hN
  generalize hKM : K.toNat = M at *
  go_wp2
  go_loopg [6] n (fun gg iv wr => ∃ (i : Int) (p' : Option Addr) (c' : Nat) (q' : Option Addr) (d' : Nat) (b' : Bool), 0 ≤ i ∧ i ≤ n ∧ gg = (n - i).toNat ∧ iv = .int .i64 i ∧ MadeAt wr g A N M p' c' q' d' b' (maH (newH M) f i.toNat) ∧ Box3 w.heap.size (.slice none 0 0) (.slice none 0 0) (.bool false) wr ∧ Below w.heap.size w wr ∧ A ≤ wr.heap.size)
  case atStart => exact ⟨0, _, _, _, _, _, by omega, by omega, by omega, rfl, hm0, gR, hbW, hl1⟩
  case round =>
    clear hm0 gR hbW
    obtain ⟨i, p', c', q', d', b', il, ih, rfl, rfl, hma, gR, hbw, hlw⟩ := hrel
    by_cases hi : i < n
    · have hnx := ma_next (newH M) f il
      have hdf := de_form hma.form hma.heap.at'.wf (f i.toNat)
      obtain ⟨⟨bb, off, rfl, hlt, v0, v1, v2⟩, hwf⟩ := (hin.below hbw) i.toNat (by omega)
      generalize maH (newH M) f i.toNat = H at *
      go_upto_region 6 with fail
      obtain ⟨w2, hw2⟩ : ∃ W, W = wr.alloc (.cells #[.int .i64 (f i.toNat).k, .int .i64 (f i.toNat).a, .int .i64 (f i.toNat).b] 40) := ⟨_, rfl⟩
      have hB2 : Below wr.heap.size wr w2 := by rw [hw2]; exact (Below.refl _ _).alloc (Nat.le_refl _) _
      have gD : Box3 wr.heap.size (.int .i64 (f i.toNat).k) (.int .i64 (f i.toNat).a) (.int .i64 (f i.toNat).b) w2 := by rw [hw2]; exact Box3.new _ _ _ _ _
      have hg2 : g < wr.heap.size := hma.box.1
      replace hma := hma.below hB2
      replace gR := gR.below hB2
      replace hbw := bjoin hB2 hbw
      have hl2 : wr.heap.size < w2.heap.size := gD.1
      rw [← hw2]
      clear hw2 hlt hwf v0 v1 v2 hB2
      generalize wr.heap.size = D at *
      generalize f i.toNat = dd at *
      obtain ⟨kk, aa, ba⟩ := dd
      simp only [] at *
      have hF' : Hid (formB H = true) := hma.form
      obtain ⟨l6, x0', x1', x2', f0, f1, f2⟩ := id hma.box
      obtain ⟨lD, z0, z1, z2, -, -, -⟩ := gD
      have hhp := hma.heap
      have hAg : A ≤ g := hg
      have hgw : w.heap.size ≤ g := by omega
      by_cases k0 : kk = 0
      · have e : deH H ⟨kk, aa, ba⟩ = opH H aa ba := by unfold deH; rw [if_pos k0]
        rw [e] at hnx hdf
        subst k0
        go_wp2_with (first
    | (go_at_call 12; refine Calls.mono (ropen_in (hhp.below (by go_grown)) hF'.out) ?_; rintro e w' ⟨p2, c2, q2, d2, rfl, hh2, hs2, hb⟩; obtain ⟨hc, hf, hb, hz⟩ := bstep hb (w := w2) (by go_grown); try simp only [World.size_alloc, World.size_setCell, World.size_drew] at hc hf hz)
        )
        have hb' := hb
        have hm2 := (hma.below hb).put hh2 hdf hs2 (by omega) (by omega)
        go_roundg ((n : Int) - (i + 1)).toNat
        case measure => omega
        case rel => exact ⟨i + 1, p2, c2, q2, d2, b', by omega, by omega, rfl, by go_num, by rw [hnx]; exact hm2, (gR.below hb).others (by omega) _ _ _, below_stores (bjoin hb hbw) hgw _ _ _, by have := hb'.size; simp [World.setCell]; omega⟩
      · by_cases k1' : kk = 1 ∨ kk = 2
        · have e : deH H ⟨kk, aa, ba⟩ = laH H aa ba := by unfold deH; rw [if_neg k0, if_pos k1']
          rw [e] at hnx hdf
          rcases k1' with rfl | rfl
          all_goals
            go_upto_region 13 with (first
    | (go_at_call 13; refine Calls.mono (rlay_in (hhp.below (by go_grown)) hF'.out) ?_; rintro e w' ⟨p2, c2, q2, d2, rfl, hh2, hs2, hb⟩; obtain ⟨hc, hf, hb, hz⟩ := bstep hb (w := w2) (by go_grown); try simp only [World.size_alloc, World.size_setCell, World.size_drew] at hc hf hz)
            )
            have hA_ : Below w'.heap.size w' (w'.alloc (.cells #[.slice p2 N c2, .slice q2 M d2, .bool b'] 25)) := (Below.refl _ _).alloc (Nat.le_refl _) _
            have hm2 := ((hma.below hb).below hA_).put (hh2.below hA_) hdf hs2 (by omega) (by omega)
            have hbS := below_stores (bjoin hA_ (bjoin hb hbw)) hgw (.slice p2 N c2) (.slice q2 M d2) (.bool b')
            have gR2 := ((gR.below hb).below hA_).others (g := g) (by omega) (.slice p2 N c2) (.slice q2 M d2) (.bool b')
            have hls : A ≤ w'.heap.size := by omega
            go_wp2
            go_roundg ((n : Int) - (i + 1)).toNat
            case measure => omega
            case rel => exact ⟨i + 1, p2, c2, q2, d2, b', by omega, by omega, rfl, by go_num, by rw [hnx]; exact hm2, gR2, hbS, by simp [World.setCell]; omega⟩
        · by_cases k3 : kk = 3
          · have e : deH H ⟨kk, aa, ba⟩ = frH H aa := by unfold deH; rw [if_neg k0, if_neg k1', if_pos k3]
            rw [e] at hnx hdf
            subst k3
            go_wp2_with (first
    | (go_at_call 14; refine Calls.mono (rfree_in (hhp.below (by go_grown)) hF'.out) ?_; rintro e w' ⟨p2, c2, q2, d2, rfl, hh2, hs2, hb⟩; obtain ⟨hc, hf, hb, hz⟩ := bstep hb (w := w2) (by go_grown); try simp only [World.size_alloc, World.size_setCell, World.size_drew] at hc hf hz)
            )
            have hb' := hb
            have hm2 := (hma.below hb).put hh2 hdf hs2 (by omega) (by omega)
            go_roundg ((n : Int) - (i + 1)).toNat
            case measure => omega
            case rel => exact ⟨i + 1, p2, c2, q2, d2, b', by omega, by omega, rfl, by go_num, by rw [hnx]; exact hm2, (gR.below hb).others (by omega) _ _ _, below_stores (bjoin hb hbw) hgw _ _ _, by have := hb'.size; simp [World.setCell]; omega⟩
          · by_cases k4 : kk = 4
            · have e : deH H ⟨kk, aa, ba⟩ = loH H aa := by unfold deH; rw [if_neg k0, if_neg k1', if_neg k3, if_pos k4]
              rw [e] at hnx hdf
              subst k4
              go_wp2_with (first
    | (go_at_call 15; refine Calls.mono (rclose_in (hhp.below (by go_grown)) hF'.out) ?_; rintro e w' ⟨p2, c2, q2, d2, rfl, hh2, hs2, hb⟩; obtain ⟨hc, hf, hb, hz⟩ := bstep hb (w := w2) (by go_grown); try simp only [World.size_alloc, World.size_setCell, World.size_drew] at hc hf hz)
              )
              have hb' := hb
              have hm2 := (hma.below hb).put hh2 hdf hs2 (by omega) (by omega)
              go_roundg ((n : Int) - (i + 1)).toNat
              case measure => omega
              case rel => exact ⟨i + 1, p2, c2, q2, d2, b', by omega, by omega, rfl, by go_num, by rw [hnx]; exact hm2, (gR.below hb).others (by omega) _ _ _, below_stores (bjoin hb hbw) hgw _ _ _, by have := hb'.size; simp [World.setCell]; omega⟩
            · have e : deH H ⟨kk, aa, ba⟩ = flipB H := by unfold deH; rw [if_neg k0, if_neg k1', if_neg k3, if_neg k4]
              rw [e] at hnx hdf
              have e0 : (kk == 0) = false := by simp [k0]
              have e1 : (kk == 1) = false := by simp; omega
              have e2 : (kk == 2) = false := by simp; omega
              have e3 : (kk == 3) = false := by simp [k3]
              have e4 : (kk == 4) = false := by simp [k4]
              have hm2 := hma.turn
              clear k0 k1' k3 k4
              go_wp2
              go_roundg ((n : Int) - (i + 1)).toNat
              case measure => omega
              case rel => exact ⟨i + 1, p', c', q', d', !b', by omega, by omega, rfl, by go_num, by rw [hnx]; exact hm2, gR.other (by omega) _ _, hbw.setCell hgw _, by simp [World.setCell]; omega⟩
    · obtain rfl : i = (n : Int) := by omega
      rw [Int.toNat_natCast] at hma
      obtain ⟨l6, x0', x1', x2', f0, f1, f2⟩ := id hma.box
      obtain ⟨lR, y0, y1, y2, g0, g1, g2⟩ := id gR
      go_wp2
      refine bodyPost_ret (by simp [results, Tryd.results8, go_sem, *]; try rfl) rfl ?_
      have hN := hNH.out
      subst hN
      obtain rfl := hma.heap.b_eq
      have hcl := newV_clear hma.newW hma.newS (show w.heap.size < A by omega)
      exact ⟨p', c', q', d', rfl, hma.heap.stores hcl _ _ _, fun b hb => by have := hma.newW b hb; omega, fun b hb => by have := hma.newS b hb; omega, hma.form, below_stores hbw (Nat.le_refl _) _ _ _⟩
end Go.Proofs.YtonjnedlnfdanaaDoor
