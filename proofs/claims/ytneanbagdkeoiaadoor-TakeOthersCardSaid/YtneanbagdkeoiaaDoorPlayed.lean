/- Contract of the reference's Played, of no turns (chapter 11). -/
import Derived.Test.YtneanbagdkeoiaaDoorTakeR
import Derived.Test.YtneanbagdkeoiaaDoorMade
namespace Go.Proofs.YtneanbagdkeoiaaDoor
set_option linter.unusedSimpArgs false
set_option linter.unusedVariables false
open Go.ChangeShapes Go.WideShapes Go.ChangeAt Go.RowKit Go.Joins

def plOps : List Oper :=
  [{ dst := some 20, op := .move (.tmp 0), type := 3, pos := "ref.go:117", after := #[], guard := none },
   { dst := some 21, op := .binOp .mul 3 (.const (.int .i64 32)) (.tmp 20) 3, type := 3, pos := "ref.go:117", after := #[{ on := 0, ground := .data }], guard := none },
   { dst := some 22, op := .makeSlice 22 (.tmp 21) (.tmp 21), type := 22, pos := "ref.go:117", after := #[{ on := 1, ground := .data }, { on := 1, ground := .data }], guard := none },
   { dst := some 23, op := .move (.tmp 0), type := 3, pos := "ref.go:117", after := #[], guard := none },
   { dst := some 24, op := .makeSlice 23 (.tmp 23) (.tmp 23), type := 23, pos := "ref.go:117", after := #[{ on := 3, ground := .data }, { on := 3, ground := .data }], guard := none },
   { dst := some 25, op := .build 25 #[(0, .tmp 22), (1, .tmp 24)], type := 25, pos := "ref.go:117", after := #[{ on := 2, ground := .data }, { on := 4, ground := .data }], guard := none },
   { dst := some 8, op := .alloc 25, type := 0, pos := "ref.go:117", after := #[], guard := none },
   { dst := none, op := .store 25 (.tmp 8) (.tmp 25), type := 0, pos := "ref.go:117", after := #[{ on := 6, ground := .data }, { on := 5, ground := .data }, { on := 0, ground := .phase }, { on := 1, ground := .phase }, { on := 2, ground := .phase }, { on := 3, ground := .phase }, { on := 4, ground := .phase }, { on := 5, ground := .phase }, { on := 6, ground := .phase }], guard := none }]
def plSlots : List Nat := [20, 21, 22, 23, 24, 25, 8]
def plPhi (N : Nat) (K : Int) : Nat → Value → World → Prop
  | 0, v, _ => v = .int .i64 K
  | 1, v, _ => v = .int .i64 (32 * K)
  | 2, v, w => w.ownsRow N 50 1 v (32 * K.toNat) (vals .u64 (32 * K.toNat) fun _ => 0)
  | 3, v, _ => v = .int .i64 K
  | 4, v, w => w.ownsRow N 58 3 v K.toNat (spVals K.toNat fun _ => ⟨0, 0, 0⟩)
  | 5, v, w => ∃ v1 v2, v = .agg #[v1, v2, .bool false] ∧ w.ownsRow N 50 1 v1 (32 * K.toNat) (vals .u64 (32 * K.toNat) fun _ => 0) ∧ w.ownsRow N 58 3 v2 K.toNat (spVals K.toNat fun _ => ⟨0, 0, 0⟩)
  | 6, v, w => ∃ g, v = .pointer (some ⟨g, 0, none⟩) ∧ N ≤ g ∧ w.heap[g]? = some (.cells #[.slice none 0 0, .slice none 0 0, .bool false] 25 (0, 0))
  | _, _, _ => True
theorem plPhi_below {N : Nat} {K : Int} (i : Nat) (v : Value) (w w' : World) (hp : plPhi N K i v w) (hb : Below w.heap.size w w') : plPhi N K i v w' := by
  match i, hp with
  | 0, hp => exact hp
  | 1, hp => exact hp
  | 2, hp => exact owned_below hp hb
  | 3, hp => exact hp
  | 4, hp => exact owned_below hp hb
  | 5, ⟨v1, v2, e, h1, h2⟩ => exact ⟨v1, v2, e, owned_below h1 hb, owned_below h2 hb⟩
  | 6, ⟨g, e, hg, h1⟩ =>
    refine ⟨g, e, hg, ?_⟩
    rw [hb.block g ?_]
    · exact h1
    · rcases Nat.lt_or_ge g w.heap.size with h' | h'
      · exact h'
      · rw [Array.getElem?_eq_none h'] at h1; cases h1
  | _ + 7, _ => trivial
set_option maxRecDepth 20000 in
theorem pl_step {K : Int} (k1 : 1 ≤ K) (k2 : K ≤ 16) {W : World} {a : Act} {Q : Exit → Act → World → Prop} (ha : a.tmps.getD 0 undef = .int .i64 K) :
    ∀ i o, i < 7 → plOps.toArray[i]? = some o → ∀ (a' : Act) (w' : World), Below W.heap.size W w' → (∀ t, t ∉ plSlots → a'.tmps.getD t undef = a.tmps.getD t undef) →
      (∀ j x, j < 7 → plSlots[j]? = some x → (o.after.any fun e => Region.binds .any e && e.on == j) = true → plPhi W.heap.size K j (a'.tmps.getD x undef) w') →
      ∀ K' : Act → World → Prop, (∀ v w'', Below w'.heap.size w' w'' → plPhi W.heap.size K i v w'' → K' (a'.put o.dst v) w'') → o.wp Tryd.prog a' w' K' Q := by
  intro i o hi ho a' w' hb hsame hdep K' hK
  have s0 : a'.tmps[0]?.getD undef = .int .i64 K := by rw [← Array.getD_eq_getD_getElem?]; exact (hsame 0 (by decide)).trans ha
  have dep : ∀ (j x : Nat), j < 7 → plSlots[j]? = some x → (o.after.any fun e => Region.binds .any e && e.on == j) = true → plPhi W.heap.size K j (a'.tmps[x]?.getD undef) w' := fun j x h1 h2 h3 => by
    have := hdep j x h1 h2 h3
    rwa [Array.getD_eq_getD_getElem?] at this
  clear hdep hsame ha
  match i, hi with
  | 0, _ =>
    simp only [plOps, List.getElem?_toArray, List.getElem?_cons_zero, List.getElem?_cons_succ, Option.some.injEq] at ho
    subst ho
    unfold Oper.wp
    go_simp
    exact hK _ _ (Below.refl _ _) rfl
  | 1, _ =>
    simp only [plOps, List.getElem?_toArray, List.getElem?_cons_zero, List.getElem?_cons_succ, Option.some.injEq] at ho
    subst ho
    have e : a'.tmps[20]?.getD undef = .int .i64 K := dep 0 20 (by decide) rfl (by simp [Region.binds])
    have hw : IntKind.i64.wrap (32 * K) = 32 * K := by rw [IntKind.wrap_i64]; omega
    unfold Oper.wp
    go_simp
    exact hK _ _ (Below.refl _ _) (by first | rfl | (show Value.int .i64 _ = _; rw [hw]))
  | 2, _ =>
    simp only [plOps, List.getElem?_toArray, List.getElem?_cons_zero, List.getElem?_cons_succ, Option.some.injEq] at ho
    subst ho
    have e : a'.tmps[21]?.getD undef = .int .i64 (32 * K) := dep 1 21 (by decide) rfl (by simp [Region.binds])
    have hm := make_words K k1 k2 w'
    clear dep
    unfold Oper.wp
    go_simp
    have hal : Below w'.heap.size w' (w'.alloc (.cells (madeCells #[.int .u64 0] (32 * K.toNat)) 50)) := (Below.refl _ _).alloc (Nat.le_refl _) _
    exact hK _ _ hal (made_own hb.size (by rw [made_one, vals_const]) (by rw [size_madeCells]; omega) (by simp only [maxLen]; omega) (by decide))
  | 3, _ =>
    simp only [plOps, List.getElem?_toArray, List.getElem?_cons_zero, List.getElem?_cons_succ, Option.some.injEq] at ho
    subst ho
    unfold Oper.wp
    go_simp
    exact hK _ _ (Below.refl _ _) rfl
  | 4, _ =>
    simp only [plOps, List.getElem?_toArray, List.getElem?_cons_zero, List.getElem?_cons_succ, Option.some.injEq] at ho
    subst ho
    have e : a'.tmps[23]?.getD undef = .int .i64 K := dep 3 23 (by decide) rfl (by simp [Region.binds])
    have hm := make_spans K k1 k2 w'
    clear dep
    unfold Oper.wp
    go_simp
    have hal : Below w'.heap.size w' (w'.alloc (.cells (madeCells #[.int .i64 0, .int .i64 0, .int .u32 0] (K.toNat * 3)) 58)) := (Below.refl _ _).alloc (Nat.le_refl _) _
    exact hK _ _ hal (made_own hb.size (made_spans _) (by rw [size_madeCells]) (by simp only [maxLen]; omega) (by decide))
  | 5, _ =>
    simp only [plOps, List.getElem?_toArray, List.getElem?_cons_zero, List.getElem?_cons_succ, Option.some.injEq] at ho
    subst ho
    have o1 : w'.ownsRow W.heap.size 50 1 (a'.tmps[22]?.getD undef) (32 * K.toNat) (vals .u64 (32 * K.toNat) fun _ => 0) := dep 2 22 (by decide) rfl (by simp [Region.binds])
    have o2 : w'.ownsRow W.heap.size 58 3 (a'.tmps[24]?.getD undef) K.toNat (spVals K.toNat fun _ => ⟨0, 0, 0⟩) := dep 4 24 (by decide) rfl (by simp [Region.binds])
    obtain ⟨p1, c1, e1, -⟩ := owned_new o1
    obtain ⟨q1, d1, e2, -⟩ := owned_new o2
    rw [e1] at o1
    rw [e2] at o2
    clear dep
    unfold Oper.wp
    go_simp
    exact hK _ _ (Below.refl _ _) ⟨_, _, rfl, o1, o2⟩
  | 6, _ =>
    simp only [plOps, List.getElem?_toArray, List.getElem?_cons_zero, List.getElem?_cons_succ, Option.some.injEq] at ho
    subst ho
    clear dep
    unfold Oper.wp
    go_simp
    exact hK _ _ ((Below.refl _ _).alloc (Nat.le_refl _) _) ⟨w'.heap.size, rfl, hb.size, heap_alloc_new _ _⟩
set_option maxHeartbeats 1000000 in
theorem wp_play_row {id : Nat} {K : Int} (k1 : 1 ≤ K) (k2 : K ≤ 16) {W : World} {a : Act} {Q : Exit → Act → World → Prop} (hm : Tryd.prog.follows .mixedOrders = true) (h4 : 25 < a.tmps.size) (ha : a.tmps.getD 0 undef = .int .i64 K)
    (hK : ∀ x0 x1 x2 x3 x4 x5 g p' c' q' d'' w', HpOwn w' W.heap.size p' c' q' d'' (newH K.toNat) → Box3 g (.slice p' (32 * K.toNat) c') (.slice q' K.toNat d'') (.bool false) w' → W.heap.size ≤ g → (Value.slice p' (32 * K.toNat) c').ownBlock ≠ some g → (Value.slice q' K.toNat d'').ownBlock ≠ some g → Below W.heap.size W w' →
      Q .normal (puts plSlots [x0, x1, x2, x3, x4, x5, .pointer (some ⟨g, 0, none⟩)] a) w') :
    (Code.region id plOps.toArray true).wp Tryd.prog Q a W := by
  refine wp_region_soft 7 plSlots (plPhi W.heap.size K) hm (by kernel_rfl) (by kernel_rfl) (by simp [plOps]) (by kernel_rfl) (by kernel_rfl) rfl rfl (by decide) (by simp [plSlots]; omega) plPhi_below (pl_step k1 k2 ha) ?_
  intro a' w' hb hdf hsz hsame hf
  have f (i x : Nat) (hi : i < 7) (hx : plSlots[i]? = some x) : plPhi W.heap.size K i (a'.tmps.getD x undef) w' := hf i x hi hx
  obtain ⟨g, e7, hg, hgh⟩ := f 6 8 (by decide) rfl
  obtain ⟨v1, v2, e10, o1, o2⟩ := f 5 25 (by decide) rfl
  obtain ⟨p1, c1, rfl, -⟩ := owned_new o1
  obtain ⟨q1, d1, rfl, -⟩ := owned_new o2
  have hbox := box_of_heap hgh
  have n1 : (Value.slice p1 (32 * K.toNat) c1).ownBlock ≠ some g := fun e => by
    obtain ⟨cur, hc⟩ := owned_block o1 e
    rw [hgh] at hc; injection hc with hc; injection hc with _ hc; revert hc; decide
  have n2 : (Value.slice q1 K.toNat d1).ownBlock ≠ some g := fun e => by
    obtain ⟨cur, hc⟩ := owned_block o2 e
    rw [hgh] at hc; injection hc with hc; injection hc with _ hc; revert hc; decide
  have hne : ∀ b b', (Value.slice p1 (32 * K.toNat) c1).ownBlock = some b → (Value.slice q1 K.toNat d1).ownBlock = some b' → b ≠ b' := fun b b' e e' eb => by
    subst eb
    obtain ⟨cur, hc⟩ := owned_block o1 e
    obtain ⟨cur', hc'⟩ := owned_block o2 e'
    rw [hc] at hc'; injection hc' with hc'; injection hc' with _ hc'; revert hc'; decide
  have hown : HpOwn w' W.heap.size p1 c1 q1 d1 (newH K.toNat) := ⟨o1, o2, hne, wf_new _, by show 32 * K.toNat ≤ maxLen; simp only [maxLen]; omega, by show K.toNat ≤ maxLen; simp only [maxLen]; omega⟩
  have e7' : a'.tmps[8]?.getD undef = .pointer (some ⟨g, 0, none⟩) := by rw [← Array.getD_eq_getD_getElem?]; exact e7
  have e10' : a'.tmps[25]?.getD undef = .agg #[.slice p1 (32 * K.toNat) c1, .slice q1 K.toNat d1, .bool false] := by rw [← Array.getD_eq_getD_getElem?]; exact e10
  have hputs := puts_of plSlots a hdf hsz (by simp [plSlots]; omega) hsame
  simp only [plSlots, List.map_cons, List.map_nil, e7] at hputs
  have hQ := hK (a'.tmps.getD 20 undef) (a'.tmps.getD 21 undef) (a'.tmps.getD 22 undef) (a'.tmps.getD 23 undef) (a'.tmps.getD 24 undef) (a'.tmps.getD 25 undef) g p1 c1 q1 d1 _ ((hown.other n1 n2 0 (.slice p1 (32 * K.toNat) c1)).other n1 n2 1 (.slice q1 K.toNat d1) |>.other n1 n2 2 (.bool false)) (hbox.stores _ _ _) hg n1 n2 (below_stores hb hg _ _ _)
  simp only [plSlots] at hQ
  rw [← hputs] at hQ
  obtain ⟨lg, k0, k1', k2', f0, f1, f2⟩ := hbox
  clear hf f e7 e10 hK hputs hsame h4 hsz
  simp only [plOps, List.drop_succ_cons, List.drop_zero]
  refine wpList_plain rfl fun K2 hK' => ?_
  have hK2 := hK' a' _ (show wpList _ _ Q [] a' _ from hQ)
  clear hK' hQ
  unfold Oper.wp
  go_simp
  exact hK2
set_option maxRecDepth 20000 in
set_option maxHeartbeats 8000000 in
theorem rplayed11_any (K : Int) (n : Nat) (w : World) (k1 : 1 ≤ K) (k2 : K ≤ 16) (hn : n ≤ 1000) :
    Calls Tryd.prog 22 #[.int .i64 K, .int .i64 n, .slice none 0 0] w fun e w' => ∃ p' c' q' d' pc cc, e = .returned (.tuple #[.agg #[.slice p' (32 * K.toNat) c', .slice q' K.toNat d', .bool false], .slice pc n cc]) ∧
      HpOwn w' w.heap.size p' c' q' d' (newH K.toNat) ∧ Ints .i64 w' pc (n * 4) (fun _ => -1) ∧ (pc = none → n = 0 ∧ cc = 0) ∧ Below w.heap.size w w' := by
  obtain ⟨w0, hw0⟩ : ∃ w0, w0 = w.alloc (.cells #[.slice none 0 0, .slice none 0 0, .bool false] 25) := ⟨_, rfl⟩
  have gR : Box3 w.heap.size (.slice none 0 0) (.slice none 0 0) (.bool false) w0 := by rw [hw0]; exact Box3.new _ _ _ _ _
  have hb0 : Below w.heap.size w w0 := by rw [hw0]; exact (Below.refl _ _).alloc (Nat.le_refl _) _
  have hl0 : w0.heap.size = w.heap.size + 1 := by rw [hw0]; simp
  obtain ⟨i0, hi, hz0, hz1, hz2⟩ := info_parts four_info
  go_enter Tryd.func22, Tryd.ntmps22
  go_upto_region 1 with fail
  rw [← hw0]
  refine wp_play_row k1 k2 (by kernel_rfl) (by simp) rfl ?_
  intro x0 x1 x2 x3 x4 x5 g p1 c1 q1 d1 w1 hown g5 hg n1 n2 hb1
  simp only [puts, plSlots, Act.put]
  replace gR := gR.below hb1
  have hbW : Below w.heap.size w w1 := bjoin hb1 hb0
  have hl1 : w0.heap.size ≤ w1.heap.size := hb1.size
  clear hw0 hb1 hb0
  generalize hKM : K.toNat = M at *
  go_upto_region 4 with fail
  go_loopg [9, 10] n (fun gg ov iv wr => ∃ i : Nat, i ≤ n ∧ gg = n - i ∧ iv = .int .i64 i ∧ wr.ownsRow w1.heap.size 51 4 ov i (vals .i64 (i * 4) (fun _ => -1)) ∧ Below w1.heap.size w1 wr)
  case atStart => exact ⟨0, by omega, by omega, rfl, World.ownsRow_nil _ _ _ _, Below.refl _ _⟩
  case round =>
    obtain ⟨i, ih, rfl, rfl, hc, hbw⟩ := hrel
    by_cases hin0 : i < n
    · have hsz := hbw.size
      go_wp2_with (first
        | (at_builtin; refine wpList_append_own _ rfl (.tmp 31) (.tmp 33) 26 rfl w1.heap.size 51 i0 (.agg #[.int .i64 0, .int .i64 0, .int .i64 0, .int .i64 0]) 4 32 Tryd.underlying26 hi hz0 hz1 hz2 rfl (by decide) _ _ _ rfl (hc.alloc _) ⟨wr.heap.size, 0, none⟩ 1 1 [.int .i64 (-1), .int .i64 (-1), .int .i64 (-1), .int .i64 (-1)] rfl rfl (four_new _ _ _ _ _ _) (by simp [Value.oneCell']) (by simp only [maxLen]; omega) (by omega) (by simp; omega) ?_; intro ov9 w9 hown9 hgrow9 _)
      )
      have h4 := vals_four i (fun _ => -1)
      rw [h4] at hown9
      have hb9 : Below w1.heap.size w1 w9 := (hbw.alloc hbw.size (.cells _ 51)).grown hgrow9 (by simp; omega) (fun k hk => (hc.lt k hk).1)
      go_roundg (n - (i + 1))
      case measure => omega
      case rel => exact ⟨i + 1, by omega, rfl, by go_num, hown9, hb9⟩
    · obtain rfl : n = i := by omega
      obtain ⟨lR, y0, y1, y2, f0, f1, f2⟩ := gR.below hbw
      obtain ⟨lG, u0, u1, u2, -, -, -⟩ := g5.below hbw
      obtain ⟨pn, cn, rfl, hpn⟩ := owned_new hc
      obtain ⟨hIo, hcn⟩ := owned_four hc (fun _ _ => by decide)
      have hown2 := hown.below hbw
      have hbR := bjoin hbw hbW
      have hl2 := hbw.size
      clear hown gR g5 hc hbW
      go_upto_region 8 with fail
      go_loopg [9, 11] 0 (fun gg cv iv wq => cv = .slice pn n cn ∧ iv = .int .i64 0 ∧ wq = wr)
      case atStart => exact ⟨rfl, rfl, rfl⟩
      case round =>
        obtain ⟨rfl, rfl, rfl⟩ := hrel
        go_wp2
        refine bodyPost_ret (by simp [results, Tryd.results22, go_sem, *]; try rfl) rfl ?_
        subst hKM
        have hz := (((hown2.under (g := w.heap.size) (by omega) 0 (.slice p1 (32 * K.toNat) c1)).under (g := w.heap.size) (by omega) 1 (.slice q1 K.toNat d1)).under (g := w.heap.size) (by omega) 2 (.bool false)).lower (show w.heap.size ≤ w0.heap.size by omega)
        have hAs : Aside (fun k => k = w.heap.size) wr (((wr.setCell ⟨w.heap.size, 0, none⟩ (.slice p1 (32 * K.toNat) c1)).setCell ⟨w.heap.size, 1, none⟩ (.slice q1 K.toNat d1)).setCell ⟨w.heap.size, 2, none⟩ (.bool false)) := (((Aside.of (T := fun k => k = w.heap.size) (Below.refl _ wr)).setCell (g := w.heap.size) rfl 0 (.slice p1 (32 * K.toNat) c1)).setCell (g := w.heap.size) rfl 1 (.slice q1 K.toNat d1)).setCell (g := w.heap.size) rfl 2 (.bool false)
        have hIf := hIo.aside hAs (fun k hk b off sp e => by have := hpn b off sp e; have hk : k = w.heap.size := hk; omega)
        exact ⟨p1, c1, q1, d1, pn, cn, rfl, hz, hIf, hcn, ((hbR.setCell (Nat.le_refl _) _).setCell (Nat.le_refl _) _).setCell (Nat.le_refl _) _⟩
end Go.Proofs.YtneanbagdkeoiaaDoor
