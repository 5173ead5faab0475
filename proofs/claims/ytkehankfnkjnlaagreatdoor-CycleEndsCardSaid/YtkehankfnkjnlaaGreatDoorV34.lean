import Derived.Test.YtkehankfnkjnlaaGreatDoorV29
import Derived.Lib.AppendZerosOnto
namespace Go.Proofs.YtkehankfnkjnlaaGreatDoor
set_option linter.unusedSimpArgs false
set_option linter.unusedVariables false
set_option maxHeartbeats 16000000
set_option maxRecDepth 20000
open Go.ChangeAt Go.ChangeShapes Go.Joins Go.RowKit Go.WideShapes
variable {h : Hp} {w w' W W' : World} {p q : Option Addr} {n g : Nat} {a : Int} {v : Value}
def cnOps (s h d : Nat) (pos : String) : List Oper :=
 [{ dst := some s, op := .fieldAddr 27 (.tmp h) 0, type := 0, pos := pos, after := #[], guard := none },
  { dst := some (s + 1), op := .load 24 (.tmp s), type := 24, pos := pos, after := #[{ on := 0, ground := .data }], guard := none },
  { dst := some (s + 2), op := .call { callee := .value (.func 125), args := #[.tmp (s + 1)], argTypes := #[24] }, type := 24, pos := pos, after := #[{ on := 1, ground := .data }], guard := none },
  { dst := some (s + 3), op := .fieldAddr 27 (.tmp h) 1, type := 0, pos := pos, after := #[], guard := none },
  { dst := some (s + 4), op := .load 25 (.tmp (s + 3)), type := 25, pos := pos, after := #[{ on := 3, ground := .data }], guard := none },
  { dst := some (s + 5), op := .call { callee := .value (.func 126), args := #[.tmp (s + 4)], argTypes := #[25] }, type := 25, pos := pos, after := #[{ on := 4, ground := .data }, { on := 2, ground := .chain }], guard := none },
  { dst := some (s + 6), op := .fieldAddr 27 (.tmp h) 2, type := 0, pos := pos, after := #[], guard := none },
  { dst := some (s + 7), op := .load 4 (.tmp (s + 6)), type := 4, pos := pos, after := #[{ on := 6, ground := .data }], guard := none },
  { dst := some (s + 8), op := .unOp .not 4 (.tmp (s + 7)), type := 4, pos := pos, after := #[{ on := 7, ground := .data }], guard := none },
  { dst := some (s + 9), op := .build 27 #[(0, .tmp (s + 2)), (1, .tmp (s + 5)), (2, .tmp (s + 8))], type := 27, pos := pos, after := #[{ on := 2, ground := .data }, { on := 5, ground := .data }, { on := 8, ground := .data }], guard := none },
  { dst := some d, op := .alloc 27, type := 0, pos := pos, after := #[], guard := none },
  { dst := none, op := .store 27 (.tmp d) (.tmp (s + 9)), type := 0, pos := pos, after := #[{ on := 10, ground := .data }, { on := 9, ground := .data }, { on := 5, ground := .chain }, { on := 0, ground := .phase }, { on := 1, ground := .phase }, { on := 2, ground := .phase }, { on := 3, ground := .phase }, { on := 4, ground := .phase }, { on := 5, ground := .phase }, { on := 6, ground := .phase }, { on := 7, ground := .phase }, { on := 8, ground := .phase }, { on := 9, ground := .phase }, { on := 10, ground := .phase }], guard := none }]
def cnSlots (s d : Nat) : List Nat := [s, s + 1, s + 2, s + 3, s + 4, s + 5, s + 6, s + 7, s + 8, s + 9, d]
def cnPhi (B : Nat) (N : Nat) (p : Option Addr) (c : Nat) (q : Option Addr) (d : Nat) (h : Hp) : Nat → Value → World → Prop
 | 0, v, _ => v = .pointer (some ⟨B, 0, none⟩)
 | 1, v, _ => v = .slice p h.n c
 | 2, v, w => w.ownsRow N 97 1 v h.n (vals .u64 h.n h.z)
 | 3, v, _ => v = .pointer (some ⟨B, 1, none⟩)
 | 4, v, _ => v = .slice q h.m d
 | 5, v, w => w.ownsRow N 51 3 v h.m (spVals h.m h.s)
 | 6, v, _ => v = .pointer (some ⟨B, 2, none⟩)
 | 7, v, _ => v = .bool h.b
 | 8, v, _ => v = .bool (!h.b)
 | 9, v, w => ∃ v1 v2, v = .agg #[v1, v2, .bool (!h.b)] ∧ w.ownsRow N 97 1 v1 h.n (vals .u64 h.n h.z) ∧ w.ownsRow N 51 3 v2 h.m (spVals h.m h.s)
 | 10, v, w => ∃ g, v = .pointer (some ⟨g, 0, none⟩) ∧ N ≤ g ∧ w.heap[g]? = some (.cells #[.slice none 0 0, .slice none 0 0, .bool false] 27 (0, 0))
 | _, _, _ => True
theorem zmz {B N : Nat} {c : Nat} {d : Nat} (i : Nat) (v : Value) (w w' : World) (hp : cnPhi B N p c q d h i v w) (hb : Below w.heap.size w w') : cnPhi B N p c q d h i v w' := by
 match i, hp with
 | 0, hp => exact hp
 | 1, hp => exact hp
 | 2, hp => exact zaa hp hb
 | 3, hp => exact hp
 | 4, hp => exact hp
 | 5, hp => exact zaa hp hb
 | 6, hp => exact hp
 | 7, hp => exact hp
 | 8, hp => exact hp
 | 9, ⟨v1, v2, e, h1, h2⟩ => exact ⟨v1, v2, e, zaa h1 hb, zaa h2 hb⟩
 | 10, ⟨g, e, hg, h1⟩ =>
  refine ⟨g, e, hg, ?_⟩
  rw [hb.block g ?_]
  ·exact h1
  ·rcases Nat.lt_or_ge g w.heap.size with h' | h'
   ·exact h'
   ·rw [Array.getElem?_eq_none h'] at h1; cases h1
 | _ + 11, _ => trivial
theorem zx0 (s h' d' : Nat) (pos : String) {B : Nat} {c : Nat} {d : Nat} {a : Act} {Q : Exit → Act → World → Prop} (hF : formB h = true) (hh : HpAt W p c q d h) (hbx : Box3 B (.slice p h.n c) (.slice q h.m d) (.bool h.b) W) (ha : a.tmps.getD h' undef = .pointer (some ⟨B, 0, none⟩)) (hh' : h' ∉ cnSlots s d') :
  ∀ i o, i < 11 → (cnOps s h' d' pos).toArray[i]? = some o → ∀ (a' : Act) (w' : World), Below W.heap.size W w' → (∀ t, t ∉ cnSlots s d' → a'.tmps.getD t undef = a.tmps.getD t undef) →
   (∀ j x, j < 11 → (cnSlots s d')[j]? = some x → (o.after.any fun e => Region.binds .any e && e.on == j) = true → cnPhi B W.heap.size p c q d h j (a'.tmps.getD x undef) w') →
   ∀ K : Act → World → Prop, (∀ v w'', Below w'.heap.size w' w'' → cnPhi B W.heap.size p c q d h i v w'' → K (a'.put o.dst v) w'') → o.wp Tryz.prog a' w' K Q := by
 intro i o hi ho a' w' hb hsame hdep K hK
 have hptr : a'.tmps.getD h' undef = .pointer (some ⟨B, 0, none⟩) := (hsame h' hh').trans ha
 have hat := hh.below hb
 have hbx' := hbx.below hb
 obtain ⟨lB, k0, k1, k2, -, -, -⟩ := hbx'
 obtain ⟨m1, m16, hnH, -⟩ := zad.1 hF
 replace hnH : Hid (h.n = 32 * h.m) := hnH
 have dep : ∀ (j x : Nat), j < 11 → (cnSlots s d')[j]? = some x → (o.after.any fun e => Region.binds .any e && e.on == j) = true → cnPhi B W.heap.size p c q d h j (a'.tmps[x]?.getD undef) w' := fun j x h1 h2 h3 => by
  have := hdep j x h1 h2 h3
  rwa [Array.getD_eq_getD_getElem?] at this
 clear hdep hsame ha hh hbx
 match i, hi with
 | 0, _ =>
  simp [cnOps] at ho
  subst ho
  unfold Oper.wp
  go_simp
  exact hK _ _ zr rfl
 | 1, _ =>
  simp [cnOps] at ho
  subst ho
  have e1 : a'.tmps[s]?.getD undef = .pointer (some ⟨B, 0, none⟩) := dep 0 (s) (by decide) rfl (by simp [Region.binds])
  unfold Oper.wp
  go_simp
  exact hK _ _ zr rfl
 | 2, _ =>
  simp [cnOps] at ho
  subst ho
  have e1 : a'.tmps[s + 1]?.getD undef = .slice p h.n c := dep 1 (s + 1) (by decide) rfl (by simp [Region.binds])
  unfold Oper.wp
  go_simp
  have hn := hnH.out
  refine zm (zhi p h.n c h.z w' hat.ints (by omega) (by omega)) ?_
  rintro e w'' ⟨p', c', rfl, hown, hb'⟩
  exact hK _ _ hb' (zag hown hb.size)
 | 3, _ =>
  simp [cnOps] at ho
  subst ho
  unfold Oper.wp
  go_simp
  exact hK _ _ zr rfl
 | 4, _ =>
  simp [cnOps] at ho
  subst ho
  have e1 : a'.tmps[s + 3]?.getD undef = .pointer (some ⟨B, 1, none⟩) := dep 3 (s + 3) (by decide) rfl (by simp [Region.binds])
  unfold Oper.wp
  go_simp
  exact hK _ _ zr rfl
 | 5, _ =>
  simp [cnOps] at ho
  subst ho
  have e1 : a'.tmps[s + 4]?.getD undef = .slice q h.m d := dep 4 (s + 4) (by decide) rfl (by simp [Region.binds])
  unfold Oper.wp
  go_simp
  have hn := hnH.out
  refine zm (zgv q h.m d h.s w' hat.spans (by omega) (by omega)) ?_
  rintro e w'' ⟨p', c', rfl, hown, hb'⟩
  exact hK _ _ hb' (zag hown hb.size)
 | 6, _ =>
  simp [cnOps] at ho
  subst ho
  unfold Oper.wp
  go_simp
  exact hK _ _ zr rfl
 | 7, _ =>
  simp [cnOps] at ho
  subst ho
  have e1 : a'.tmps[s + 6]?.getD undef = .pointer (some ⟨B, 2, none⟩) := dep 6 (s + 6) (by decide) rfl (by simp [Region.binds])
  unfold Oper.wp
  go_simp
  exact hK _ _ zr rfl
 | 8, _ =>
  simp [cnOps] at ho
  subst ho
  have e1 : a'.tmps[s + 7]?.getD undef = .bool h.b := dep 7 (s + 7) (by decide) rfl (by simp [Region.binds])
  unfold Oper.wp
  go_simp
  exact hK _ _ zr rfl
 | 9, _ =>
  simp [cnOps] at ho
  subst ho
  have o1 : w'.ownsRow W.heap.size 97 1 (a'.tmps[s + 2]?.getD undef) h.n (vals .u64 h.n h.z) := dep 2 (s + 2) (by decide) rfl (by simp [Region.binds])
  have o2 : w'.ownsRow W.heap.size 51 3 (a'.tmps[s + 5]?.getD undef) h.m (spVals h.m h.s) := dep 5 (s + 5) (by decide) rfl (by simp [Region.binds])
  have e9 : a'.tmps[s + 8]?.getD undef = .bool (!h.b) := dep 8 (s + 8) (by decide) rfl (by simp [Region.binds])
  obtain ⟨p1, c1, e1, -⟩ := zaf o1
  obtain ⟨q1, d1, e2, -⟩ := zaf o2
  rw [e1] at o1
  rw [e2] at o2
  unfold Oper.wp
  go_simp
  exact hK _ _ zr ⟨_, _, rfl, o1, o2⟩
 | 10, _ =>
  simp [cnOps] at ho
  subst ho
  unfold Oper.wp
  go_simp
  exact hK _ _ (zr.alloc (Nat.le_refl _) _) ⟨w'.heap.size, rfl, hb.size, heap_alloc_new _ _⟩
theorem ziz {id s h' d' : Nat} {pos : String} {B : Nat} {c : Nat} {d : Nat} {a : Act} {Q : Exit → Act → World → Prop} (hm : Tryz.prog.follows .mixedOrders = true) 
  (h1 : h' < s) (h2 : d' < s) (h3 : h' ≠ d') (h4 : s + 9 < a.tmps.size) (hF : formB h = true) (hh : HpAt W p c q d h) (hbx : Box3 B (.slice p h.n c) (.slice q h.m d) (.bool h.b) W) (ha : a.tmps.getD h' undef = .pointer (some ⟨B, 0, none⟩))
  (hK : ∀ x0 x1 x2 x3 x4 x5 x6 x7 x8 x9 g p' c' q' d'' w', HpOwn w' W.heap.size p' c' q' d'' (flipB h) → Box3 g (.slice p' h.n c') (.slice q' h.m d'') (.bool (!h.b)) w' → W.heap.size ≤ g → (Value.slice p' h.n c').ownBlock ≠ some g → (Value.slice q' h.m d'').ownBlock ≠ some g → Below W.heap.size W w' →
   Q .normal (puts [s, s + 1, s + 2, s + 3, s + 4, s + 5, s + 6, s + 7, s + 8, s + 9, d'] [x0, x1, x2, x3, x4, x5, x6, x7, x8, x9, .pointer (some ⟨g, 0, none⟩)] a) w') :
  (Code.region id (cnOps s h' d' pos).toArray true).wp Tryz.prog Q a W := by
 have hmem : h' ∉ cnSlots s d' := by simp [cnSlots]; omega
 refine zb3 11 (cnSlots s d') (cnPhi B W.heap.size p c q d h) hm (by kernel_rfl) (by kernel_rfl) (by simp [cnOps]) (by kernel_rfl) (by kernel_rfl) rfl rfl (by simp [cnSlots]; omega) (by simp [cnSlots]; omega) zmz (zx0 s h' d' pos hF hh hbx ha hmem) ?_
 intro a' w' hb hdf hsz hsame hf
 have f (i x : Nat) (hi : i < 11) (hx : (cnSlots s d')[i]? = some x) : cnPhi B W.heap.size p c q d h i (a'.tmps.getD x undef) w' := hf i x hi hx
 obtain ⟨g, e7, hg, hgh⟩ := f 10 d' (by decide) rfl
 obtain ⟨v1, v2, e10, o1, o2⟩ := f 9 (s + 9) (by decide) rfl
 obtain ⟨p1, c1, rfl, -⟩ := zaf o1
 obtain ⟨q1, d1, rfl, -⟩ := zaf o2
 have hbox := zas hgh
 have n1 : (Value.slice p1 h.n c1).ownBlock ≠ some g := fun e => by
  obtain ⟨cur, hc⟩ := zau o1 e
  rw [hgh] at hc; injection hc with hc; injection hc with _ hc; revert hc; decide
 have n2 : (Value.slice q1 h.m d1).ownBlock ≠ some g := fun e => by
  obtain ⟨cur, hc⟩ := zau o2 e
  rw [hgh] at hc; injection hc with hc; injection hc with _ hc; revert hc; decide
 have hne : ∀ b b', (Value.slice p1 h.n c1).ownBlock = some b → (Value.slice q1 h.m d1).ownBlock = some b' → b ≠ b' := fun b b' e e' eb => by
  subst eb
  obtain ⟨cur, hc⟩ := zau o1 e
  obtain ⟨cur', hc'⟩ := zau o2 e'
  rw [hc] at hc'; injection hc' with hc'; injection hc' with _ hc'; revert hc'; decide
 have hown : HpOwn w' W.heap.size p1 c1 q1 d1 (flipB h) := ⟨o1, o2, hne, hh.wf, hh.nle, hh.mle⟩
 have e7' : a'.tmps[d']?.getD undef = .pointer (some ⟨g, 0, none⟩) := by rw [← Array.getD_eq_getD_getElem?]; exact e7
 have e10' : a'.tmps[s + 9]?.getD undef = .agg #[.slice p1 h.n c1, .slice q1 h.m d1, .bool (!h.b)] := by rw [← Array.getD_eq_getD_getElem?]; exact e10
 have hputs := zc9 (cnSlots s d') a hdf hsz (by simp [cnSlots]; omega) hsame
 simp only [cnSlots, List.map_cons, List.map_nil, e7] at hputs
 have hQ := hK (a'.tmps.getD s undef) (a'.tmps.getD (s + 1) undef) (a'.tmps.getD (s + 2) undef) (a'.tmps.getD (s + 3) undef) (a'.tmps.getD (s + 4) undef) (a'.tmps.getD (s + 5) undef) (a'.tmps.getD (s + 6) undef) (a'.tmps.getD (s + 7) undef) (a'.tmps.getD (s + 8) undef) (a'.tmps.getD (s + 9) undef) g p1 c1 q1 d1 _ ((hown.other n1 n2 0 (.slice p1 h.n c1)).other n1 n2 1 (.slice q1 h.m d1) |>.other n1 n2 2 (.bool (!h.b))) (hbox.stores _ _ _) hg n1 n2 (zav hb hg _ _ _)
 rw [← hputs] at hQ
 obtain ⟨lg, k0, k1, k2, f0, f1, f2⟩ := hbox
 clear hf f e7 e10 hK hputs hsame h4 hsz
 simp only [cnOps, List.drop_succ_cons, List.drop_zero]
 refine wpList_plain rfl fun K hK' => ?_
 have hK2 := hK' a' _ (show wpList _ _ Q [] a' _ from hQ)
 clear hK' hQ
 unfold Oper.wp
 go_simp
 exact hK2
theorem zsp (n : Nat) (w : World) (h0 : 1 ≤ n) (h1 : n ≤ 1000001) :
  Calls Tryz.prog 189 #[.slice none 0 0, .int .i64 n] w fun e w' => ∃ p' c', e = .returned (.slice p' 0 c') ∧ w'.ownsRow w.heap.size 3 1 (.slice p' 0 c') 0 [] ∧ Below w.heap.size w w' := by
 obtain ⟨i0, hi, hz0, hz1, hz2⟩ := info_parts zb5
 have hrz : ∀ ty, (Builtin.append_ #[29, 3] ty #[.slice none 0 0, .int .i64 n]).run Tryz.prog w = _ := fun ty =>
  Lib.run_append_nil_zeros w 29 3 ty 3 i0 (.int .i64 0) .i64 .i64 Tryz.underlying29 Tryz.underlying3 hi hz0 n h0 (by rw [hz1]; decide) (by omega) (by rw [hz2]; omega)
 have hG := grownCap_ge w n 0 3
 have hG2 := grownCap_le_maxLen w n 0 3 (by unfold maxLen; omega)
 generalize grownCap w n 0 3 = G at *
 obtain ⟨w2, hw2⟩ : ∃ w2, w2 = w.drew.alloc (.cells (Builtin.zeroCells (Value.int .i64 0).cells n ++ Builtin.zeroCells (Value.int .i64 0).cells (G - n)) 3) := ⟨_, rfl⟩
 have hsz : (Builtin.zeroCells (Value.int .i64 0).cells n ++ Builtin.zeroCells (Value.int .i64 0).cells (G - n)).size = G * 1 := by
  simp only [Array.size_append, Go.size_zeroCells]; show n * 1 + (G - n) * 1 = G * 1; omega
 have hown : w2.ownsRow w.heap.size 3 1 (.slice (some ⟨w.heap.size, 0, none⟩) 0 G) 0 [] := by
  rw [hw2]
  exact World.ownsRow_made w.drew _ G (Nat.le_refl _) hG2 hsz
 have hb : Below w.heap.size w w2 := by rw [hw2]; exact (show Below w.heap.size w w.drew from ⟨rfl, rfl, rfl, Nat.le_refl _, fun _ _ => rfl⟩).alloc (Nat.le_refl _) _
 rw [← hw2] at hrz
 simp only [maxLen] at hG2
 clear hw2 hsz
 go_enter Tryz.func189, Tryz.ntmps189
 go_wp2_with (at_builtin; refine Lib.wpList_append_run _ rfl _ _ _ _ rfl _ _ rfl rfl _ _ (hrz _) ?_)
 go_returns
 exact ⟨_, _, rfl, hown, hb⟩
theorem zlz (b : Nat) (p q : Option Addr) (n c m d : Nat) (z y : Nat → Int) (w : World) (hlt : b < w.heap.size) (g0 : w.cell? ⟨b, 0, none⟩ = some (.slice p n c)) (g1 : w.cell? ⟨b, 1, none⟩ = some (.slice q m d)) 
  (hZ : Ints .i64 w p n z) (hY : Ints .i64 w q m y) (hZq : p = none → n = 0 ∧ c = 0) (hYq : q = none → m = 0 ∧ d = 0) (h0 : 1 ≤ n + m) (h1 : n + m ≤ 1000001) :
  Calls Tryz.prog 161 #[.slice (some ⟨b, 0, none⟩) 2 2] w fun e w' => ∃ p' c', e = .returned (.slice p' (n + m : Nat) c') ∧ w'.ownsRow w.heap.size 3 1 (.slice p' (n + m) c') (n + m) (vals .i64 n z ++ vals .i64 m y) ∧ Below w.heap.size w w' := by
 obtain ⟨i0, hi, hz0, hz1, hz2⟩ := info_parts zb5
 go_enter Tryz.func161, Tryz.ntmps161
 go_wp2
 go_loopg [3, 11] 2 (fun g sv iv wr => (g = 2 ∧ iv = .int .i64 0 ∧ sv = .int .i64 0 ∨ g = 1 ∧ iv = .int .i64 1 ∧ sv = .int .i64 n ∨ g = 0 ∧ iv = .int .i64 2 ∧ sv = .int .i64 ((n : Int) + m)) ∧ Below w.heap.size w wr)
 case atStart => exact ⟨.inl ⟨rfl, rfl, rfl⟩, zr⟩
 case round =>
  obtain ⟨hcase, hbw⟩ := hrel
  have e0 := zcl hbw hlt g0
  have e1 := zcl hbw hlt g1
  rcases hcase with ⟨rfl, rfl, rfl⟩ | ⟨rfl, rfl, rfl⟩ | ⟨rfl, rfl, rfl⟩
  ·go_wp2
   go_roundg 1
   case measure => omega
   case rel => exact ⟨.inr (.inl ⟨rfl, rfl, rfl⟩), hbw⟩
  ·have hnn : ¬ (n : Int) + m < 0 := by omega
   go_wp2
   go_roundg 0
   case measure => omega
   case rel => exact ⟨.inr (.inr ⟨rfl, rfl, rfl⟩), hbw⟩
  ·have hG := zsp (n + m) wr h0 (by omega)
   rw [Int.natCast_add] at hG
   go_upto_region 10 with (first
  | (go_at_call 189; refine zm (hG) ?_; rintro e w' ⟨p9, c9, rfl, ho9, hb⟩; obtain ⟨hc, hf, hb, hz⟩ := bstep hb (w := wr) (by go_grown); try simp only [za, zb, zd] at hc hf hz)
   )
   have hsz := hbw.size
   have hbx : Below w.heap.size w w' := hbw.trans (hb.mono hsz)
   have hox := zag ho9 hsz
   clear hb hc hf hbw ho9 e0 e1 hG
   generalize w' = w9 at *
   go_wp2
   go_loopg [6, 27] 2 (fun g ov iv wr => (g = 2 ∧ iv = .int .i64 0 ∧ wr.ownsRow w.heap.size 3 1 ov 0 [] ∨ g = 1 ∧ iv = .int .i64 1 ∧ wr.ownsRow w.heap.size 3 1 ov n (vals .i64 n z) ∨ g = 0 ∧ iv = .int .i64 2 ∧ wr.ownsRow w.heap.size 3 1 ov (n + m) (vals .i64 n z ++ vals .i64 m y)) ∧ Below w.heap.size w wr)
   case atStart => exact ⟨.inl ⟨rfl, rfl, hox⟩, hbx⟩
   case round =>
    obtain ⟨hcase, hbw⟩ := hrel
    have hsz := hbw.size
    have e0 := zcl hbw hlt g0
    have e1 := zcl hbw hlt g1
    rcases hcase with ⟨rfl, rfl, ho⟩ | ⟨rfl, rfl, ho⟩ | ⟨rfl, rfl, ho⟩
    ·go_wp2_with (first
      | (at_builtin; refine zai rfl (.tmp 31) (.tmp 32) 29 rfl w.heap.size 3 i0 (.int .i64 0) 1 8 Tryz.underlying29 hi hz0 hz1 hz2 rfl (by decide) _ _ _ rfl ho p n c (vals .i64 n z) rfl (by simp [zae]) (zdb (hZ.below hbw)) (zcb _ _ _) hZq (by simp only [maxLen]; omega) (by omega) hsz ?_; intro ov w1 ho1 hgrow)
     )
     have hb1 := hbw.grown hgrow hsz (fun k hk => (ho.lt k hk).1)
     rw [List.nil_append, Nat.zero_add] at ho1
     go_roundg 1
     case measure => omega
     case rel => exact ⟨.inr (.inl ⟨rfl, rfl, ho1⟩), hb1⟩
    ·go_wp2_with (first
      | (at_builtin; refine zai rfl (.tmp 31) (.tmp 32) 29 rfl w.heap.size 3 i0 (.int .i64 0) 1 8 Tryz.underlying29 hi hz0 hz1 hz2 rfl (by decide) _ _ _ rfl ho q m d (vals .i64 m y) rfl (by simp [zae]) (zdb (hY.below hbw)) (zcb _ _ _) hYq (by simp only [maxLen]; omega) (by omega) hsz ?_; intro ov w1 ho1 hgrow)
     )
     have hb1 := hbw.grown hgrow hsz (fun k hk => (ho.lt k hk).1)
     go_roundg 0
     case measure => omega
     case rel => exact ⟨.inr (.inr ⟨rfl, rfl, ho1⟩), hb1⟩
    ·obtain ⟨pp, cc, ff, -⟩ := zaf ho
     rw [ff] at ho ⊢
     clear ff
     go_wp2
     go_returns
     exact ⟨pp, cc, rfl, ho, hbw⟩
theorem zqi (n : Nat) (w : World) (hn : n ≤ 10) :
  Calls Tryz.prog 191 #[.int .u64 1, .int .u64 n] w fun e w' => e = .returned (.tuple #[.int .u64 0, .int .u64 n]) ∧ w = w' := by
 rcases (show n = 0 ∨ n = 1 ∨ n = 2 ∨ n = 3 ∨ n = 4 ∨ n = 5 ∨ n = 6 ∨ n = 7 ∨ n = 8 ∨ n = 9 ∨ n = 10 by omega) with rfl | rfl | rfl | rfl | rfl | rfl | rfl | rfl | rfl | rfl | rfl
 all_goals
  go_enter Tryz.func191, Tryz.ntmps191
  go_wp2
  go_returns
  exact ⟨rfl, rfl⟩
theorem zx2 (n : Nat) (w : World) (hn : n ≤ 10) :
  Calls Tryz.prog 164 #[.int .u64 1, .int .u64 n] w fun e w' => e = .returned (.tuple #[.int .u64 0, .int .u64 n]) ∧ w = w' := by
 have hC := zqi n w hn
 clear hn
 go_enter Tryz.func164, Tryz.ntmps164
 go_wp2_with (first
  | (go_at_call 191; refine zm hC ?_; rintro e w' ⟨rfl, rfl⟩)
 )
 go_returns
 exact ⟨rfl, rfl⟩
def rpZ (r : Int) (k : Nat) : Nat → Int := fun i => if i < k then r else 0
theorem zla (r : Int) (n k m : Nat) (h : k + m ≤ n) : splice (vals .i64 n (rpZ r k)) k (vals .i64 m (fun _ => r)) = vals .i64 n (rpZ r (k + m)) := by
 unfold splice
 apply List.ext_getElem?
 intro j
 rw [zae]
 by_cases h1 : j < k
 ·rw [List.getElem?_append_left (by rw [List.length_take, zae]; omega), List.getElem?_take, if_pos h1, za4 _ _ (by omega), za4 _ _ (by omega)]
  simp [rpZ, h1, show j < k + m by omega]
 ·rw [List.getElem?_append_right (by rw [List.length_take, zae]; omega), List.length_take, zae, Nat.min_eq_left (by omega)]
  by_cases h2 : j < k + m
  ·rw [List.getElem?_append_left (by rw [zae]; omega), za4 _ _ (by omega), za4 _ _ (by omega)]
   simp [rpZ, h2]
  ·rw [List.getElem?_append_right (by rw [zae]; omega), zae, List.getElem?_drop, show k + m + (j - k - m) = j by omega]
   by_cases h3 : j < n
   ·rw [za4 _ _ h3, za4 _ _ h3]
    simp [rpZ, h1, h2]
   ·rw [List.getElem?_eq_none (by rw [zae]; omega), List.getElem?_eq_none (by rw [zae]; omega)]
theorem zov (b : Nat) (r : Int) (n : Nat) (w : World) (hlt : b < w.heap.size) (g0 : w.cell? ⟨b, 0, none⟩ = some (.int .i64 r)) (hn : n ≤ 10) :
  Calls Tryz.prog 130 #[.slice (some ⟨b, 0, none⟩) 1 1, .int .i64 n] w fun e w' => ∃ g, e = .returned (.slice (some ⟨g, 0, none⟩) n n) ∧ RowAt .i64 3 w' g n (fun _ => r) ∧ Below w.heap.size w w' := by
 obtain ⟨i0, hi, hz0, hz1, hz2⟩ := info_parts zb5
 have hM := zx2 n w hn
 have hn0 : ¬ (n : Int) < 0 := by omega
 have hn9 : ¬ (9223372036854775807 : Int) < n := by omega
 go_enter Tryz.func130, Tryz.ntmps130
 go_upto_region 7 with (first
  | (go_at_call 164; refine zm hM ?_; rintro e w' ⟨rfl, rfl⟩)
  | (at_make; refine wpList_make_full _ rfl (.tmp 29) (.tmp 29) 29 rfl w.heap.size 3 i0 (.int .i64 0) 1 Tryz.underlying29 hi hz0 hz1 _ _ _ _ n rfl rfl rfl rfl (by rw [hz2]; omega) (by simp only [maxLen]; omega) (Nat.le_refl _) ?_; intro w1 hown1 hgrow1)
 )
 have hm : (madeCells (Value.int IntKind.i64 0).cells (n * 1)).toList = vals .i64 n (fun _ => 0) := by rw [Nat.mul_one, ← zh7]; exact toList_madeCells_one _ _
 rw [hm] at hown1
 have row1 := zmu hown1
 have hB1 : Below w.heap.size w w1 := zr.grown hgrow1 (Nat.le_refl _) (by simp)
 have g1 := zcl hB1 hlt g0
 clear hm hown1 hgrow1 hM
 have hgE : w.heap.size ≤ w.heap.size := Nat.le_refl _
 obtain ⟨m, hm0⟩ : ∃ m, m = Nat.min 1 n := ⟨_, rfl⟩
 have hm1 : (vals .i64 m (fun _ => r)).length = Nat.min 1 n := by rw [zae, hm0]
 have hmn : m ≤ n ∧ m ≤ 1 ∧ (0 < n → m = 1) := by rw [hm0, show Nat.min 1 n = min 1 n from rfl]; omega
 have hsrc : 0 < (vals .i64 m (fun _ => r)).length → (some ⟨w.heap.size, 0, none⟩ : Option Addr) = some ⟨w.heap.size, 0, none⟩ ∧ ∃ ad, (some ⟨b, 0, none⟩ : Option Addr) = some ad ∧ ∀ j v, (vals .i64 m (fun _ => r))[j]? = some v → w1.cell? (ad.add j) = some v := fun h => ⟨rfl, ⟨b, 0, none⟩, rfl, fun j v hj => by
  rw [zae] at h
  obtain rfl : m = 1 := by omega
  have hj0 : j = 0 := by have := (List.getElem?_eq_some_iff.1 hj).1; rw [zae] at this; omega
  subst hj0
  rw [za4 _ _ (by omega)] at hj
  injection hj with hj
  subst hj
  rw [ze2]
  exact g1⟩
 have hfit : 0 + (vals .i64 m (fun _ => r)).length ≤ (vals .i64 n (fun _ => 0)).length := by rw [zae, zae]; omega
 have hmH : Hid (m = Nat.min 1 n) := hm0
 have hm1' : Hid ((vals .i64 m (fun _ => r)).length = Nat.min 1 n) := hm1
 have hfit' : Hid (0 + (vals .i64 m (fun _ => r)).length ≤ (vals .i64 n (fun _ => 0)).length) := hfit
 clear hm0 hm1 hfit
 go_upto_region 8 with (first
  | (refine wpList_copy_splice (o := ⟨some 33, _, _, _, _, _⟩) rfl (.tmp 31) (.tmp 32) 29 29 rfl 3 Tryz.underlying29 (by kernel_rfl) _ _ _ _ _ _ rfl rfl w.heap.size 0 (vals .i64 n (fun _ => 0)) 3 row1 (vals .i64 m (fun _ => r)) hm1'.out hsrc hfit'.out (zcb _ _ _) w.heap.size w hB1 hgE ?_; intro w2 hS2 hB2)
 )
 have row2 : RowAt .i64 3 w2 w.heap.size n (rpZ r m) := by
  have := hS2.out
  have e0 : vals .i64 n (fun _ => 0) = vals .i64 n (rpZ r 0) := by unfold rpZ; simp
  rw [e0, zla r n 0 m (by omega), Nat.zero_add] at this
  exact this
 rw [zae]
 clear hS2 hsrc hfit' hm1' row1 hB1 g1 hmH
 go_loopg [8] n (fun g v wr => ∃ k : Nat, k ≤ n ∧ (0 < n → 0 < k) ∧ n ≤ g + k ∧ v = .int .i64 k ∧ RowAt .i64 3 wr w.heap.size n (rpZ r k) ∧ Below w.heap.size w wr)
 case atStart => exact ⟨m, by omega, by omega, by omega, rfl, row2, hB2⟩
 case round =>
  obtain ⟨k, hk, hk0, hg, rfl, row, hbw⟩ := hrel
  by_cases hkn : k < n
  ·have hk0' := hk0 (by omega)
   obtain ⟨m2, hm2⟩ : ∃ m2, m2 = Nat.min k (n - k) := ⟨_, rfl⟩
   have hm3 : k + m2 ≤ n ∧ 0 < m2 ∧ m2 ≤ k := by rw [hm2, show Nat.min k (n - k) = min k (n - k) from rfl]; omega
   have hlen : Hid ((vals .i64 m2 (fun _ => r)).length = Nat.min k (n - k)) := show _ = _ by rw [zae, hm2]
   have hsrc : Hid (0 < (vals .i64 m2 (fun _ => r)).length → (some ⟨w.heap.size, k, none⟩ : Option Addr) = some ⟨w.heap.size, k, none⟩ ∧ ∃ ad, (some ⟨w.heap.size, 0, none⟩ : Option Addr) = some ad ∧ ∀ j v, (vals .i64 m2 (fun _ => r))[j]? = some v → wr.drew.cell? (ad.add j) = some v) := show _ → _ from fun _ => ⟨rfl, ⟨w.heap.size, 0, none⟩, rfl, fun j v hj => by
    have hj0 : j < m2 := by have := (List.getElem?_eq_some_iff.1 hj).1; rwa [zae] at this
    rw [za4 _ _ hj0] at hj
    injection hj with hj
    subst hj
    rw [ze2, Nat.zero_add]
    refine Eq.trans (show wr.drew.cell? _ = wr.cell? _ from rfl) ?_
    rw [row.cell (show j < n by omega)]
    unfold rpZ
    rw [if_pos (by omega)]⟩
   have hfit : Hid (k + (vals .i64 m2 (fun _ => r)).length ≤ (vals .i64 n (rpZ r k)).length) := show _ ≤ _ by rw [zae, zae]; omega
   have hrowH : Hid (RowAt .i64 3 wr.drew w.heap.size n (rpZ r k)) := row
   have hbD : Hid (Below w.heap.size w wr.drew) := hbw.trans ⟨rfl, rfl, rfl, Nat.le_refl _, fun _ _ => rfl⟩
   have hne : ¬ n = k := by omega
   have hkn1 : (k : Int) ≤ n := by omega
   have hnk : (n : Int) - k = ((n - k : Nat) : Int) := by omega
   clear hm2
   go_upto_region 9 with fail
   go_region_law (refine step_copy_splice rfl (.tmp 41) (.tmp 44) 29 29 rfl 3 Tryz.underlying29 (by kernel_rfl) (some ⟨w.heap.size, k, none⟩) (some ⟨w.heap.size, 0, none⟩) (n - k) (n - k) k n (by simp [Act.eval, Act.put]) (by simp [Act.eval, Act.put]) w.heap.size k (vals .i64 n (rpZ r k)) 3 hrowH.out (vals .i64 m2 (fun _ => r)) hlen.out hsrc.out hfit.out (zcb _ _ _) w.heap.size w hbD.out hgE ?_; intro w4 hg4 hb4)
   have row4 : RowAt .i64 3 w4 w.heap.size n (rpZ r (k + m2)) := by
    have := hg4.out
    rw [zla r n k m2 (by omega)] at this
    exact this
   rw [zae]
   clear hg4 hlen hsrc hfit hrowH hbD
   go_wp2
   have ew : IntKind.i64.wrap ((k : Int) + m2) = ((k + m2 : Nat) : Int) := by rw [IntKind.wrap_i64]; omega
   go_roundg (n - (k + m2))
   case measure => omega
   case rel => exact ⟨k + m2, by omega, by omega, by omega, by rw [ew], row4, hb4⟩
  ·obtain rfl : k = n := by omega
   go_wp2
   go_returns
   have hv : vals .i64 k (rpZ r k) = vals .i64 k fun _ => r := by
    unfold vals
    apply List.map_congr_left
    intro i hi
    simp [rpZ, List.mem_range.1 hi]
   unfold RowAt at row
   rw [hv] at row
   exact ⟨_, rfl, row, hbw⟩
end Go.Proofs.YtkehankfnkjnlaaGreatDoor
