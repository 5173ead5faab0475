/- Heaps copied (chapter 7): the reference's Made of no deeds; 'own := ..' of the laws; heaps aside; slices.Clone. -/
import Derived.Test.YtiofeebiejkajaaDoorB10
import Derived.Test.YtiofeebiejkajaaDoorB11
import Derived.BigRegion
import Derived.Deep.RegionLawGrows
import Derived.ArgAppend
import Derived.Lib.SliceRun
/-! Contract of the reference's Made, of no deeds (chapter 7). -/
namespace Go.Proofs.YtiofeebiejkajaaDoor
set_option linter.unusedSimpArgs false
set_option linter.unusedVariables false
open Go.ChangeShapes Go.WideShapes Go.ChangeAt Go.RowKit Go.Joins

theorem made_one (v : Value) (n : Nat) : (madeCells #[v] n).toList = List.replicate n v := by
  apply List.ext_getElem?
  intro j
  by_cases h : j < n <;> simp [madeCells, h, Nat.mod_one]
theorem made_spans : ∀ n : Nat, (madeCells #[.int .i64 0, .int .i64 0, .int .u32 0] (n * 3)).toList = spVals n (fun _ => ⟨0, 0, 0⟩) := by
  intro n
  apply List.ext_getElem?
  intro j
  by_cases h : j < n * 3
  · obtain ⟨a0, a1, a2⟩ := spVals_get (fun _ => (⟨0, 0, 0⟩ : Sp)) (n := n) (i := j / 3) (by omega)
    have hj : j % 3 = 0 ∨ j % 3 = 1 ∨ j % 3 = 2 := by omega
    have e : (madeCells #[.int .i64 0, .int .i64 0, .int .u32 0] (n * 3)).toList[j]? = some ((#[.int .i64 0, .int .i64 0, .int .u32 0] : Array Value)[j % 3]!) := by simp [madeCells, h]
    rcases hj with hj | hj | hj
    · rw [show j / 3 * 3 = j by omega] at a0; rw [e, hj, a0]; rfl
    · rw [show j / 3 * 3 + 1 = j by omega] at a1; rw [e, hj, a1]; rfl
    · rw [show j / 3 * 3 + 2 = j by omega] at a2; rw [e, hj, a2]; rfl
  · rw [List.getElem?_eq_none (by simp [madeCells]; omega), List.getElem?_eq_none (by rw [spVals_length]; omega)]
theorem box_of_heap {w : World} {b : Nat} {x y z : Value} {t : TypeId} (h : w.heap[b]? = some (.cells #[x, y, z] t (0, 0))) : Box3 b x y z w := by
  refine ⟨?_, ?_, ?_, ?_, frozen_of_row w b 0 _ t h, frozen_of_row w b 1 _ t h, frozen_of_row w b 2 _ t h⟩
  · rcases Nat.lt_or_ge b w.heap.size with h' | h'
    · exact h'
    · rw [Array.getElem?_eq_none h'] at h; cases h
  · rw [cell_of_row w b 0 _ t (0, 0) h]; rfl
  · rw [cell_of_row w b 1 _ t (0, 0) h]; rfl
  · rw [cell_of_row w b 2 _ t (0, 0) h]; rfl
theorem make_words (K : Int) (h1 : 1 ≤ K) (h2 : K ≤ 16) (w : World) :
    (Instr.makeSlice 22 (.int .i64 (32 * K)) (.int .i64 (32 * K))).run Tryd.prog w = .ok (.slice (some ⟨w.heap.size, 0, none⟩) (32 * K.toNat) (32 * K.toNat)) (w.alloc (.cells (madeCells #[.int .u64 0] (32 * K.toNat)) 95)) := by
  obtain ⟨i0, hi, hz0, hz1, hz2⟩ := info_parts infoW
  have := run_make (P := Tryd.prog) w 22 95 i0 (.int .u64 0) Tryd.underlying22 hi hz0 .i64 .i64 (32 * K) (32 * K) (by omega) (by omega) (by rw [hz2]; omega) (by omega)
  rw [hz1, show (32 * K).toNat = 32 * K.toNat by omega, Nat.mul_one] at this
  exact this
theorem make_spans (K : Int) (h1 : 1 ≤ K) (h2 : K ≤ 16) (w : World) :
    (Instr.makeSlice 23 (.int .i64 K) (.int .i64 K)).run Tryd.prog w = .ok (.slice (some ⟨w.heap.size, 0, none⟩) K.toNat K.toNat) (w.alloc (.cells (madeCells #[.int .i64 0, .int .i64 0, .int .u32 0] (K.toNat * 3)) 67)) := by
  obtain ⟨i0, hi, hz0, hz1, hz2⟩ := info_parts infoS
  have := run_make (P := Tryd.prog) w 23 67 i0 (.agg #[.int .i64 0, .int .i64 0, .int .u32 0]) Tryd.underlying23 hi hz0 .i64 .i64 K K (by omega) (by omega) (by rw [hz2]; omega) (by omega)
  rw [hz1] at this
  exact this
end Go.Proofs.YtiofeebiejkajaaDoor
/-! 'own := api.Heap{Words: append([]uint64{}, h.Words...), Spans: append([]api.Span{}, h.Spans...), Sense: h.Sense}': one region that draws its order: a heap of the call's own. -/
namespace Go.Proofs.YtiofeebiejkajaaDoor
set_option linter.unusedSimpArgs false
set_option linter.unusedVariables false
open Go.ChangeShapes Go.WideShapes Go.ChangeAt Go.RowKit Go.Joins

theorem Spans.cells {w : World} {p : Option Addr} {n : Nat} {s : Nat → Sp} (h : Spans w p n s) (h0 : 0 < n) : ∃ ad, p = some ad ∧ ∀ j v, (spVals n s)[j]? = some v → w.cell? (ad.add j) = some v := by
  obtain ⟨⟨b, off, e, -, -⟩, -⟩ := h 0 h0
  refine ⟨_, e, fun j v hv => ?_⟩
  have hj : j < n * 3 := by
    have := (List.getElem?_eq_some_iff.1 hv).1
    rwa [spVals_length] at this
  obtain ⟨⟨b', off', e', -, c0, c1, c2⟩, -⟩ := h (j / 3) (by omega)
  rw [e] at e'
  injection e' with e'
  injection e' with e1 e2
  subst e1 e2
  obtain ⟨a0, a1, a2⟩ := spVals_get s (n := n) (i := j / 3) (by omega)
  rw [add_none]
  have hr : j % 3 = 0 ∨ j % 3 = 1 ∨ j % 3 = 2 := by omega
  rcases hr with hr | hr | hr
  · rw [show j / 3 * 3 = j by omega] at a0 c0
    rw [c0, ← a0]; exact hv
  · rw [show j / 3 * 3 + 1 = j by omega] at a1
    rw [show off + j / 3 * 3 + 1 = off + j by omega] at c1
    rw [c1, ← a1]; exact hv
  · rw [show j / 3 * 3 + 2 = j by omega] at a2
    rw [show off + j / 3 * 3 + 2 = off + j by omega] at c2
    rw [c2, ← a2]; exact hv
theorem spVals_one (n : Nat) (s : Nat → Sp) : ∀ u ∈ spVals n s, u.oneCell' = true := by
  intro u hu
  simp only [spVals, List.mem_flatMap] at hu
  obtain ⟨i, -, hu⟩ := hu
  exact vals_oneCell _ u hu
theorem owned_block {w : World} {base : Nat} {e : TypeId} {size : Nat} {v : Value} {n : Nat} {xs : List Value} (h : w.ownsRow base e size v n xs) {b : Nat} (hb : v.ownBlock = some b) : ∃ cur, w.heap[b]? = some (.cells cur e (0, 0)) := by
  rcases h.2 with ⟨hv, -⟩ | ⟨g, cap', cur, hv, -, hg, -⟩
  · rw [hv] at hb; cases hb
  · rw [hv] at hb
    injection hb with hb
    subst hb
    exact ⟨cur, hg⟩
end Go.Proofs.YtiofeebiejkajaaDoor
/-! What stays where a call writes into some older blocks too, and a span stored into a row of one's own. -/
namespace Go.Proofs.YtiofeebiejkajaaDoor
set_option linter.unusedSimpArgs false
set_option linter.unusedVariables false
open Go.ChangeShapes Go.WideShapes Go.ChangeAt Go.RowKit Go.Joins

theorem Box3.aside {T : Nat → Prop} {b : Nat} {x y z : Value} {W W' : World} (h : Box3 b x y z W) (ha : Aside T W W') (hT : ¬ T b) : Box3 b x y z W' := by
  obtain ⟨l, c0, c1, c2, f0, f1, f2⟩ := h
  have hb := ha.block b l hT
  exact ⟨Nat.lt_of_lt_of_le l ha.size, by rw [World.cell?_of_block (w := W) (a := ⟨b, 0, none⟩) hb]; exact c0, by rw [World.cell?_of_block (w := W) (a := ⟨b, 1, none⟩) hb]; exact c1, by rw [World.cell?_of_block (w := W) (a := ⟨b, 2, none⟩) hb]; exact c2,
    by rw [World.frozen?_of_block (w := W) (a := ⟨b, 0, none⟩) hb]; exact f0, by rw [World.frozen?_of_block (w := W) (a := ⟨b, 1, none⟩) hb]; exact f1, by rw [World.frozen?_of_block (w := W) (a := ⟨b, 2, none⟩) hb]; exact f2⟩
theorem Spans.aside {T : Nat → Prop} {W W' : World} {p : Option Addr} {n : Nat} {s : Nat → Sp} (h : Spans W p n s) (ha : Aside T W W') (hT : ∀ g, T g → ∀ b off sp, p = some ⟨b, off, sp⟩ → b ≠ g) : Spans W' p n s := fun i hi => by
  obtain ⟨⟨b, off, e, hlt, h0, h1, h2⟩, hw⟩ := h i hi
  have hb := ha.block b hlt fun t => hT b t b off none e rfl
  exact ⟨⟨b, off, e, Nat.lt_of_lt_of_le hlt ha.size, by rw [World.cell?_of_block (w := W) (a := ⟨b, _, none⟩) hb]; exact h0, by rw [World.cell?_of_block (w := W) (a := ⟨b, _, none⟩) hb]; exact h1, by rw [World.cell?_of_block (w := W) (a := ⟨b, _, none⟩) hb]; exact h2⟩, hw⟩
theorem HpAt.aside {T : Nat → Prop} {W W' : World} {p : Option Addr} {c : Nat} {q : Option Addr} {d : Nat} {h : Hp} (hh : HpAt W p c q d h) (ha : Aside T W W') (hT : ∀ g, T g → Clear g p q) : HpAt W' p c q d h :=
  ⟨hh.ints.aside ha fun g t => (hT g t).1, hh.spans.aside ha fun g t => (hT g t).2, hh.nle, hh.mle, hh.pnil, hh.qnil, hh.ncap, hh.mcap⟩

section
variable {W : World} {base : Nat} {p : Option Addr} {c : Nat} {d : Nat} {h : Hp}
end
/-- A variable of one cell. -/
def Box1 (b : Nat) (x : Value) (W : World) : Prop := b < W.heap.size ∧ W.cell? ⟨b, 0, none⟩ = some x ∧ W.frozen? ⟨b, 0, none⟩ = false
theorem Box1.below {b : Nat} {x : Value} {W W' : World} (h : Box1 b x W) (hb : Below W.heap.size W W') : Box1 b x W' := by
  obtain ⟨l, c0, f0⟩ := h
  have e := hb.block b l
  exact ⟨Nat.lt_of_lt_of_le l hb.size, by rw [World.cell?_of_block (w := W) (a := ⟨b, 0, none⟩) e]; exact c0, by rw [World.frozen?_of_block (w := W) (a := ⟨b, 0, none⟩) e]; exact f0⟩
theorem Box1.aside {T : Nat → Prop} {b : Nat} {x : Value} {W W' : World} (h : Box1 b x W) (ha : Aside T W W') (hT : ¬ T b) : Box1 b x W' := by
  obtain ⟨l, c0, f0⟩ := h
  have e := ha.block b l hT
  exact ⟨Nat.lt_of_lt_of_le l ha.size, by rw [World.cell?_of_block (w := W) (a := ⟨b, 0, none⟩) e]; exact c0, by rw [World.frozen?_of_block (w := W) (a := ⟨b, 0, none⟩) e]; exact f0⟩
theorem Box1.new (W : World) (x : Value) (t : TypeId) : Box1 W.heap.size x (W.alloc (.cells #[x] t)) := by
  have hg := heap_alloc_new W (.cells #[x] t)
  exact ⟨by simp, by rw [cell_of_row _ _ _ _ _ _ hg]; rfl, frozen_of_row _ _ _ _ _ hg⟩
theorem Box1.other {b : Nat} {x : Value} {W : World} (h : Box1 b x W) {g : Nat} (hg : ¬ g = b) (o : Nat) (u : Value) : Box1 b x (W.setCell ⟨g, o, none⟩ u) := by
  obtain ⟨l, c0, f0⟩ := h
  have e := Below.heap_setCell W ⟨g, o, none⟩ u b (fun e => hg (by rw [e]))
  exact ⟨by simpa [World.setCell] using l, by rw [World.cell?_of_block (w := W) (a := ⟨b, 0, none⟩) e]; exact c0, by rw [World.frozen?_of_block (w := W) (a := ⟨b, 0, none⟩) e]; exact f0⟩
theorem Box1.store {b : Nat} {x : Value} {W : World} (h : Box1 b x W) (y : Value) : Box1 b y (W.setCell ⟨b, 0, none⟩ y) := by
  obtain ⟨l, c0, f0⟩ := h
  exact ⟨by simpa [World.setCell] using l, by simp [go_sem, c0], by simp [go_sem, f0]⟩
end Go.Proofs.YtiofeebiejkajaaDoor
/-! slices.Clone at words and at spans by contracts, and 'api.Heap{Words: slices.Clone(h.Words), Spans: slices.Clone(h.Spans), Sense: h.Sense}': one region that draws its order. -/
namespace Go.Proofs.YtiofeebiejkajaaDoor
set_option linter.unusedSimpArgs false
set_option linter.unusedVariables false
open Go.ChangeShapes Go.WideShapes Go.ChangeAt Go.RowKit Go.Joins

theorem clone_words (p : Option Addr) (n c : Nat) (z : Nat → Int) (w : World) (hin : Ints .u64 w p n z) (h0 : 0 < n) (hn : n ≤ 17592186043904) :
    Calls Tryd.prog 99 #[.slice p n c] w fun e w' => ∃ p' c', e = .returned (.slice p' n c') ∧ w'.ownsRow w.heap.size 95 1 (.slice p' n c') n (vals .u64 n z) ∧ Below w.heap.size w w' := by
  obtain ⟨i0, hi, hz0, hz1, hz2⟩ := info_parts infoW
  obtain ⟨ad, rfl, hcell⟩ := hin.cells h0
  have hnil : ∀ W : World, (binOp .eql 22 (.slice (some ad) n c) (.slice none 0 0)).run Tryd.prog W = .ok (.bool false) W := fun W => Lib.run_eql_slice_nil W 22 95 (some ad) n c 0 0 Tryd.underlying22
  have hvl := vals_length .u64 n z
  have hv1 := vals_one .u64 n z
  generalize vals .u64 n z = xs at *
  go_enter Tryd.func99, Tryd.ntmps99
  go_wp2_with (first
    | (at_builtin; refine wpList_append_grows _ rfl (.tmp 5) (.tmp 6) 22 rfl 95 i0 (.int .u64 0) 1 8 Tryd.underlying22 hi hz0 hz1 hz2 rfl (by decide) _ 0 0 [] rfl (fun _ => ⟨rfl, rfl⟩) rfl (fun b _ j u hj => by simp at hj) ad n c xs rfl (by omega) (fun j u hj => Lib.cell?_alloc_some _ (hcell j u hj)) hv1 (by omega) (by simp only [maxLen]; omega) (by omega) ?_; intro v1 w1 hown1 hgrow1)
  )
  go_returns
  rw [Nat.zero_add, List.nil_append] at hown1
  obtain ⟨p1, c1, rfl, -⟩ := owned_new hown1
  exact ⟨_, _, rfl, owned_base hown1 (by rw [World.size_alloc]; omega), ((Below.refl _ _).alloc (Nat.le_refl _) _).grown hgrow1 (by simp) (by intro k hk; cases hk)⟩
theorem clone_spans (p : Option Addr) (n c : Nat) (s : Nat → Sp) (w : World) (hin : Spans w p n s) (h0 : 0 < n) (hn : n ≤ 1048576) :
    Calls Tryd.prog 100 #[.slice p n c] w fun e w' => ∃ p' c', e = .returned (.slice p' n c') ∧ w'.ownsRow w.heap.size 67 3 (.slice p' n c') n (spVals n s) ∧ Below w.heap.size w w' := by
  obtain ⟨i0, hi, hz0, hz1, hz2⟩ := info_parts infoS
  obtain ⟨ad, rfl, hcell⟩ := hin.cells h0
  have hnil : ∀ W : World, (binOp .eql 23 (.slice (some ad) n c) (.slice none 0 0)).run Tryd.prog W = .ok (.bool false) W := fun W => Lib.run_eql_slice_nil W 23 67 (some ad) n c 0 0 Tryd.underlying23
  have hvl := spVals_length n s
  have hv1 := spVals_one n s
  generalize spVals n s = xs at *
  go_enter Tryd.func100, Tryd.ntmps100
  go_wp2_with (first
    | (at_builtin; refine wpList_append_grows _ rfl (.tmp 5) (.tmp 6) 23 rfl 67 i0 (.agg #[.int .i64 0, .int .i64 0, .int .u32 0]) 3 24 Tryd.underlying23 hi hz0 hz1 hz2 rfl (by decide) _ 0 0 [] rfl (fun _ => ⟨rfl, rfl⟩) rfl (fun b _ j u hj => by simp at hj) ad n c xs rfl (by omega) (fun j u hj => Lib.cell?_alloc_some _ (hcell j u hj)) hv1 (by omega) (by simp only [maxLen]; omega) (by omega) ?_; intro v1 w1 hown1 hgrow1)
  )
  go_returns
  rw [Nat.zero_add, List.nil_append] at hown1
  obtain ⟨p1, c1, rfl, -⟩ := owned_new hown1
  exact ⟨_, _, rfl, owned_base hown1 (by rw [World.size_alloc]; omega), ((Below.refl _ _).alloc (Nat.le_refl _) _).grown hgrow1 (by simp) (by intro k hk; cases hk)⟩

/-- The region's operations: from slot s on, the heap's pointer in slot h, the new one's in slot d. -/
def cpOps (s h d : Nat) (pos : String) : List Oper :=
  [{ dst := some s, op := .fieldAddr 25 (.tmp h) 0, type := 0, pos := pos, after := #[], guard := none },
   { dst := some (s + 1), op := .load 22 (.tmp s), type := 22, pos := pos, after := #[{ on := 0, ground := .data }], guard := none },
   { dst := some (s + 2), op := .call { callee := .value (.func 99), args := #[.tmp (s + 1)], argTypes := #[22] }, type := 22, pos := pos, after := #[{ on := 1, ground := .data }], guard := none },
   { dst := some (s + 3), op := .fieldAddr 25 (.tmp h) 1, type := 0, pos := pos, after := #[], guard := none },
   { dst := some (s + 4), op := .load 23 (.tmp (s + 3)), type := 23, pos := pos, after := #[{ on := 3, ground := .data }], guard := none },
   { dst := some (s + 5), op := .call { callee := .value (.func 100), args := #[.tmp (s + 4)], argTypes := #[23] }, type := 23, pos := pos, after := #[{ on := 4, ground := .data }, { on := 2, ground := .chain }], guard := none },
   { dst := some (s + 6), op := .fieldAddr 25 (.tmp h) 2, type := 0, pos := pos, after := #[], guard := none },
   { dst := some (s + 7), op := .load 4 (.tmp (s + 6)), type := 4, pos := pos, after := #[{ on := 6, ground := .data }], guard := none },
   { dst := some (s + 8), op := .build 25 #[(0, .tmp (s + 2)), (1, .tmp (s + 5)), (2, .tmp (s + 7))], type := 25, pos := pos, after := #[{ on := 2, ground := .data }, { on := 5, ground := .data }, { on := 7, ground := .data }], guard := none },
   { dst := some d, op := .alloc 25, type := 0, pos := pos, after := #[], guard := none },
   { dst := none, op := .store 25 (.tmp d) (.tmp (s + 8)), type := 0, pos := pos, after := #[{ on := 9, ground := .data }, { on := 8, ground := .data }, { on := 5, ground := .chain }, { on := 0, ground := .phase }, { on := 1, ground := .phase }, { on := 2, ground := .phase }, { on := 3, ground := .phase }, { on := 4, ground := .phase }, { on := 5, ground := .phase }, { on := 6, ground := .phase }, { on := 7, ground := .phase }, { on := 8, ground := .phase }, { on := 9, ground := .phase }], guard := none }]
def cpSlots (s d : Nat) : List Nat := [s, s + 1, s + 2, s + 3, s + 4, s + 5, s + 6, s + 7, s + 8, d]
/-- What each leaves. -/
def cpPhi (B : Nat) (N : Nat) (p : Option Addr) (c : Nat) (q : Option Addr) (d : Nat) (h : Hp) : Nat → Value → World → Prop
  | 0, v, _ => v = .pointer (some ⟨B, 0, none⟩)
  | 1, v, _ => v = .slice p h.n c
  | 2, v, w => w.ownsRow N 95 1 v h.n (vals .u64 h.n h.z)
  | 3, v, _ => v = .pointer (some ⟨B, 1, none⟩)
  | 4, v, _ => v = .slice q h.m d
  | 5, v, w => w.ownsRow N 67 3 v h.m (spVals h.m h.s)
  | 6, v, _ => v = .pointer (some ⟨B, 2, none⟩)
  | 7, v, _ => v = .bool h.b
  | 8, v, w => ∃ v1 v2, v = .agg #[v1, v2, .bool h.b] ∧ w.ownsRow N 95 1 v1 h.n (vals .u64 h.n h.z) ∧ w.ownsRow N 67 3 v2 h.m (spVals h.m h.s)
  | 9, v, w => ∃ g, v = .pointer (some ⟨g, 0, none⟩) ∧ N ≤ g ∧ w.heap[g]? = some (.cells #[.slice none 0 0, .slice none 0 0, .bool false] 25 (0, 0))
  | _, _, _ => True
theorem cpPhi_below {B N : Nat} {p : Option Addr} {c : Nat} {q : Option Addr} {d : Nat} {h : Hp} (i : Nat) (v : Value) (w w' : World) (hp : cpPhi B N p c q d h i v w) (hb : Below w.heap.size w w') : cpPhi B N p c q d h i v w' := by
  match i, hp with
  | 0, hp => exact hp
  | 1, hp => exact hp
  | 2, hp => exact owned_below hp hb
  | 3, hp => exact hp
  | 4, hp => exact hp
  | 5, hp => exact owned_below hp hb
  | 6, hp => exact hp
  | 7, hp => exact hp
  | 8, ⟨v1, v2, e, h1, h2⟩ => exact ⟨v1, v2, e, owned_below h1 hb, owned_below h2 hb⟩
  | 9, ⟨g, e, hg, h1⟩ =>
    refine ⟨g, e, hg, ?_⟩
    rw [hb.block g ?_]
    · exact h1
    · rcases Nat.lt_or_ge g w.heap.size with h' | h'
      · exact h'
      · rw [Array.getElem?_eq_none h'] at h1; cases h1
  | _ + 10, _ => trivial
set_option maxRecDepth 20000 in
theorem cp_step (s h' d' : Nat) (pos : String) {B : Nat} {p : Option Addr} {c : Nat} {q : Option Addr} {d : Nat} {h : Hp} {W : World} {a : Act} {Q : Exit → Act → World → Prop} (hF : formB h = true) (hh : HpAt W p c q d h) (hbx : Box3 B (.slice p h.n c) (.slice q h.m d) (.bool h.b) W) (ha : a.tmps.getD h' undef = .pointer (some ⟨B, 0, none⟩)) (hh' : h' ∉ cpSlots s d') :
    ∀ i o, i < 10 → (cpOps s h' d' pos).toArray[i]? = some o → ∀ (a' : Act) (w' : World), Below W.heap.size W w' → (∀ t, t ∉ cpSlots s d' → a'.tmps.getD t undef = a.tmps.getD t undef) →
      (∀ j x, j < 10 → (cpSlots s d')[j]? = some x → (o.after.any fun e => Region.binds .any e && e.on == j) = true → cpPhi B W.heap.size p c q d h j (a'.tmps.getD x undef) w') →
      ∀ K : Act → World → Prop, (∀ v w'', Below w'.heap.size w' w'' → cpPhi B W.heap.size p c q d h i v w'' → K (a'.put o.dst v) w'') → o.wp Tryd.prog a' w' K Q := by
  intro i o hi ho a' w' hb hsame hdep K hK
  have hptr : a'.tmps.getD h' undef = .pointer (some ⟨B, 0, none⟩) := (hsame h' hh').trans ha
  have hat := hh.below hb
  have hbx' := hbx.below hb
  obtain ⟨lB, k0, k1, k2, -, -, -⟩ := hbx'
  obtain ⟨m1, m16, hnH, -⟩ := form_iff.1 hF
  replace hnH : Hid (h.n = 32 * h.m) := hnH
  have dep : ∀ (j x : Nat), j < 10 → (cpSlots s d')[j]? = some x → (o.after.any fun e => Region.binds .any e && e.on == j) = true → cpPhi B W.heap.size p c q d h j (a'.tmps[x]?.getD undef) w' := fun j x h1 h2 h3 => by
    have := hdep j x h1 h2 h3
    rwa [Array.getD_eq_getD_getElem?] at this
  clear hdep hsame ha hh hbx
  match i, hi with
  | 0, _ =>
    simp only [cpOps, List.getElem?_toArray, List.getElem?_cons_zero, List.getElem?_cons_succ, Option.some.injEq] at ho
    subst ho
    unfold Oper.wp
    go_simp
    exact hK _ _ (Below.refl _ _) rfl
  | 1, _ =>
    simp only [cpOps, List.getElem?_toArray, List.getElem?_cons_zero, List.getElem?_cons_succ, Option.some.injEq] at ho
    subst ho
    have e1 : a'.tmps[s]?.getD undef = .pointer (some ⟨B, 0, none⟩) := dep 0 (s) (by decide) rfl (by simp [Region.binds])
    unfold Oper.wp
    go_simp
    exact hK _ _ (Below.refl _ _) rfl
  | 2, _ =>
    simp only [cpOps, List.getElem?_toArray, List.getElem?_cons_zero, List.getElem?_cons_succ, Option.some.injEq] at ho
    subst ho
    have e1 : a'.tmps[s + 1]?.getD undef = .slice p h.n c := dep 1 (s + 1) (by decide) rfl (by simp [Region.binds])
    unfold Oper.wp
    go_simp
    have hn := hnH.out
    refine Calls.mono (clone_words p h.n c h.z w' hat.ints (by omega) (by omega)) ?_
    rintro e w'' ⟨p', c', rfl, hown, hb'⟩
    exact hK _ _ hb' (owned_base hown hb.size)
  | 3, _ =>
    simp only [cpOps, List.getElem?_toArray, List.getElem?_cons_zero, List.getElem?_cons_succ, Option.some.injEq] at ho
    subst ho
    unfold Oper.wp
    go_simp
    exact hK _ _ (Below.refl _ _) rfl
  | 4, _ =>
    simp only [cpOps, List.getElem?_toArray, List.getElem?_cons_zero, List.getElem?_cons_succ, Option.some.injEq] at ho
    subst ho
    have e1 : a'.tmps[s + 3]?.getD undef = .pointer (some ⟨B, 1, none⟩) := dep 3 (s + 3) (by decide) rfl (by simp [Region.binds])
    unfold Oper.wp
    go_simp
    exact hK _ _ (Below.refl _ _) rfl
  | 5, _ =>
    simp only [cpOps, List.getElem?_toArray, List.getElem?_cons_zero, List.getElem?_cons_succ, Option.some.injEq] at ho
    subst ho
    have e1 : a'.tmps[s + 4]?.getD undef = .slice q h.m d := dep 4 (s + 4) (by decide) rfl (by simp [Region.binds])
    unfold Oper.wp
    go_simp
    have hn := hnH.out
    refine Calls.mono (clone_spans q h.m d h.s w' hat.spans (by omega) (by omega)) ?_
    rintro e w'' ⟨p', c', rfl, hown, hb'⟩
    exact hK _ _ hb' (owned_base hown hb.size)
  | 6, _ =>
    simp only [cpOps, List.getElem?_toArray, List.getElem?_cons_zero, List.getElem?_cons_succ, Option.some.injEq] at ho
    subst ho
    unfold Oper.wp
    go_simp
    exact hK _ _ (Below.refl _ _) rfl
  | 7, _ =>
    simp only [cpOps, List.getElem?_toArray, List.getElem?_cons_zero, List.getElem?_cons_succ, Option.some.injEq] at ho
    subst ho
    have e1 : a'.tmps[s + 6]?.getD undef = .pointer (some ⟨B, 2, none⟩) := dep 6 (s + 6) (by decide) rfl (by simp [Region.binds])
    unfold Oper.wp
    go_simp
    exact hK _ _ (Below.refl _ _) rfl
  | 8, _ =>
    simp only [cpOps, List.getElem?_toArray, List.getElem?_cons_zero, List.getElem?_cons_succ, Option.some.injEq] at ho
    subst ho
    have o1 : w'.ownsRow W.heap.size 95 1 (a'.tmps[s + 2]?.getD undef) h.n (vals .u64 h.n h.z) := dep 2 (s + 2) (by decide) rfl (by simp [Region.binds])
    have o2 : w'.ownsRow W.heap.size 67 3 (a'.tmps[s + 5]?.getD undef) h.m (spVals h.m h.s) := dep 5 (s + 5) (by decide) rfl (by simp [Region.binds])
    have e9 : a'.tmps[s + 7]?.getD undef = .bool h.b := dep 7 (s + 7) (by decide) rfl (by simp [Region.binds])
    obtain ⟨p1, c1, e1, -⟩ := owned_new o1
    obtain ⟨q1, d1, e2, -⟩ := owned_new o2
    rw [e1] at o1
    rw [e2] at o2
    unfold Oper.wp
    go_simp
    exact hK _ _ (Below.refl _ _) ⟨_, _, rfl, o1, o2⟩
  | 9, _ =>
    simp only [cpOps, List.getElem?_toArray, List.getElem?_cons_zero, List.getElem?_cons_succ, Option.some.injEq] at ho
    subst ho
    unfold Oper.wp
    go_simp
    exact hK _ _ ((Below.refl _ _).alloc (Nat.le_refl _) _) ⟨w'.heap.size, rfl, hb.size, heap_alloc_new _ _⟩
set_option maxHeartbeats 1000000 in
theorem wp_clone_copy {id s h' d' : Nat} {pos : String} {B : Nat} {p : Option Addr} {c : Nat} {q : Option Addr} {d : Nat} {h : Hp} {W : World} {a : Act} {Q : Exit → Act → World → Prop} (hm : Tryd.prog.follows .mixedOrders = true)
    (h1 : h' < s) (h2 : d' < s) (h3 : h' ≠ d') (h4 : s + 8 < a.tmps.size) (hF : formB h = true) (hh : HpAt W p c q d h) (hbx : Box3 B (.slice p h.n c) (.slice q h.m d) (.bool h.b) W) (ha : a.tmps.getD h' undef = .pointer (some ⟨B, 0, none⟩))
    (hK : ∀ x0 x1 x2 x3 x4 x5 x6 x7 x8 g p' c' q' d'' w', HpOwn w' W.heap.size p' c' q' d'' h → Box3 g (.slice p' h.n c') (.slice q' h.m d'') (.bool h.b) w' → W.heap.size ≤ g → (Value.slice p' h.n c').ownBlock ≠ some g → (Value.slice q' h.m d'').ownBlock ≠ some g → Below W.heap.size W w' →
      Q .normal (puts [s, s + 1, s + 2, s + 3, s + 4, s + 5, s + 6, s + 7, s + 8, d'] [x0, x1, x2, x3, x4, x5, x6, x7, x8, .pointer (some ⟨g, 0, none⟩)] a) w') :
    (Code.region id (cpOps s h' d' pos).toArray true).wp Tryd.prog Q a W := by
  have hmem : h' ∉ cpSlots s d' := by simp [cpSlots]; omega
  refine wp_region_soft 10 (cpSlots s d') (cpPhi B W.heap.size p c q d h) hm (by kernel_rfl) (by kernel_rfl) (by simp [cpOps]) (by kernel_rfl) (by kernel_rfl) rfl rfl (by simp [cpSlots]; omega) (by simp [cpSlots]; omega) cpPhi_below (cp_step s h' d' pos hF hh hbx ha hmem) ?_
  intro a' w' hb hdf hsz hsame hf
  have f (i x : Nat) (hi : i < 10) (hx : (cpSlots s d')[i]? = some x) : cpPhi B W.heap.size p c q d h i (a'.tmps.getD x undef) w' := hf i x hi hx
  obtain ⟨g, e7, hg, hgh⟩ := f 9 d' (by decide) rfl
  obtain ⟨v1, v2, e10, o1, o2⟩ := f 8 (s + 8) (by decide) rfl
  obtain ⟨p1, c1, rfl, -⟩ := owned_new o1
  obtain ⟨q1, d1, rfl, -⟩ := owned_new o2
  have hbox := box_of_heap hgh
  have n1 : (Value.slice p1 h.n c1).ownBlock ≠ some g := fun e => by
    obtain ⟨cur, hc⟩ := owned_block o1 e
    rw [hgh] at hc; injection hc with hc; injection hc with _ hc; revert hc; decide
  have n2 : (Value.slice q1 h.m d1).ownBlock ≠ some g := fun e => by
    obtain ⟨cur, hc⟩ := owned_block o2 e
    rw [hgh] at hc; injection hc with hc; injection hc with _ hc; revert hc; decide
  have hne : ∀ b b', (Value.slice p1 h.n c1).ownBlock = some b → (Value.slice q1 h.m d1).ownBlock = some b' → b ≠ b' := fun b b' e e' eb => by
    subst eb
    obtain ⟨cur, hc⟩ := owned_block o1 e
    obtain ⟨cur', hc'⟩ := owned_block o2 e'
    rw [hc] at hc'; injection hc' with hc'; injection hc' with _ hc'; revert hc'; decide
  have hown : HpOwn w' W.heap.size p1 c1 q1 d1 h := ⟨o1, o2, hne, hh.wf, hh.nle, hh.mle⟩
  have e7' : a'.tmps[d']?.getD undef = .pointer (some ⟨g, 0, none⟩) := by rw [← Array.getD_eq_getD_getElem?]; exact e7
  have e10' : a'.tmps[s + 8]?.getD undef = .agg #[.slice p1 h.n c1, .slice q1 h.m d1, .bool h.b] := by rw [← Array.getD_eq_getD_getElem?]; exact e10
  have hputs := puts_of (cpSlots s d') a hdf hsz (by simp [cpSlots]; omega) hsame
  simp only [cpSlots, List.map_cons, List.map_nil, e7] at hputs
  have hQ := hK (a'.tmps.getD s undef) (a'.tmps.getD (s + 1) undef) (a'.tmps.getD (s + 2) undef) (a'.tmps.getD (s + 3) undef) (a'.tmps.getD (s + 4) undef) (a'.tmps.getD (s + 5) undef) (a'.tmps.getD (s + 6) undef) (a'.tmps.getD (s + 7) undef) (a'.tmps.getD (s + 8) undef) g p1 c1 q1 d1 _ ((hown.other n1 n2 0 (.slice p1 h.n c1)).other n1 n2 1 (.slice q1 h.m d1) |>.other n1 n2 2 (.bool h.b)) (hbox.stores _ _ _) hg n1 n2 (below_stores hb hg _ _ _)
  rw [← hputs] at hQ
  obtain ⟨lg, k0, k1, k2, f0, f1, f2⟩ := hbox
  clear hf f e7 e10 hK hputs hsame h4 hsz
  simp only [cpOps, List.drop_succ_cons, List.drop_zero]
  refine wpList_plain rfl fun K hK' => ?_
  have hK2 := hK' a' _ (show wpList _ _ Q [] a' _ from hQ)
  clear hK' hQ
  unfold Oper.wp
  go_simp
  exact hK2
end Go.Proofs.YtiofeebiejkajaaDoor
