/- Small lemmas on endings and worlds, for all contracts of this seat. -/
import Derived.Handy
import Derived.Lib.Hide
import Derived.Deep.QuietTactic
import Derived.BigQuiet
import Derived.Deep.LoopGhost
import Derived.ShutString
import Derived.Carry
import Derived.Lib.SmallJoins
import Derived.Test.YtonjnedlnfdanaaDoorRows
import Derived.LaidMore
import Derived.Lay
import Derived.Lib.LaidTab
import Derived.LaidSub
import Derived.Stop.Joined
import Derived.ChangeSlices
import Derived.OwnWalk
import Derived.Laws.CopyOwn
import Derived.Laws.AppendOwnNone
namespace Go.Proofs.YtonjnedlnfdanaaDoor
set_option linter.unusedSimpArgs false
set_option linter.unusedVariables false
open Go.ChangeShapes Go.WideShapes Go.ChangeAt Go.RowKit

theorem ret_bool {a b : Bool} (h : a = b) : Ending.returned (.bool a) = .returned (.bool b) := by rw [h]
theorem ret_int {k : IntKind} {a b : Int} (h : a = b) : Ending.returned (.int k a) = .returned (.int k b) := by rw [h]
theorem ret_int_bool {k : IntKind} {a b : Int} {c d : Bool} (h : a = b) (h' : c = d) : Ending.returned (.tuple #[.int k a, .bool c]) = .returned (.tuple #[.int k b, .bool d]) := by rw [h, h']
theorem ret_val {k n k' n' : Int} (h : k = k') (h' : n = n') : Ending.returned (.agg #[.int .i64 k, .int .i64 n]) = .returned (.agg #[.int .i64 k', .int .i64 n']) := by rw [h, h']

theorem under {b n : Nat} (h : (⟨b + 1 - n, 0, none⟩ : Addr) = ⟨0, 0, none⟩) : b < n := by
  have := congrArg Addr.block h
  simp at this
  omega
/-- A cell that was there behind a new block: where the walk's arithmetic must find out that it was. -/
@[go_sem] theorem cell_alloc_far (w : World) (o : Obj) (b off : Nat) (h : (⟨b + 1 - w.heap.size, 0, none⟩ : Addr) = ⟨0, 0, none⟩) : (w.alloc o).cell? ⟨b, off, none⟩ = w.cell? ⟨b, off, none⟩ :=
  World.cell?_of_block (w := w) (Below.heap_alloc w o b (under h))
@[go_sem] theorem frozen_alloc_far (w : World) (o : Obj) (b off : Nat) (h : (⟨b + 1 - w.heap.size, 0, none⟩ : Addr) = ⟨0, 0, none⟩) : (w.alloc o).frozen? ⟨b, off, none⟩ = w.frozen? ⟨b, off, none⟩ :=
  ((Below.refl w.heap.size w).alloc (Nat.le_refl _) o).frozen (p := ⟨b, off, none⟩) (under h)
/-- What stays behind a call that only made new memory. (A block's number below n is said as an equation of addresses: the walk's own arithmetic decides those.) -/
theorem bstep {w W w1 : World} (hb : Below W.heap.size W w1) (h : Below w.heap.size w W) :
    (∀ b o, (⟨b + 1 - W.heap.size, 0, none⟩ : Addr) = ⟨0, 0, none⟩ → w1.cell? ⟨b, o, none⟩ = W.cell? ⟨b, o, none⟩) ∧ (∀ b o, (⟨b + 1 - W.heap.size, 0, none⟩ : Addr) = ⟨0, 0, none⟩ → w1.frozen? ⟨b, o, none⟩ = W.frozen? ⟨b, o, none⟩) ∧ Below w.heap.size w w1 ∧ W.heap.size ≤ w1.heap.size :=
  ⟨fun b o h => hb.cell (p := ⟨b, o, none⟩) (under h), fun b o h => hb.frozen (p := ⟨b, o, none⟩) (under h), h.trans (hb.mono h.size), hb.size⟩

theorem bjoin {w W w1 : World} (hb : Below W.heap.size W w1) (h : Below w.heap.size w W) : Below w.heap.size w w1 := h.trans (hb.mono h.size)

/-! ### A region that draws its order, whose operations read and call what makes new memory alone: one walk, in the order of the text. -/
open Classical in
/-- x, where x is W with new memory; else W. -/
noncomputable def plus (W x : World) : World := if Below W.heap.size W x then x else W
theorem plus_below (W x : World) : Below W.heap.size W (plus W x) := by
  unfold plus
  split
  · assumption
  · exact Below.refl _ _
theorem plus_cell (W x : World) (b o : Nat) (h : (⟨b + 1 - W.heap.size, 0, none⟩ : Addr) = ⟨0, 0, none⟩) : (plus W x).cell? ⟨b, o, none⟩ = W.cell? ⟨b, o, none⟩ := (plus_below W x).cell (p := ⟨b, o, none⟩) (under h)
theorem plus_frozen (W x : World) (b o : Nat) (h : (⟨b + 1 - W.heap.size, 0, none⟩ : Addr) = ⟨0, 0, none⟩) : (plus W x).frozen? ⟨b, o, none⟩ = W.frozen? ⟨b, o, none⟩ := (plus_below W x).frozen (p := ⟨b, o, none⟩) (under h)
theorem plus_of {W w' : World} (h : Below W.heap.size W w') : ∃ x, w' = plus W x := ⟨w', by unfold plus; rw [if_pos h]⟩
theorem quiet_plus {P : Program} {f : FuncId} {args : Array Value} {W x : World} {v : Value}
    (h : Calls P f args (plus W x) fun e w' => e = .returned v ∧ Below (plus W x).heap.size (plus W x) w') : Calls P f args (plus W x) fun e w'' => e = .returned v ∧ ∃ m, w'' = plus W m :=
  h.mono fun _ _ ⟨he, hb⟩ => ⟨he, plus_of (bjoin hb (plus_below W x))⟩
theorem wp_region_plus {P : Program} {id : Nat} {Q : Exit → Act → World → Prop} {a : Act} {W : World} {l : List Oper} (hm : P.follows .mixedOrders = true) (hB : Region.lexB .any l.toArray = true)
    (h : (∀ (x : World) (b o : Nat), (⟨b + 1 - W.heap.size, 0, none⟩ : Addr) = ⟨0, 0, none⟩ → (plus W x).cell? ⟨b, o, none⟩ = W.cell? ⟨b, o, none⟩) →
      wpQuiet P l.toArray (fun w' => ∃ x, w' = plus W x) (fun a' => ∀ w', Below W.heap.size W w' → Q .normal a' w') l a) : (Code.region id l.toArray true).wp P Q a W :=
  wp_region_quiet (C := fun w' => ∃ x, w' = plus W x) hm hB (plus_of ⟨rfl, rfl, rfl, Nat.le_refl _, fun _ _ => rfl⟩) (by
    have e : (fun a' => ∀ w', Below W.heap.size W w' → Q .normal a' w') = (fun a' => ∀ w', (∃ x, w' = plus W x) → Q .normal a' w') := by
      funext a'
      refine propext ⟨fun h w' ⟨x, e⟩ => h w' (e ▸ plus_below W x), fun h w' hb => h _ (plus_of hb)⟩
    rw [← e]
    simpa using h (plus_cell W))
end Go.Proofs.YtonjnedlnfdanaaDoor
/-! The frame of a law's row: a law that returns true and makes new memory alone. -/
namespace Go.Proofs.YtonjnedlnfdanaaDoor
set_option linter.unusedSimpArgs false
set_option linter.unusedVariables false
open Go.ChangeShapes Go.WideShapes Go.ChangeAt Go.RowKit Go.Joins

section
variable {H : Type} {enc : TypeId × Value → H} {P : Program}

theorem args_stay (hl : laidOutB P = true) {W W' : World} (hb : Below W.heap.size W W') : ∀ (ts : List TypeId) (vs : List Value) (ds : List (DataW H)) (ps : List MemPlace),
    (∀ t ∈ ts, P.readableRec t = true ∧ t < P.types.size) → DataW.TrodAll enc P W 0 (fun _ => true) true ts vs ds ps → (∀ x ∈ ps, x.block < W.heap.size) →
    DataW.TrodAll enc P W' 0 (fun b => decide (b < W.heap.size)) true ts vs ds ps
  | [], [], [], _, _, h, _ => h
  | [], [], _ :: _, _, _, h, _ => by simp [DataW.TrodAll] at h
  | [], _ :: _, _, _, _, h, _ => by simp [DataW.TrodAll] at h
  | _ :: _, [], _, _, _, h, _ => by simp [DataW.TrodAll] at h
  | _ :: _, _ :: _, [], _, _, h, _ => by simp [DataW.TrodAll] at h
  | t :: ts, v :: vs, d :: ds, ps, ht, h, hlt => by
    obtain ⟨p, q, h1, h2, rfl⟩ := h
    refine ⟨p, q, ?_, ?_, rfl⟩
    · exact Below.trod hl (ht t (by simp)).1 (ht t (by simp)).2 h1 hb fun x hx => hlt x (by simp [hx])
    · exact args_stay hl hb ts vs ds q (fun u hu => ht u (by simp [hu])) h2 fun x hx => hlt x (by simp [hx])

theorem law_post {f : Func} {s : ChangeSpec} {tb : TypeId} {W W' : World} {args : Array Value} {ds gs : List (DataW H)} {before : List MemPlace}
    (hl : laidOutB P = true) (ht : ∀ t ∈ f.params.toList, P.readableRec t = true ∧ t < P.types.size) (hv : s.vars = [])
    (hs : s.fn H ds = { results := [.lit (.bool true)], args := ds }) (hr : f.resultTypes = #[tb]) (hb : P.underlying tb = some .bool)
    (hW : DataW.Whole enc P f.params.toList s.vars false W args.toList ds gs before) (hB : Below W.heap.size W W') :
    s.post enc P f false true false false W args (.bool true) W' := by
  have hlt : ∀ x ∈ before, x.block < W.heap.size := hW.lt
  have hW0 := hW
  obtain ⟨p, q, hA, hV, rfl, -, -⟩ := hW
  rw [hv] at hV
  obtain ⟨rfl, rfl⟩ := trodVars_none hV
  refine ⟨ds, [], p ++ [], [], p, [], hW0, ?_, ?_, ?_, ?_, fun h => by simp at h⟩
  · simp only [List.append_nil, hs, hr]
    exact trodAll_mk1 (shut_bool hb true)
  · simp only [List.append_nil, hs]
    exact args_stay hl hB _ _ _ _ ht hA fun x hx => hlt x (by simp [hx])
  · simp only [List.append_nil, hv, hs]
    rfl
  · refine World.keptBut_mono (fun x (hx : x ∈ p ++ []) => ?_) (hB.frame _)
    exact ⟨hx, Or.inr (Or.inl (by simpa using hx))⟩
end

/-- A law's row, out of its walk: what is asked is that the call returns true and leaves old memory alone. -/
theorem law_lifted {C : Checked} {os : Os} {f : FuncId} {fn : Func} {s : ChangeSpec} {conds : List PathCond} {tb : TypeId} {H : Type} {enc : TypeId × Value → H}
    (own : ownKnob C.prog.godebug = none) (started : os.Started) (noInit : C.prog.inits.idxOf? f = none) (hfn : C.prog.funcs[f]? = some fn)
    (hl : laidOutB C.prog = true) (ht : ∀ t ∈ fn.params.toList, C.prog.readableRec t = true ∧ t < C.prog.types.size) (hv : s.vars = [])
    (hs : ∀ ds : List (DataW H), ds.length = fn.params.size → s.fn H ds = { results := [.lit (.bool true)], args := ds }) (hr : fn.resultTypes = #[tb]) (hb : C.prog.underlying tb = some .bool)
    (witness : ∃ (w : World) (tape : Tape) (i : Input), w.os = os ∧ (w.forCall tape i).Shaped C.prog ∧ i.vars = [] ∧ Input.okWide C.prog (w.forCall tape i) .any w.heap.size f i ∧
      s.pre6 enc C.prog fn conds false (w.forCall tape i).memory i.args ∧ ({} : Assume).holds C.prog (lone (Frame.enter C.prog f i.args .normal) [] (w.forCall tape i)))
    (walk : ∀ (W : World) (base : Nat) (args : Array Value) (ds : List (DataW H)) (p : List MemPlace),
      (∀ (j : Nat) t v, fn.params[j]? = some t → args[j]? = some v → Value.okWide C.prog W .any base t v) →
      DataW.TrodAll enc C.prog W 0 (fun _ => true) true fn.params.toList args.toList ds p → (∀ x ∈ p, x.block < W.heap.size) →
      Calls C.prog f args W fun e W' => e = .returned (.bool true) ∧ Below W.heap.size W W') :
    ReturnsInHanded {} C os f .any (s.pre6 enc C.prog fn conds false) (s.post enc C.prog fn false true false false) := by
  refine returnsInHanded_of_change (C := C) own started noInit hfn witness ?_
  intro W base args ds gs before hval hW _ _
  have hlt : ∀ x ∈ before, x.block < W.heap.size := hW.lt
  have hW0 := hW
  obtain ⟨p, q, hA, hV, rfl, -, -⟩ := hW
  have hlen : ds.length = fn.params.size := by
    have key : ∀ (ts : List TypeId) (vs : List Value) (ds : List (DataW H)) (ps : List MemPlace), DataW.TrodAll enc C.prog W 0 (fun _ => true) true ts vs ds ps → ds.length = ts.length := by
      intro ts
      induction ts with
      | nil => intro vs ds ps h; obtain ⟨-, rfl, -⟩ := trodAll_nil h; rfl
      | cons t ts ih =>
        intro vs ds ps h
        obtain ⟨v, vs', d, ds', p, q, -, rfl, -, -, h2⟩ := trodAll_cons h
        simp [ih _ _ _ h2]
    simpa using key _ _ _ _ hA
  refine (walk W base args ds p hval hA fun x hx => hlt x (by simp [hx])).mono fun e W' h => ⟨_, h.1, law_post hl ht hv (hs ds hlen) hr hb hW0 h.2⟩

theorem wf_i64 {a : Int} (h : (Lit.int .i64 a).wf = true) : -9223372036854775808 ≤ a ∧ a ≤ 9223372036854775807 := by
  simp [Lit.wf, IntKind.min, IntKind.max, IntKind.signed, IntKind.bits] at h; omega
theorem wf_u32 {a : Int} (h : (Lit.int .u32 a).wf = true) : 0 ≤ a ∧ a < 4294967296 := by
  simp [Lit.wf, IntKind.min, IntKind.max, IntKind.signed, IntKind.bits] at h; omega
theorem wf_u64 {a : Int} (h : (Lit.int .u64 a).wf = true) : 0 ≤ a ∧ a < 18446744073709551616 := by
  simp [Lit.wf, IntKind.min, IntKind.max, IntKind.signed, IntKind.bits] at h; omega

section
variable {H : Type} {enc : TypeId × Value → H} {P : Program} {W : World} {base : Nat}
/-- Two ints by value (api.Value, say), opened. -/
theorem open_int2 {t : TypeId} {f0 f1 : Field} {v : Value} {d : DataW H} {p : List MemPlace}
    (hs : P.underlying t = some (.struct #[f0, f1])) (hone : Go.Deep.oneCellFields P #[f0, f1] = true) (hC : P.cellsOf t = 2) (hu : P.underlying f0.type = some (.int .i64)) (hu' : P.underlying f1.type = some (.int .i64))
    (hok : Value.okWide P W .any base t v) (h : DataW.Trod enc P W 0 (fun _ => true) true t v d p) :
    ∃ a b : Int, v = .agg #[.int .i64 a, .int .i64 b] ∧ (-9223372036854775808 ≤ a ∧ a ≤ 9223372036854775807) ∧ (-9223372036854775808 ≤ b ∧ b ≤ 9223372036854775807) := by
  obtain ⟨c0, c1, y0, y1, m, rfl, -, -, hy0, hy1⟩ := open_agg2 hs hone hC hok h
  obtain ⟨a, e0, -, wa⟩ := DataW.trod_int hu hy0
  obtain ⟨b, e1, -, wb⟩ := DataW.trod_int hu' hy1
  simp at e0 e1
  subst e0 e1
  exact ⟨a, b, rfl, wf_i64 wa, wf_i64 wb⟩
/-- A header by value (api.Header), opened. -/
theorem open_hdr {t : TypeId} {f0 f1 f2 f3 : Field} {v : Value} {d : DataW H} {p : List MemPlace}
    (hs : P.underlying t = some (.struct #[f0, f1, f2, f3])) (hone : Go.Deep.oneCellFields P #[f0, f1, f2, f3] = true) (hC : P.cellsOf t = 4)
    (hu0 : P.underlying f0.type = some .bool) (hu1 : P.underlying f1.type = some .bool) (hu2 : P.underlying f2.type = some (.int .i64)) (hu3 : P.underlying f3.type = some (.int .i64))
    (hok : Value.okWide P W .any base t v) (h : DataW.Trod enc P W 0 (fun _ => true) true t v d p) :
    ∃ (u c : Bool) (a b : Int), v = .agg #[.bool u, .bool c, .int .i64 a, .int .i64 b] ∧ (-9223372036854775808 ≤ a ∧ a ≤ 9223372036854775807) ∧ (-9223372036854775808 ≤ b ∧ b ≤ 9223372036854775807) := by
  obtain ⟨v0, v1, v2, v3, y0, y1, y2, y3, m, rfl, -, -, hy0, hy1, hy2, hy3⟩ := open_agg4 hs hone hC hok h
  obtain ⟨u, e0, -⟩ := DataW.trod_bool hu0 hy0
  obtain ⟨c, e1, -⟩ := DataW.trod_bool hu1 hy1
  obtain ⟨a, e2, -, wa⟩ := DataW.trod_int hu2 hy2
  obtain ⟨b, e3, -, wb⟩ := DataW.trod_int hu3 hy3
  simp at e0 e1 e2 e3
  subst e0 e1 e2 e3
  exact ⟨u, c, a, b, rfl, wf_i64 wa, wf_i64 wb⟩
theorem open_u32 {t : TypeId} {v : Value} {d : DataW H} {p : List MemPlace} (hu : P.underlying t = some (.int .u32))
    (hok : Value.okWide P W .any base t v) (h : DataW.Trod enc P W 0 (fun _ => true) true t v d p) : ∃ a : Int, v = .int .u32 a ∧ 0 ≤ a ∧ a < 4294967296 := by
  obtain ⟨a, rfl, -, -, wa⟩ := open_int hu hok h
  exact ⟨a, rfl, wf_u32 wa⟩
theorem open_u64 {t : TypeId} {v : Value} {d : DataW H} {p : List MemPlace} (hu : P.underlying t = some (.int .u64))
    (hok : Value.okWide P W .any base t v) (h : DataW.Trod enc P W 0 (fun _ => true) true t v d p) : ∃ a : Int, v = .int .u64 a ∧ 0 ≤ a ∧ a < 18446744073709551616 := by
  obtain ⟨a, rfl, -, -, wa⟩ := open_int hu hok h
  exact ⟨a, rfl, wf_u64 wa⟩
theorem open_i64 {t : TypeId} {v : Value} {d : DataW H} {p : List MemPlace} (hu : P.underlying t = some (.int .i64))
    (hok : Value.okWide P W .any base t v) (h : DataW.Trod enc P W 0 (fun _ => true) true t v d p) : ∃ a : Int, v = .int .i64 a ∧ -9223372036854775808 ≤ a ∧ a ≤ 9223372036854775807 := by
  obtain ⟨a, rfl, -, -, wa⟩ := open_int hu hok h
  exact ⟨a, rfl, wf_i64 wa⟩
end
end Go.Proofs.YtonjnedlnfdanaaDoor
/-! The frame of a law's row that lists package variables, and what the condition gives: a table of integers by its name. -/
namespace Go.Proofs.YtonjnedlnfdanaaDoor
set_option linter.unusedSimpArgs false
set_option linter.unusedVariables false
open Go.ChangeShapes Go.WideShapes Go.ChangeAt Go.RowKit Go.Joins

/-- The law's row, out of its walk: beside law_lifted, a condition on the listed variables. -/
theorem law_lifted_laid {C : Checked} {os : Os} {f : FuncId} {fn : Func} {s : ChangeSpec} {conds : List PathCond} {tb : TypeId} {H : Type} {enc : TypeId × Value → H} {laid : List (String × DataW Unit)}
    (own : ownKnob C.prog.godebug = none) (started : os.Started) (noInit : C.prog.inits.idxOf? f = none) (hfn : C.prog.funcs[f]? = some fn)
    (hl : laidOutB C.prog = true) (ht : ∀ t ∈ fn.params.toList, C.prog.readableRec t = true ∧ t < C.prog.types.size) (hv : s.vars = [])
    (hs : ∀ ds : List (DataW H), ds.length = fn.params.size → s.fn H ds = { results := [.lit (.bool true)], args := ds }) (hr : fn.resultTypes = #[tb]) (hb : C.prog.underlying tb = some .bool)
    (witness : ∃ (w : World) (tape : Tape) (i : Input), w.os = os ∧ (w.forCall tape i).Shaped C.prog ∧ i.vars = [] ∧ Input.okWide C.prog (w.forCall tape i) .any w.heap.size f i ∧
      ((s.pre enc C.prog fn conds false (w.forCall tape i).memory i.args ∧ laidMetH C.prog laid (w.forCall tape i).memory) ∧ sizedMet enc C.prog fn (OpenSpec.ofChange s) false (w.forCall tape i).memory i.args) ∧
      ({} : Assume).holds C.prog (lone (Frame.enter C.prog f i.args .normal) [] (w.forCall tape i)))
    (walk : ∀ (W : World) (base : Nat) (args : Array Value) (ds : List (DataW H)) (p : List MemPlace),
      (∀ (j : Nat) t v, fn.params[j]? = some t → args[j]? = some v → Value.okWide C.prog W .any base t v) →
      DataW.TrodAll enc C.prog W 0 (fun _ => true) true fn.params.toList args.toList ds p → (∀ x ∈ p, x.block < W.heap.size) → laidMetH C.prog laid W →
      Calls C.prog f args W fun e W' => e = .returned (.bool true) ∧ Below W.heap.size W W') :
    ReturnsInHanded {} C os f .any (fun w args => (s.pre enc C.prog fn conds false w args ∧ laidMetH C.prog laid w) ∧ sizedMet enc C.prog fn (OpenSpec.ofChange s) false w args) (s.post enc C.prog fn false true false false) := by
  refine returnsInHanded_of_change_and (C := C) (X := fun w _ => laidMetH C.prog laid w) (fun _ _ _ hh h => h.of_heap hh) own started noInit hfn witness ?_
  intro W base args ds gs before hval hW _ _ hL _
  have hlt : ∀ x ∈ before, x.block < W.heap.size := hW.lt
  have hW0 := hW
  obtain ⟨p, q, hA, hV, rfl, -, -⟩ := hW
  have hlen : ds.length = fn.params.size := by
    have key : ∀ (ts : List TypeId) (vs : List Value) (ds : List (DataW H)) (ps : List MemPlace), DataW.TrodAll enc C.prog W 0 (fun _ => true) true ts vs ds ps → ds.length = ts.length := by
      intro ts
      induction ts with
      | nil => intro vs ds ps h; obtain ⟨-, rfl, -⟩ := trodAll_nil h; rfl
      | cons t ts ih =>
        intro vs ds ps h
        obtain ⟨v, vs', d, ds', p, q, -, rfl, -, -, h2⟩ := trodAll_cons h
        simp [ih _ _ _ h2]
    simpa using key _ _ _ _ hA
  refine (walk W base args ds p hval hA (fun x hx => hlt x (by simp [hx])) hL).mono fun e W' h => ⟨_, h.1, law_post hl ht hv (hs ds hlen) hr hb hW0 h.2⟩

theorem seat_own : ownKnob Tryd.prog.godebug = none := by kernel_rfl
/-- A listed table of integers, wherever it stands on the list. -/
theorem tab_is {P : Program} {W : World} {l rest : List (String × DataW Unit)} {name : String} {k : IntKind} {zs : List Int} {g : Nat} {t e : TypeId} {n : Nat} (h : laidMetH P l W) (hp : (l.all fun x => x.2.handleName?.isNone) = true)
    (hm : (l.filter fun x => x.1 == name) = (name, Lib.tabData k zs) :: rest)
    (hg : P.globalNamed name = some g) (hty : (P.globals[g]?).map (·.type) = some t) (ht : P.underlying t = some (.array n e)) (he : P.underlying e = some (.int k)) (hce : P.cellsOf e = 1) (hct : P.cellsOf t = n) : Lib.TabIs P W name k zs := by
  rw [MakeChecks.laidMetH_plain _ _ _ hp] at h
  have h' := h.filter fun x => x.1 == name
  rw [hm] at h'
  exact Lib.tabIs_of_head hg hty ht he hce hct h'
end Go.Proofs.YtonjnedlnfdanaaDoor
/-! Slices of integers that come in: what a walk reads of them. -/
namespace Go.Proofs.YtonjnedlnfdanaaDoor
set_option linter.unusedSimpArgs false
set_option linter.unusedVariables false
open Go.ChangeShapes Go.WideShapes Go.ChangeAt Go.RowKit Go.Joins

/-- A slice's n integers of kind k: z i each. -/
def Ints (k : IntKind) (W : World) (p : Option Addr) (n : Nat) (z : Nat → Int) : Prop :=
  ∀ i, i < n → (∃ b off, p = some ⟨b, off, none⟩ ∧ b < W.heap.size ∧ W.cell? ⟨b, off + i, none⟩ = some (.int k (z i))) ∧ (Lit.int k (z i)).wf = true
theorem Ints.below {k : IntKind} {W W' : World} {p : Option Addr} {n : Nat} {z : Nat → Int} (h : Ints k W p n z) (hb : Below W.heap.size W W') : Ints k W' p n z := fun i hi => by
  obtain ⟨⟨b, off, e, hlt, hc⟩, hw⟩ := h i hi
  exact ⟨⟨b, off, e, Nat.lt_of_lt_of_le hlt hb.size, by rw [hb.cell (p := ⟨b, off + i, none⟩) hlt]; exact hc⟩, hw⟩
theorem wf_u8 {a : Int} (h : (Lit.int .u8 a).wf = true) : 0 ≤ a ∧ a < 256 := by
  simp [Lit.wf, IntKind.min, IntKind.max, IntKind.signed, IntKind.bits] at h; omega

section
variable {H : Type} {enc : TypeId × Value → H} {P : Program} {W : World} {base : Nat}
theorem open_slice_ints {t e : TypeId} {k : IntKind} {v : Value} {d : DataW H} {ps : List MemPlace} (ht : P.underlying t = some (.slice e)) (he : P.underlying e = some (.int k)) (hc : P.cellsOf e = 1)
    (hok : Value.okWide P W .any base t v) (h : DataW.Trod enc P W 0 (fun _ => true) true t v d ps) :
    ∃ (p : Option Addr) (n cap : Nat) (z : Nat → Int), v = .slice p n cap ∧ n ≤ maxLen ∧ Ints k W p n z ∧ (p = none → n = 0 ∧ cap = 0) := by
  obtain ⟨p, n, cap, rfl⟩ := okWide_slice ht hok
  obtain ⟨fuel, hf⟩ := h
  rcases open_ints ht he hc hf with ⟨hcs, -⟩ | ⟨a, len, cap', zs, hcs, -, hl, hm, hz, -, hcell, hwz⟩
  · simp [Value.cells] at hcs
    obtain ⟨rfl, rfl, rfl⟩ := hcs
    exact ⟨none, 0, 0, fun _ => 0, rfl, by decide, fun i hi => by omega, fun _ => ⟨rfl, rfl⟩⟩
  · simp [Value.cells] at hcs
    obtain ⟨rfl, rfl, rfl⟩ := hcs
    simp only [if_true] at hz
    refine ⟨some a, n, cap, fun i => zs.getD i 0, rfl, by omega, fun i hi => ?_, fun h => by cases h⟩
    have h0 := hcell 0 (by omega)
    have hi' := hcell i (by omega)
    obtain ⟨b, off, sp⟩ := a
    have hsp : sp = none := by
      cases sp with
      | none => rfl
      | some s =>
        have e : (⟨b, off, some s⟩ : Addr).add 0 = ⟨b, off, some s⟩ := rfl
        rw [e] at h0
        unfold World.cell? at h0
        split at h0 <;> simp at h0
    subst hsp
    have e : ∀ j, (⟨b, off, none⟩ : Addr).add j = ⟨b, off + j, none⟩ := fun j => by unfold Addr.add; split <;> simp_all
    rw [e] at hi'
    exact ⟨⟨b, off, rfl, World.block_lt_of_cell? W _ hi', hi'⟩, hwz _ (by
      have hlt : i < zs.length := by omega
      show zs.getD i 0 ∈ zs
      simp [List.getD, hlt])⟩
theorem open_u8 {t : TypeId} {v : Value} {d : DataW H} {p : List MemPlace} (hu : P.underlying t = some (.int .u8))
    (hok : Value.okWide P W .any base t v) (h : DataW.Trod enc P W 0 (fun _ => true) true t v d p) : ∃ a : Int, v = .int .u8 a ∧ 0 ≤ a ∧ a < 256 := by
  obtain ⟨a, rfl, -, -, wa⟩ := open_int hu hok h
  exact ⟨a, rfl, wf_u8 wa⟩
theorem open_u16 {t : TypeId} {v : Value} {d : DataW H} {p : List MemPlace} (hu : P.underlying t = some (.int .u16))
    (hok : Value.okWide P W .any base t v) (h : DataW.Trod enc P W 0 (fun _ => true) true t v d p) : ∃ a : Int, v = .int .u16 a ∧ 0 ≤ a ∧ a < 65536 := by
  obtain ⟨a, rfl, -, -, wa⟩ := open_int hu hok h
  exact ⟨a, rfl, by simp [Lit.wf, IntKind.min, IntKind.max, IntKind.signed, IntKind.bits] at wa; omega⟩
end
end Go.Proofs.YtonjnedlnfdanaaDoor
/-! Rows of integers that a call makes: what it owns, read as data. -/
namespace Go.Proofs.YtonjnedlnfdanaaDoor
set_option linter.unusedSimpArgs false
set_option linter.unusedVariables false
open Go.ChangeShapes Go.WideShapes Go.ChangeAt Go.RowKit Go.Joins

/-- The cells of n integers. -/
def vals (k : IntKind) (n : Nat) (z : Nat → Int) : List Value := (List.range n).map fun i => .int k (z i)
theorem vals_length (k : IntKind) (n : Nat) (z : Nat → Int) : (vals k n z).length = n := by simp [vals]
theorem vals_get (k : IntKind) {n : Nat} (z : Nat → Int) {i : Nat} (h : i < n) : (vals k n z)[i]? = some (.int k (z i)) := by simp [vals, h]
theorem vals_one (k : IntKind) (n : Nat) (z : Nat → Int) : ∀ u ∈ vals k n z, u.oneCell' = true := by
  intro u hu
  obtain ⟨_, _, rfl⟩ := List.mem_map.1 hu
  rfl
theorem vals_const (k : IntKind) (n : Nat) (c : Int) : List.replicate n (.int k c) = vals k n (fun _ => c) := by
  apply List.ext_getElem?
  intro j
  by_cases h : j < n <;> simp [vals, h]
theorem vals_set (k : IntKind) (n : Nat) (z : Nat → Int) (j : Nat) (v : Int) : (vals k n z).set j (.int k v) = vals k n (fun i => if i = j then v else z i) := by
  apply List.ext_getElem?
  intro i
  by_cases h : i < n
  · by_cases e : i = j
    · subst e; simp [vals, h]
    · rw [List.getElem?_set_ne (Ne.symm e), vals_get k z h, vals_get k _ h]; simp [e]
  · rw [List.getElem?_eq_none (by rw [List.length_set, vals_length]; omega), List.getElem?_eq_none (by rw [vals_length]; omega)]
theorem vals_snoc (k : IntKind) (n : Nat) (z : Nat → Int) : vals k n z ++ [.int k (z n)] = vals k (n + 1) z := by simp [vals, List.range_succ]
theorem vals_congr (k : IntKind) {n : Nat} {z y : Nat → Int} (h : ∀ i, i < n → z i = y i) : vals k n z = vals k n y := by
  apply List.map_congr_left
  intro i hi
  rw [h i (by simpa using hi)]
theorem splice_all {α : Type} (L cs : List α) (h : cs.length = L.length) : splice L 0 cs = cs := by
  simp [splice, h]

theorem add_none (b off j : Nat) : (⟨b, off, none⟩ : Addr).add j = ⟨b, off + j, none⟩ := by unfold Addr.add; split <;> simp_all

/-- What a call owns, as data. -/
theorem ints_owned {w : World} {base : Nat} {e : TypeId} {k : IntKind} {p : Option Addr} {n cap : Nat} {z : Nat → Int} (h : w.ownsRow base e 1 (.slice p n cap) n (vals k n z)) (hw : ∀ i, i < n → (Lit.int k (z i)).wf = true) : Ints k w p n z := by
  intro i hi
  refine ⟨?_, hw i hi⟩
  rcases h.2 with ⟨-, h0⟩ | ⟨g, cap', cur, hv, hb, hg, hn, hm, hs, ht⟩
  · omega
  · have e0 : p = some ⟨g, 0, none⟩ := by injection hv
    subst e0
    refine ⟨g, 0, rfl, ?_, ?_⟩
    · rcases Nat.lt_or_ge g w.heap.size with h' | h'
      · exact h'
      · rw [Array.getElem?_eq_none h'] at hg; cases hg
    · rw [Nat.zero_add, cell_of_row w g i cur e (0, 0) hg]
      have := vals_get k z hi
      rw [← ht, List.getElem?_take, if_pos (by omega)] at this
      simpa using this
theorem owned_new {w : World} {base : Nat} {e : TypeId} {size : Nat} {v : Value} {n : Nat} {xs : List Value} (h : w.ownsRow base e size v n xs) : ∃ p cap, v = .slice p n cap ∧ (∀ b off sp, p = some ⟨b, off, sp⟩ → base ≤ b) := by
  rcases h.2 with ⟨rfl, rfl⟩ | ⟨g, cap', cur, rfl, hb, -⟩
  · exact ⟨none, 0, rfl, fun b off sp e => by cases e⟩
  · exact ⟨_, _, rfl, fun b off sp e => by injection e with e; injection e with e; omega⟩

/-- A row that is known whole. -/
def RowAt (k : IntKind) (e : TypeId) (w : World) (g n : Nat) (z : Nat → Int) : Prop := w.heap[g]? = some (.cells (vals k n z).toArray e (0, 0))
theorem RowAt.lt {k : IntKind} {e : TypeId} {w : World} {g n : Nat} {z : Nat → Int} (h : RowAt k e w g n z) : g < w.heap.size := by
  rcases Nat.lt_or_ge g w.heap.size with h' | h'
  · exact h'
  · unfold RowAt at h; rw [Array.getElem?_eq_none h'] at h; cases h
theorem RowAt.cell {k : IntKind} {e : TypeId} {w : World} {g n : Nat} {z : Nat → Int} (h : RowAt k e w g n z) {i : Nat} (hi : i < n) : w.cell? ⟨g, i, none⟩ = some (.int k (z i)) := by
  rw [cell_of_row w g i _ e (0, 0) h]
  simpa using vals_get k z hi
theorem RowAt.frozen {k : IntKind} {e : TypeId} {w : World} {g n : Nat} {z : Nat → Int} (h : RowAt k e w g n z) (i : Nat) : w.frozen? ⟨g, i, none⟩ = false := frozen_of_row w g i _ e h
theorem RowAt.ints {k : IntKind} {e : TypeId} {w : World} {g n : Nat} {z : Nat → Int} (h : RowAt k e w g n z) (hw : ∀ i, i < n → (Lit.int k (z i)).wf = true) : Ints k w (some ⟨g, 0, none⟩) n z :=
  fun i hi => ⟨⟨g, 0, rfl, h.lt, by rw [Nat.zero_add]; exact h.cell hi⟩, hw i hi⟩
theorem RowAt.below {k : IntKind} {e : TypeId} {w w' : World} {g n : Nat} {z : Nat → Int} (h : RowAt k e w g n z) (hb : Below w.heap.size w w') : RowAt k e w' g n z := by
  unfold RowAt
  rw [hb.block g h.lt]
  exact h
theorem RowAt.set {k : IntKind} {e : TypeId} {w : World} {g n : Nat} {z : Nat → Int} (h : RowAt k e w g n z) (j : Nat) (v : Int) : RowAt k e (w.setCell ⟨g, j, none⟩ (.int k v)) g n (fun i => if i = j then v else z i) := by
  unfold RowAt
  rw [heap_setCell_same w g j _ e (.int k v) h, ← vals_set]
  simp
theorem rowAt_owned {w : World} {base : Nat} {e : TypeId} {k : IntKind} {g n : Nat} {z : Nat → Int} (h : w.ownsRow base e 1 (.slice (some ⟨g, 0, none⟩) n n) n (vals k n z)) : RowAt k e w g n z := by
  rcases h.2 with ⟨h', -⟩ | ⟨g', cap', cur, hv, -, hg, -, -, hs, ht⟩
  · simp at h'
  · simp only [Value.slice.injEq, Option.some.injEq, Addr.mk.injEq, and_true, true_and] at hv
    obtain ⟨rfl, rfl⟩ := hv
    unfold RowAt
    rw [hg, ← ht, List.take_of_length_le (by simp [hs])]
/-- A write into a new block leaves old rows of integers as they read. -/
theorem Ints.setCell {k : IntKind} {w : World} {p : Option Addr} {n : Nat} {z : Nat → Int} (h : Ints k w p n z) {g : Nat} (hg : ∀ b off, p = some ⟨b, off, none⟩ → b ≠ g) (j : Nat) (u : Value) : Ints k (w.setCell ⟨g, j, none⟩ u) p n z := fun i hi => by
  obtain ⟨⟨b, off, e, hlt, hc⟩, hw⟩ := h i hi
  refine ⟨⟨b, off, e, by simpa [World.setCell] using hlt, ?_⟩, hw⟩
  rw [World.cell?_of_block (w := w) (a := ⟨b, off + i, none⟩) (Below.heap_setCell w _ u b (hg b off e))]
  exact hc
theorem Ints.congr {k : IntKind} {w : World} {p : Option Addr} {n : Nat} {z y : Nat → Int} (h : Ints k w p n z) (e : ∀ i, i < n → z i = y i) : Ints k w p n y := fun i hi => by rw [← e i hi]; exact h i hi
theorem Ints.wf {k : IntKind} {w : World} {p : Option Addr} {n : Nat} {z : Nat → Int} (h : Ints k w p n z) : ∀ i, i < n → (Lit.int k (z i)).wf = true := fun i hi => (h i hi).2
/-- The cells where a copy or an append looks for them. -/
theorem Ints.cells {k : IntKind} {w : World} {p : Option Addr} {n : Nat} {z : Nat → Int} (h : Ints k w p n z) (h0 : 0 < n) : ∃ ad, p = some ad ∧ ∀ j v, (vals k n z)[j]? = some v → w.cell? (ad.add j) = some v := by
  obtain ⟨⟨b, off, e, -, -⟩, -⟩ := h 0 h0
  refine ⟨_, e, fun j v hv => ?_⟩
  have hj : j < n := by
    have := (List.getElem?_eq_some_iff.1 hv).1
    rwa [vals_length] at this
  obtain ⟨⟨b', off', e', -, hc⟩, -⟩ := h j hj
  rw [e] at e'
  injection e' with e'
  injection e' with e1 e2
  subst e1 e2
  rw [add_none, hc, ← vals_get k z hj]
  exact hv
/-- 'append(s, x...)', s the call's own, x integers that came in: nil, empty or not. -/
theorem wpList_append_ints {P : Program} {w : World} {ops : Array Oper} {rest : List Oper} {o : Oper} {a : Act} {Q : Exit → Act → World → Prop} (hgd : o.guard = none) (s x : Operand) (t : TypeId)
    (ho : o.op = .call { callee := .builtin .append, args := #[s, x], argTypes := #[t, t] })
    (base : Nat) (e : TypeId) (i : TypeInfo) (z0 : Value) (bytes : Nat) (ht : P.underlying t = some (.slice e)) (hi : P.info? e = some i) (hz : i.zero = some z0) (hsize : i.size = 1) (hby : i.bytes = bytes) (hzs : z0.cells.size = 1)
    (v : Value) (m : Nat) (xs : List Value) (hs : a.eval s = v) (hown : w.ownsRow base e 1 v m xs)
    (k : IntKind) (p : Option Addr) (n cap : Nat) (z : Nat → Int) (hx : a.eval x = .slice p n cap) (hin : Ints k w p n z) (hq : p = none → n = 0 ∧ cap = 0)
    (h63 : m + n ≤ maxLen) (hbytes : (m + n) * bytes ≤ 140737488355328) (hbase : base ≤ w.heap.size)
    (h : ∀ v' w', w'.ownsRow base e 1 v' (m + n) (xs ++ vals k n z) → w.grownBy w' v.ownBlock → wpList P ops Q rest (a.put o.dst v') w') : wpList P ops Q (o :: rest) a w := by
  cases p with
  | none =>
    obtain ⟨rfl, rfl⟩ := hq rfl
    exact wpList_append_own_none hgd s x t ho base e i 1 ht hi v m xs hs hown hx (h v w (by simpa [vals] using hown) (World.grownBy.refl _ _))
  | some ad =>
    refine wpList_append_own _ hgd s x t ho base e i z0 1 bytes ht hi hz hsize hby hzs (by decide) v m xs hs hown ad n cap (vals k n z) hx (by simp [vals_length]) ?_ (vals_one _ _ _) h63 hbytes hbase (fun v' w' h1 h2 _ => h v' w' h1 h2)
    intro j u hj
    have hjn : j < n := by
      have := (List.getElem?_eq_some_iff.1 hj).1
      rwa [vals_length] at this
    obtain ⟨ad', e', hc⟩ := hin.cells (by omega)
    injection e' with e'
    subst e'
    exact hc j u hj
theorem owned_below {w w' : World} {base : Nat} {e : TypeId} {size : Nat} {v : Value} {n : Nat} {xs : List Value} (h : w.ownsRow base e size v n xs) (hb : Below w.heap.size w w') : w'.ownsRow base e size v n xs := by
  obtain ⟨hl, h0 | ⟨g, cap, cur, hv, hg, hh, r⟩⟩ := h
  · exact ⟨hl, .inl h0⟩
  · refine ⟨hl, .inr ⟨g, cap, cur, hv, hg, ?_, r⟩⟩
    rw [hb.block g ?_]
    · exact hh
    · rcases Nat.lt_or_ge g w.heap.size with h1 | h1
      · exact h1
      · rw [Array.getElem?_eq_none h1] at hh; cases hh
end Go.Proofs.YtonjnedlnfdanaaDoor
/-! What stays where a call writes into some older blocks too. -/
namespace Go.Proofs.YtonjnedlnfdanaaDoor
set_option linter.unusedSimpArgs false
set_option linter.unusedVariables false
open Go.ChangeShapes Go.WideShapes Go.ChangeAt Go.RowKit Go.Joins

/-- All blocks but some stay. -/
structure Aside (T : Nat → Prop) (W W' : World) : Prop where
  os : W'.os = W.os
  tape : W'.tape = W.tape
  output : W'.output = W.output
  size : W.heap.size ≤ W'.heap.size
  block : ∀ k, k < W.heap.size → ¬ T k → W'.heap[k]? = W.heap[k]?
theorem Aside.of {T : Nat → Prop} {W W' : World} (h : Below W.heap.size W W') : Aside T W W' := ⟨h.os, h.tape, h.output, h.size, fun k hk _ => h.block k hk⟩
theorem Aside.trans {T : Nat → Prop} {a b c : World} (h : Aside T a b) (k : Aside T b c) : Aside T a c :=
  ⟨k.os.trans h.os, k.tape.trans h.tape, k.output.trans h.output, Nat.le_trans h.size k.size, fun i hi ht => (k.block i (Nat.lt_of_lt_of_le hi h.size) ht).trans (h.block i hi ht)⟩
theorem Aside.below {T : Nat → Prop} {W W' : World} (h : Aside T W W') {n : Nat} (hn : n ≤ W.heap.size) (hT : ∀ k, T k → n ≤ k) : Below n W W' :=
  ⟨h.os, h.tape, h.output, h.size, fun k hk => h.block k (Nat.lt_of_lt_of_le hk hn) fun t => Nat.lt_irrefl _ (Nat.lt_of_lt_of_le hk (hT k t))⟩
theorem Aside.pure {W W' : World} (h : Aside (fun _ => False) W W') : Below W.heap.size W W' := h.below (Nat.le_refl _) fun _ t => t.elim
theorem Aside.setCell {T : Nat → Prop} {W W' : World} (h : Aside T W W') {g : Nat} (hg : T g) (i : Nat) (u : Value) : Aside T W (W'.setCell ⟨g, i, none⟩ u) :=
  ⟨h.os, h.tape, h.output, by simpa [World.setCell] using h.size, fun k hk hne => (Below.heap_setCell W' _ u k (fun e => hne (by rw [e]; exact hg))).trans (h.block k hk hne)⟩
theorem owned_setCell {w : World} {base : Nat} {e : TypeId} {size : Nat} {v : Value} {n : Nat} {xs : List Value} (h : w.ownsRow base e size v n xs) {g : Nat} (hne : v.ownBlock ≠ some g) (o : Nat) (u : Value) : (w.setCell ⟨g, o, none⟩ u).ownsRow base e size v n xs :=
  h.kept (row := some g) ⟨rfl, rfl, rfl, by simp [World.setCell], fun k _ hk => Below.heap_setCell w _ u k (fun e => hk (by rw [e]))⟩ (.inr hne)
theorem owned_base {w : World} {base base' : Nat} {e : TypeId} {size : Nat} {v : Value} {n : Nat} {xs : List Value} (h : w.ownsRow base e size v n xs) (hb : base' ≤ base) : w.ownsRow base' e size v n xs := by
  obtain ⟨hl, h0 | ⟨g, cap, cur, hv, hg, r⟩⟩ := h
  · exact ⟨hl, .inl h0⟩
  · exact ⟨hl, .inr ⟨g, cap, cur, hv, by omega, r⟩⟩
theorem Ints.aside {T : Nat → Prop} {k : IntKind} {W W' : World} {p : Option Addr} {n : Nat} {z : Nat → Int} (h : Ints k W p n z) (ha : Aside T W W') (hT : ∀ g, T g → ∀ b off sp, p = some ⟨b, off, sp⟩ → b ≠ g) : Ints k W' p n z := fun i hi => by
  obtain ⟨⟨b, off, e, hlt, hc⟩, hw⟩ := h i hi
  have hb := ha.block b hlt fun t => hT b t b off none e rfl
  exact ⟨⟨b, off, e, Nat.lt_of_lt_of_le hlt ha.size, by rw [World.cell?_of_block (w := W) (a := ⟨b, _, none⟩) hb]; exact hc⟩, hw⟩
end Go.Proofs.YtonjnedlnfdanaaDoor
