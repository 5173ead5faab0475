import Derived.Handy
import Derived.Lib.Hide
import Derived.Deep.QuietTactic
import Derived.BigQuiet
import Derived.Deep.LoopGhost
import Derived.ShutString
import Derived.Carry
import Derived.Lib.SmallJoins
import Derived.Test.YtkehankfnkjnlaaGreatDoorRows
import Derived.LaidMore
import Derived.Lay
import Derived.Lib.LaidTab
import Derived.LaidSub
import Derived.Stop.Joined
import Derived.ChangeSlices
import Derived.OwnWalk
import Derived.Laws.CopyOwn
import Derived.Laws.AppendOwnNone
namespace Go.Proofs.YtkehankfnkjnlaaGreatDoor
set_option linter.unusedSimpArgs false
set_option linter.unusedVariables false
set_option maxHeartbeats 16000000
set_option maxRecDepth 20000
open Go.ChangeAt Go.ChangeShapes Go.Joins Go.RowKit Go.WideShapes
theorem zab {a b : Bool} (h : a = b) : Ending.returned (.bool a) = .returned (.bool b) := by rw [h]
theorem za5 {k : IntKind} {a b : Int} (h : a = b) : Ending.returned (.int k a) = .returned (.int k b) := by rw [h]
theorem zfy {k : IntKind} {a b : Int} {c d : Bool} (h : a = b) (h' : c = d) : Ending.returned (.tuple #[.int k a, .bool c]) = .returned (.tuple #[.int k b, .bool d]) := by rw [h, h']
theorem zub {k n k' n' : Int} (h : k = k') (h' : n = n') : Ending.returned (.agg #[.int .i64 k, .int .i64 n]) = .returned (.agg #[.int .i64 k', .int .i64 n']) := by rw [h, h']
theorem under {b n : Nat} (h : (⟨b + 1 - n, 0, none⟩ : Addr) = ⟨0, 0, none⟩) : b < n := by
 have := congrArg Addr.block h
 simp at this
 omega
@[go_sem] theorem cell_alloc_far (w : World) (o : Obj) (b off : Nat) (h : (⟨b + 1 - w.heap.size, 0, none⟩ : Addr) = ⟨0, 0, none⟩) : (w.alloc o).cell? ⟨b, off, none⟩ = w.cell? ⟨b, off, none⟩ :=
 World.cell?_of_block (w := w) (Below.heap_alloc w o b (under h))
@[go_sem] theorem frozen_alloc_far (w : World) (o : Obj) (b off : Nat) (h : (⟨b + 1 - w.heap.size, 0, none⟩ : Addr) = ⟨0, 0, none⟩) : (w.alloc o).frozen? ⟨b, off, none⟩ = w.frozen? ⟨b, off, none⟩ :=
 ((Below.refl w.heap.size w).alloc (Nat.le_refl _) o).frozen (p := ⟨b, off, none⟩) (under h)
theorem bstep {w W w1 : World} (hb : Below W.heap.size W w1) (h : Below w.heap.size w W) :
  (∀ b o, (⟨b + 1 - W.heap.size, 0, none⟩ : Addr) = ⟨0, 0, none⟩ → w1.cell? ⟨b, o, none⟩ = W.cell? ⟨b, o, none⟩) ∧ (∀ b o, (⟨b + 1 - W.heap.size, 0, none⟩ : Addr) = ⟨0, 0, none⟩ → w1.frozen? ⟨b, o, none⟩ = W.frozen? ⟨b, o, none⟩) ∧ Below w.heap.size w w1 ∧ W.heap.size ≤ w1.heap.size :=
 ⟨fun b o h => hb.cell (p := ⟨b, o, none⟩) (under h), fun b o h => hb.frozen (p := ⟨b, o, none⟩) (under h), h.trans (hb.mono h.size), hb.size⟩
theorem bjoin {w W w1 : World} (hb : Below W.heap.size W w1) (h : Below w.heap.size w W) : Below w.heap.size w w1 := h.trans (hb.mono h.size)
open Classical in
noncomputable def plus (W x : World) : World := if Below W.heap.size W x then x else W
theorem za1 (W x : World) : Below W.heap.size W (plus W x) := by
 unfold plus
 split
 ·assumption
 ·exact Below.refl _ _
theorem zsk (W x : World) (b o : Nat) (h : (⟨b + 1 - W.heap.size, 0, none⟩ : Addr) = ⟨0, 0, none⟩) : (plus W x).cell? ⟨b, o, none⟩ = W.cell? ⟨b, o, none⟩ := (za1 W x).cell (p := ⟨b, o, none⟩) (under h)
theorem zmp {W w' : World} (h : Below W.heap.size W w') : ∃ x, w' = plus W x := ⟨w', by unfold plus; rw [if_pos h]⟩
theorem zak {P : Program} {f : FuncId} {args : Array Value} {W x : World} {v : Value}
  (h : Calls P f args (plus W x) fun e w' => e = .returned v ∧ Below (plus W x).heap.size (plus W x) w') : Calls P f args (plus W x) fun e w'' => e = .returned v ∧ ∃ m, w'' = plus W m :=
 h.mono fun _ _ ⟨he, hb⟩ => ⟨he, zmp (bjoin hb (za1 W x))⟩
theorem zap {P : Program} {id : Nat} {Q : Exit → Act → World → Prop} {a : Act} {W : World} {l : List Oper} (hm : P.follows .mixedOrders = true) (hB : Region.lexB .any l.toArray = true)
  (h : (∀ (x : World) (b o : Nat), (⟨b + 1 - W.heap.size, 0, none⟩ : Addr) = ⟨0, 0, none⟩ → (plus W x).cell? ⟨b, o, none⟩ = W.cell? ⟨b, o, none⟩) →
   wpQuiet P l.toArray (fun w' => ∃ x, w' = plus W x) (fun a' => ∀ w', Below W.heap.size W w' → Q .normal a' w') l a) : (Code.region id l.toArray true).wp P Q a W :=
 wp_region_quiet (C := fun w' => ∃ x, w' = plus W x) hm hB (zmp ⟨rfl, rfl, rfl, Nat.le_refl _, fun _ _ => rfl⟩) (by
  have e : (fun a' => ∀ w', Below W.heap.size W w' → Q .normal a' w') = (fun a' => ∀ w', (∃ x, w' = plus W x) → Q .normal a' w') := by
   funext a'
   refine propext ⟨fun h w' ⟨x, e⟩ => h w' (e ▸ za1 W x), fun h w' hb => h _ (zmp hb)⟩
  rw [← e]
  simpa using h (zsk W))
section
variable {H : Type} {enc : TypeId × Value → H} {P : Program}
theorem zk4 (hl : laidOutB P = true) {W W' : World} (hb : Below W.heap.size W W') : ∀ (ts : List TypeId) (vs : List Value) (ds : List (DataW H)) (ps : List MemPlace),
  (∀ t ∈ ts, P.readableRec t = true ∧ t < P.types.size) → DataW.TrodAll enc P W 0 (fun _ => true) true ts vs ds ps → (∀ x ∈ ps, x.block < W.heap.size) →
  DataW.TrodAll enc P W' 0 (fun b => decide (b < W.heap.size)) true ts vs ds ps
 | [], [], [], _, _, h, _ => h
 | [], [], _ :: _, _, _, h, _ => by simp [DataW.TrodAll] at h
 | [], _ :: _, _, _, _, h, _ => by simp [DataW.TrodAll] at h
 | _ :: _, [], _, _, _, h, _ => by simp [DataW.TrodAll] at h
 | _ :: _, _ :: _, [], _, _, h, _ => by simp [DataW.TrodAll] at h
 | t :: ts, v :: vs, d :: ds, ps, ht, h, hlt => by
  obtain ⟨p, q, h1, h2, rfl⟩ := h
  refine ⟨p, q, ?_, ?_, rfl⟩
  ·exact Below.trod hl (ht t (by simp)).1 (ht t (by simp)).2 h1 hb fun x hx => hlt x (by simp [hx])
  ·exact zk4 hl hb ts vs ds q (fun u hu => ht u (by simp [hu])) h2 fun x hx => hlt x (by simp [hx])
theorem znv {f : Func} {s : ChangeSpec} {tb : TypeId} {W W' : World} {args : Array Value} {ds gs : List (DataW H)} {before : List MemPlace}
  (hl : laidOutB P = true) (ht : ∀ t ∈ f.params.toList, P.readableRec t = true ∧ t < P.types.size) (hv : s.vars = [])
  (hs : s.fn H ds = { results := [.lit (.bool true)], args := ds }) (hr : f.resultTypes = #[tb]) (hb : P.underlying tb = some .bool)
  (hW : DataW.Whole enc P f.params.toList s.vars false W args.toList ds gs before) (hB : Below W.heap.size W W') :
  s.post enc P f false true false false W args (.bool true) W' := by
 have hlt : ∀ x ∈ before, x.block < W.heap.size := hW.lt
 have hW0 := hW
 obtain ⟨p, q, hA, hV, rfl, -, -⟩ := hW
 rw [hv] at hV
 obtain ⟨rfl, rfl⟩ := trodVars_none hV
 refine ⟨ds, [], p ++ [], [], p, [], hW0, ?_, ?_, ?_, ?_, fun h => by simp at h⟩
 ·simp only [List.append_nil, hs, hr]
  exact trodAll_mk1 (shut_bool hb true)
 ·simp only [List.append_nil, hs]
  exact zk4 hl hB _ _ _ _ ht hA fun x hx => hlt x (by simp [hx])
 ·simp only [List.append_nil, hv, hs]
  rfl
 ·refine World.keptBut_mono (fun x (hx : x ∈ p ++ []) => ?_) (hB.frame _)
  exact ⟨hx, Or.inr (Or.inl (by simpa using hx))⟩
end
theorem law_lifted {C : Checked} {os : Os} {f : FuncId} {fn : Func} {s : ChangeSpec} {conds : List PathCond} {tb : TypeId} {H : Type} {enc : TypeId × Value → H}
  (own : ownKnob C.prog.godebug = none) (started : os.Started) (noInit : C.prog.inits.idxOf? f = none) (hfn : C.prog.funcs[f]? = some fn)
  (hl : laidOutB C.prog = true) (ht : ∀ t ∈ fn.params.toList, C.prog.readableRec t = true ∧ t < C.prog.types.size) (hv : s.vars = [])
  (hs : ∀ ds : List (DataW H), ds.length = fn.params.size → s.fn H ds = { results := [.lit (.bool true)], args := ds }) (hr : fn.resultTypes = #[tb]) (hb : C.prog.underlying tb = some .bool)
  (witness : ∃ (w : World) (tape : Tape) (i : Input), w.os = os ∧ (w.forCall tape i).Shaped C.prog ∧ i.vars = [] ∧ Input.okWide C.prog (w.forCall tape i) .any w.heap.size f i ∧
   s.pre6 enc C.prog fn conds false (w.forCall tape i).memory i.args ∧ ({} : Assume).holds C.prog (lone (Frame.enter C.prog f i.args .normal) [] (w.forCall tape i)))
  (walk : ∀ (W : World) (base : Nat) (args : Array Value) (ds : List (DataW H)) (p : List MemPlace),
   (∀ (j : Nat) t v, fn.params[j]? = some t → args[j]? = some v → Value.okWide C.prog W .any base t v) →
   DataW.TrodAll enc C.prog W 0 (fun _ => true) true fn.params.toList args.toList ds p → (∀ x ∈ p, x.block < W.heap.size) →
   Calls C.prog f args W fun e W' => e = .returned (.bool true) ∧ Below W.heap.size W W') :
  ReturnsInHanded {} C os f .any (s.pre6 enc C.prog fn conds false) (s.post enc C.prog fn false true false false) := by
 refine returnsInHanded_of_change (C := C) own started noInit hfn witness ?_
 intro W base args ds gs before hval hW _ _
 have hlt : ∀ x ∈ before, x.block < W.heap.size := hW.lt
 have hW0 := hW
 obtain ⟨p, q, hA, hV, rfl, -, -⟩ := hW
 have hlen : ds.length = fn.params.size := by
  have key : ∀ (ts : List TypeId) (vs : List Value) (ds : List (DataW H)) (ps : List MemPlace), DataW.TrodAll enc C.prog W 0 (fun _ => true) true ts vs ds ps → ds.length = ts.length := by
   intro ts
   induction ts with
   | nil => intro vs ds ps h; obtain ⟨-, rfl, -⟩ := trodAll_nil h; rfl
   | cons t ts ih =>
    intro vs ds ps h
    obtain ⟨v, vs', d, ds', p, q, -, rfl, -, -, h2⟩ := trodAll_cons h
    simp [ih _ _ _ h2]
  simpa using key _ _ _ _ hA
 refine (walk W base args ds p hval hA fun x hx => hlt x (by simp [hx])).mono fun e W' h => ⟨_, h.1, znv hl ht hv (hs ds hlen) hr hb hW0 h.2⟩
theorem zbp {a : Int} (h : (Lit.int .i64 a).wf = true) : -9223372036854775808 ≤ a ∧ a ≤ 9223372036854775807 := by
 simp [Lit.wf, IntKind.min, IntKind.max, IntKind.signed, IntKind.bits] at h; omega
theorem wf_u32 {a : Int} (h : (Lit.int .u32 a).wf = true) : 0 ≤ a ∧ a < 4294967296 := by
 simp [Lit.wf, IntKind.min, IntKind.max, IntKind.signed, IntKind.bits] at h; omega
theorem wf_u64 {a : Int} (h : (Lit.int .u64 a).wf = true) : 0 ≤ a ∧ a < 18446744073709551616 := by
 simp [Lit.wf, IntKind.min, IntKind.max, IntKind.signed, IntKind.bits] at h; omega
section
variable {H : Type} {enc : TypeId × Value → H} {P : Program} {W : World} {base : Nat}
end
theorem zcn {C : Checked} {os : Os} {f : FuncId} {fn : Func} {s : ChangeSpec} {conds : List PathCond} {tb : TypeId} {H : Type} {enc : TypeId × Value → H} {laid : List (String × DataW Unit)}
  (own : ownKnob C.prog.godebug = none) (started : os.Started) (noInit : C.prog.inits.idxOf? f = none) (hfn : C.prog.funcs[f]? = some fn)
  (hl : laidOutB C.prog = true) (ht : ∀ t ∈ fn.params.toList, C.prog.readableRec t = true ∧ t < C.prog.types.size) (hv : s.vars = [])
  (hs : ∀ ds : List (DataW H), ds.length = fn.params.size → s.fn H ds = { results := [.lit (.bool true)], args := ds }) (hr : fn.resultTypes = #[tb]) (hb : C.prog.underlying tb = some .bool)
  (witness : ∃ (w : World) (tape : Tape) (i : Input), w.os = os ∧ (w.forCall tape i).Shaped C.prog ∧ i.vars = [] ∧ Input.okWide C.prog (w.forCall tape i) .any w.heap.size f i ∧
   ((s.pre enc C.prog fn conds false (w.forCall tape i).memory i.args ∧ laidMetH C.prog laid (w.forCall tape i).memory) ∧ sizedMet enc C.prog fn (OpenSpec.ofChange s) false (w.forCall tape i).memory i.args) ∧
   ({} : Assume).holds C.prog (lone (Frame.enter C.prog f i.args .normal) [] (w.forCall tape i)))
  (walk : ∀ (W : World) (base : Nat) (args : Array Value) (ds : List (DataW H)) (p : List MemPlace),
   (∀ (j : Nat) t v, fn.params[j]? = some t → args[j]? = some v → Value.okWide C.prog W .any base t v) →
   DataW.TrodAll enc C.prog W 0 (fun _ => true) true fn.params.toList args.toList ds p → (∀ x ∈ p, x.block < W.heap.size) → laidMetH C.prog laid W →
   Calls C.prog f args W fun e W' => e = .returned (.bool true) ∧ Below W.heap.size W W') :
  ReturnsInHanded {} C os f .any (fun w args => (s.pre enc C.prog fn conds false w args ∧ laidMetH C.prog laid w) ∧ sizedMet enc C.prog fn (OpenSpec.ofChange s) false w args) (s.post enc C.prog fn false true false false) := by
 refine returnsInHanded_of_change_and (C := C) (X := fun w _ => laidMetH C.prog laid w) (fun _ _ _ hh h => h.of_heap hh) own started noInit hfn witness ?_
 intro W base args ds gs before hval hW _ _ hL _
 have hlt : ∀ x ∈ before, x.block < W.heap.size := hW.lt
 have hW0 := hW
 obtain ⟨p, q, hA, hV, rfl, -, -⟩ := hW
 have hlen : ds.length = fn.params.size := by
  have key : ∀ (ts : List TypeId) (vs : List Value) (ds : List (DataW H)) (ps : List MemPlace), DataW.TrodAll enc C.prog W 0 (fun _ => true) true ts vs ds ps → ds.length = ts.length := by
   intro ts
   induction ts with
   | nil => intro vs ds ps h; obtain ⟨-, rfl, -⟩ := trodAll_nil h; rfl
   | cons t ts ih =>
    intro vs ds ps h
    obtain ⟨v, vs', d, ds', p, q, -, rfl, -, -, h2⟩ := trodAll_cons h
    simp [ih _ _ _ h2]
  simpa using key _ _ _ _ hA
 refine (walk W base args ds p hval hA (fun x hx => hlt x (by simp [hx])) hL).mono fun e W' h => ⟨_, h.1, znv hl ht hv (hs ds hlen) hr hb hW0 h.2⟩
theorem zjf : ownKnob Tryz.prog.godebug = none := by kernel_rfl
theorem tab_is {P : Program} {W : World} {l rest : List (String × DataW Unit)} {name : String} {k : IntKind} {zs : List Int} {g : Nat} {t e : TypeId} {n : Nat} (h : laidMetH P l W) (hp : (l.all fun x => x.2.handleName?.isNone) = true)
  (hm : (l.filter fun x => x.1 == name) = (name, Lib.tabData k zs) :: rest)
  (hg : P.globalNamed name = some g) (hty : (P.globals[g]?).map (·.type) = some t) (ht : P.underlying t = some (.array n e)) (he : P.underlying e = some (.int k)) (hce : P.cellsOf e = 1) (hct : P.cellsOf t = n) : Lib.TabIs P W name k zs := by
 rw [MakeChecks.laidMetH_plain _ _ _ hp] at h
 have h' := h.filter fun x => x.1 == name
 rw [hm] at h'
 exact Lib.tabIs_of_head hg hty ht he hce hct h'
def Ints (k : IntKind) (W : World) (p : Option Addr) (n : Nat) (z : Nat → Int) : Prop :=
 ∀ i, i < n → (∃ b off, p = some ⟨b, off, none⟩ ∧ b < W.heap.size ∧ W.cell? ⟨b, off + i, none⟩ = some (.int k (z i))) ∧ (Lit.int k (z i)).wf = true
theorem Ints.below {k : IntKind} {W W' : World} {p : Option Addr} {n : Nat} {z : Nat → Int} (h : Ints k W p n z) (hb : Below W.heap.size W W') : Ints k W' p n z := fun i hi => by
 obtain ⟨⟨b, off, e, hlt, hc⟩, hw⟩ := h i hi
 exact ⟨⟨b, off, e, Nat.lt_of_lt_of_le hlt hb.size, by rw [hb.cell (p := ⟨b, off + i, none⟩) hlt]; exact hc⟩, hw⟩
section
variable {H : Type} {enc : TypeId × Value → H} {P : Program} {W : World} {base : Nat}
end
def vals (k : IntKind) (n : Nat) (z : Nat → Int) : List Value := (List.range n).map fun i => .int k (z i)
theorem zae (k : IntKind) (n : Nat) (z : Nat → Int) : (vals k n z).length = n := by simp [vals]
theorem za4 (k : IntKind) {n : Nat} (z : Nat → Int) {i : Nat} (h : i < n) : (vals k n z)[i]? = some (.int k (z i)) := by simp [vals, h]
theorem zcb (k : IntKind) (n : Nat) (z : Nat → Int) : ∀ u ∈ vals k n z, u.oneCell' = true := by
 intro u hu
 obtain ⟨_, _, rfl⟩ := List.mem_map.1 hu
 rfl
theorem zh7 (k : IntKind) (n : Nat) (c : Int) : List.replicate n (.int k c) = vals k n (fun _ => c) := by
 apply List.ext_getElem?
 intro j
 by_cases h : j < n <;> simp [vals, h]
theorem zvd (k : IntKind) (n : Nat) (z : Nat → Int) (j : Nat) (v : Int) : (vals k n z).set j (.int k v) = vals k n (fun i => if i = j then v else z i) := by
 apply List.ext_getElem?
 intro i
 by_cases h : i < n
 ·by_cases e : i = j
  ·subst e; simp [vals, h]
  ·rw [List.getElem?_set_ne (Ne.symm e), za4 k z h, za4 k _ h]; simp [e]
 ·rw [List.getElem?_eq_none (by rw [List.length_set, zae]; omega), List.getElem?_eq_none (by rw [zae]; omega)]
theorem zr3 (k : IntKind) (n : Nat) (z : Nat → Int) : vals k n z ++ [.int k (z n)] = vals k (n + 1) z := by simp [vals, List.range_succ]
theorem zfh (k : IntKind) {n : Nat} {z y : Nat → Int} (h : ∀ i, i < n → z i = y i) : vals k n z = vals k n y := by
 apply List.map_congr_left
 intro i hi
 rw [h i (by simpa using hi)]
theorem ze2 (b off j : Nat) : (⟨b, off, none⟩ : Addr).add j = ⟨b, off + j, none⟩ := by unfold Addr.add; split <;> simp_all
theorem zd0 {w : World} {base : Nat} {e : TypeId} {k : IntKind} {p : Option Addr} {n cap : Nat} {z : Nat → Int} (h : w.ownsRow base e 1 (.slice p n cap) n (vals k n z)) (hw : ∀ i, i < n → (Lit.int k (z i)).wf = true) : Ints k w p n z := by
 intro i hi
 refine ⟨?_, hw i hi⟩
 rcases h.2 with ⟨-, h0⟩ | ⟨g, cap', cur, hv, hb, hg, hn, hm, hs, ht⟩
 ·omega
 ·have e0 : p = some ⟨g, 0, none⟩ := by injection hv
  subst e0
  refine ⟨g, 0, rfl, ?_, ?_⟩
  ·rcases Nat.lt_or_ge g w.heap.size with h' | h'
   ·exact h'
   ·rw [Array.getElem?_eq_none h'] at hg; cases hg
  ·rw [Nat.zero_add, cell_of_row w g i cur e (0, 0) hg]
   have := za4 k z hi
   rw [← ht, List.getElem?_take, if_pos (by omega)] at this
   simpa using this
theorem zaf {w : World} {base : Nat} {e : TypeId} {size : Nat} {v : Value} {n : Nat} {xs : List Value} (h : w.ownsRow base e size v n xs) : ∃ p cap, v = .slice p n cap ∧ (∀ b off sp, p = some ⟨b, off, sp⟩ → base ≤ b) := by
 rcases h.2 with ⟨rfl, rfl⟩ | ⟨g, cap', cur, rfl, hb, -⟩
 ·exact ⟨none, 0, rfl, fun b off sp e => by cases e⟩
 ·exact ⟨_, _, rfl, fun b off sp e => by injection e with e; injection e with e; omega⟩
def RowAt (k : IntKind) (e : TypeId) (w : World) (g n : Nat) (z : Nat → Int) : Prop := w.heap[g]? = some (.cells (vals k n z).toArray e (0, 0))
theorem RowAt.lt {k : IntKind} {e : TypeId} {w : World} {g n : Nat} {z : Nat → Int} (h : RowAt k e w g n z) : g < w.heap.size := by
 rcases Nat.lt_or_ge g w.heap.size with h' | h'
 ·exact h'
 ·unfold RowAt at h; rw [Array.getElem?_eq_none h'] at h; cases h
theorem RowAt.cell {k : IntKind} {e : TypeId} {w : World} {g n : Nat} {z : Nat → Int} (h : RowAt k e w g n z) {i : Nat} (hi : i < n) : w.cell? ⟨g, i, none⟩ = some (.int k (z i)) := by
 rw [cell_of_row w g i _ e (0, 0) h]
 simpa using za4 k z hi
theorem RowAt.ints {k : IntKind} {e : TypeId} {w : World} {g n : Nat} {z : Nat → Int} (h : RowAt k e w g n z) (hw : ∀ i, i < n → (Lit.int k (z i)).wf = true) : Ints k w (some ⟨g, 0, none⟩) n z :=
 fun i hi => ⟨⟨g, 0, rfl, h.lt, by rw [Nat.zero_add]; exact h.cell hi⟩, hw i hi⟩
theorem zmu {w : World} {base : Nat} {e : TypeId} {k : IntKind} {g n : Nat} {z : Nat → Int} (h : w.ownsRow base e 1 (.slice (some ⟨g, 0, none⟩) n n) n (vals k n z)) : RowAt k e w g n z := by
 rcases h.2 with ⟨h', -⟩ | ⟨g', cap', cur, hv, -, hg, -, -, hs, ht⟩
 ·simp at h'
 ·simp only [Value.slice.injEq, Option.some.injEq, Addr.mk.injEq, and_true, true_and] at hv
  obtain ⟨rfl, rfl⟩ := hv
  unfold RowAt
  rw [hg, ← ht, List.take_of_length_le (by simp [hs])]
theorem Ints.setCell {k : IntKind} {w : World} {p : Option Addr} {n : Nat} {z : Nat → Int} (h : Ints k w p n z) {g : Nat} (hg : ∀ b off, p = some ⟨b, off, none⟩ → b ≠ g) (j : Nat) (u : Value) : Ints k (w.setCell ⟨g, j, none⟩ u) p n z := fun i hi => by
 obtain ⟨⟨b, off, e, hlt, hc⟩, hw⟩ := h i hi
 refine ⟨⟨b, off, e, by simpa [World.setCell] using hlt, ?_⟩, hw⟩
 rw [World.cell?_of_block (w := w) (a := ⟨b, off + i, none⟩) (Below.heap_setCell w _ u b (hg b off e))]
 exact hc
theorem Ints.wf {k : IntKind} {w : World} {p : Option Addr} {n : Nat} {z : Nat → Int} (h : Ints k w p n z) : ∀ i, i < n → (Lit.int k (z i)).wf = true := fun i hi => (h i hi).2
theorem Ints.cells {k : IntKind} {w : World} {p : Option Addr} {n : Nat} {z : Nat → Int} (h : Ints k w p n z) (h0 : 0 < n) : ∃ ad, p = some ad ∧ ∀ j v, (vals k n z)[j]? = some v → w.cell? (ad.add j) = some v := by
 obtain ⟨⟨b, off, e, -, -⟩, -⟩ := h 0 h0
 refine ⟨_, e, fun j v hv => ?_⟩
 have hj : j < n := by
  have := (List.getElem?_eq_some_iff.1 hv).1
  rwa [zae] at this
 obtain ⟨⟨b', off', e', -, hc⟩, -⟩ := h j hj
 rw [e] at e'
 injection e' with e'
 injection e' with e1 e2
 subst e1 e2
 rw [ze2, hc, ← za4 k z hj]
 exact hv
theorem za7 {P : Program} {w : World} {ops : Array Oper} {rest : List Oper} {o : Oper} {a : Act} {Q : Exit → Act → World → Prop} (hgd : o.guard = none) (s x : Operand) (t : TypeId)
  (ho : o.op = .call { callee := .builtin .append, args := #[s, x], argTypes := #[t, t] })
  (base : Nat) (e : TypeId) (i : TypeInfo) (z0 : Value) (bytes : Nat) (ht : P.underlying t = some (.slice e)) (hi : P.info? e = some i) (hz : i.zero = some z0) (hsize : i.size = 1) (hby : i.bytes = bytes) (hzs : z0.cells.size = 1)
  (v : Value) (m : Nat) (xs : List Value) (hs : a.eval s = v) (hown : w.ownsRow base e 1 v m xs)
  (k : IntKind) (p : Option Addr) (n cap : Nat) (z : Nat → Int) (hx : a.eval x = .slice p n cap) (hin : Ints k w p n z) (hq : p = none → n = 0 ∧ cap = 0)
  (h63 : m + n ≤ maxLen) (hbytes : (m + n) * bytes ≤ 140737488355328) (hbase : base ≤ w.heap.size)
  (h : ∀ v' w', w'.ownsRow base e 1 v' (m + n) (xs ++ vals k n z) → w.grownBy w' v.ownBlock → wpList P ops Q rest (a.put o.dst v') w') : wpList P ops Q (o :: rest) a w := by
 cases p with
 | none =>
  obtain ⟨rfl, rfl⟩ := hq rfl
  exact wpList_append_own_none hgd s x t ho base e i 1 ht hi v m xs hs hown hx (h v w (by simpa [vals] using hown) (World.grownBy.refl _ _))
 | some ad =>
  refine wpList_append_own _ hgd s x t ho base e i z0 1 bytes ht hi hz hsize hby hzs (by decide) v m xs hs hown ad n cap (vals k n z) hx (by simp [zae]) ?_ (zcb _ _ _) h63 hbytes hbase (fun v' w' h1 h2 _ => h v' w' h1 h2)
  intro j u hj
  have hjn : j < n := by
   have := (List.getElem?_eq_some_iff.1 hj).1
   rwa [zae] at this
  obtain ⟨ad', e', hc⟩ := hin.cells (by omega)
  injection e' with e'
  subst e'
  exact hc j u hj
theorem zaa {w w' : World} {base : Nat} {e : TypeId} {size : Nat} {v : Value} {n : Nat} {xs : List Value} (h : w.ownsRow base e size v n xs) (hb : Below w.heap.size w w') : w'.ownsRow base e size v n xs := by
 obtain ⟨hl, h0 | ⟨g, cap, cur, hv, hg, hh, r⟩⟩ := h
 ·exact ⟨hl, .inl h0⟩
 ·refine ⟨hl, .inr ⟨g, cap, cur, hv, hg, ?_, r⟩⟩
  rw [hb.block g ?_]
  ·exact hh
  ·rcases Nat.lt_or_ge g w.heap.size with h1 | h1
   ·exact h1
   ·rw [Array.getElem?_eq_none h1] at hh; cases hh
structure Aside (T : Nat → Prop) (W W' : World) : Prop where
 os : W'.os = W.os
 tape : W'.tape = W.tape
 output : W'.output = W.output
 size : W.heap.size ≤ W'.heap.size
 block : ∀ k, k < W.heap.size → ¬ T k → W'.heap[k]? = W.heap[k]?
theorem Aside.of {T : Nat → Prop} {W W' : World} (h : Below W.heap.size W W') : Aside T W W' := ⟨h.os, h.tape, h.output, h.size, fun k hk _ => h.block k hk⟩
theorem Aside.trans {T : Nat → Prop} {a b c : World} (h : Aside T a b) (k : Aside T b c) : Aside T a c :=
 ⟨k.os.trans h.os, k.tape.trans h.tape, k.output.trans h.output, Nat.le_trans h.size k.size, fun i hi ht => (k.block i (Nat.lt_of_lt_of_le hi h.size) ht).trans (h.block i hi ht)⟩
theorem Aside.below {T : Nat → Prop} {W W' : World} (h : Aside T W W') {n : Nat} (hn : n ≤ W.heap.size) (hT : ∀ k, T k → n ≤ k) : Below n W W' :=
 ⟨h.os, h.tape, h.output, h.size, fun k hk => h.block k (Nat.lt_of_lt_of_le hk hn) fun t => Nat.lt_irrefl _ (Nat.lt_of_lt_of_le hk (hT k t))⟩
theorem Aside.pure {W W' : World} (h : Aside (fun _ => False) W W') : Below W.heap.size W W' := h.below (Nat.le_refl _) fun _ t => t.elim
theorem Aside.setCell {T : Nat → Prop} {W W' : World} (h : Aside T W W') {g : Nat} (hg : T g) (i : Nat) (u : Value) : Aside T W (W'.setCell ⟨g, i, none⟩ u) :=
 ⟨h.os, h.tape, h.output, by simpa [World.setCell] using h.size, fun k hk hne => (Below.heap_setCell W' _ u k (fun e => hne (by rw [e]; exact hg))).trans (h.block k hk hne)⟩
theorem za0 {w : World} {base : Nat} {e : TypeId} {size : Nat} {v : Value} {n : Nat} {xs : List Value} (h : w.ownsRow base e size v n xs) {g : Nat} (hne : v.ownBlock ≠ some g) (o : Nat) (u : Value) : (w.setCell ⟨g, o, none⟩ u).ownsRow base e size v n xs :=
 h.kept (row := some g) ⟨rfl, rfl, rfl, by simp [World.setCell], fun k _ hk => Below.heap_setCell w _ u k (fun e => hk (by rw [e]))⟩ (.inr hne)
theorem zag {w : World} {base base' : Nat} {e : TypeId} {size : Nat} {v : Value} {n : Nat} {xs : List Value} (h : w.ownsRow base e size v n xs) (hb : base' ≤ base) : w.ownsRow base' e size v n xs := by
 obtain ⟨hl, h0 | ⟨g, cap, cur, hv, hg, r⟩⟩ := h
 ·exact ⟨hl, .inl h0⟩
 ·exact ⟨hl, .inr ⟨g, cap, cur, hv, by omega, r⟩⟩
theorem Ints.aside {T : Nat → Prop} {k : IntKind} {W W' : World} {p : Option Addr} {n : Nat} {z : Nat → Int} (h : Ints k W p n z) (ha : Aside T W W') (hT : ∀ g, T g → ∀ b off sp, p = some ⟨b, off, sp⟩ → b ≠ g) : Ints k W' p n z := fun i hi => by
 obtain ⟨⟨b, off, e, hlt, hc⟩, hw⟩ := h i hi
 have hb := ha.block b hlt fun t => hT b t b off none e rfl
 exact ⟨⟨b, off, e, Nat.lt_of_lt_of_le hlt ha.size, by rw [World.cell?_of_block (w := W) (a := ⟨b, _, none⟩) hb]; exact hc⟩, hw⟩
end Go.Proofs.YtkehankfnkjnlaaGreatDoor
