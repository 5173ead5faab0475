/- Contracts of container/heap over the queue's row, and of the queue (chapter 10). -/
import Derived.Test.YtneanbagdkeoiaaDoorQueueFn
import Derived.Shelf.Abstract
namespace Go.Proofs.YtneanbagdkeoiaaDoor
set_option linter.unusedSimpArgs false
set_option linter.unusedVariables false
open Go.ChangeShapes Go.WideShapes Go.ChangeAt Go.RowKit Go.Joins

theorem meth_parts {P : Program} {T : TypeId} {name : String} {p : Array FieldStep} {f : FuncId} {b : Bool} (h : ((P.info? T).bind fun i => (i.methods.find? (·.name == name)).bind fun m => m.func.map fun x => (m.path, x)) = some (p, f, b)) :
    ∃ i m, P.info? T = some i ∧ i.methods.find? (·.name == name) = some m ∧ m.path = p ∧ m.func = some (f, b) := by
  cases hi : P.info? T with
  | none => rw [hi] at h; cases h
  | some i =>
    rw [hi] at h
    simp only [Option.bind_some] at h
    cases hm : i.methods.find? (·.name == name) with
    | none => rw [hm] at h; cases h
    | some m =>
      rw [hm] at h
      simp only [Option.bind_some] at h
      cases hf : m.func with
      | none => rw [hf] at h; cases h
      | some x =>
        rw [hf] at h
        simp only [Option.map_some, Option.some.injEq, Prod.mk.injEq] at h
        refine ⟨i, m, rfl, hm, h.1, ?_⟩
        rw [hf, h.2]
/-- A method on the value, reached through a pointer to it. -/
theorem meth_val {P : Program} {T E : TypeId} {name : String} {f : FuncId} {d : TypeDesc} (K b o : Nat) (v : Value) (w : World) (hK : 0 < K) (hm : ((P.info? T).bind fun i => (i.methods.find? (·.name == name)).bind fun m => m.func.map fun x => (m.path, x)) = some (#[], f, false)) (hu : P.underlying T = some (.pointer E)) (hd : P.underlying E = some d) (hg : (isAgg E).run P w = .ok false w) (h : w.cell? ⟨b, o, none⟩ = some v) :
    (method K T (.pointer (some ⟨b, o, none⟩)) name).run P w = .ok (f, v) w := by
  obtain ⟨k, rfl⟩ : ∃ k, K = k + 1 := ⟨K - 1, by omega⟩
  obtain ⟨i, m, hi, hm, hp, hf⟩ := meth_parts hm
  have e1 : (typeInfo T).run P w = .ok i w := by simp [typeInfo, hi]
  have e2 : (underlying T).run P w = .ok (.pointer E) w := run_underlying hu w
  have hw : ∀ (y : String), Builtin.ssaWrapNilChk_ #[T] T #[.pointer (some ⟨b, o, none⟩), strVal "", strVal y] = pure (.pointer (some ⟨b, o, none⟩)) := fun _ => rfl
  have he : (#[] : Array FieldStep).isEmpty = true := rfl
  unfold method
  rw [Sem.run_bind, e1, Result.andThen_ok]
  simp only [hm, hp, hf]
  rw [Sem.run_bind]
  simp only [follow, Sem.run_pure, Result.andThen_ok]
  rw [Sem.run_bind]
  unfold receiverAt
  rw [Sem.run_bind, e2, Result.andThen_ok]
  simp only [he, if_pos, Place.get, Sem.run_bind, Sem.run_pure, Result.andThen_ok, hw, asAddr, loadVar, hg, Bool.false_eq_true, if_false, run_load, h]
/-- A method on the pointer. -/
theorem meth_ptr {P : Program} {T E : TypeId} {name : String} {f : FuncId} (K b o : Nat) (w : World) (hK : 0 < K) (hm : ((P.info? T).bind fun i => (i.methods.find? (·.name == name)).bind fun m => m.func.map fun x => (m.path, x)) = some (#[], f, true)) (hu : P.underlying T = some (.pointer E)) :
    (method K T (.pointer (some ⟨b, o, none⟩)) name).run P w = .ok (f, .pointer (some ⟨b, o, none⟩)) w := by
  obtain ⟨k, rfl⟩ : ∃ k, K = k + 1 := ⟨K - 1, by omega⟩
  obtain ⟨i, m, hi, hm, hp, hf⟩ := meth_parts hm
  have e1 : (typeInfo T).run P w = .ok i w := by simp [typeInfo, hi]
  have e2 : (underlying T).run P w = .ok (.pointer E) w := run_underlying hu w
  unfold method
  rw [Sem.run_bind, e1, Result.andThen_ok]
  simp only [hm, hp, hf]
  rw [Sem.run_bind]
  simp only [follow, Sem.run_pure, Result.andThen_ok]
  rw [Sem.run_bind]
  unfold receiverAt
  rw [Sem.run_bind, e2, Result.andThen_ok]
  simp only [Place.get, Sem.run_pure, Result.andThen_ok]

/-- The numbers of a row that lies in a variable: both are the call's own. -/
structure Rw (base B o : Nat) (R : List Int) (v : Value) (W : World) : Prop where
  own : W.ownsRow base 3 1 v R.length (R.map (Value.int .i64))
  cell : W.cell? ⟨B, o, none⟩ = some v
  frz : W.frozen? ⟨B, o, none⟩ = false
  lt : B < W.heap.size
  ge : base ≤ B
  ne : v.ownBlock ≠ some B
  len : R.length ≤ 1000000
theorem Rw.below {base B o : Nat} {R : List Int} {v : Value} {W W' : World} (r : Rw base B o R v W) (hb : Below W.heap.size W W') : Rw base B o R v W' :=
  ⟨owned_below r.own hb, (hb.cell (p := ⟨B, o, none⟩) r.lt).trans r.cell, (hb.frozen (p := ⟨B, o, none⟩) r.lt).trans r.frz, Nat.lt_of_lt_of_le r.lt hb.size, r.ge, r.ne, r.len⟩
theorem Rw.at {base B o : Nat} {R : List Int} {v : Value} {W : World} (r : Rw base B o R v W) (h0 : 0 < R.length) : ∃ g cap, v = .slice (some ⟨g, 0, none⟩) R.length cap ∧ base ≤ g ∧ g < W.heap.size ∧ g ≠ B ∧ ∀ i : Int, 0 ≤ i → i < R.length → W.cell? ⟨g, i.toNat, none⟩ = some (.int .i64 (atL R i.toNat)) ∧ W.frozen? ⟨g, i.toNat, none⟩ = false := by
  rcases r.own.2 with ⟨-, h⟩ | ⟨g, cap, cur, rfl, hb, -⟩
  · omega
  · refine ⟨g, cap, rfl, hb, (r.own.lt g rfl).2, fun e => r.ne (by rw [e]; rfl), fun i i0 i1 => ⟨?_, r.own.frozenAt _⟩⟩
    rw [r.own.cellAt i.toNat (by omega)]
    have : i.toNat < R.length := by omega
    simp [at_get this, this]
set_option maxHeartbeats 1000000 in
theorem qless_any {base B o : Nat} {R : List Int} {v : Value} (a b : Int) (w : World) (r : Rw base B o R v w) (a0 : 0 ≤ a) (a1 : a < R.length) (b0 : 0 ≤ b) (b1 : b < R.length) :
    Calls Tryd.prog 109 #[v, .int .i64 a, .int .i64 b] w fun e w' => e = .returned (.bool (decide (atL R a.toNat < atL R b.toNat))) ∧ Below w.heap.size w w' := by
  obtain ⟨g, cap, rfl, hg, hl, -, hv⟩ := r.at (by omega)
  have va := (hv a a0 a1).1
  have vb := (hv b b0 b1).1
  have hlen := r.len
  clear hv r
  generalize atL R a.toNat = x at *
  generalize atL R b.toNat = y at *
  go_enter Tryd.func109, Tryd.ntmps109
  go_wp2
  go_region
  all_goals
    go_wp2
    go_returns
    exact ⟨rfl, by go_grown⟩
theorem qlen_any {base B o : Nat} {R : List Int} {v : Value} (w : World) (r : Rw base B o R v w) :
    Calls Tryd.prog 87 #[v] w fun e w' => e = .returned (.int .i64 R.length) ∧ Below w.heap.size w w' := by
  obtain ⟨p, cap, rfl, -⟩ := owned_new r.own
  clear r
  go_enter Tryd.func87, Tryd.ntmps87
  go_wp2
  go_returns
  exact ⟨rfl, by go_grown⟩
/-- A number stored. -/
theorem Rw.stored {base B o : Nat} {R : List Int} {g cap : Nat} {W : World} (r : Rw base B o R (.slice (some ⟨g, 0, none⟩) R.length cap) W) {i : Int} (i0 : 0 ≤ i) (i1 : i < R.length) (x : Int) : Rw base B o (R.set i.toNat x) (.slice (some ⟨g, 0, none⟩) R.length cap) (W.setCell ⟨g, i.toNat, none⟩ (.int .i64 x)) := by
  have hne : g ≠ B := fun e => r.ne (by rw [e]; rfl)
  refine ⟨?_, ?_, ?_, by simpa [World.setCell] using r.lt, r.ge, r.ne, by simpa using r.len⟩
  · have := (r.own.stored i.toNat (.int .i64 x)).1
    rw [List.length_set, List.map_set]
    exact this
  · rw [World.cell?_of_block (w := W) (a := ⟨B, o, none⟩) (Below.heap_setCell W ⟨g, i.toNat, none⟩ _ B (fun e => hne e.symm))]; exact r.cell
  · rw [World.frozen?_of_block (w := W) (a := ⟨B, o, none⟩) (Below.heap_setCell W ⟨g, i.toNat, none⟩ _ B (fun e => hne e.symm))]; exact r.frz
set_option maxHeartbeats 2000000 in
theorem qswap_any {base B o : Nat} {R : List Int} {v : Value} (a b : Int) (w : World) (r : Rw base B o R v w) (a0 : 0 ≤ a) (a1 : a < R.length) (b0 : 0 ≤ b) (b1 : b < R.length) :
    Calls Tryd.prog 110 #[v, .int .i64 a, .int .i64 b] w fun e w' => e = .returned (.tuple #[]) ∧ Rw base B o (swapL R a.toNat b.toNat) v w' ∧ Aside (fun k => v.ownBlock = some k) w w' := by
  obtain ⟨g, cap, rfl, hg, hl, -, hv⟩ := r.at (by omega)
  obtain ⟨va, fa⟩ := hv a a0 a1
  obtain ⟨vb, fb⟩ := hv b b0 b1
  have hlen := r.len
  have r1 := r.stored a0 a1 (atL R b.toNat)
  have r2 : Rw base B o (swapL R a.toNat b.toNat) (.slice (some ⟨g, 0, none⟩) R.length cap) ((w.setCell ⟨g, a.toNat, none⟩ (.int .i64 (atL R b.toNat))).setCell ⟨g, b.toNat, none⟩ (.int .i64 (atL R a.toNat))) := by
    have := Rw.stored (R := R.set a.toNat (atL R b.toNat)) (by simpa using r1) b0 (by simpa using b1) (atL R a.toNat)
    simpa [swapL] using this
  have hA : Aside (fun k => (Value.slice (some ⟨g, 0, none⟩) R.length cap).ownBlock = some k) w ((w.setCell ⟨g, a.toNat, none⟩ (.int .i64 (atL R b.toNat))).setCell ⟨g, b.toNat, none⟩ (.int .i64 (atL R a.toNat))) := Aside.setCell (T := fun k => (Value.slice (some ⟨g, 0, none⟩) R.length cap).ownBlock = some k) (Aside.setCell (T := fun k => (Value.slice (some ⟨g, 0, none⟩) R.length cap).ownBlock = some k) (Aside.of (Below.refl _ _)) (g := g) rfl _ _) (g := g) rfl _ _
  clear hv r r1
  generalize atL R a.toNat = x at *
  generalize atL R b.toNat = y at *
  by_cases e : a = b
  · subst e
    obtain rfl : x = y := by have := Option.some.inj (va.symm.trans vb); injection this
    go_enter Tryd.func110, Tryd.ntmps110
    go_region
    all_goals
      go_wp2
      go_returns
      exact ⟨rfl, r2.below (Below.refl _ _).drew, hA.trans (Aside.of (Below.refl _ _).drew)⟩
  · have hne : ¬ a.toNat = b.toNat := by omega
    have hne2 : ¬ b.toNat = a.toNat := by omega
    have vb2 : (w.setCell ⟨g, a.toNat, none⟩ (.int .i64 y)).cell? ⟨g, b.toNat, none⟩ = some (.int .i64 y) := (World.cell?_setCell_other _ _ _ _ (fun h => hne (by injection h))).trans vb
    go_enter Tryd.func110, Tryd.ntmps110
    go_region
    all_goals
      go_wp2
      go_returns
      exact ⟨rfl, r2.below (Below.refl _ _).drew, hA.trans (Aside.of (Below.refl _ _).drew)⟩
/-! The methods of the value behind the interface. -/
theorem row_agg (w : World) : (isAgg 98).run Tryd.prog w = .ok false w := by
  have hu2 : Tryd.prog.underlying 98 = some (.slice 3) := Tryd.underlying98
  simp [isAgg, run_underlying hu2]
theorem m_len (b o : Nat) (v : Value) (w : World) (h : w.cell? ⟨b, o, none⟩ = some v) : (method 236 102 (.pointer (some ⟨b, o, none⟩)) "Len").run Tryd.prog w = .ok (87, v) w :=
  meth_val 236 b o v w (by decide) (by kernel_rfl) Tryd.underlying102 Tryd.underlying98 (row_agg w) h
theorem m_less (b o : Nat) (v : Value) (w : World) (h : w.cell? ⟨b, o, none⟩ = some v) : (method 236 102 (.pointer (some ⟨b, o, none⟩)) "Less").run Tryd.prog w = .ok (109, v) w :=
  meth_val 236 b o v w (by decide) (by kernel_rfl) Tryd.underlying102 Tryd.underlying98 (row_agg w) h
theorem m_swap (b o : Nat) (v : Value) (w : World) (h : w.cell? ⟨b, o, none⟩ = some v) : (method 236 102 (.pointer (some ⟨b, o, none⟩)) "Swap").run Tryd.prog w = .ok (110, v) w :=
  meth_val 236 b o v w (by decide) (by kernel_rfl) Tryd.underlying102 Tryd.underlying98 (row_agg w) h
theorem m_push (b o : Nat) (w : World) : (method 236 102 (.pointer (some ⟨b, o, none⟩)) "Push").run Tryd.prog w = .ok (111, .pointer (some ⟨b, o, none⟩)) w :=
  meth_ptr 236 b o w (by decide) (by kernel_rfl) Tryd.underlying102
theorem m_pop (b o : Nat) (w : World) : (method 236 102 (.pointer (some ⟨b, o, none⟩)) "Pop").run Tryd.prog w = .ok (113, .pointer (some ⟨b, o, none⟩)) w :=
  meth_ptr 236 b o w (by decide) (by kernel_rfl) Tryd.underlying102
theorem eLen : ∀ args w, (callFunc 87 args).run Tryd.prog w = .ok (.enter 87 args) w := enters_of Tryd.func87 (by kernel_rfl) rfl
theorem eLess : ∀ args w, (callFunc 109 args).run Tryd.prog w = .ok (.enter 109 args) w := enters_of Tryd.func109 (by kernel_rfl) rfl
theorem eSwap : ∀ args w, (callFunc 110 args).run Tryd.prog w = .ok (.enter 110 args) w := enters_of Tryd.func110 (by kernel_rfl) rfl
theorem ePush : ∀ args w, (callFunc 111 args).run Tryd.prog w = .ok (.enter 111 args) w := enters_of Tryd.func111 (by kernel_rfl) rfl
end Go.Proofs.YtneanbagdkeoiaaDoor
