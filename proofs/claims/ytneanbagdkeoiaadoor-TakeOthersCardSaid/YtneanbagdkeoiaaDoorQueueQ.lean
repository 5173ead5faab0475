/- Contracts of the queue (chapter 10). -/
import Derived.Test.YtneanbagdkeoiaaDoorQueueM
import Derived.Lib.SliceRun
namespace Go.Proofs.YtneanbagdkeoiaaDoor
set_option linter.unusedSimpArgs false
set_option linter.unusedVariables false
open Go.ChangeShapes Go.WideShapes Go.ChangeAt Go.RowKit Go.Joins

/-- A row of numbers as a list. -/
def listZ (n : Nat) (z : Nat → Int) : List Int := (List.range n).map z
theorem listZ_len (n : Nat) (z : Nat → Int) : (listZ n z).length = n := by simp [listZ]
theorem listZ_vals (n : Nat) (z : Nat → Int) : (listZ n z).map (Value.int .i64) = vals .i64 n z := by simp [listZ, vals, Function.comp]
/-- What is appended may be of another slice type. -/
theorem append_type {P : Program} {t tx ty e ex : TypeId} (ht : P.underlying t = some (.slice e)) (hx : P.underlying tx = some (.slice ex)) (s x : Value) (w : World) : (Builtin.append_ #[t, tx] ty #[s, x]).run P w = (Builtin.append_ #[t, t] ty #[s, x]).run P w := by
  cases s <;> simp [Builtin.append_, run_underlying ht, run_underlying hx]
theorem wpList_append_ints2 {P : Program} {w : World} {ops : Array Oper} {rest : List Oper} {o : Oper} {a : Act} {Q : Exit → Act → World → Prop} (hgd : o.guard = none) (s x : Operand) (t tx : TypeId)
    (ho : o.op = .call { callee := .builtin .append, args := #[s, x], argTypes := #[t, tx] })
    (base : Nat) (e ex : TypeId) (i : TypeInfo) (z0 : Value) (bytes : Nat) (ht : P.underlying t = some (.slice e)) (htx : P.underlying tx = some (.slice ex)) (hi : P.info? e = some i) (hz : i.zero = some z0) (hsize : i.size = 1) (hby : i.bytes = bytes) (hzs : z0.cells.size = 1)
    (v : Value) (m : Nat) (xs : List Value) (hs : a.eval s = v) (hown : w.ownsRow base e 1 v m xs)
    (k : IntKind) (p : Option Addr) (n cap : Nat) (z : Nat → Int) (hx : a.eval x = .slice p n cap) (hin : Ints k w p n z) (hq : p = none → n = 0 ∧ cap = 0)
    (h63 : m + n ≤ maxLen) (hbytes : (m + n) * bytes ≤ 140737488355328) (hbase : base ≤ w.heap.size)
    (h : ∀ v' w', w'.ownsRow base e 1 v' (m + n) (xs ++ vals k n z) → w.grownBy w' v.ownBlock → wpList P ops Q rest (a.put o.dst v') w') : wpList P ops Q (o :: rest) a w := by
  refine wpList_plain hgd fun K hK => ?_
  have hrun : ∃ v' w', (Builtin.append_ #[t, t] o.type #[v, .slice p n cap]).run P w = .ok v' w' ∧ w'.ownsRow base e 1 v' (m + n) (xs ++ vals k n z) ∧ w.grownBy w' v.ownBlock := by
    cases p with
    | none =>
      obtain ⟨rfl, rfl⟩ := hq rfl
      exact ⟨v, w, run_append_owned_none (P := P) (w := w) base t o.type e i 1 ht hi v m xs hown, by simpa [vals] using hown, World.grownBy.refl _ _⟩
    | some ad =>
      obtain ⟨v', w', h1, h2, h3, -⟩ := run_append_own (P := P) w base t o.type e i z0 1 bytes ht hi hz hsize hby hzs (by decide) v m xs hown ad n cap (vals k n z) (by simp [vals_length]) (fun j u hj => by
        have hjn : j < n := by
          have := (List.getElem?_eq_some_iff.1 hj).1
          rwa [vals_length] at this
        obtain ⟨ad', e', hc⟩ := hin.cells (by omega)
        injection e' with e'
        subst e'
        exact hc j u hj) (vals_one _ _ _) h63 hbytes hbase
      exact ⟨v', w', h1, h2, h3⟩
  obtain ⟨v', w', hr, h2, h3⟩ := hrun
  have hr2 := append_type (P := P) (ty := o.type) ht htx v (.slice p n cap) w
  rw [hr] at hr2
  unfold Oper.wp
  simp [execOp, ho, resolve, invoke, builtin, hs, hx, hr2, Result.andThen]
  exact hK _ _ (h v' w' h2 h3)
set_option maxHeartbeats 2000000 in
theorem qnew_any (p : Option Addr) (n c : Nat) (z : Nat → Int) (w : World) (hin : Ints .i64 w p n z) (hq : p = none → n = 0 ∧ c = 0) (hn : n ≤ 1000000) :
    Calls Tryd.prog 52 #[.slice p n c] w fun e w' => ∃ b v R, e = .returned (.pointer (some ⟨b, 0, none⟩)) ∧ Rw w.heap.size b 0 R v w' ∧ R.Perm (listZ n z) ∧ HeapL R ∧ Below w.heap.size w w' := by
  obtain ⟨i0, hi, hz0, hz1, hz2⟩ := info_parts int_infoQ
  go_enter Tryd.func52, Tryd.ntmps52
  go_upto_region 1 with fail
  go_upto_region 2 with (first
    | (at_builtin; refine wpList_append_ints2 rfl (.const (.slice none 0 0)) (.tmp 4) 98 43 rfl w.heap.size 3 3 i0 (.int .i64 0) 8 Tryd.underlying98 Tryd.underlying43 hi hz0 hz1 hz2 rfl (.slice none 0 0) 0 [] rfl (World.ownsRow_nil _ _ _ _) .i64 _ _ _ z rfl (hin.below (by go_grown)) hq (by simp only [maxLen]; omega) (by omega) (by first | (simp; done) | (simp; omega)) ?_; intro v w1 hown hgrow; obtain ⟨pv, cv, rfl, hpv⟩ := owned_new hown)
  )
  simp only [Nat.zero_add, List.nil_append] at hown
  rw [← listZ_vals, ← listZ_len n z] at hown
  have hb : Below w.heap.size w w1 := (Below.refl _ _).grown hgrow (Nat.le_refl _) (fun k hk => by cases hk)
  obtain ⟨w2, hw2⟩ : ∃ W, W = w1.alloc (.cells #[.slice pv n cv] 100) := ⟨_, rfl⟩
  have hB2 : Below w1.heap.size w1 w2 := by rw [hw2]; exact (Below.refl _ _).alloc (Nat.le_refl _) _
  have r : Rw w.heap.size w1.heap.size 0 (listZ n z) (.slice pv n cv) w2 := by
    have hg := heap_alloc_new w1 (.cells #[.slice pv n cv] 100)
    rw [← hw2] at hg
    refine ⟨owned_below (by rw [listZ_len] at hown ⊢; exact hown) hB2, ?_, ?_, by rw [hw2]; simp, hb.size, fun e => ?_, by rw [listZ_len]; exact hn⟩
    · rw [cell_of_row _ _ _ _ _ _ hg]; rfl
    · exact frozen_of_row w2 _ _ _ _ hg
    · rw [listZ_len] at hown
      exact Nat.lt_irrefl _ (hown.lt _ e).2
  have hI := init_any w2 r
  rw [← hw2]
  have hsz := hb.size
  have hb2 := bjoin hB2 hb
  clear hw2 hB2 hgrow
  generalize w1.heap.size = b at *
  go_wp2_with (first
    | (go_at_call 71; refine Calls.mono hI ?_; rintro e w3 ⟨rfl, R', r', hp, hh, hA⟩)
  )
  go_returns
  refine ⟨b, _, R', rfl, r', hp, hh, hb2.trans (hA.below hb2.size fun k hk => ?_)⟩
  exact (r.own.lt k hk).1
/-- A queue: its numbers lie in a row of its own, as a heap. -/
structure Qu (base b : Nat) (R : List Int) (v : Value) (W : World) : Prop where
  row : Rw base b 0 R v W
  heap : HeapL R
theorem Qu.below {base b : Nat} {R : List Int} {v : Value} {W W' : World} (q : Qu base b R v W) (hb : Below W.heap.size W W') : Qu base b R v W' := ⟨q.row.below hb, q.heap⟩
/-- What turns when something is done with a queue. -/
def QT (b : Nat) (v : Value) : Nat → Prop := fun k => k = b ∨ v.ownBlock = some k
theorem Qu.turns {base b : Nat} {R : List Int} {v : Value} {W : World} (q : Qu base b R v W) : ∀ k, QT b v k → base ≤ k ∧ k < W.heap.size := fun k h => by
  rcases h with rfl | h
  · exact ⟨q.row.ge, q.row.lt⟩
  · exact ⟨(q.row.own.lt k h).1, (q.row.own.lt k h).2⟩
theorem Qu.stays {base b : Nat} {R : List Int} {v : Value} {W W' : World} (q : Qu base b R v W) (hA : Aside (QT b v) W W') : Below base W W' := hA.below (Nat.le_trans q.row.ge (Nat.le_of_lt q.row.lt)) fun k h => (q.turns k h).1
set_option maxHeartbeats 2000000 in
theorem qpushQ_any {base b : Nat} {R : List Int} {v : Value} (x : Int) (w : World) (q : Qu base b R v w) (hl : R.length < 1000000) :
    Calls Tryd.prog 53 #[.pointer (some ⟨b, 0, none⟩), .int .i64 x] w fun e w' => e = .returned (.tuple #[]) ∧ ∃ R' v', Qu base b R' v' w' ∧ R'.Perm (x :: R) ∧ (v'.ownBlock = v.ownBlock ∨ ∃ g, v'.ownBlock = some g ∧ w.heap.size ≤ g) ∧ Aside (QT b v) w w' := by
  have hP := hpush_any x w q.row hl q.heap
  go_enter Tryd.func53, Tryd.ntmps53
  go_wp2_with (first
    | (go_at_call 72; refine Calls.mono hP ?_; rintro e w1 ⟨rfl, R', v', r', hp, hh, hv, hA⟩)
  )
  go_returns
  exact ⟨rfl, R', v', ⟨r', hh⟩, hp, hv, hA⟩
theorem qlenQ_any {base b : Nat} {R : List Int} {v : Value} (w : World) (q : Qu base b R v w) :
    Calls Tryd.prog 73 #[.pointer (some ⟨b, 0, none⟩)] w fun e w' => e = .returned (.int .i64 R.length) ∧ Below w.heap.size w w' := by
  have hL := qlen_any w q.row
  have hc := q.row.cell
  have hlen := q.row.len
  obtain ⟨p, cap, rfl, -⟩ := owned_new q.row.own
  go_enter Tryd.func73, Tryd.ntmps73
  go_wp2_with (first
    | (go_at_call 87; refine Calls.mono (hL) ?_; rintro e w' ⟨rfl, hb⟩; obtain ⟨hc, hf, hb, hz⟩ := bstep hb (w := w) (by go_grown); try simp only [World.size_alloc, World.size_setCell, World.size_drew] at hc hf hz)
  )
  go_returns
  exact ⟨rfl, by go_grown⟩
set_option maxHeartbeats 2000000 in
theorem qleast_some {base b : Nat} {R : List Int} {v : Value} (n : Nat) (w : World) (q : Qu base b R v w) (hn : R.length = n + 1) :
    Calls Tryd.prog 54 #[.pointer (some ⟨b, 0, none⟩)] w fun e w' => e = .returned (.tuple #[.int .i64 (atL R 0), .bool true]) ∧ Below w.heap.size w w' := by
  have hL := qlenQ_any w q
  obtain ⟨g, cap, rfl, -, hgl, -, hv⟩ := q.row.at (by omega)
  have hc := q.row.cell
  have hB := q.row.lt
  have hlen := q.row.len
  have v0 := (hv 0 (by omega) (by omega)).1
  rw [Int.toNat_zero] at v0
  rw [hn] at hc hlen hL
  generalize atL R 0 = x at *
  clear hv
  have hn0 : (((n + 1 : Nat) : Int) == 0) = false := by simp; omega
  go_enter Tryd.func54, Tryd.ntmps54
  go_upto_region 1 with fail
  obtain ⟨hcB, hfB, hbB, hzB⟩ := bstep (Below.refl w.heap.size w) (w := w) (Below.refl _ _)
  go_wp2_with (first
    | (go_at_call 73; refine Calls.mono (hL) ?_; rintro e w' ⟨rfl, hb⟩; obtain ⟨hc, hf, hb, hz⟩ := bstep hb (w := w) (by go_grown); try simp only [World.size_alloc, World.size_setCell, World.size_drew] at hc hf hz)
  )
  go_returns
  exact ⟨rfl, by go_grown⟩
theorem qleast_none {base b : Nat} {v : Value} (w : World) (q : Qu base b [] v w) :
    Calls Tryd.prog 54 #[.pointer (some ⟨b, 0, none⟩)] w fun e w' => e = .returned (.tuple #[.int .i64 0, .bool false]) ∧ Below w.heap.size w w' := by
  have hL := qlenQ_any w q
  go_enter Tryd.func54, Tryd.ntmps54
  go_wp2_with (first
    | (go_at_call 73; refine Calls.mono (hL) ?_; rintro e w' ⟨rfl, hb⟩; obtain ⟨hc, hf, hb, hz⟩ := bstep hb (w := w) (by go_grown); try simp only [World.size_alloc, World.size_setCell, World.size_drew] at hc hf hz)
  )
  go_returns
  exact ⟨rfl, by go_grown⟩
end Go.Proofs.YtneanbagdkeoiaaDoor
