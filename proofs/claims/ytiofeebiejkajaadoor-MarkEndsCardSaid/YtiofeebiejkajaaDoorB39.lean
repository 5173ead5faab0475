/- slices.Clone at numbers, at values and at rows of structs that hold rows, by contracts: nil stays nil, else a row of the call's own. -/
import Derived.Test.YtiofeebiejkajaaDoorB29
import Derived.Test.YtiofeebiejkajaaDoorB36
namespace Go.Proofs.YtiofeebiejkajaaDoor
set_option linter.unusedSimpArgs false
set_option linter.unusedVariables false
open Go.ChangeShapes Go.WideShapes Go.ChangeAt Go.RowKit Go.Joins

/-- What an own row's slice tells of its block. -/
theorem owned_info {w : World} {N : Nat} {E : TypeId} {s : Nat} {p : Option Addr} {n c : Nat} {xs : List Value} (h : w.ownsRow N E s (.slice p n c) n xs) : ∀ b off sp, p = some ⟨b, off, sp⟩ → N ≤ b ∧ ∃ cs, w.heap[b]? = some (.cells cs E (0, 0)) := fun b off sp e => by
  obtain ⟨p1, c1, e1, hn⟩ := owned_new h
  injection e1 with e1 _ e2
  subst e1
  exact ⟨hn b off sp e, owned_tag h b off sp e⟩
theorem clone_ints (p : Option Addr) (n c : Nat) (z : Nat → Int) (w : World) (hz : GrAt w p c n z) (hn : n ≤ 1000000) :
    Calls Tryd.prog 64 #[.slice p n c] w fun e w' => ∃ p' c', e = .returned (.slice p' n c') ∧ GrAt w' p' c' n z ∧ (∀ b off sp, p' = some ⟨b, off, sp⟩ → w.heap.size ≤ b ∧ ∃ cs, w'.heap[b]? = some (.cells cs 3 (0, 0))) ∧ Below w.heap.size w w' := by
  have hnil : ∀ W : World, (binOp .eql 26 (.slice p n c) (.slice none 0 0)).run Tryd.prog W = .ok (.bool p.isNone) W := fun W => Lib.run_eql_slice_nil W 26 3 p n c 0 0 Tryd.underlying26
  obtain ⟨i0, hi, hz0, hz1, hz2⟩ := info_parts int_infoG
  cases p with
  | none =>
    obtain ⟨rfl, rfl⟩ := hz.pnil rfl
    have hnil' : ∀ W : World, (binOp .eql 26 (.slice none 0 0) (.slice none 0 0)).run Tryd.prog W = .ok (.bool true) W := hnil
    clear hnil
    go_enter Tryd.func64, Tryd.ntmps64
    go_wp2
    go_returns
    exact ⟨_, _, rfl, gr_nil _ _, fun b off sp e => (by cases e), Below.refl _ _⟩
  | some ad =>
    have hnil' : ∀ W : World, (binOp .eql 26 (.slice (some ad) n c) (.slice none 0 0)).run Tryd.prog W = .ok (.bool false) W := hnil
    clear hnil
    have hcell := ints_cellsB hz.ints
    have hwf := hz.ints.wf
    have hvl := vals_length .i64 n z
    have hv1 := vals_one .i64 n z
    have hcell0 := fun ad' e j u hj => Lib.cell?_alloc_some (.cells #[] 3) (hcell ad' e j u hj)
    have hb0 : Below w.heap.size w (w.alloc (.cells #[] 3)) := (Below.refl _ _).alloc (Nat.le_refl _) _
    have ho0 := ((nilB_new (N := w.heap.size) w 3 (Nat.le_refl _)).owns 1).1
    have hx1 : 0 + n ≤ maxLen := by simp only [maxLen]; omega
    have hx2 : (0 + n) * 8 ≤ 140737488355328 := by omega
    go_enter Tryd.func64, Tryd.ntmps64
    go_wp2_with (first
      | (at_builtin; refine wpList_append_row rfl (.tmp 5) (.tmp 6) 26 rfl w.heap.size 3 i0 (.int .i64 0) 1 8 Tryd.underlying26 hi hz0 hz1 hz2 rfl (by decide) _ 0 [] rfl ho0 (some ad) n c (vals .i64 n z) rfl (by simp [hvl]) hcell0 hv1 (fun e => by cases e) hx1 hx2 hb0.size ?_; intro v1 w1 hown1 hgrow1)
    )
    rw [Nat.zero_add, List.nil_append] at hown1
    obtain ⟨p1, c1, rfl, -⟩ := owned_new hown1
    go_returns
    exact ⟨_, _, rfl, gr_owned hown1 (by simp only [maxLen]; omega) (fun i hi => hwf i hi), owned_info hown1, hb0.grown hgrow1 hb0.size (fun k hk => (ho0.lt k hk).1)⟩
theorem clone_vals (p : Option Addr) (n c : Nat) (z : Nat → Vl) (w : World) (hz : VAt w p c n z) (hn : n ≤ 1000000) :
    Calls Tryd.prog 41 #[.slice p n c] w fun e w' => ∃ p' c', e = .returned (.slice p' n c') ∧ VAt w' p' c' n z ∧ (∀ b off sp, p' = some ⟨b, off, sp⟩ → w.heap.size ≤ b ∧ ∃ cs, w'.heap[b]? = some (.cells cs 38 (0, 0))) ∧ Below w.heap.size w w' := by
  have hnil : ∀ W : World, (binOp .eql 30 (.slice p n c) (.slice none 0 0)).run Tryd.prog W = .ok (.bool p.isNone) W := fun W => Lib.run_eql_slice_nil W 30 38 p n c 0 0 Tryd.underlying30
  obtain ⟨i0, hi, hz0, hz1, hz2⟩ := info_parts val_info
  cases p with
  | none =>
    obtain ⟨rfl, rfl⟩ := hz.pnil rfl
    have hnil' : ∀ W : World, (binOp .eql 30 (.slice none 0 0) (.slice none 0 0)).run Tryd.prog W = .ok (.bool true) W := hnil
    clear hnil
    go_enter Tryd.func41, Tryd.ntmps41
    go_wp2
    go_returns
    exact ⟨_, _, rfl, va_nil _ _, fun b off sp e => (by cases e), Below.refl _ _⟩
  | some ad =>
    have hnil' : ∀ W : World, (binOp .eql 30 (.slice (some ad) n c) (.slice none 0 0)).run Tryd.prog W = .ok (.bool false) W := hnil
    clear hnil
    have hcell := hz.row.cells
    have hwf := hz.row.wf
    have hvl := vlVals_length n z
    have hv1 := vlVals_one n z
    have hcell0 := fun ad' e j u hj => Lib.cell?_alloc_some (.cells #[] 38) (hcell ad' e j u hj)
    have hb0 : Below w.heap.size w (w.alloc (.cells #[] 38)) := (Below.refl _ _).alloc (Nat.le_refl _) _
    have ho0 := ((nilB_new (N := w.heap.size) w 38 (Nat.le_refl _)).owns 2).1
    have hx1 : 0 + n ≤ maxLen := by simp only [maxLen]; omega
    have hx2 : (0 + n) * 16 ≤ 140737488355328 := by omega
    go_enter Tryd.func41, Tryd.ntmps41
    go_wp2_with (first
      | (at_builtin; refine wpList_append_row rfl (.tmp 5) (.tmp 6) 30 rfl w.heap.size 38 i0 (.agg #[.int .i64 0, .int .i64 0]) 2 16 Tryd.underlying30 hi hz0 hz1 hz2 rfl (by decide) _ 0 [] rfl ho0 (some ad) n c (vlVals n z) rfl hvl hcell0 hv1 (fun e => by cases e) hx1 hx2 hb0.size ?_; intro v1 w1 hown1 hgrow1)
    )
    rw [Nat.zero_add, List.nil_append] at hown1
    obtain ⟨p1, c1, rfl, -⟩ := owned_new hown1
    go_returns
    exact ⟨_, _, rfl, va_owned hown1 (by simp only [maxLen]; omega) (fun i hi => hwf i hi), owned_info hown1, hb0.grown hgrow1 hb0.size (fun k hk => (ho0.lt k hk).1)⟩
/-- A row's elements, each as the list of its cells. -/
theorem rat_list {α : Type} {C : World → α → List Value → Prop} {s : Nat} {W : World} {p : Option Addr} {c n : Nat} {z : Nat → α} (h : RAt C s W p c n z) (hs : 0 < s) : ∃ L : List (List Value), L.length = n ∧ (∀ l ∈ L, l.length = s) ∧ (∀ k l, L[k]? = some l → C W (z k) l) ∧
    ∀ ad, p = some ad → ∀ j u, L.flatten[j]? = some u → W.cell? (ad.add j) = some u := by
  have each : ∀ i, i < n → ∃ l : List Value, l.length = s ∧ C W (z i) l ∧ ∀ ad, p = some ad → ∀ k u, l[k]? = some u → W.cell? (ad.add (i * s + k)) = some u := fun i hi => by
    obtain ⟨b, off, l, e, -, hl, hc, hx⟩ := h.row i hi
    refine ⟨l, hl, hx, fun ad ea k u hk => ?_⟩
    rw [e] at ea
    injection ea with ea
    subst ea
    have := hc k u hk
    rw [add_off, ← Nat.add_assoc]
    exact this
  obtain ⟨q, hq⟩ := Go.Deep.choose_lt (α := List Value) (h := each)
  have hlen : ((List.range n).map q).length = n := by simp
  have hget : ∀ k l, ((List.range n).map q)[k]? = some l → k < n ∧ q k = l := fun k l e => by
    have hk : k < n := by have := (List.getElem?_eq_some_iff.1 e).1; omega
    rw [List.getElem?_map, List.getElem?_range hk] at e
    exact ⟨hk, by simpa using e⟩
  have hall : ∀ l ∈ (List.range n).map q, l.length = s := fun l hl => by
    obtain ⟨k, hk⟩ := List.getElem?_of_mem hl
    obtain ⟨h1, rfl⟩ := hget k l hk
    exact (hq k h1).1
  refine ⟨(List.range n).map q, hlen, hall, fun k l e => ?_, fun ad ea j u hj => ?_⟩
  · obtain ⟨h1, rfl⟩ := hget k l e
    exact (hq k h1).2.1
  · have hjn : j < n * s := by
      have := (List.getElem?_eq_some_iff.1 hj).1
      rw [flatten_len _ hall, hlen] at this
      exact this
    have hk : j / s < n := (Nat.div_lt_iff_lt_mul hs).2 hjn
    have hg : ((List.range n).map q)[j / s]? = some (q (j / s)) := by rw [List.getElem?_map, List.getElem?_range hk]; rfl
    have hm : j % s < s := Nat.mod_lt _ hs
    have := flatten_get _ (j / s) (j % s) _ hall hg hm
    rw [show j / s * s + j % s = j by rw [Nat.mul_comm]; exact Nat.div_add_mod j s] at this
    rw [this] at hj
    have h2 := (hq (j / s) hk).2.2 ad ea (j % s) u hj
    rwa [show j / s * s + j % s = j by rw [Nat.mul_comm]; exact Nat.div_add_mod j s] at h2
theorem grE_one {N : Nat} {W : World} {g : Gy} {L : List Value} (h : GrE N W g L) : ∀ u ∈ L, u.oneCell' = true := by
  obtain ⟨p, c, rfl, -⟩ := h
  intro u hu
  simp only [List.mem_cons, List.not_mem_nil, or_false] at hu
  rcases hu with rfl | rfl <;> rfl
theorem clone_greys (N : Nat) (p : Option Addr) (n c : Nat) (z : Nat → Gy) (w : World) (hz : RAt (GrE N) 2 w p c n z) (h0 : 0 < n) (hn : n ≤ 1000000) :
    Calls Tryd.prog 63 #[.slice p n c] w fun e w' => ∃ v, e = .returned v ∧ GrowR w.heap.size 28 2 (GrE N) n z v w' ∧ Below w.heap.size w w' := by
  have hnil : ∀ W : World, (binOp .eql 29 (.slice p n c) (.slice none 0 0)).run Tryd.prog W = .ok (.bool p.isNone) W := fun W => Lib.run_eql_slice_nil W 29 28 p n c 0 0 Tryd.underlying29
  obtain ⟨i0, hi, hz0, hz1, hz2⟩ := info_parts grey_info
  obtain ⟨L, hL, hl2, hC, hcell⟩ := rat_list hz (by decide)
  cases p with
  | none => have := (hz.pnil rfl).1; omega
  | some ad =>
    have hnil' : ∀ W : World, (binOp .eql 29 (.slice (some ad) n c) (.slice none 0 0)).run Tryd.prog W = .ok (.bool false) W := hnil
    clear hnil
    have hvl : L.flatten.length = n * 2 := by rw [flatten_len L hl2, hL]
    have hv1 : ∀ u ∈ L.flatten, u.oneCell' = true := fun u hu => by
      obtain ⟨l, hl, hu⟩ := List.mem_flatten.1 hu
      obtain ⟨k, hk⟩ := List.getElem?_of_mem hl
      exact grE_one (hC k l hk) u hu
    have hcell0 := fun ad' e j u hj => Lib.cell?_alloc_some (.cells #[] 28) (hcell ad' e j u hj)
    have hb0 : Below w.heap.size w (w.alloc (.cells #[] 28)) := (Below.refl _ _).alloc (Nat.le_refl _) _
    have ho0 := ((nilB_new (N := w.heap.size) w 28 (Nat.le_refl _)).owns 2).1
    have hx1 : 0 + n ≤ maxLen := by simp only [maxLen]; omega
    have hx2 : (0 + n) * 32 ≤ 140737488355328 := by omega
    generalize hX : L.flatten = X at *
    go_enter Tryd.func63, Tryd.ntmps63
    go_wp2_with (first
      | (at_builtin; refine wpList_append_row rfl (.tmp 5) (.tmp 6) 29 rfl w.heap.size 28 i0 (.agg #[.int .i64 0, .slice none 0 0]) 2 32 Tryd.underlying29 hi hz0 hz1 hz2 rfl (by decide) _ 0 [] rfl ho0 (some ad) n c X rfl hvl hcell0 hv1 (fun e => by cases e) hx1 hx2 hb0.size ?_; intro v1 w1 hown1 hgrow1)
    )
    rw [Nat.zero_add, List.nil_append, ← hX] at hown1
    have hbw := hb0.grown hgrow1 hb0.size (fun k hk => (ho0.lt k hk).1)
    go_returns
    exact ⟨_, rfl, ⟨L, hL, hl2, ⟨hown1, fun e => by omega⟩, fun k l hk => grE_below _ _ _ _ (hC k l hk) hbw⟩, hbw⟩
end Go.Proofs.YtiofeebiejkajaaDoor
