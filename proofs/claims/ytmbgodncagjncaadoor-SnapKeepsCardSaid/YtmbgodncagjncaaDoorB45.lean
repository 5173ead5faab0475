/- slices.Clone at numbers, at values and at rows of structs that hold rows, by contracts: nil stays nil, else a row of the call's own. -/
import Derived.Test.YtmbgodncagjncaaDoorB11
import Derived.Test.YtmbgodncagjncaaDoorB36
import Derived.Test.YtmbgodncagjncaaDoorB32
import Derived.Lib.AppendZerosOnto
import Derived.Laws.AppendOwnNone
namespace Go.Proofs.YtmbgodncagjncaaDoor
set_option linter.unusedSimpArgs false
set_option linter.unusedVariables false
open Go.ChangeShapes Go.WideShapes Go.ChangeAt Go.RowKit Go.Joins

/-- What an own row's slice tells of its block. -/
theorem owned_info {w : World} {N : Nat} {E : TypeId} {s : Nat} {p : Option Addr} {n c : Nat} {xs : List Value} (h : w.ownsRow N E s (.slice p n c) n xs) : ∀ b off sp, p = some ⟨b, off, sp⟩ → N ≤ b ∧ ∃ cs, w.heap[b]? = some (.cells cs E (0, 0)) := fun b off sp e => by
  obtain ⟨p1, c1, e1, hn⟩ := owned_new h
  injection e1 with e1 _ e2
  subst e1
  exact ⟨hn b off sp e, owned_tag h b off sp e⟩
theorem clone_vals (p : Option Addr) (n c : Nat) (z : Nat → Vl) (w : World) (hz : VAt w p c n z) (hn : n ≤ 1000000) :
    Calls Tryd.prog 52 #[.slice p n c] w fun e w' => ∃ p' c', e = .returned (.slice p' n c') ∧ VAt w' p' c' n z ∧ (∀ b off sp, p' = some ⟨b, off, sp⟩ → w.heap.size ≤ b ∧ ∃ cs, w'.heap[b]? = some (.cells cs 46 (0, 0))) ∧ Below w.heap.size w w' := by
  have hnil : ∀ W : World, (binOp .eql 35 (.slice p n c) (.slice none 0 0)).run Tryd.prog W = .ok (.bool p.isNone) W := fun W => Lib.run_eql_slice_nil W 35 46 p n c 0 0 Tryd.underlying35
  obtain ⟨i0, hi, hz0, hz1, hz2⟩ := info_parts val_info
  cases p with
  | none =>
    obtain ⟨rfl, rfl⟩ := hz.pnil rfl
    have hnil' : ∀ W : World, (binOp .eql 35 (.slice none 0 0) (.slice none 0 0)).run Tryd.prog W = .ok (.bool true) W := hnil
    clear hnil
    go_enter Tryd.func52, Tryd.ntmps52
    go_wp2
    go_returns
    exact ⟨_, _, rfl, va_nil _ _, fun b off sp e => (by cases e), Below.refl _ _⟩
  | some ad =>
    have hnil' : ∀ W : World, (binOp .eql 35 (.slice (some ad) n c) (.slice none 0 0)).run Tryd.prog W = .ok (.bool false) W := hnil
    clear hnil
    have hcell := hz.row.cells
    have hwf := hz.row.wf
    have hvl := vlVals_length n z
    have hv1 := vlVals_one n z
    have hcell0 := fun ad' e j u hj => Lib.cell?_alloc_some (.cells #[] 46) (hcell ad' e j u hj)
    have hb0 : Below w.heap.size w (w.alloc (.cells #[] 46)) := (Below.refl _ _).alloc (Nat.le_refl _) _
    have ho0 := ((nilB_new (N := w.heap.size) w 46 (Nat.le_refl _)).owns 2).1
    have hx1 : 0 + n ≤ maxLen := by simp only [maxLen]; omega
    have hx2 : (0 + n) * 16 ≤ 140737488355328 := by omega
    go_enter Tryd.func52, Tryd.ntmps52
    go_wp2_with (first
      | (at_builtin; refine wpList_append_row rfl (.tmp 5) (.tmp 6) 35 rfl w.heap.size 46 i0 (.agg #[.int .i64 0, .int .i64 0]) 2 16 Tryd.underlying35 hi hz0 hz1 hz2 rfl (by decide) _ 0 [] rfl ho0 (some ad) n c (vlVals n z) rfl hvl hcell0 hv1 (fun e => by cases e) hx1 hx2 hb0.size ?_; intro v1 w1 hown1 hgrow1)
    )
    rw [Nat.zero_add, List.nil_append] at hown1
    obtain ⟨p1, c1, rfl, -⟩ := owned_new hown1
    go_returns
    exact ⟨_, _, rfl, va_owned hown1 (by simp only [maxLen]; omega) (fun i hi => hwf i hi), owned_info hown1, hb0.grown hgrow1 hb0.size (fun k hk => (ho0.lt k hk).1)⟩
end Go.Proofs.YtmbgodncagjncaaDoor
namespace Go.Proofs.YtmbgodncagjncaaDoor
set_option linter.unusedSimpArgs false
set_option linter.unusedVariables false
open Go.ChangeShapes Go.WideShapes Go.ChangeAt Go.RowKit Go.Joins

set_option maxRecDepth 20000 in
theorem growI_any (n : Nat) (w : World) (h0 : 1 ≤ n) (h1 : n ≤ 1000001) :
    Calls Tryd.prog 70 #[.slice none 0 0, .int .i64 n] w fun e w' => ∃ p' c', e = .returned (.slice p' 0 c') ∧ w'.ownsRow w.heap.size 3 1 (.slice p' 0 c') 0 [] ∧ Below w.heap.size w w' := by
  obtain ⟨i0, hi, hz0, hz1, hz2⟩ := info_parts int_infoG
  have hrz : ∀ ty, (Builtin.append_ #[31, 3] ty #[.slice none 0 0, .int .i64 n]).run Tryd.prog w = _ := fun ty =>
    Lib.run_append_nil_zeros w 31 3 ty 3 i0 (.int .i64 0) .i64 .i64 Tryd.underlying31 Tryd.underlying3 hi hz0 n h0 (by rw [hz1]; decide) (by omega) (by rw [hz2]; omega)
  have hG := grownCap_ge w n 0 3
  have hG2 := grownCap_le_maxLen w n 0 3 (by unfold maxLen; omega)
  generalize grownCap w n 0 3 = G at *
  obtain ⟨w2, hw2⟩ : ∃ w2, w2 = w.drew.alloc (.cells (Builtin.zeroCells (Value.int .i64 0).cells n ++ Builtin.zeroCells (Value.int .i64 0).cells (G - n)) 3) := ⟨_, rfl⟩
  have hsz : (Builtin.zeroCells (Value.int .i64 0).cells n ++ Builtin.zeroCells (Value.int .i64 0).cells (G - n)).size = G * 1 := by
    simp only [Array.size_append, Go.size_zeroCells]; show n * 1 + (G - n) * 1 = G * 1; omega
  have hown : w2.ownsRow w.heap.size 3 1 (.slice (some ⟨w.heap.size, 0, none⟩) 0 G) 0 [] := by
    rw [hw2]
    exact World.ownsRow_made w.drew _ G (Nat.le_refl _) hG2 hsz
  have hb : Below w.heap.size w w2 := by rw [hw2]; exact (show Below w.heap.size w w.drew from ⟨rfl, rfl, rfl, Nat.le_refl _, fun _ _ => rfl⟩).alloc (Nat.le_refl _) _
  rw [← hw2] at hrz
  simp only [maxLen] at hG2
  clear hw2 hsz
  go_enter Tryd.func70, Tryd.ntmps70
  go_wp2_with (at_builtin; refine Lib.wpList_append_run _ rfl _ _ _ _ rfl _ _ rfl rfl _ _ (hrz _) ?_)
  go_returns
  exact ⟨_, _, rfl, hown, hb⟩
set_option maxHeartbeats 4000000 in
set_option maxRecDepth 20000 in
theorem concatI_any (b : Nat) (p q : Option Addr) (n c m d : Nat) (z y : Nat → Int) (w : World) (hlt : b < w.heap.size) (g0 : w.cell? ⟨b, 0, none⟩ = some (.slice p n c)) (g1 : w.cell? ⟨b, 1, none⟩ = some (.slice q m d))
    (hZ : Ints .i64 w p n z) (hY : Ints .i64 w q m y) (hZq : p = none → n = 0 ∧ c = 0) (hYq : q = none → m = 0 ∧ d = 0) (h0 : 1 ≤ n + m) (h1 : n + m ≤ 1000001) :
    Calls Tryd.prog 50 #[.slice (some ⟨b, 0, none⟩) 2 2] w fun e w' => ∃ p' c', e = .returned (.slice p' (n + m : Nat) c') ∧ w'.ownsRow w.heap.size 3 1 (.slice p' (n + m) c') (n + m) (vals .i64 n z ++ vals .i64 m y) ∧ Below w.heap.size w w' := by
  obtain ⟨i0, hi, hz0, hz1, hz2⟩ := info_parts int_infoG
  go_enter Tryd.func50, Tryd.ntmps50
  go_wp2
  go_loopg [3, 11] 2 (fun g sv iv wr => (g = 2 ∧ iv = .int .i64 0 ∧ sv = .int .i64 0 ∨ g = 1 ∧ iv = .int .i64 1 ∧ sv = .int .i64 n ∨ g = 0 ∧ iv = .int .i64 2 ∧ sv = .int .i64 ((n : Int) + m)) ∧ Below w.heap.size w wr)
  case atStart => exact ⟨.inl ⟨rfl, rfl, rfl⟩, Below.refl _ _⟩
  case round =>
    obtain ⟨hcase, hbw⟩ := hrel
    have e0 := (hbw.cell (p := ⟨b, 0, none⟩) hlt).trans g0
    have e1 := (hbw.cell (p := ⟨b, 1, none⟩) hlt).trans g1
    rcases hcase with ⟨rfl, rfl, rfl⟩ | ⟨rfl, rfl, rfl⟩ | ⟨rfl, rfl, rfl⟩
    · go_wp2
      go_roundg 1
      case measure => omega
      case rel => exact ⟨.inr (.inl ⟨rfl, rfl, rfl⟩), hbw⟩
    · have hnn : ¬ (n : Int) + m < 0 := by omega
      go_wp2
      go_roundg 0
      case measure => omega
      case rel => exact ⟨.inr (.inr ⟨rfl, rfl, rfl⟩), hbw⟩
    · have hG := growI_any (n + m) wr h0 (by omega)
      rw [Int.natCast_add] at hG
      go_upto_region 10 with (first
    | (go_at_call 70; refine Calls.mono (hG) ?_; rintro e w' ⟨p9, c9, rfl, ho9, hb⟩; obtain ⟨hc, hf, hb, hz⟩ := bstep hb (w := wr) (by go_grown); try simp only [World.size_alloc, World.size_setCell, World.size_drew] at hc hf hz)
      )
      have hsz := hbw.size
      have hbx : Below w.heap.size w w' := hbw.trans (hb.mono hsz)
      have hox := owned_base ho9 hsz
      clear hb hc hf hbw ho9 e0 e1 hG
      generalize w' = w9 at *
      go_wp2
      go_loopg [6, 27] 2 (fun g ov iv wr => (g = 2 ∧ iv = .int .i64 0 ∧ wr.ownsRow w.heap.size 3 1 ov 0 [] ∨ g = 1 ∧ iv = .int .i64 1 ∧ wr.ownsRow w.heap.size 3 1 ov n (vals .i64 n z) ∨ g = 0 ∧ iv = .int .i64 2 ∧ wr.ownsRow w.heap.size 3 1 ov (n + m) (vals .i64 n z ++ vals .i64 m y)) ∧ Below w.heap.size w wr)
      case atStart => exact ⟨.inl ⟨rfl, rfl, hox⟩, hbx⟩
      case round =>
        obtain ⟨hcase, hbw⟩ := hrel
        have hsz := hbw.size
        have e0 := (hbw.cell (p := ⟨b, 0, none⟩) hlt).trans g0
        have e1 := (hbw.cell (p := ⟨b, 1, none⟩) hlt).trans g1
        rcases hcase with ⟨rfl, rfl, ho⟩ | ⟨rfl, rfl, ho⟩ | ⟨rfl, rfl, ho⟩
        · go_wp2_with (first
            | (at_builtin; refine wpList_append_row rfl (.tmp 31) (.tmp 32) 31 rfl w.heap.size 3 i0 (.int .i64 0) 1 8 Tryd.underlying31 hi hz0 hz1 hz2 rfl (by decide) _ _ _ rfl ho p n c (vals .i64 n z) rfl (by simp [vals_length]) (ints_cellsB (hZ.below hbw)) (vals_one _ _ _) hZq (by simp only [maxLen]; omega) (by omega) hsz ?_; intro ov w1 ho1 hgrow)
          )
          have hb1 := hbw.grown hgrow hsz (fun k hk => (ho.lt k hk).1)
          rw [List.nil_append, Nat.zero_add] at ho1
          go_roundg 1
          case measure => omega
          case rel => exact ⟨.inr (.inl ⟨rfl, rfl, ho1⟩), hb1⟩
        · go_wp2_with (first
            | (at_builtin; refine wpList_append_row rfl (.tmp 31) (.tmp 32) 31 rfl w.heap.size 3 i0 (.int .i64 0) 1 8 Tryd.underlying31 hi hz0 hz1 hz2 rfl (by decide) _ _ _ rfl ho q m d (vals .i64 m y) rfl (by simp [vals_length]) (ints_cellsB (hY.below hbw)) (vals_one _ _ _) hYq (by simp only [maxLen]; omega) (by omega) hsz ?_; intro ov w1 ho1 hgrow)
          )
          have hb1 := hbw.grown hgrow hsz (fun k hk => (ho.lt k hk).1)
          go_roundg 0
          case measure => omega
          case rel => exact ⟨.inr (.inr ⟨rfl, rfl, ho1⟩), hb1⟩
        · obtain ⟨pp, cc, ff, -⟩ := owned_new ho
          rw [ff] at ho ⊢
          clear ff
          go_wp2
          go_returns
          exact ⟨pp, cc, rfl, ho, hbw⟩
end Go.Proofs.YtmbgodncagjncaaDoor
