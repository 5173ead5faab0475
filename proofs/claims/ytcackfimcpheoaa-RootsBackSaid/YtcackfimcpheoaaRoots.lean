/- Contracts of the code's roots (chapter 14), and of slices.Grow and slices.Concat at values. -/
import Derived.Test.YtcackfimcpheoaaRef14
import Derived.Lib.AppendZerosOnto
import Derived.Laws.AppendOwnNone
namespace Go.Proofs.Ytcackfimcpheoaa
set_option linter.unusedSimpArgs false
set_option linter.unusedVariables false
open Go.ChangeShapes Go.WideShapes Go.ChangeAt Go.RowKit Go.Joins

/-- 'append(s, x...)', s the call's own, x a row of such cells: nil, empty or not. -/
theorem wpList_append_row {P : Program} {w : World} {ops : Array Oper} {rest : List Oper} {o : Oper} {a : Act} {Q : Exit → Act → World → Prop} (hgd : o.guard = none) (s x : Operand) (t : TypeId)
    (ho : o.op = .call { callee := .builtin .append, args := #[s, x], argTypes := #[t, t] })
    (base : Nat) (e : TypeId) (i : TypeInfo) (z0 : Value) (size bytes : Nat) (ht : P.underlying t = some (.slice e)) (hi : P.info? e = some i) (hz : i.zero = some z0) (hsize : i.size = size) (hby : i.bytes = bytes) (hzs : z0.cells.size = size) (hsz : 0 < size)
    (v : Value) (m : Nat) (xs : List Value) (hs : a.eval s = v) (hown : w.ownsRow base e size v m xs)
    (p : Option Addr) (n cap : Nat) (ys : List Value) (hx : a.eval x = .slice p n cap) (hl : ys.length = n * size) (hcells : ∀ ad, p = some ad → ∀ j u, ys[j]? = some u → w.cell? (ad.add j) = some u) (h1 : ∀ u ∈ ys, u.oneCell' = true) (hq : p = none → n = 0 ∧ cap = 0)
    (h63 : m + n ≤ maxLen) (hbytes : (m + n) * bytes ≤ 140737488355328) (hbase : base ≤ w.heap.size)
    (h : ∀ v' w', w'.ownsRow base e size v' (m + n) (xs ++ ys) → w.grownBy w' v.ownBlock → wpList P ops Q rest (a.put o.dst v') w') : wpList P ops Q (o :: rest) a w := by
  cases p with
  | none =>
    obtain ⟨rfl, rfl⟩ := hq rfl
    obtain rfl : ys = [] := List.eq_nil_of_length_eq_zero (by omega)
    exact wpList_append_own_none hgd s x t ho base e i size ht hi v m xs hs hown hx (h v w (by simpa using hown) (World.grownBy.refl _ _))
  | some ad =>
    exact wpList_append_own _ hgd s x t ho base e i z0 size bytes ht hi hz hsize hby hzs hsz v m xs hs hown ad n cap ys hx hl (hcells ad rfl) h1 h63 hbytes hbase (fun v' w' h1 h2 _ => h v' w' h1 h2)
theorem grow0_any (n : Nat) (w : World) (h0 : 1 ≤ n) (h1 : n ≤ 1000001) :
    Calls Try.prog 22 #[.slice none 0 0, .int .i64 n] w fun e w' => ∃ p' c', e = .returned (.slice p' 0 c') ∧ w'.ownsRow w.heap.size 24 2 (.slice p' 0 c') 0 [] ∧ Below w.heap.size w w' := by
  obtain ⟨i0, hi, hz0, hz1, hz2⟩ := info_parts val_info
  have hrz : ∀ ty, (Builtin.append_ #[22, 3] ty #[.slice none 0 0, .int .i64 n]).run Try.prog w = _ := fun ty =>
    Lib.run_append_nil_zeros w 22 3 ty 24 i0 (.agg #[.int .i64 0, .int .i64 0]) .i64 .i64 Try.underlying22 Try.underlying3 hi hz0 n h0 (by rw [hz1]; decide) (by omega) (by rw [hz2]; omega)
  have hG := grownCap_ge w n 0 24
  have hG2 := grownCap_le_maxLen w n 0 24 (by unfold maxLen; omega)
  generalize grownCap w n 0 24 = G at *
  obtain ⟨w2, hw2⟩ : ∃ w2, w2 = w.drew.alloc (.cells (Builtin.zeroCells (Value.agg #[.int .i64 0, .int .i64 0]).cells n ++ Builtin.zeroCells (Value.agg #[.int .i64 0, .int .i64 0]).cells (G - n)) 24) := ⟨_, rfl⟩
  have hsz : (Builtin.zeroCells (Value.agg #[.int .i64 0, .int .i64 0]).cells n ++ Builtin.zeroCells (Value.agg #[.int .i64 0, .int .i64 0]).cells (G - n)).size = G * 2 := by
    simp only [Array.size_append, Go.size_zeroCells]; show n * 2 + (G - n) * 2 = G * 2; omega
  have hown : w2.ownsRow w.heap.size 24 2 (.slice (some ⟨w.heap.size, 0, none⟩) 0 G) 0 [] := by
    rw [hw2]
    exact World.ownsRow_made w.drew _ G (Nat.le_refl _) hG2 hsz
  have hb : Below w.heap.size w w2 := by rw [hw2]; exact (show Below w.heap.size w w.drew from ⟨rfl, rfl, rfl, Nat.le_refl _, fun _ _ => rfl⟩).alloc (Nat.le_refl _) _
  rw [← hw2] at hrz
  simp only [maxLen] at hG2
  clear hw2 hsz
  go_enter Try.func22, Try.ntmps22
  go_wp2_with (at_builtin; refine Lib.wpList_append_run _ rfl _ _ _ _ rfl _ _ rfl rfl _ _ (hrz _) ?_)
  go_returns
  exact ⟨_, _, rfl, hown, hb⟩
set_option maxHeartbeats 1000000 in
theorem concat2_any (b : Nat) (p q : Option Addr) (n c m d : Nat) (z y : Nat → Vl) (w : World) (hlt : b < w.heap.size) (g0 : w.cell? ⟨b, 0, none⟩ = some (.slice p n c)) (g1 : w.cell? ⟨b, 1, none⟩ = some (.slice q m d))
    (hZ : VAt w p c n z) (hY : VAt w q d m y) (h0 : 1 ≤ n + m) (h1 : n + m ≤ 1000001) :
    Calls Try.prog 20 #[.slice (some ⟨b, 0, none⟩) 2 2] w fun e w' => ∃ p' c', e = .returned (.slice p' (n + m : Nat) c') ∧ w'.ownsRow w.heap.size 24 2 (.slice p' (n + m) c') (n + m) (vlVals n z ++ vlVals m y) ∧ Below w.heap.size w w' := by
  obtain ⟨i0, hi, hz0, hz1, hz2⟩ := info_parts val_info
  have hn := hZ.nle
  have hm := hY.nle
  obtain ⟨hc1, hc2⟩ := hZ.ncap
  obtain ⟨hd1, hd2⟩ := hY.ncap
  simp only [maxLen] at hn hm hc2 hd2
  go_enter Try.func20, Try.ntmps20
  go_wp2
  go_loopg [3, 11] 2 (fun g sv iv wr => (g = 2 ∧ iv = .int .i64 0 ∧ sv = .int .i64 0 ∨ g = 1 ∧ iv = .int .i64 1 ∧ sv = .int .i64 n ∨ g = 0 ∧ iv = .int .i64 2 ∧ sv = .int .i64 ((n : Int) + m)) ∧ Below w.heap.size w wr)
  case atStart => exact ⟨.inl ⟨rfl, rfl, rfl⟩, Below.refl _ _⟩
  case round =>
    obtain ⟨hcase, hbw⟩ := hrel
    have e0 := (hbw.cell (p := ⟨b, 0, none⟩) hlt).trans g0
    have e1 := (hbw.cell (p := ⟨b, 1, none⟩) hlt).trans g1
    rcases hcase with ⟨rfl, rfl, rfl⟩ | ⟨rfl, rfl, rfl⟩ | ⟨rfl, rfl, rfl⟩
    · go_wp2
      go_roundg 1
      case measure => omega
      case rel => exact ⟨.inr (.inl ⟨rfl, rfl, rfl⟩), hbw⟩
    · have hnn : ¬ (n : Int) + m < 0 := by omega
      go_wp2
      go_roundg 0
      case measure => omega
      case rel => exact ⟨.inr (.inr ⟨rfl, rfl, rfl⟩), hbw⟩
    · have hG := grow0_any (n + m) wr h0 (by omega)
      rw [Int.natCast_add] at hG
      go_upto_region 10 with (first
    | (go_at_call 22; refine Calls.mono (hG) ?_; rintro e w' ⟨p9, c9, rfl, ho9, hb⟩; obtain ⟨hc, hf, hb, hz⟩ := bstep hb (w := wr) (by go_grown); try simp only [World.size_alloc, World.size_setCell, World.size_drew] at hc hf hz)
      )
      have hsz := hbw.size
      have hbx : Below w.heap.size w w' := hbw.trans (hb.mono hsz)
      have hox := owned_base ho9 hsz
      clear hb hc hf hbw ho9 e0 e1 hG
      generalize w' = w9 at *
      go_wp2
      go_loopg [6, 27] 2 (fun g ov iv wr => (g = 2 ∧ iv = .int .i64 0 ∧ wr.ownsRow w.heap.size 24 2 ov 0 [] ∨ g = 1 ∧ iv = .int .i64 1 ∧ wr.ownsRow w.heap.size 24 2 ov n (vlVals n z) ∨ g = 0 ∧ iv = .int .i64 2 ∧ wr.ownsRow w.heap.size 24 2 ov (n + m) (vlVals n z ++ vlVals m y)) ∧ Below w.heap.size w wr)
      case atStart => exact ⟨.inl ⟨rfl, rfl, hox⟩, hbx⟩
      case round =>
        obtain ⟨hcase, hbw⟩ := hrel
        have hsz := hbw.size
        have e0 := (hbw.cell (p := ⟨b, 0, none⟩) hlt).trans g0
        have e1 := (hbw.cell (p := ⟨b, 1, none⟩) hlt).trans g1
        rcases hcase with ⟨rfl, rfl, ho⟩ | ⟨rfl, rfl, ho⟩ | ⟨rfl, rfl, ho⟩
        · go_wp2_with (first
            | (at_builtin; refine wpList_append_row rfl (.tmp 31) (.tmp 32) 22 rfl w.heap.size 24 i0 (.agg #[.int .i64 0, .int .i64 0]) 2 16 Try.underlying22 hi hz0 hz1 hz2 rfl (by decide) _ _ _ rfl ho p n c (vlVals n z) rfl (vlVals_length _ _) ((hZ.below hbw).row.cells) (vlVals_one _ _) hZ.pnil (by simp only [maxLen]; omega) (by omega) hsz ?_; intro ov w1 ho1 hgrow)
          )
          have hb1 := hbw.grown hgrow hsz (fun k hk => (ho.lt k hk).1)
          rw [List.nil_append, Nat.zero_add] at ho1
          go_roundg 1
          case measure => omega
          case rel => exact ⟨.inr (.inl ⟨rfl, rfl, ho1⟩), hb1⟩
        · go_wp2_with (first
            | (at_builtin; refine wpList_append_row rfl (.tmp 31) (.tmp 32) 22 rfl w.heap.size 24 i0 (.agg #[.int .i64 0, .int .i64 0]) 2 16 Try.underlying22 hi hz0 hz1 hz2 rfl (by decide) _ _ _ rfl ho q m d (vlVals m y) rfl (vlVals_length _ _) ((hY.below hbw).row.cells) (vlVals_one _ _) hY.pnil (by simp only [maxLen]; omega) (by omega) hsz ?_; intro ov w1 ho1 hgrow)
          )
          have hb1 := hbw.grown hgrow hsz (fun k hk => (ho.lt k hk).1)
          go_roundg 0
          case measure => omega
          case rel => exact ⟨.inr (.inr ⟨rfl, rfl, ho1⟩), hb1⟩
        · obtain ⟨pp, cc, ff, -⟩ := owned_new ho
          rw [ff] at ho ⊢
          clear ff
          go_wp2
          go_returns
          exact ⟨pp, cc, rfl, ho, hbw⟩
set_option maxHeartbeats 1000000 in
theorem vpush_any (r : Int) (v : Vl) (p : Option Addr) (n c : Nat) (z : Nat → Vl) (w : World) (hz : VAt w p c n z) (hr : n ≤ 1000000) (hv : v.wf) :
    Calls Try.prog 8 #[.slice p n c, .int .i64 r, v.agg] w fun e w' => ∃ p' c', e = .returned (.tuple #[.slice p' (vpN n r) c', .int .i64 (vpE n r)]) ∧ VAt w' p' c' (vpN n r) (vpZ n r z v) ∧ (vpB n r = true → ∀ b off sp, p' = some ⟨b, off, sp⟩ → w.heap.size ≤ b) ∧ Below w.heap.size w w' := by
  obtain ⟨k, x⟩ := v
  obtain ⟨w0, hw0⟩ : ∃ w0, w0 = w.alloc (.cells #[.int .i64 k, .int .i64 x] 24) := ⟨_, rfl⟩
  have hb0 : Below w.heap.size w w0 := by rw [hw0]; exact (Below.refl _ _).alloc (Nat.le_refl _) _
  have gV : TBox 24 w.heap.size #[.int .i64 k, .int .i64 x] w0 := by rw [hw0]; exact TBox.new _ _ _
  have hz0 := hz.below hb0
  cases e : vpB n r with
  | false =>
    have eN : vpN n r = n := by unfold vpN; rw [if_neg (by simp [e])]
    have eZ : vpZ n r z ⟨k, x⟩ = z := by unfold vpZ; rw [if_neg (by simp [e])]
    have eE : vpE n r = 5 := by unfold vpE; rw [if_neg (by simp [e])]
    rw [eN, eZ, eE]
    have h1 : r ≤ n := by simp [vpB] at e; omega
    clear e eN eZ eE
    unfold Vl.agg
    go_enter Try.func8, Try.ntmps8
    go_upto_region 1 with fail
    rw [← hw0]
    clear hw0
    go_wp2
    go_returns
    exact ⟨p, c, rfl, hz0, (fun e => by cases e), hb0⟩
  | true =>
    have eN : vpN n r = n + 1 := by unfold vpN; rw [if_pos e]
    have eZ : vpZ n r z ⟨k, x⟩ = pvZ z n ⟨k, x⟩ := by unfold vpZ; rw [if_pos e]
    have eE : vpE n r = 0 := by unfold vpE; rw [if_pos e]
    rw [eN, eZ, eE]
    have h1 : (n : Int) < r := by simpa [vpB] using e
    clear e eN eZ eE
    unfold Vl.agg
    have x0 : w0.cell? ⟨w.heap.size, 0, none⟩ = some (.int .i64 k) := gV.cell 0
    have x1 : w0.cell? ⟨w.heap.size, 1, none⟩ = some (.int .i64 x) := gV.cell 1
    have l0 := gV.lt
    go_enter Try.func8, Try.ntmps8
    go_upto_region 1 with fail
    rw [← hw0]
    clear hw0
    go_upto_region 3 with fail
    obtain ⟨w2, hw2⟩ : ∃ W, W = (w0.alloc (.cells #[.int .i64 k, .int .i64 x] 24)).alloc (.cells #[.slice p n c, .slice (some ⟨w0.heap.size, 0, none⟩) 1 1] 22) := ⟨_, rfl⟩
    have hb2 : Below w0.heap.size w0 w2 := by rw [hw2]; exact ((Below.refl _ _).alloc (Nat.le_refl _) _).alloc (by simp [go_sem]) _
    have l2 : w0.heap.size + 1 < w2.heap.size := by rw [hw2]; simp [go_sem]
    have c0 : w2.cell? ⟨w0.heap.size + 1, 0, none⟩ = some (.slice p n c) := by rw [hw2]; simp [go_sem]
    have c1 : w2.cell? ⟨w0.heap.size + 1, 1, none⟩ = some (.slice (some ⟨w0.heap.size, 0, none⟩) 1 1) := by rw [hw2]; simp [go_sem]
    have hy2 : VAt w2 (some ⟨w0.heap.size, 0, none⟩) 1 1 (fun _ => ⟨k, x⟩) := by
      refine ⟨fun i hi => ?_, by decide, (fun h => by cases h), by decide⟩
      obtain rfl : i = 0 := by omega
      exact ⟨⟨_, _, rfl, by omega, by rw [hw2]; simp [go_sem], by rw [hw2]; simp [go_sem]⟩, hv⟩
    have hC := concat2_any (w0.heap.size + 1) p (some ⟨w0.heap.size, 0, none⟩) n c 1 1 z (fun _ => ⟨k, x⟩) w2 l2 c0 c1 (hz0.below hb2) hy2 (by omega) (by omega)
    go_wp2_with (first
      | (go_at_call 20; rw [← hw2]; refine Calls.mono hC ?_; rintro e w9 ⟨pp, cc, rfl, ho9, hb9⟩; clear hw2 hC)
    )
    have hl := Nat.le_trans hb0.size hb2.size
    rw [show vlVals 1 (fun _ => (⟨k, x⟩ : Vl)) = Vl.vals ⟨k, x⟩ from rfl, pv_vals] at ho9
    have hA : VAt w9 pp cc (n + 1) (pvZ z n ⟨k, x⟩) := va_owned ho9 (by simp only [maxLen]; omega) (pv_wf hz.row.wf hv)
    obtain ⟨pp', cc', ff, hnew⟩ := owned_new ho9
    injection ff with ff _ fc
    subst ff
    have hbb := bjoin (bjoin hb9 hb2) hb0
    go_returns
    exact ⟨pp, cc, rfl, hA, fun _ b off sp e => by have := hnew b off sp e; omega, hbb⟩
set_option maxHeartbeats 1000000 in
theorem vslot_any (p : Option Addr) (n c : Nat) (z : Nat → Vl) (i : Int) (w : World) (hz : VAt w p c n z) :
    Calls Try.prog 12 #[.slice p n c, .int .i64 i] w fun e w' => e = .returned (.tuple #[(vsX n z i).agg, .int .i64 (vsE n i)]) ∧ Below w.heap.size w w' := by
  have hn := hz.nle
  simp only [maxLen] at hn
  by_cases h0 : 0 ≤ i
  · by_cases h1 : i < n
    · have eX : vsX n z i = z i.toNat := by unfold vsX; rw [if_pos ⟨h0, h1⟩]
      have eE : vsE n i = 0 := by unfold vsE; rw [if_pos ⟨h0, h1⟩]
      rw [eX, eE]
      clear eX eE
      obtain ⟨⟨b, off, rfl, hlt, v0, v1⟩, -⟩ := hz.row i.toNat (by omega)
      unfold Vl.agg
      generalize z i.toNat = X at *
      obtain ⟨X0, X1⟩ := X
      dsimp only at *
      go_enter Try.func12, Try.ntmps12
      go_wp2
      refine bodyPost_ret (by simp [results, Try.results12, go_sem, *]; try rfl) rfl ?_
      exact ⟨rfl, by go_grown⟩
    · have eX : vsX n z i = ⟨0, 0⟩ := by unfold vsX; rw [if_neg (by omega)]
      have eE : vsE n i = 3 := by unfold vsE; rw [if_neg (by omega)]
      rw [eX, eE]
      clear eX eE
      unfold Vl.agg
      go_enter Try.func12, Try.ntmps12
      go_wp2
      refine bodyPost_ret (by simp [results, Try.results12, go_sem, *]; try rfl) rfl ?_
      exact ⟨rfl, by go_grown⟩
  · have eX : vsX n z i = ⟨0, 0⟩ := by unfold vsX; rw [if_neg (by omega)]
    have eE : vsE n i = 3 := by unfold vsE; rw [if_neg (by omega)]
    rw [eX, eE]
    clear eX eE
    unfold Vl.agg
    go_enter Try.func12, Try.ntmps12
    go_wp2
    refine bodyPost_ret (by simp [results, Try.results12, go_sem, *]; try rfl) rfl ?_
    exact ⟨rfl, by go_grown⟩
/-- The address that a value tells of; the error. -/
def vaE (k : Int) : Int := if k = 2 then 0 else if k = 0 then 2 else 7
def vaX (k x : Int) : Int := if k = 2 then x else 0
theorem vaddr_any (k x : Int) (w : World) :
    Calls Try.prog 21 #[.agg #[.int .i64 k, .int .i64 x]] w fun e w' => e = .returned (.tuple #[.int .i64 (vaX k x), .int .i64 (vaE k)]) ∧ Below w.heap.size w w' := by
  by_cases k2 : k = 2
  · subst k2
    go_enter Try.func21, Try.ntmps21
    go_wp2
    go_returns
    exact ⟨rfl, by go_grown⟩
  · have eX : vaX k x = 0 := by unfold vaX; rw [if_neg k2]
    rw [eX]
    by_cases k0 : k = 0
    · subst k0
      go_enter Try.func21, Try.ntmps21
      go_wp2
      go_returns
      exact ⟨rfl, by go_grown⟩
    · have eE : vaE k = 7 := by unfold vaE; rw [if_neg k2, if_neg k0]
      rw [eE]
      clear eX eE
      go_enter Try.func21, Try.ntmps21
      go_wp2
      go_returns
      exact ⟨rfl, by go_grown⟩
set_option maxHeartbeats 1000000 in
theorem vobj_any (p : Option Addr) (n c : Nat) (z : Nat → Vl) (i : Int) (w : World) (hz : VAt w p c n z) :
    Calls Try.prog 14 #[.slice p n c, .int .i64 i] w fun e w' => e = .returned (.tuple #[.int .i64 (voX n z i), .int .i64 (voE n z i)]) ∧ Below w.heap.size w w' := by
  have hS := fun W (hW : Below w.heap.size w W) => vslot_any p n c z i W (hz.below hW)
  by_cases h0 : 0 ≤ i ∧ i < n
  · have eS : vsX n z i = z i.toNat := by unfold vsX; rw [if_pos h0]
    have eT : vsE n i = 0 := by unfold vsE; rw [if_pos h0]
    have eE : voE n z i = vaE (z i.toNat).k := by
      unfold voE vaE
      rw [if_pos h0]
      by_cases k2 : (z i.toNat).k = 2
      · rw [if_neg (by omega), if_pos k2, if_pos k2]
      · by_cases k0 : (z i.toNat).k = 0
        · rw [if_pos k0, if_neg k2, if_pos k0]
        · rw [if_neg k0, if_neg k2, if_neg k2, if_neg k0]
    have eX : voX n z i = vaX (z i.toNat).k (z i.toNat).n := by
      unfold voX vaX
      rw [eE]
      unfold vaE
      by_cases k2 : (z i.toNat).k = 2
      · rw [if_pos k2, if_pos rfl, if_pos k2]
      · rw [if_neg k2, if_neg k2]
        by_cases k0 : (z i.toNat).k = 0
        · rw [if_pos k0, if_neg (by decide)]
        · rw [if_neg k0, if_neg (by decide)]
    rw [eE, eX]
    simp only [eS, eT, Vl.agg] at hS
    clear eS eT eE eX
    generalize z i.toNat = X at *
    obtain ⟨X0, X1⟩ := X
    dsimp only at *
    go_enter Try.func14, Try.ntmps14
    go_wp2_with (first
    | (go_at_call 12; refine Calls.mono (hS _ (by go_grown)) ?_; rintro e w' ⟨rfl, hb⟩; obtain ⟨hc, hf, hb, hz⟩ := bstep hb (w := w) (by go_grown); try simp only [World.size_alloc, World.size_setCell, World.size_drew] at hc hf hz)
    | (go_at_call 21; refine Calls.mono (vaddr_any X0 X1 _) ?_; rintro e w' ⟨rfl, hb⟩; obtain ⟨hc, hf, hb, hz⟩ := bstep hb (w := w) (by go_grown); try simp only [World.size_alloc, World.size_setCell, World.size_drew] at hc hf hz)
    )
    go_returns
    exact ⟨rfl, by go_grown⟩
  · have eE : voE n z i = 3 := by unfold voE; rw [if_neg h0]
    have eS : vsX n z i = ⟨0, 0⟩ := by unfold vsX; rw [if_neg h0]
    have eT : vsE n i = 3 := by unfold vsE; rw [if_neg h0]
    have eX : voX n z i = 0 := by unfold voX; rw [eE, if_neg (by decide)]
    rw [eE, eX]
    simp only [eS, eT, Vl.agg] at hS
    clear eS eT eE eX
    go_enter Try.func14, Try.ntmps14
    go_wp2_with (first
    | (go_at_call 12; refine Calls.mono (hS _ (by go_grown)) ?_; rintro e w' ⟨rfl, hb⟩; obtain ⟨hc, hf, hb, hz⟩ := bstep hb (w := w) (by go_grown); try simp only [World.size_alloc, World.size_setCell, World.size_drew] at hc hf hz)
    )
    go_returns
    exact ⟨rfl, by go_grown⟩
set_option maxHeartbeats 2000000 in
theorem vpop_any (p : Option Addr) (n c : Nat) (z : Nat → Vl) (w : World) (hZ : VAt w p c n z) (hr : n ≤ 1000000) :
    Calls Try.prog 10 #[.slice p n c] w fun e w' => ∃ p' c', e = .returned (.tuple #[.slice p' (n - 1 : Nat) c', (vqX n z).agg, .int .i64 (vqE n)]) ∧ VAt w' p' c' (n - 1) z ∧ (0 < n → ∀ b off sp, p' = some ⟨b, off, sp⟩ → w.heap.size ≤ b) ∧ Below w.heap.size w w' := by
  by_cases h0 : n = 0
  · subst h0
    have hS := fun W (hW : Below w.heap.size w W) => vslot_any p 0 c z (-1) W (hZ.below hW)
    have eS : vsX 0 z (-1) = ⟨0, 0⟩ := by unfold vsX; rw [if_neg (by omega)]
    have eT : vsE 0 (-1) = 3 := by unfold vsE; rw [if_neg (by omega)]
    have eX : vqX 0 z = ⟨0, 0⟩ := rfl
    have eE : vqE 0 = 3 := rfl
    rw [eX, eE]
    simp only [eS, eT] at hS
    unfold Vl.agg at hS ⊢
    clear eS eT eX eE
    go_enter Try.func10, Try.ntmps10
    go_wp2_with (first
    | (go_at_call 12; refine Calls.mono (hS _ (by go_grown)) ?_; rintro e w' ⟨rfl, hb⟩; obtain ⟨hc, hf, hb, hz⟩ := bstep hb (w := w) (by go_grown); try simp only [World.size_alloc, World.size_setCell, World.size_drew] at hc hf hz)
    )
    refine bodyPost_ret (by simp [results, Try.results10, go_sem, *]; try rfl) rfl ?_
    exact ⟨p, c, rfl, hZ.below (by go_grown), (fun h => absurd h (Nat.lt_irrefl 0)), by go_grown⟩
  · obtain ⟨m, rfl⟩ : ∃ m, n = m + 1 := ⟨n - 1, by omega⟩
    have hS := fun W (hW : Below w.heap.size w W) => vslot_any p (m + 1) c z m W (hZ.below hW)
    have eX : vqX (m + 1) z = z m := by unfold vqX; rw [if_neg (by omega)]; rfl
    have eE : vqE (m + 1) = 0 := by unfold vqE; rw [if_neg (by omega)]
    have eS : vsX (m + 1) z m = z m := by unfold vsX; rw [if_pos (by omega), Int.toNat_natCast]
    have eT : vsE (m + 1) m = 0 := by unfold vsE; rw [if_pos (by omega)]
    simp only [eS, eT] at hS
    rw [eX, eE, show m + 1 - 1 = m from rfl]
    obtain ⟨⟨b, off, rfl, hltw, -, -⟩, -⟩ := hZ.row m (by omega)
    have hcap := hZ.ncap
    obtain ⟨hc1, hc2⟩ := hcap
    have hwf := hZ.row.wf
    have hrow := hZ.row.less (m := m) (by omega)
    unfold Vl.agg at hS ⊢
    clear eX eE eS eT h0
    generalize hX : z m = X at *
    obtain ⟨X0, X1⟩ := X
    dsimp only at *
    have hmc : m ≤ c := by omega
    have hm1 : (m : Int) < m + 1 := by omega
    obtain ⟨w0, hw0⟩ : ∃ w0, w0 = w.alloc (.cells #[.int .i64 0, .int .i64 0] 24) := ⟨_, rfl⟩
    have hb0 : Below w.heap.size w w0 := by rw [hw0]; exact (Below.refl _ _).alloc (Nat.le_refl _) _
    have gV : TBox 24 w.heap.size #[.int .i64 0, .int .i64 0] w0 := by rw [hw0]; exact TBox.new _ _ _
    have l0 := gV.lt
    have hS0 := hS w0 hb0
    clear hS
    go_enter Try.func10, Try.ntmps10
    go_upto_region 1 with fail
    rw [← hw0]
    clear hw0
    go_upto_region 3 with (first
    | (go_at_call 12; refine Calls.mono (hS0) ?_; rintro e w' ⟨rfl, hb⟩; obtain ⟨hc, hf, hb, hz⟩ := bstep hb (w := w0) (by go_grown); try simp only [World.size_alloc, World.size_setCell, World.size_drew] at hc hf hz)
    )
    have hb1 : Below w.heap.size w w' := bjoin hb hb0
    have gR := gV.below hb
    clear hb hc hf hz hS0 gV l0
    generalize w' = w1 at *
    have hne1 : ¬ w.heap.size = w1.heap.size := Nat.ne_of_lt gR.lt
    obtain ⟨w3, hw3⟩ : ∃ W, W = w1.alloc (.cells #[.int .i64 X0, .int .i64 X1] 24) := ⟨_, rfl⟩
    have gX : TBox 24 w1.heap.size #[.int .i64 X0, .int .i64 X1] w3 := by rw [hw3]; exact TBox.new _ _ _
    have hb13 : Below w1.heap.size w1 w3 := by rw [hw3]; exact (Below.refl _ _).alloc (Nat.le_refl _) _
    have hb3 : Below w.heap.size w w3 := bjoin hb13 hb1
    have gR3 := gR.below hb13
    rw [← hw3]
    clear hw3 gR
    have l0 := gR3.lt
    have lX := gX.lt
    have x0 : w3.cell? ⟨w1.heap.size, 0, none⟩ = some (.int .i64 X0) := gX.cell 0
    have x1 : w3.cell? ⟨w1.heap.size, 1, none⟩ = some (.int .i64 X1) := gX.cell 1
    have hsh0 : ShapeN w.heap.size 2 w3 := shape_2 l0 (gR3.cell 0) (gR3.cell 1) (gR3.frozen 0) (gR3.frozen 1)
    have hrow3 := hrow.below hb3
    generalize w1.heap.size = B1 at *
    go_upto_region 5 with fail
    have hPBx : allP (fun p => ∀ v w w', p v w → Below w.heap.size w w' → p v w') ([(fun v _ => v = .slice (some ⟨b, off, none⟩) (m + 1) c), (fun v _ => v = .int .i64 (m : Int)), (fun v _ => v = .slice (some ⟨b, off, none⟩) m c), (CopyB (w3.heap.size) 24 2 (m) (vlVals m z)), (fun v _ => v = .agg #[.int .i64 X0, .int .i64 X1]), (CopyB (w3.heap.size) 24 2 (m) (vlVals m z)), (CellsV (w.heap.size) [.int .i64 X0, .int .i64 X1]), (fun v _ => v = .int .i64 0)] : List (Value → World → Prop)) := ⟨fun _ _ _ h _ => h, fun _ _ _ h _ => h, fun _ _ _ h _ => h, fun _ _ _ h hb => h.below hb, fun _ _ _ h _ => h, fun _ _ _ h hb => h.below hb, fun _ _ _ h hb => h.below hb, fun _ _ _ h _ => h, trivial⟩
    have hSBx : ∀ s1 s2 : World, (fun W9 : World => ShapeN (w.heap.size) 2 W9 ∧ TBox 24 (B1) #[.int .i64 X0, .int .i64 X1] W9) s1 → Below s1.heap.size s1 s2 → (fun W9 : World => ShapeN (w.heap.size) 2 W9 ∧ TBox 24 (B1) #[.int .i64 X0, .int .i64 X1] W9) s2 := fun _ _ h hb => ⟨h.1.below hb, h.2.below hb⟩
    refine wp_told_pv (w.heap.size) (fun W9 : World => ShapeN (w.heap.size) 2 W9 ∧ TBox 24 (B1) #[.int .i64 X0, .int .i64 X1] W9) [some 22, some 23, some 24, some 25, some 26, some 2, none, some 4] [22, 23, 24, 25, 26, 2, 4] ([(fun v _ => v = .slice (some ⟨b, off, none⟩) (m + 1) c), (fun v _ => v = .int .i64 (m : Int)), (fun v _ => v = .slice (some ⟨b, off, none⟩) m c), (CopyB (w3.heap.size) 24 2 (m) (vlVals m z)), (fun v _ => v = .agg #[.int .i64 X0, .int .i64 X1]), (CopyB (w3.heap.size) 24 2 (m) (vlVals m z)), (CellsV (w.heap.size) [.int .i64 X0, .int .i64 X1]), (fun v _ => v = .int .i64 0)] : List (Value → World → Prop)) 27 (by kernel_rfl) (by kernel_rfl) rfl rfl (by decide) (by decide) (by simp) (show (fun W9 : World => ShapeN (w.heap.size) 2 W9 ∧ TBox 24 (B1) #[.int .i64 X0, .int .i64 X1] W9) _ from hSBx _ _ (⟨hsh0, gX⟩) (Below.refl _ _).drew) ?_ ?_
    · refine ⟨?_, ?_, ?_, ?_, ?_, ?_, ?_, ?_, trivial⟩
      · intro a' w' hb' hsz hsh hs hd Kc hK
        obtain ⟨hsh, hhold⟩ := hsh
        have f0 : a'.tmps[0]?.getD undef = .slice (some ⟨b, off, none⟩) (m + 1) c := (hs 0 (by decide)).trans rfl
        clear hs hd
        have v0' := hhold.cell 0
        have v1' := hhold.cell 1
        unfold Oper.wp
        go_simp
        exact hK _ _ (toldS_below hSBx hPBx (Nat.le_of_lt hsh.1) (Below.refl _ _)) (by first | rfl | (show Value.int _ _ = Value.int _ _; go_num; done) | (simp [valOf, *]; done) | (simp [valOf]; omega))
      · intro a' w' hb' hsz hsh hs hd Kc hK
        obtain ⟨hsh, hhold⟩ := hsh
        have f5 : a'.tmps[5]?.getD undef = .int .i64 (m : Int) := (hs 5 (by decide)).trans rfl
        clear hs hd
        have v0' := hhold.cell 0
        have v1' := hhold.cell 1
        unfold Oper.wp
        go_simp
        exact hK _ _ (toldS_below hSBx hPBx (Nat.le_of_lt hsh.1) (Below.refl _ _)) (by first | rfl | (show Value.int _ _ = Value.int _ _; go_num; done) | (simp [valOf, *]; done) | (simp [valOf]; omega))
      · intro a' w' hb' hsz hsh hs hd Kc hK
        obtain ⟨hsh, hhold⟩ := hsh
        have f22 : a'.tmps[22]?.getD undef = .slice (some ⟨b, off, none⟩) (m + 1) c := hd 0 22 (by first | rfl | decide | simp [Region.binds]) rfl
        have f23 : a'.tmps[23]?.getD undef = .int .i64 (m : Int) := hd 1 23 (by first | rfl | decide | simp [Region.binds]) rfl
        clear hs hd
        have v0' := hhold.cell 0
        have v1' := hhold.cell 1
        unfold Oper.wp
        go_simp
        exact hK _ _ (toldS_below hSBx hPBx (Nat.le_of_lt hsh.1) (Below.refl _ _)) (by first | rfl | (show Value.int _ _ = Value.int _ _; go_num; done) | (simp [valOf, *]; done) | (simp [valOf]; omega))
      · intro a' w' hb' hsz hsh hs hd Kc hK
        obtain ⟨hsh, hhold⟩ := hsh
        have f24 : a'.tmps[24]?.getD undef = .slice (some ⟨b, off, none⟩) m c := hd 2 24 (by first | rfl | decide | simp [Region.binds]) rfl
        clear hs hd
        have v0' := hhold.cell 0
        have v1' := hhold.cell 1
        obtain ⟨i0, hj0, hj1, hj2, hj3⟩ := info_parts val_info
        refine step_copy rfl (.const (.slice none 0 0)) (.tmp 24) 22 rfl 24 i0 (.agg #[.int .i64 0, .int .i64 0]) 2 16 Try.underlying22 hj0 hj1 hj2 hj3 rfl (by decide) (w3.heap.size) (Value.slice none 0 0) (by simp [Act.eval]) (copyB_nil _ _ _ _) ((some ⟨b, off, none⟩)) (m) (c) (vlVals m z) (by rw [← f24]; simp [Act.eval]) (by simp [vlVals_length, vals_length]) ((fun e => by cases e)) ((hrow.below (hb3.trans hb')).cells) (vlVals_one _ _) (by simp only [maxLen]; omega) (by omega) hsz fun v' w2 ho hbo => ?_
        exact hK _ _ (toldS_below hSBx hPBx (Nat.le_of_lt hsh.1) hbo) ho
      · intro a' w' hb' hsz hsh hs hd Kc hK
        obtain ⟨hsh, hhold⟩ := hsh
        have f6 : a'.tmps[6]?.getD undef = .pointer (some ⟨B1, 0, none⟩) := (hs 6 (by decide)).trans rfl
        clear hs hd
        have v0' := hhold.cell 0
        have v1' := hhold.cell 1
        unfold Oper.wp
        go_simp
        exact hK _ _ (toldS_below hSBx hPBx (Nat.le_of_lt hsh.1) (Below.refl _ _)) (by first | rfl | (show Value.int _ _ = Value.int _ _; go_num; done) | (simp [valOf, *]; done) | (simp [valOf]; omega))
      · intro a' w' hb' hsz hsh hs hd Kc hK
        obtain ⟨hsh, hhold⟩ := hsh
        have f25 : CopyB (w3.heap.size) 24 2 (m) (vlVals m z) (a'.tmps[25]?.getD undef) w' := hd 3 25 (by first | rfl | decide | simp [Region.binds]) rfl
        clear hs hd
        have v0' := hhold.cell 0
        have v1' := hhold.cell 1
        unfold Oper.wp
        go_simp
        exact hK _ _ (toldS_below hSBx hPBx (Nat.le_of_lt hsh.1) (Below.refl _ _)) f25
      · intro a' w' hb' hsz hsh hs hd Kc hK
        obtain ⟨hsh, hhold⟩ := hsh
        have f3 : a'.tmps[3]?.getD undef = .pointer (some ⟨w.heap.size, 0, none⟩) := (hs 3 (by decide)).trans rfl
        have f26 : a'.tmps[26]?.getD undef = .agg #[.int .i64 X0, .int .i64 X1] := hd 4 26 (by first | rfl | decide | simp [Region.binds]) rfl
        clear hs hd
        have v0' := hhold.cell 0
        have v1' := hhold.cell 1
        obtain ⟨⟨y0, s0⟩, t0⟩ := hsh.2 0 (by decide)
        obtain ⟨⟨y1, s1⟩, t1⟩ := hsh.2 1 (by decide)
        have hG := hsh.1
        unfold Oper.wp
        go_simp
        refine hK (.tuple #[]) _ ⟨((Below.refl _ _).setCell (p := ⟨w.heap.size, 0, none⟩) (Nat.le_refl _) _).setCell (p := ⟨w.heap.size, 1, none⟩) (Nat.le_refl _) _, fun h => ⟨((h.1).set _ _ _).set _ _ _, ((h.2).other (hne1) _ _).other (hne1) _ _⟩, fun i v => ?_⟩ (cellsV_2 hsh _ _ undef)
        match i with
        | 0 => exact fun h => h
        | 1 => exact fun h => h
        | 2 => exact fun h => h
        | 3 => show CopyB (w3.heap.size) 24 2 (m) (vlVals m z) v w' → CopyB (w3.heap.size) 24 2 (m) (vlVals m z) v _; intro h; exact ((h).under (l0) _ _).under (l0) _ _
        | 4 => exact fun h => h
        | 5 => show CopyB (w3.heap.size) 24 2 (m) (vlVals m z) v w' → CopyB (w3.heap.size) 24 2 (m) (vlVals m z) v _; intro h; exact ((h).under (l0) _ _).under (l0) _ _
        | 6 => show CellsV (w.heap.size) [.int .i64 X0, .int .i64 X1] v w' → CellsV (w.heap.size) [.int .i64 X0, .int .i64 X1] v _; intro _; exact (cellsV_2 hsh _ _ undef)
        | 7 => exact fun h => h
        | _ + 8 => exact fun _ => trivial
      · intro a' w' hb' hsz hsh hs hd Kc hK
        obtain ⟨hsh, hhold⟩ := hsh
        clear hs hd
        have v0' := hhold.cell 0
        have v1' := hhold.cell 1
        unfold Oper.wp
        go_simp
        exact hK _ _ (toldS_below hSBx hPBx (Nat.le_of_lt hsh.1) (Below.refl _ _)) (by first | rfl | (show Value.int _ _ = Value.int _ _; go_num; done) | (simp [valOf, *]; done) | (simp [valOf]; omega))
    intro Xf w' hb hsz hv hn
    have o5 : CopyB (w3.heap.size) 24 2 (m) (vlVals m z) (Xf 2) w' := hv 5 2 rfl
    have o6 : CellsV (w.heap.size) [.int .i64 X0, .int .i64 X1] undef w' := hn 6 rfl
    have q4 : Xf 4 = .int .i64 0 := hv 7 4 rfl
    clear hv hn hPBx hSBx
    simp only [List.map_cons, List.map_nil, q4, puts, Act.put, Nat.reduceAdd, List.setIfInBounds_toArray, List.set_cons_succ, List.set_cons_zero]
    obtain ⟨hown, -⟩ := o5
    obtain ⟨pp, cc, ff, hnew⟩ := owned_new hown
    rw [ff] at hown
    rw [ff]
    have hA : VAt w' pp cc m z := va_owned hown (by simp only [maxLen]; omega) (fun i hi => hwf i (by omega))
    have z0' : w'.cell? ⟨w.heap.size, 0, none⟩ = some (.int .i64 X0) := o6.2 0 _ rfl
    have z1' : w'.cell? ⟨w.heap.size, 1, none⟩ = some (.int .i64 X1) := o6.2 1 _ rfl
    have hbb := hb3.trans hb
    clear ff hown o6
    go_wp2
    refine bodyPost_ret (by simp [results, Try.results10, go_sem, *]; try rfl) rfl ?_
    exact ⟨pp, cc, rfl, hA, (fun _ b off sp e => by have := hnew b off sp e; omega), hbb⟩
set_option maxHeartbeats 1000000 in
theorem vrefs_any (p : Option Addr) (n c : Nat) (z : Nat → Vl) (w : World) (hZ : VAt w p c n z) (hn : n ≤ 1000000) :
    Calls Try.prog 18 #[.slice p n c] w fun e w' => ∃ p' c', e = .returned (.slice p' (vrL z n).length c') ∧ Ints .i64 w' p' (vrL z n).length (liI (vrL z n)) ∧ Below w.heap.size w w' := by
  obtain ⟨i0, hi, hz0, hz1, hz2⟩ := info_parts int_infoL
  have hwf := vrL_wf hZ.row.wf
  have hrow := hZ.row
  go_enter Try.func18, Try.ntmps18
  go_wp2
  go_loopg [3, 10] n (fun g ov iv wr => ∃ j : Nat, j ≤ n ∧ g = n - j ∧ iv = .int .i64 j ∧ wr.ownsRow w.heap.size 3 1 ov (vrL z j).length ((vrL z j).map (Value.int .i64)) ∧ Below w.heap.size w wr)
  case atStart => exact ⟨0, by omega, by omega, rfl, World.ownsRow_nil _ _ _ _, Below.refl _ _⟩
  case round =>
    obtain ⟨j, jh, rfl, rfl, hown, hbw⟩ := hrel
    have hsz : w.heap.size ≤ wr.heap.size := hbw.size
    by_cases hj : j < n
    · obtain ⟨⟨b, off, rfl, hlt, v0, v1⟩, -⟩ := (hrow.below hbw) j hj
      have hql := vrL_len z j
      by_cases hk : (z j).k = 2
      · have hL : vrL z (j + 1) = vrL z j ++ [(z j).n] := by show (if (z j).k = 2 then _ else _) = _; rw [if_pos hk]
        rw [hk] at v0
        generalize hE : vrL z (j + 1) = L2 at *
        generalize vrL z j = L at *
        generalize (z j).n = x at *
        clear hk
        have hA := vaddr_any 2 x (wr.alloc (.cells #[.int .i64 2, .int .i64 x] 24))
        rw [show vaX 2 x = x from rfl, show vaE 2 = 0 from rfl] at hA
        go_upto_region 7 with (first
    | (go_at_call 21; refine Calls.mono (hA) ?_; rintro e w' ⟨rfl, hb⟩; obtain ⟨hc, hf, hb, hz⟩ := bstep hb (w := wr) (by go_grown); try simp only [World.size_alloc, World.size_setCell, World.size_drew] at hc hf hz)
        )
        have hb5 := hb
        have hbv := hbw.trans (hb5.mono hsz)
        have hown5 := owned_below hown hb5
        have hsz5 := hbv.size
        clear hb hc hf hA hb5 hown
        generalize w' = w5 at *
        go_wp2_with (first
          | (at_builtin; refine wpList_append_own _ rfl (.tmp 21) (.tmp 23) 45 rfl w.heap.size 3 i0 (.int .i64 0) 1 8 Try.underlying45 hi hz0 hz1 hz2 rfl (by decide) _ _ _ rfl (hown5.alloc _) ⟨w5.heap.size, 0, none⟩ 1 1 [.int .i64 x] rfl rfl (one_newG _ _ _) (by simp [Value.oneCell']) (by simp only [maxLen]; omega) (by omega) (by simp; omega) ?_; intro ov w1 hown' hgrow _)
        )
        have hown2 : w1.ownsRow w.heap.size 3 1 ov (L ++ [x]).length ((L ++ [x]).map (Value.int .i64)) := by simpa using hown'
        have hb2 := (hbv.alloc hsz5 (.cells #[.int .i64 x] 3)).grown hgrow (by simp; omega) (fun k hk => (hown5.lt k hk).1)
        rw [← hL] at hown2
        go_roundg (n - (j + 1))
        case measure => omega
        case rel => exact ⟨j + 1, by omega, rfl, by go_num, by rw [hE]; assumption, hb2⟩
      · have hL : vrL z (j + 1) = vrL z j := by show (if (z j).k = 2 then _ else _) = _; rw [if_neg hk]
        have hk2 : (vaE (z j).k == 0) = false := by
          unfold vaE
          rw [if_neg hk]
          split <;> rfl
        rw [← hL] at hown
        generalize hE : vrL z (j + 1) = L at *
        generalize (z j).k = kk at *
        generalize (z j).n = x at *
        have hA := vaddr_any kk x (wr.alloc (.cells #[.int .i64 kk, .int .i64 x] 24))
        clear hk
        generalize vaE kk = ee at *
        generalize vaX kk x = xx at *
        go_wp2_with (first
    | (go_at_call 21; refine Calls.mono (hA) ?_; rintro e w' ⟨rfl, hb⟩; obtain ⟨hc, hf, hb, hz⟩ := bstep hb (w := wr) (by go_grown); try simp only [World.size_alloc, World.size_setCell, World.size_drew] at hc hf hz)
        )
        have hb5 := hb
        have hbv := hbw.trans (hb5.mono hsz)
        have hown5 := owned_below hown hb5
        go_roundg (n - (j + 1))
        case measure => omega
        case rel => exact ⟨j + 1, by omega, rfl, by go_num, by rw [hE]; assumption, hbv⟩
    · obtain rfl : j = n := by omega
      obtain ⟨pp, cc, ff, -⟩ := owned_new hown
      rw [ff] at hown ⊢
      have hI := li_ints hown hwf
      clear hown ff
      go_wp2
      go_returns
      exact ⟨pp, cc, rfl, hI, hbw⟩
end Go.Proofs.Ytcackfimcpheoaa
