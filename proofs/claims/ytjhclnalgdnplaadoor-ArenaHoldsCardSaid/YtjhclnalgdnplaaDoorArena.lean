/- Contracts of arena.* and of the reference's Load, Store, Address, Place, Same. -/
import Derived.Test.YtjhclnalgdnplaaDoorClass
import Derived.Test.YtjhclnalgdnplaaDoorOwned
import Derived.Deep.Cut
namespace Go.Proofs.YtjhclnalgdnplaaDoor
set_option linter.unusedSimpArgs false
set_option linter.unusedVariables false
open Go.ChangeShapes Go.WideShapes Go.ChangeAt Go.RowKit Go.Joins

def inI (n : Nat) (i : Int) : Bool := decide (0 ≤ i) && decide (i < n)
def getZ (n : Nat) (z : Nat → Int) (i : Int) : Int := if inI n i = true then z i.toNat else 0
def putZ (z : Nat → Int) (i v : Int) : Nat → Int := fun j => if (j : Int) = i then v else z j
def sameZ (n : Nat) (z : Nat → Int) (m : Nat) (y : Nat → Int) : Bool := decide (n = m ∧ ∀ i, i < n → z i = y i)
def newB (p : Int) : Bool := decide (1 ≤ p) && decide (p ≤ 16)
def newN (p : Int) : Nat := if newB p = true then (32 * p).toNat else 0
def newE (p : Int) : Int := if newB p = true then 0 else 1
theorem inI_yes {n : Nat} {i : Int} (h : 0 ≤ i) (h' : i < n) : inI n i = true := by simp [inI, h, h']
theorem inI_no {n : Nat} {i : Int} (h : ¬ (0 ≤ i ∧ i < n)) : inI n i = false := by simp [inI]; omega
theorem of_inI {n : Nat} {i : Int} (h : inI n i = true) : 0 ≤ i ∧ i < n := by simpa [inI] using h
theorem putZ_wf {n : Nat} {z : Nat → Int} (h : ∀ i, i < n → (Lit.int .u64 (z i)).wf = true) (i : Int) {v : Int} (hv : (Lit.int .u64 v).wf = true) : ∀ j, j < n → (Lit.int .u64 (putZ z i v j)).wf = true := fun j hj => by
  unfold putZ; split
  · exact hv
  · exact h j hj

/-- A new address, or none. -/
def Fresh (n : Nat) (p : Option Addr) : Prop := ∀ b off sp, p = some ⟨b, off, sp⟩ → n ≤ b

theorem isin_any (p : Option Addr) (n cap : Nat) (i : Int) (w : World) :
    Calls Tryd.prog 20 #[.slice p n cap, .int .i64 i] w fun e w' => e = .returned (.bool (inI n i)) ∧ Below w.heap.size w w' := by
  by_cases h : 0 ≤ i ∧ i < n
  · have e := inI_yes h.1 h.2
    obtain ⟨h0, h1⟩ := h
    go_enter Tryd.func20, Tryd.ntmps20
    go_wp2
    go_returns
    exact ⟨ret_bool (by simp [e]), by go_grown⟩
  · have e := inI_no h
    by_cases h0 : 0 ≤ i
    · have h1 : ¬ i < n := by omega
      go_enter Tryd.func20, Tryd.ntmps20
      go_wp2
      go_returns
      exact ⟨ret_bool (by simp [e]), by go_grown⟩
    · go_enter Tryd.func20, Tryd.ntmps20
      go_wp2
      go_returns
      exact ⟨ret_bool (by simp [e]), by go_grown⟩

theorem aload_any (p : Option Addr) (n cap : Nat) (z : Nat → Int) (i : Int) (w : World) (hz : Ints .u64 w p n z) :
    Calls Tryd.prog 11 #[.slice p n cap, .int .i64 i] w fun e w' => e = .returned (.tuple #[.int .u64 (getZ n z i), .bool (inI n i)]) ∧ Below w.heap.size w w' := by
  cases h : inI n i with
  | true =>
    obtain ⟨h0, h1⟩ := of_inI h
    have e : getZ n z i = z i.toNat := by unfold getZ; rw [if_pos h]
    obtain ⟨⟨b, off, rfl, hlt, hcell⟩, hwf⟩ := hz i.toNat (by omega)
    obtain ⟨v0, v1⟩ := wf_u64 hwf
    go_enter Tryd.func11, Tryd.ntmps11
    go_wp2_with (first
    | (go_at_call 20; refine (isin_any _ _ _ _ _).mono ?_; rintro e w' ⟨rfl, hb⟩; obtain ⟨hc, hf, hb, hz⟩ := bstep hb (w := w) (by go_grown); try simp only [World.size_alloc, World.size_setCell, World.size_drew] at hc hf hz)
    )
    go_returns
    exact ⟨ret_int_bool (by simp [e]) (by simp), by go_grown⟩
  | false =>
    have e : getZ n z i = 0 := by unfold getZ; rw [if_neg (by simp [h])]
    go_enter Tryd.func11, Tryd.ntmps11
    go_wp2_with (first
    | (go_at_call 20; refine (isin_any _ _ _ _ _).mono ?_; rintro e w' ⟨rfl, hb⟩; obtain ⟨hc, hf, hb, hz⟩ := bstep hb (w := w) (by go_grown); try simp only [World.size_alloc, World.size_setCell, World.size_drew] at hc hf hz)
    )
    go_returns
    exact ⟨ret_int_bool (by simp [e]) (by simp), by go_grown⟩

theorem rload_any (p : Option Addr) (n cap : Nat) (z : Nat → Int) (i : Int) (w : World) (hz : Ints .u64 w p n z) (hn : n ≤ maxLen) :
    Calls Tryd.prog 12 #[.slice p n cap, .int .i64 i] w fun e w' => e = .returned (.tuple #[.int .u64 (getZ n z i), .bool (inI n i)]) ∧ Below w.heap.size w w' := by
  simp only [maxLen] at hn
  go_enter Tryd.func12, Tryd.ntmps12
  go_wp2
  go_loopg [6] n (fun g jv wr => ∃ j : Int, 0 ≤ j ∧ j ≤ n ∧ g = (n - j).toNat ∧ jv = .int .i64 j ∧ ¬ (0 ≤ i ∧ i < j) ∧ Below w.heap.size w wr)
  case atStart => exact ⟨0, by omega, by omega, by omega, rfl, by omega, Below.refl _ _⟩
  case round =>
    obtain ⟨j, jl, jh, rfl, rfl, hno, hbw⟩ := hrel
    by_cases hj : j < n
    · by_cases hji : j = i
      · subst hji
        have e : getZ n z j = z j.toNat := by unfold getZ; rw [if_pos (inI_yes jl hj)]
        have e' := inI_yes jl hj
        obtain ⟨⟨b, off, rfl, hlt, hcell⟩, hwf⟩ := (hz.below hbw) j.toNat (by omega)
        obtain ⟨v0, v1⟩ := wf_u64 hwf
        go_wp2
        go_returns
        exact ⟨ret_int_bool (by simp [e]) (by simp [e']), by go_grown⟩
      · go_wp2
        go_roundg ((n : Int) - (j + 1)).toNat
        case measure => omega
        case rel => exact ⟨j + 1, by omega, by omega, rfl, rfl, by omega, by go_grown⟩
    · have e' : inI n i = false := inI_no (by omega)
      have e : getZ n z i = 0 := by unfold getZ; rw [if_neg (by simp [e'])]
      go_wp2
      go_returns
      exact ⟨ret_int_bool (by simp [e]) (by simp [e']), by go_grown⟩

theorem same_any (p q : Option Addr) (n cap m cap' : Nat) (z y : Nat → Int) (w : World) (hz : Ints .u64 w p n z) (hy : Ints .u64 w q m y) (hn : n ≤ maxLen) (hm : m ≤ maxLen) :
    Calls Tryd.prog 15 #[.slice p n cap, .slice q m cap'] w fun e w' => e = .returned (.bool (sameZ n z m y)) ∧ Below w.heap.size w w' := by
  simp only [maxLen] at hn hm
  by_cases hnm : n = m
  · subst hnm
    go_enter Tryd.func15, Tryd.ntmps15
    go_wp2
    go_loopg [5] n (fun g jv wr => ∃ j : Int, 0 ≤ j ∧ j ≤ n ∧ g = (n - j).toNat ∧ jv = .int .i64 j ∧ (∀ t : Nat, t < j → z t = y t) ∧ Below w.heap.size w wr)
    case atStart => exact ⟨0, by omega, by omega, by omega, rfl, fun t ht => by omega, Below.refl _ _⟩
    case round =>
      obtain ⟨j, jl, jh, rfl, rfl, hall, hbw⟩ := hrel
      by_cases hj : j < n
      · obtain ⟨⟨b, off, rfl, hlt, hcell⟩, hwf⟩ := (hz.below hbw) j.toNat (by omega)
        obtain ⟨⟨b', off', rfl, hlt', hcell'⟩, hwf'⟩ := (hy.below hbw) j.toNat (by omega)
        by_cases e : z j.toNat = y j.toNat
        · go_wp2
          go_region
          all_goals
            go_wp2
            go_roundg ((n : Int) - (j + 1)).toNat
            case measure => omega
            case rel => exact ⟨j + 1, by omega, by omega, rfl, rfl, fun t ht => by
              by_cases ht' : (t : Int) < j
              · exact hall t ht'
              · obtain rfl : t = j.toNat := by omega
                exact e, by go_grown⟩
        · have e' : sameZ n z n y = false := by
            simp only [sameZ, decide_eq_false_iff_not]
            exact fun h => e (h.2 _ (by omega))
          go_wp2
          go_region
          all_goals
            go_wp2
            go_returns
            exact ⟨ret_bool (by simp [e']), by go_grown⟩
      · have e' : sameZ n z n y = true := by
          simp only [sameZ, decide_eq_true_eq]
          exact ⟨trivial, fun t ht => hall t (by omega)⟩
        go_wp2
        go_returns
        exact ⟨ret_bool (by simp [e']), by go_grown⟩
  · have e' : sameZ n z m y = false := by simp [sameZ, hnm]
    have hnm' : ¬ (n : Int) = m := by omega
    go_enter Tryd.func15, Tryd.ntmps15
    go_wp2
    go_returns
    exact ⟨ret_bool (by simp [e']), by go_grown⟩

theorem infoW : (Tryd.prog.info? 27).map (fun i => (i.zero, i.size, i.bytes)) = some (some (.int .u64 0), 1, 8) := by kernel_rfl

theorem anew_any (pg : Int) (w : World) :
    Calls Tryd.prog 10 #[.int .i64 pg] w fun e w' => ∃ p cap, e = .returned (.tuple #[.slice p (newN pg) cap, .int .i64 (newE pg)]) ∧ Ints .u64 w' p (newN pg) (fun _ => 0) ∧ Below w.heap.size w w' := by
  by_cases h : 1 ≤ pg ∧ pg ≤ 16
  · have e0 : newB pg = true := by simp [newB, h]
    have e1 : newN pg = (32 * pg).toNat := by unfold newN; rw [if_pos e0]
    have e2 : newE pg = 0 := by unfold newE; rw [if_pos e0]
    obtain ⟨h0, h1⟩ := h
    obtain ⟨i0, hi, hz0, hz1, hz2⟩ := info_parts infoW
    rw [e1, e2]
    obtain ⟨N, hN⟩ : ∃ N : Nat, (N : Int) = 32 * pg := ⟨(32 * pg).toNat, by omega⟩
    have hN' : (32 * pg).toNat = N := by omega
    have hN'' : pg * 32 = (N : Int) := by omega
    rw [hN']
    clear e0 e1 e2 hN'
    go_enter Tryd.func10, Tryd.ntmps10
    go_wp2_with (first
      | (at_make; refine wpList_make_full _ rfl (.tmp 11) (.tmp 11) 23 rfl w.heap.size 27 i0 (.int .u64 0) 1 Tryd.underlying23 hi hz0 hz1 _ _ _ _ N rfl rfl (by omega) (by omega) (by rw [hz2]; omega) (by simp only [maxLen]; omega) (by simp) ?_; intro w1 hown1 hgrow1)
    )
    go_returns
    have hm : (madeCells (Value.int IntKind.u64 0).cells (N * 1)).toList = vals .u64 N (fun _ => 0) := by rw [Nat.mul_one, ← vals_const]; exact toList_madeCells_one _ _
    rw [hm] at hown1
    exact ⟨_, _, rfl, ints_owned hown1 (fun _ _ => by decide), (Below.refl _ _).grown hgrow1 (by simp) (by simp)⟩
  · have e0 : newB pg = false := by simp [newB]; omega
    have e1 : newN pg = 0 := by unfold newN; rw [if_neg (by simp [e0])]
    have e2 : newE pg = 1 := by unfold newE; rw [if_neg (by simp [e0])]
    rw [e1, e2]
    go_enter Tryd.func10, Tryd.ntmps10
    go_wp2
    all_goals
      go_returns
      first
        | exact ⟨none, 0, rfl, fun i hi => by omega, by go_grown⟩
        | exact ⟨⟨_, rfl⟩, fun i hi => by omega, by go_grown⟩
        | exact ⟨none, ⟨_, rfl⟩, fun i hi => by omega, by go_grown⟩

set_option maxHeartbeats 1000000 in
theorem astore_any (p : Option Addr) (n cap : Nat) (z : Nat → Int) (i v : Int) (w : World) (hin : Ints .u64 w p n z) (hn : n ≤ 17592186043904) (hv : (Lit.int .u64 v).wf = true) :
    Calls Tryd.prog 13 #[.slice p n cap, .int .i64 i, .int .u64 v] w fun e w' => ∃ q cap', e = .returned (.tuple #[.slice q n cap', .bool (inI n i)]) ∧ Ints .u64 w' q n (putZ z i v) ∧ (inI n i = true → Fresh w.heap.size q) ∧ Below w.heap.size w w' := by
  cases h : inI n i with
  | false =>
    go_enter Tryd.func13, Tryd.ntmps13
    go_wp2_with (first
    | (go_at_call 20; refine (isin_any _ _ _ _ _).mono ?_; rintro e w' ⟨rfl, hb⟩; obtain ⟨hc, hf, hb, hz⟩ := bstep hb (w := w) (by go_grown); try simp only [World.size_alloc, World.size_setCell, World.size_drew] at hc hf hz)
    )
    go_returns
    exact ⟨_, _, rfl, (hin.below hb).congr (fun j hj => by
      unfold putZ
      rw [if_neg]
      intro e
      subst e
      rw [inI_yes (by omega) (by omega)] at h
      cases h), fun h => (by cases h), by go_grown⟩
  | true =>
    obtain ⟨h0, h1⟩ := of_inI h
    obtain ⟨i0, hi, hz0, hz1, hz2⟩ := info_parts infoW
    go_enter Tryd.func13, Tryd.ntmps13
    go_upto_region 4 with (first
    | (go_at_call 20; refine (isin_any _ _ _ _ _).mono ?_; rintro e w' ⟨rfl, hb⟩; obtain ⟨hc, hf, hb, hz⟩ := bstep hb (w := w) (by go_grown); try simp only [World.size_alloc, World.size_setCell, World.size_drew] at hc hf hz)
      | (at_make; refine wpList_make_full _ rfl (.tmp 15) (.tmp 15) 23 rfl w.heap.size 27 i0 (.int .u64 0) 1 Tryd.underlying23 hi hz0 hz1 _ _ _ _ n rfl rfl rfl rfl (by rw [hz2]; omega) (by simp only [maxLen]; omega) (by assumption) ?_; intro w1 hown1 hgrow1)
    )
    have hm : (madeCells (Value.int IntKind.u64 0).cells (n * 1)).toList = vals .u64 n (fun _ => 0) := by rw [Nat.mul_one, ← vals_const]; exact toList_madeCells_one _ _
    rw [hm] at hown1
    have row1 := rowAt_owned hown1
    have hB1 : Below w.heap.size w w1 := hb.grown hgrow1 hz (by simp)
    obtain ⟨ad, rfl, hcells⟩ := (hin.below hB1).cells (by omega)
    clear hm hown1 hgrow1 hc hf hb
    generalize w'.heap.size = g at hz row1 ⊢
    go_upto_region 5 with (first
      | (refine wpList_copy_splice (o := ⟨some 19, _, _, _, _, _⟩) rfl (.tmp 17) (.tmp 18) 23 23 rfl 27 Tryd.underlying23 (by kernel_rfl) _ _ _ _ _ _ rfl rfl g 0 (vals .u64 n (fun _ => 0)) 27 row1 (vals .u64 n z) (by simp [vals_length]) (fun _ => ⟨rfl, ad, rfl, hcells⟩) (by simp [vals_length]) (vals_one _ _ _) w.heap.size w hB1 hz ?_; intro w2 hG2 hB2)
    )
    have row2 : RowAt .u64 27 w2 g n z := by
      have := hG2.out
      rw [splice_all _ _ (by simp [vals_length])] at this
      exact this
    have hcell := row2.cell (i := i.toNat) (by omega)
    have hfz := row2.frozen i.toNat
    have row3 := row2.set i.toNat v
    have hB3 : Below w.heap.size w (w2.setCell ⟨g, i.toNat, none⟩ (.int .u64 v)) := hB2.setCell hz _
    clear hG2 row2 hB1 hcells row1
    go_wp2
    go_returns
    exact ⟨_, _, rfl, (row3.ints fun j hj => by
      split
      · exact hv
      · exact hin.wf j hj).congr fun j hj => by
        unfold putZ
        by_cases e : j = i.toNat
        · rw [if_pos e, if_pos (by omega)]
        · rw [if_neg e, if_neg (by omega)], fun _ b off sp e => by injection e with e; injection e with e; omega, hB3⟩

theorem one_new (w : World) (x : Value) (t : TypeId) : ∀ j u, [x][j]? = some u → (w.alloc (.cells #[x] t)).cell? ((⟨w.heap.size, 0, none⟩ : Addr).add j) = some u := by
  intro j u hj
  match j, hj with
  | 0, hj => simp at hj; subst hj; simp [Addr.add]
theorem ext_owned {w : World} {base : Nat} {e : TypeId} {n : Nat} {v : Value} {x : Int} {z y : Nat → Int} (h : w.ownsRow base e 1 v (n + 1) (vals .u64 n z ++ [.int .u64 x])) (h0 : ∀ i, i < n → y i = z i) (h1 : y n = x) : w.ownsRow base e 1 v (n + 1) (vals .u64 (n + 1) y) := by
  rw [← vals_snoc, h1, vals_congr .u64 h0]
  exact h

set_option maxHeartbeats 1000000 in
theorem rstore_any (p : Option Addr) (n cap : Nat) (z : Nat → Int) (i v : Int) (w : World) (hin : Ints .u64 w p n z) (hn : n ≤ 17592186043904) (hv : (Lit.int .u64 v).wf = true) :
    Calls Tryd.prog 14 #[.slice p n cap, .int .i64 i, .int .u64 v] w fun e w' => ∃ q cap', e = .returned (.tuple #[.slice q n cap', .bool (inI n i)]) ∧ Ints .u64 w' q n (putZ z i v) ∧ Below w.heap.size w w' := by
  obtain ⟨i0, hi, hz0, hz1, hz2⟩ := info_parts infoW
  go_enter Tryd.func14, Tryd.ntmps14
  go_wp2
  go_loopg [8, 9, 10] n (fun g ov fv jv wr => ∃ j : Nat, j ≤ n ∧ g = n - j ∧ fv = .bool (inI j i) ∧ jv = .int .i64 j ∧ wr.ownsRow w.heap.size 27 1 ov j (vals .u64 j (putZ z i v)) ∧ Below w.heap.size w wr)
  case atStart => exact ⟨0, by omega, by omega, by rw [inI_no (by omega)], rfl, World.ownsRow_nil _ _ _ _, Below.refl _ _⟩
  case round =>
    obtain ⟨j, jh, rfl, rfl, rfl, hown, hbw⟩ := hrel
    by_cases hj : j < n
    · obtain ⟨⟨b, off, rfl, hlt, hcell⟩, hwf⟩ := (hin.below hbw) j hj
      obtain ⟨v0, v1⟩ := wf_u64 hwf
      have hsz : w.heap.size ≤ wr.heap.size := hbw.size
      have hlen : j + 1 ≤ 17592186043904 := by omega
      by_cases e : (j : Int) = i
      · subst e
        have e0 : inI (j + 1) j = true := inI_yes (by omega) (by omega)
        have e1 : putZ z j v j = v := by unfold putZ; rw [if_pos rfl]
        go_wp2_with (first
          | (at_builtin; refine wpList_append_own _ rfl (.tmp 26) (.tmp 28) 23 rfl w.heap.size 27 i0 (.int .u64 0) 1 8 Tryd.underlying23 hi hz0 hz1 hz2 rfl (by decide) _ _ _ rfl (hown.alloc _) ⟨wr.heap.size, 0, none⟩ 1 1 [.int .u64 v] rfl rfl (one_new _ _ _) (by simp [Value.oneCell']) (by simp only [maxLen]; omega) (by omega) (by simp; omega) ?_; intro ov w1 hown' hgrow _)
        )
        have hown2 := ext_owned (y := putZ z j v) hown' (fun _ _ => rfl) e1
        have hb2 := (hbw.alloc hsz _).grown hgrow (by simp; omega) (fun k hk => (hown.lt k hk).1)
        clear hown' hgrow hown hbw
        go_wp2
        go_roundg (n - (j + 1))
        case measure => omega
        case rel => exact ⟨j + 1, by omega, rfl, by rw [e0], by go_num, hown2, hb2⟩
      · have e0 : inI (j + 1) i = inI j i := by simp only [inI]; congr 1; rw [decide_eq_decide]; omega
        have e1 : putZ z i v j = z j := by unfold putZ; rw [if_neg e]
        go_wp2_with (first
          | (at_builtin; refine wpList_append_own _ rfl (.tmp 26) (.tmp 28) 23 rfl w.heap.size 27 i0 (.int .u64 0) 1 8 Tryd.underlying23 hi hz0 hz1 hz2 rfl (by decide) _ _ _ rfl (hown.alloc _) ⟨wr.heap.size, 0, none⟩ 1 1 [.int .u64 (z j)] rfl rfl (one_new _ _ _) (by simp [Value.oneCell']) (by simp only [maxLen]; omega) (by omega) (by simp; omega) ?_; intro ov w1 hown' hgrow _)
        )
        have hown2 := ext_owned (y := putZ z i v) hown' (fun _ _ => rfl) e1
        have hb2 := (hbw.alloc hsz _).grown hgrow (by simp; omega) (fun k hk => (hown.lt k hk).1)
        clear hown' hgrow hown hbw
        go_wp2
        go_roundg (n - (j + 1))
        case measure => omega
        case rel => exact ⟨j + 1, by omega, rfl, by rw [e0], by go_num, hown2, hb2⟩
    · obtain rfl : j = n := by omega
      obtain ⟨q, cap', rfl, hnew⟩ := owned_new hown
      go_wp2
      go_returns
      exact ⟨_, _, rfl, ints_owned hown (putZ_wf hin.wf i hv), hbw⟩

def adB (g c i : Int) : Bool := decide (0 ≤ g ∧ g ≤ 15 ∧ 0 ≤ i ∧ i < blW c)
def adW (g c i : Int) : Int := if adB g c i = true then 32 * g + i * szW c else 0
def plB (c a : Int) : Bool := decide (0 ≤ a ∧ a < 512 ∧ szW c ≠ 0 ∧ a % szW c = 0)
def plP (c a : Int) : Int := if plB c a = true then a / 32 else 0
def plI (c a : Int) : Int := if plB c a = true then a % 32 / szW c else 0

set_option maxHeartbeats 1000000 in
theorem aaddress_any (g c i : Int) (w : World) (hS : Sz w) :
    Calls Tryd.prog 16 #[.int .i64 g, .int .i64 c, .int .i64 i] w fun e w' => e = .returned (.tuple #[.int .i64 (adW g c i), .bool (adB g c i)]) ∧ Below w.heap.size w w' := by
  by_cases h : 0 ≤ g ∧ g ≤ 15 ∧ 0 ≤ i ∧ i < blW c
  · have e0 : adB g c i = true := by simp only [adB, decide_eq_true_eq]; exact h
    have e1 : adW g c i = 32 * g + i * szW c := by unfold adW; rw [if_pos e0]
    rw [e0, e1]
    clear e0 e1
    rcases cl_cases c with ⟨-, h0, h1, -⟩ | ⟨-, h0, h1, -⟩ | ⟨-, h0, h1, -⟩ | ⟨-, h0, h1, -⟩ | ⟨-, h0, h1, -⟩
    all_goals
      rw [h1] at h
      obtain ⟨a0, a1, a2, a3⟩ := h
      try omega
    all_goals
      go_enter Tryd.func16, Tryd.ntmps16
      go_wp2_with (first
    | (go_at_call 21; refine (cblocks_any _ _ (hS.below (by go_grown))).mono ?_; rintro e w' ⟨rfl, hb⟩; obtain ⟨hc, hf, hb, hz⟩ := bstep hb (w := w) (by go_grown); try simp only [World.size_alloc, World.size_setCell, World.size_drew] at hc hf hz)
    | (go_at_call 22; refine (cwords_any _ _ (hS.below (by go_grown))).mono ?_; rintro e w' ⟨rfl, hb⟩; obtain ⟨hc, hf, hb, hz⟩ := bstep hb (w := w) (by go_grown); try simp only [World.size_alloc, World.size_setCell, World.size_drew] at hc hf hz)
      )
      go_returns
      exact ⟨ret_int_bool (by simp [h0]; try omega) rfl, by go_grown⟩
  · have e0 : adB g c i = false := by simp only [adB, decide_eq_false_iff_not]; exact h
    have e1 : adW g c i = 0 := by unfold adW; rw [if_neg (by simp [e0])]
    rw [e0, e1]
    clear e0 e1
    by_cases hg : 0 ≤ g ∧ g ≤ 15
    · obtain ⟨g0, g1⟩ := hg
      by_cases hi : 0 ≤ i
      · have hb : ¬ i < blW c := by omega
        go_enter Tryd.func16, Tryd.ntmps16
        go_wp2_with (first
    | (go_at_call 21; refine (cblocks_any _ _ (hS.below (by go_grown))).mono ?_; rintro e w' ⟨rfl, hb⟩; obtain ⟨hc, hf, hb, hz⟩ := bstep hb (w := w) (by go_grown); try simp only [World.size_alloc, World.size_setCell, World.size_drew] at hc hf hz)
        )
        go_returns
        exact ⟨rfl, by go_grown⟩
      · go_enter Tryd.func16, Tryd.ntmps16
        go_wp2
        go_returns
        exact ⟨rfl, by go_grown⟩
    · go_enter Tryd.func16, Tryd.ntmps16
      go_wp2
      all_goals
        go_returns
        exact ⟨rfl, by go_grown⟩

set_option maxHeartbeats 1000000 in
theorem raddress_any (g c i : Int) (w : World) :
    Calls Tryd.prog 17 #[.int .i64 g, .int .i64 c, .int .i64 i] w fun e w' => e = .returned (.tuple #[.int .i64 (adW g c i), .bool (adB g c i)]) ∧ Below w.heap.size w w' := by
  by_cases h : 0 ≤ g ∧ g ≤ 15 ∧ 0 ≤ i ∧ i < blW c
  · have e0 : adB g c i = true := by simp only [adB, decide_eq_true_eq]; exact h
    have e1 : adW g c i = 32 * g + i * szW c := by unfold adW; rw [if_pos e0]
    rw [e0, e1]
    clear e0 e1
    rcases cl_cases c with ⟨-, h0, h1, -⟩ | ⟨-, h0, h1, -⟩ | ⟨-, h0, h1, -⟩ | ⟨-, h0, h1, -⟩ | ⟨-, h0, h1, -⟩
    all_goals
      rw [h1] at h
      obtain ⟨a0, a1, a2, a3⟩ := h
      try omega
    all_goals
      go_enter Tryd.func17, Tryd.ntmps17
      go_wp2_with (first
    | (go_at_call 23; refine (rcblocks_any _ _).mono ?_; rintro e w' ⟨rfl, hb⟩; obtain ⟨hc, hf, hb, hz⟩ := bstep hb (w := w) (by go_grown); try simp only [World.size_alloc, World.size_setCell, World.size_drew] at hc hf hz)
    | (go_at_call 24; refine (rcwords_any _ _).mono ?_; rintro e w' ⟨rfl, hb⟩; obtain ⟨hc, hf, hb, hz⟩ := bstep hb (w := w) (by go_grown); try simp only [World.size_alloc, World.size_setCell, World.size_drew] at hc hf hz)
      )
      go_returns
      exact ⟨ret_int_bool (by simp [h0]; try omega) rfl, by go_grown⟩
  · have e0 : adB g c i = false := by simp only [adB, decide_eq_false_iff_not]; exact h
    have e1 : adW g c i = 0 := by unfold adW; rw [if_neg (by simp [e0])]
    rw [e0, e1]
    clear e0 e1
    by_cases hg : 0 ≤ g ∧ g ≤ 15 ∧ 0 ≤ i
    · obtain ⟨g0, g1, hi⟩ := hg
      have hb : ¬ i < blW c := by omega
      go_enter Tryd.func17, Tryd.ntmps17
      go_wp2_with (first
    | (go_at_call 23; refine (rcblocks_any _ _).mono ?_; rintro e w' ⟨rfl, hb⟩; obtain ⟨hc, hf, hb, hz⟩ := bstep hb (w := w) (by go_grown); try simp only [World.size_alloc, World.size_setCell, World.size_drew] at hc hf hz)
      )
      go_returns
      exact ⟨rfl, by go_grown⟩
    · go_enter Tryd.func17, Tryd.ntmps17
      go_wp2_with (first
    | (go_at_call 23; refine (rcblocks_any _ _).mono ?_; rintro e w' ⟨rfl, hb⟩; obtain ⟨hc, hf, hb, hz⟩ := bstep hb (w := w) (by go_grown); try simp only [World.size_alloc, World.size_setCell, World.size_drew] at hc hf hz)
      )
      all_goals
        first
        | omega
        | (go_returns
           exact ⟨rfl, by go_grown⟩)

set_option maxHeartbeats 1000000 in
theorem aplace_any (c a : Int) (w : World) (hS : Sz w) :
    Calls Tryd.prog 18 #[.int .i64 c, .int .i64 a] w fun e w' => e = .returned (.tuple #[.int .i64 (plP c a), .int .i64 (plI c a), .bool (plB c a)]) ∧ Below w.heap.size w w' := by
  by_cases h : 0 ≤ a ∧ a < 512 ∧ szW c ≠ 0 ∧ a % szW c = 0
  · have e0 : plB c a = true := by simp only [plB, decide_eq_true_eq]; exact h
    have e1 : plP c a = a / 32 := by unfold plP; rw [if_pos e0]
    have e2 : plI c a = a % 32 / szW c := by unfold plI; rw [if_pos e0]
    rw [e0, e1, e2]
    clear e0 e1 e2
    rcases cl_cases c with ⟨-, h0, h1, -⟩ | ⟨-, h0, h1, -⟩ | ⟨-, h0, h1, -⟩ | ⟨-, h0, h1, -⟩ | ⟨-, h0, h1, -⟩
    all_goals
      rw [h0] at h ⊢
      obtain ⟨a0, a1, a2, a3⟩ := h
      try omega
    all_goals
      go_enter Tryd.func18, Tryd.ntmps18
      go_wp2_with (first
    | (go_at_call 22; refine (cwords_any _ _ (hS.below (by go_grown))).mono ?_; rintro e w' ⟨rfl, hb⟩; obtain ⟨hc, hf, hb, hz⟩ := bstep hb (w := w) (by go_grown); try simp only [World.size_alloc, World.size_setCell, World.size_drew] at hc hf hz)
      )
      go_region
      all_goals
        go_wp2
        go_returns
        exact ⟨rfl, by go_grown⟩
  · have e0 : plB c a = false := by simp only [plB, decide_eq_false_iff_not]; exact h
    have e1 : plP c a = 0 := by unfold plP; rw [if_neg (by simp [e0])]
    have e2 : plI c a = 0 := by unfold plI; rw [if_neg (by simp [e0])]
    rw [e0, e1, e2]
    clear e0 e1 e2
    by_cases ha : 0 ≤ a ∧ a < 512
    · rcases cl_cases c with ⟨-, h0, h1, -⟩ | ⟨-, h0, h1, -⟩ | ⟨-, h0, h1, -⟩ | ⟨-, h0, h1, -⟩ | ⟨-, h0, h1, -⟩
      all_goals
        rw [h0] at h
        obtain ⟨a0, a1⟩ := ha
        go_enter Tryd.func18, Tryd.ntmps18
        go_wp2_with (first
    | (go_at_call 22; refine (cwords_any _ _ (hS.below (by go_grown))).mono ?_; rintro e w' ⟨rfl, hb⟩; obtain ⟨hc, hf, hb, hz⟩ := bstep hb (w := w) (by go_grown); try simp only [World.size_alloc, World.size_setCell, World.size_drew] at hc hf hz)
        )
        go_returns
        exact ⟨rfl, by go_grown⟩
    · go_enter Tryd.func18, Tryd.ntmps18
      go_wp2
      all_goals
        go_returns
        exact ⟨rfl, by go_grown⟩

theorem pl_at {c a p i : Int} (p0 : 0 ≤ p) (p1 : p < 16) (i0 : 0 ≤ i) (i1 : i < blW c) (h : 32 * p + i * szW c = a) : plB c a = true ∧ plP c a = p ∧ plI c a = i := by
  have key : plB c a = true ∧ a / 32 = p ∧ a % 32 / szW c = i := by
    simp only [plB, decide_eq_true_eq]
    rcases cl_cases c with ⟨-, h0, h1, -⟩ | ⟨-, h0, h1, -⟩ | ⟨-, h0, h1, -⟩ | ⟨-, h0, h1, -⟩ | ⟨-, h0, h1, -⟩
    all_goals
      rw [h1] at i1
      rw [h0] at h ⊢
      omega
  obtain ⟨h0, h1, h2⟩ := key
  exact ⟨h0, by unfold plP; rw [if_pos h0]; exact h1, by unfold plI; rw [if_pos h0]; exact h2⟩
theorem pl_in {c a : Int} (h : plB c a = true) : 0 ≤ plP c a ∧ plP c a < 16 ∧ 0 ≤ plI c a ∧ plI c a < blW c ∧ 32 * plP c a + plI c a * szW c = a := by
  have e1 : plP c a = a / 32 := by unfold plP; rw [if_pos h]
  have e2 : plI c a = a % 32 / szW c := by unfold plI; rw [if_pos h]
  rw [e1, e2]
  simp only [plB, decide_eq_true_eq] at h
  rcases cl_cases c with ⟨-, h0, h1, -⟩ | ⟨-, h0, h1, -⟩ | ⟨-, h0, h1, -⟩ | ⟨-, h0, h1, -⟩ | ⟨-, h0, h1, -⟩
  all_goals
    rw [h1]
    rw [h0] at h ⊢
    omega
theorem pl_no {c a : Int} (h : ¬ plB c a = true) : plB c a = false ∧ plP c a = 0 ∧ plI c a = 0 := by
  refine ⟨by simpa using h, ?_, ?_⟩
  · unfold plP; rw [if_neg h]
  · unfold plI; rw [if_neg h]
theorem ad_in {g c i : Int} (g0 : 0 ≤ g) (g1 : g < 16) (i0 : 0 ≤ i) (i1 : i < blW c) : adB g c i = true ∧ adW g c i = 32 * g + i * szW c := by
  have e0 : adB g c i = true := by simp only [adB, decide_eq_true_eq]; omega
  exact ⟨e0, by unfold adW; rw [if_pos e0]⟩

set_option maxHeartbeats 2000000 in
theorem rplace_any (c a : Int) (w : World) :
    Calls Tryd.prog 19 #[.int .i64 c, .int .i64 a] w fun e w' => e = .returned (.tuple #[.int .i64 (plP c a), .int .i64 (plI c a), .bool (plB c a)]) ∧ Below w.heap.size w w' := by
  have hbl : 0 ≤ blW c ∧ blW c ≤ 16 := by have := cl_cases c; omega
  obtain ⟨b0, b1⟩ := hbl
  go_enter Tryd.func19, Tryd.ntmps19
  go_wp2
  go_loopg [7] 16 (fun g pv wr => ∃ p : Int, 0 ≤ p ∧ p ≤ 16 ∧ g = (16 - p).toNat ∧ pv = .int .i64 p ∧ (plB c a = true → p ≤ plP c a) ∧ Below w.heap.size w wr)
  case atStart => exact ⟨0, by omega, by omega, rfl, rfl, fun h => (pl_in h).1, Below.refl _ _⟩
  case round =>
    obtain ⟨p, pl, ph, rfl, rfl, hno, hbw⟩ := hrel
    by_cases hp : p < 16
    · obtain ⟨w0, hw0⟩ : ∃ w0, w0 = wr := ⟨_, rfl⟩
      rw [← hw0] at hbw ⊢
      clear hw0
      go_wp2
      go_loopg [8] 16 (fun g iv wr => ∃ i : Int, 0 ≤ i ∧ i ≤ blW c ∧ g = (16 - i).toNat ∧ iv = .int .i64 i ∧ (plB c a = true → p < plP c a ∨ (p = plP c a ∧ i ≤ plI c a)) ∧ Below w0.heap.size w0 wr)
      case atStart => exact ⟨0, by omega, by omega, rfl, rfl, fun h => by have := hno h; have := (pl_in h).2.2.1; omega, Below.refl _ _⟩
      case round =>
        obtain ⟨i, il, ih, rfl, rfl, hno', hbw'⟩ := hrel
        by_cases hi : i < blW c
        · obtain ⟨ha0, ha1⟩ := ad_in pl hp il hi
          by_cases he : adW p c i = a
          · obtain ⟨q0, q1, q2⟩ := pl_at pl hp il hi (ha1.symm.trans he)
            clear hno hno' ha1
            have Q : Hid (plB c a = true ∧ plP c a = p ∧ plI c a = i) := ⟨q0, q1, q2⟩
            clear q0 q1 q2
            go_wp2_with (first
    | (go_at_call 23; refine (rcblocks_any _ _).mono ?_; rintro e w' ⟨rfl, hb⟩; obtain ⟨hc, hf, hb, hz⟩ := bstep hb (w := wr) (by go_grown); try simp only [World.size_alloc, World.size_setCell, World.size_drew] at hc hf hz)
    | (go_at_call 17; refine (raddress_any _ _ _ _).mono ?_; rintro e w' ⟨rfl, hb⟩; obtain ⟨hc, hf, hb, hz⟩ := bstep hb (w := wr) (by go_grown); try simp only [World.size_alloc, World.size_setCell, World.size_drew] at hc hf hz)
            )
            go_returns
            exact ⟨by rw [Q.out.1, Q.out.2.1, Q.out.2.2]; rfl, bjoin hb (bjoin hbw' hbw)⟩
          · have hno2 : plB c a = true → p < plP c a ∨ (p = plP c a ∧ i + 1 ≤ plI c a) := fun h => by
              have h1 := hno' h
              have h2 := (pl_in h).2.2.2.2
              by_cases hh : p = plP c a ∧ i = plI c a
              · rw [← hh.1, ← hh.2] at h2; omega
              · omega
            clear ha1
            go_wp2_with (first
    | (go_at_call 23; refine (rcblocks_any _ _).mono ?_; rintro e w' ⟨rfl, hb⟩; obtain ⟨hc, hf, hb, hz⟩ := bstep hb (w := wr) (by go_grown); try simp only [World.size_alloc, World.size_setCell, World.size_drew] at hc hf hz)
    | (go_at_call 17; refine (raddress_any _ _ _ _).mono ?_; rintro e w' ⟨rfl, hb⟩; obtain ⟨hc, hf, hb, hz⟩ := bstep hb (w := wr) (by go_grown); try simp only [World.size_alloc, World.size_setCell, World.size_drew] at hc hf hz)
            )
            go_roundg (16 - (i + 1)).toNat
            case measure => omega
            case rel => exact ⟨i + 1, by omega, by omega, rfl, rfl, hno2, bjoin hb hbw'⟩
        · have hno2 : plB c a = true → p + 1 ≤ plP c a := fun h => by
            have h1 := hno' h
            have h2 := (pl_in h).2.2.2.1
            omega
          go_wp2_with (first
    | (go_at_call 23; refine (rcblocks_any _ _).mono ?_; rintro e w' ⟨rfl, hb⟩; obtain ⟨hc, hf, hb, hz⟩ := bstep hb (w := wr) (by go_grown); try simp only [World.size_alloc, World.size_setCell, World.size_drew] at hc hf hz)
          )
          go_roundg (16 - (p + 1)).toNat
          case measure => omega
          case rel => exact ⟨p + 1, by omega, by omega, rfl, rfl, hno2, bjoin hb (bjoin hbw' hbw)⟩
    · have e : ¬ plB c a = true := fun h => by have := hno h; have := (pl_in h).2.1; omega
      obtain ⟨q0, q1, q2⟩ := pl_no e
      have Q : Hid (plB c a = false ∧ plP c a = 0 ∧ plI c a = 0) := ⟨q0, q1, q2⟩
      clear hno e q0 q1 q2
      go_wp2
      go_returns
      exact ⟨by rw [Q.out.1, Q.out.2.1, Q.out.2.2]; rfl, by go_grown⟩
end Go.Proofs.YtjhclnalgdnplaaDoor
