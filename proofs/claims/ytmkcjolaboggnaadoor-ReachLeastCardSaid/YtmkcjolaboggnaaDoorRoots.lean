/- Contracts of the code's roots (chapter 14), and of slices.Grow and slices.Concat at values. -/
import Derived.Test.YtmkcjolaboggnaaDoorRef14
import Derived.Lib.AppendZerosOnto
import Derived.Laws.AppendOwnNone
namespace Go.Proofs.YtmkcjolaboggnaaDoor
set_option linter.unusedSimpArgs false
set_option linter.unusedVariables false
open Go.ChangeShapes Go.WideShapes Go.ChangeAt Go.RowKit Go.Joins

/-- 'append(s, x...)', s the call's own, x a row of such cells: nil, empty or not. -/
theorem wpList_append_row {P : Program} {w : World} {ops : Array Oper} {rest : List Oper} {o : Oper} {a : Act} {Q : Exit → Act → World → Prop} (hgd : o.guard = none) (s x : Operand) (t : TypeId)
    (ho : o.op = .call { callee := .builtin .append, args := #[s, x], argTypes := #[t, t] })
    (base : Nat) (e : TypeId) (i : TypeInfo) (z0 : Value) (size bytes : Nat) (ht : P.underlying t = some (.slice e)) (hi : P.info? e = some i) (hz : i.zero = some z0) (hsize : i.size = size) (hby : i.bytes = bytes) (hzs : z0.cells.size = size) (hsz : 0 < size)
    (v : Value) (m : Nat) (xs : List Value) (hs : a.eval s = v) (hown : w.ownsRow base e size v m xs)
    (p : Option Addr) (n cap : Nat) (ys : List Value) (hx : a.eval x = .slice p n cap) (hl : ys.length = n * size) (hcells : ∀ ad, p = some ad → ∀ j u, ys[j]? = some u → w.cell? (ad.add j) = some u) (h1 : ∀ u ∈ ys, u.oneCell' = true) (hq : p = none → n = 0 ∧ cap = 0)
    (h63 : m + n ≤ maxLen) (hbytes : (m + n) * bytes ≤ 140737488355328) (hbase : base ≤ w.heap.size)
    (h : ∀ v' w', w'.ownsRow base e size v' (m + n) (xs ++ ys) → w.grownBy w' v.ownBlock → wpList P ops Q rest (a.put o.dst v') w') : wpList P ops Q (o :: rest) a w := by
  cases p with
  | none =>
    obtain ⟨rfl, rfl⟩ := hq rfl
    obtain rfl : ys = [] := List.eq_nil_of_length_eq_zero (by omega)
    exact wpList_append_own_none hgd s x t ho base e i size ht hi v m xs hs hown hx (h v w (by simpa using hown) (World.grownBy.refl _ _))
  | some ad =>
    exact wpList_append_own _ hgd s x t ho base e i z0 size bytes ht hi hz hsize hby hzs hsz v m xs hs hown ad n cap ys hx hl (hcells ad rfl) h1 h63 hbytes hbase (fun v' w' h1 h2 _ => h v' w' h1 h2)
/-- The address that a value tells of; the error. -/
def vaE (k : Int) : Int := if k = 2 then 0 else if k = 0 then 2 else 7
def vaX (k x : Int) : Int := if k = 2 then x else 0
theorem vaddr_any (k x : Int) (w : World) :
    Calls Tryd.prog 27 #[.agg #[.int .i64 k, .int .i64 x]] w fun e w' => e = .returned (.tuple #[.int .i64 (vaX k x), .int .i64 (vaE k)]) ∧ Below w.heap.size w w' := by
  by_cases k2 : k = 2
  · subst k2
    go_enter Tryd.func27, Tryd.ntmps27
    go_wp2
    go_returns
    exact ⟨rfl, by go_grown⟩
  · have eX : vaX k x = 0 := by unfold vaX; rw [if_neg k2]
    rw [eX]
    by_cases k0 : k = 0
    · subst k0
      go_enter Tryd.func27, Tryd.ntmps27
      go_wp2
      go_returns
      exact ⟨rfl, by go_grown⟩
    · have eE : vaE k = 7 := by unfold vaE; rw [if_neg k2, if_neg k0]
      rw [eE]
      clear eX eE
      go_enter Tryd.func27, Tryd.ntmps27
      go_wp2
      go_returns
      exact ⟨rfl, by go_grown⟩
set_option maxHeartbeats 1000000 in
theorem vrefs_own (p : Option Addr) (n c : Nat) (z : Nat → Vl) (w : World) (hZ : VAt w p c n z) (hn : n ≤ 1000000) :
    Calls Tryd.prog 13 #[.slice p n c] w fun e w' => ∃ p' c', e = .returned (.slice p' (vrL z n).length c') ∧ w'.ownsRow w.heap.size 3 1 (.slice p' (vrL z n).length c') (vrL z n).length ((vrL z n).map (Value.int .i64)) ∧ Below w.heap.size w w' := by
  obtain ⟨i0, hi, hz0, hz1, hz2⟩ := info_parts int_infoL
  have hrow := hZ.row
  go_enter Tryd.func13, Tryd.ntmps13
  go_wp2
  go_loopg [3, 10] n (fun g ov iv wr => ∃ j : Nat, j ≤ n ∧ g = n - j ∧ iv = .int .i64 j ∧ wr.ownsRow w.heap.size 3 1 ov (vrL z j).length ((vrL z j).map (Value.int .i64)) ∧ Below w.heap.size w wr)
  case atStart => exact ⟨0, by omega, by omega, rfl, World.ownsRow_nil _ _ _ _, Below.refl _ _⟩
  case round =>
    obtain ⟨j, jh, rfl, rfl, hown, hbw⟩ := hrel
    have hsz : w.heap.size ≤ wr.heap.size := hbw.size
    by_cases hj : j < n
    · obtain ⟨⟨b, off, rfl, hlt, v0, v1⟩, -⟩ := (hrow.below hbw) j hj
      have hql := vrL_len z j
      by_cases hk : (z j).k = 2
      · have hL : vrL z (j + 1) = vrL z j ++ [(z j).n] := by show (if (z j).k = 2 then _ else _) = _; rw [if_pos hk]
        rw [hk] at v0
        generalize hE : vrL z (j + 1) = L2 at *
        generalize vrL z j = L at *
        generalize (z j).n = x at *
        clear hk
        have hA := vaddr_any 2 x (wr.alloc (.cells #[.int .i64 2, .int .i64 x] 33))
        rw [show vaX 2 x = x from rfl, show vaE 2 = 0 from rfl] at hA
        go_upto_region 7 with (first
    | (go_at_call 27; refine Calls.mono (hA) ?_; rintro e w' ⟨rfl, hb⟩; obtain ⟨hc, hf, hb, hz⟩ := bstep hb (w := wr) (by go_grown); try simp only [World.size_alloc, World.size_setCell, World.size_drew] at hc hf hz)
        )
        have hb5 := hb
        have hbv := hbw.trans (hb5.mono hsz)
        have hown5 := owned_below hown hb5
        have hsz5 := hbv.size
        clear hb hc hf hA hb5 hown
        generalize w' = w5 at *
        go_wp2_with (first
          | (at_builtin; refine wpList_append_own _ rfl (.tmp 21) (.tmp 23) 29 rfl w.heap.size 3 i0 (.int .i64 0) 1 8 Tryd.underlying29 hi hz0 hz1 hz2 rfl (by decide) _ _ _ rfl (hown5.alloc _) ⟨w5.heap.size, 0, none⟩ 1 1 [.int .i64 x] rfl rfl (one_newG _ _ _) (by simp [Value.oneCell']) (by simp only [maxLen]; omega) (by omega) (by simp; omega) ?_; intro ov w1 hown' hgrow _)
        )
        have hown2 : w1.ownsRow w.heap.size 3 1 ov (L ++ [x]).length ((L ++ [x]).map (Value.int .i64)) := by simpa using hown'
        have hb2 := (hbv.alloc hsz5 (.cells #[.int .i64 x] 3)).grown hgrow (by simp; omega) (fun k hk => (hown5.lt k hk).1)
        rw [← hL] at hown2
        go_roundg (n - (j + 1))
        case measure => omega
        case rel => exact ⟨j + 1, by omega, rfl, by go_num, by rw [hE]; assumption, hb2⟩
      · have hL : vrL z (j + 1) = vrL z j := by show (if (z j).k = 2 then _ else _) = _; rw [if_neg hk]
        have hk2 : (vaE (z j).k == 0) = false := by
          unfold vaE
          rw [if_neg hk]
          split <;> rfl
        rw [← hL] at hown
        generalize hE : vrL z (j + 1) = L at *
        generalize (z j).k = kk at *
        generalize (z j).n = x at *
        have hA := vaddr_any kk x (wr.alloc (.cells #[.int .i64 kk, .int .i64 x] 33))
        clear hk
        generalize vaE kk = ee at *
        generalize vaX kk x = xx at *
        go_wp2_with (first
    | (go_at_call 27; refine Calls.mono (hA) ?_; rintro e w' ⟨rfl, hb⟩; obtain ⟨hc, hf, hb, hz⟩ := bstep hb (w := wr) (by go_grown); try simp only [World.size_alloc, World.size_setCell, World.size_drew] at hc hf hz)
        )
        have hb5 := hb
        have hbv := hbw.trans (hb5.mono hsz)
        have hown5 := owned_below hown hb5
        go_roundg (n - (j + 1))
        case measure => omega
        case rel => exact ⟨j + 1, by omega, rfl, by go_num, by rw [hE]; assumption, hbv⟩
    · obtain rfl : j = n := by omega
      obtain ⟨pp, cc, ff, -⟩ := owned_new hown
      rw [ff] at hown ⊢
      have hI := hown
      clear hown ff
      go_wp2
      go_returns
      exact ⟨pp, cc, rfl, hI, hbw⟩
theorem vrefs_any (p : Option Addr) (n c : Nat) (z : Nat → Vl) (w : World) (hZ : VAt w p c n z) (hn : n ≤ 1000000) :
    Calls Tryd.prog 13 #[.slice p n c] w fun e w' => ∃ p' c', e = .returned (.slice p' (vrL z n).length c') ∧ Ints .i64 w' p' (vrL z n).length (liI (vrL z n)) ∧ Below w.heap.size w w' := by
  refine Calls.mono (vrefs_own p n c z w hZ hn) ?_
  rintro e w' ⟨p', c', rfl, hown, hb⟩
  exact ⟨p', c', rfl, li_ints hown (vrL_wf hZ.row.wf), hb⟩
end Go.Proofs.YtmkcjolaboggnaaDoor
