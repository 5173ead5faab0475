/- Contracts of the reference's mutators (chapter 18): Few, Same, Sames. -/
import Derived.Test.YtmbgodncagjncaaDoorB33
import Derived.ChangeKeysEq
namespace Go.Proofs.YtmbgodncagjncaaDoor
set_option linter.unusedSimpArgs false
set_option linter.unusedVariables false
open Go.ChangeShapes Go.WideShapes Go.ChangeAt Go.RowKit Go.Joins

/-- Are mutators few, and their stacks short? -/
def fewU (z : Nat → Mu) (n : Nat) : Bool := decide ((∀ i, i < n → i < 20 → (z i).n ≤ 20) ∧ n ≤ 10)
theorem few_u {z : Nat → Mu} {n : Nat} (h : fewU z n = true) : n ≤ 10 ∧ ∀ i, i < n → (z i).n ≤ 20 := by
  simp only [fewU, decide_eq_true_eq] at h
  exact ⟨h.2, fun i hi => h.1 i hi (by omega)⟩
theorem RAt.mu {W : World} {p : Option Addr} {c n : Nat} {z : Nat → Mu} (h : RAt MuC 13 W p c n z) {i : Nat} (hi : i < n) :
    ∃ bb off ps cs, p = some ⟨bb, off, none⟩ ∧ bb < W.heap.size ∧ (∀ k u, ((z i).cells ps cs)[k]? = some u → W.cell? ⟨bb, off + i * 13 + k, none⟩ = some u) ∧ VAt W ps cs (z i).n (z i).st ∧ (z i).wf := by
  obtain ⟨bb, off, L, e, hl, -, hc, ps, cs, rfl, hv, hw⟩ := h.row i hi
  exact ⟨bb, off, ps, cs, e, hl, hc, hv, hw⟩
set_option maxHeartbeats 1000000 in
theorem rfew18_any (n : Nat) (z : Nat → Mu) (p : Option Addr) (c : Nat) (w : World) (hz : RAt MuC 13 w p c n z) :
    Calls Tryd.prog 25 #[.slice p n c] w fun e w' => e = .returned (.bool (fewU z n)) ∧ Below w.heap.size w w' := by
  go_enter Tryd.func25, Tryd.ntmps25
  go_wp2
  go_loopg [3] n (fun g iv wr => ∃ i : Nat, i ≤ n ∧ i ≤ 20 ∧ g = n - i ∧ iv = .int .i64 i ∧ (∀ j, j < i → (z j).n ≤ 20) ∧ Below w.heap.size w wr)
  case atStart => exact ⟨0, by omega, by omega, by omega, rfl, fun j hj => absurd hj (Nat.not_lt_zero _), Below.refl _ _⟩
  case round =>
    obtain ⟨i, ih, i20, rfl, rfl, hall, hbw⟩ := hrel
    by_cases hi : i < n ∧ i < 20
    · obtain ⟨hi, hi2⟩ := hi
      obtain ⟨bb, off, ps, cs, rfl, hlt, hc, -, -⟩ := (hz.below muC_below hbw).mu hi
      have v0 := hc 0 _ rfl
      rw [Nat.add_zero] at v0
      clear hc
      by_cases e : (z i).n ≤ 20
      · have hall2 : Hid (∀ j, j < i + 1 → (z j).n ≤ 20) := fun j hj => by
          by_cases e' : j = i
          · subst e'; exact e
          · exact hall j (by omega)
        clear hall
        generalize (z i).n = k at *
        go_wp2
        go_roundg (n - (i + 1))
        case measure => omega
        case rel => exact ⟨i + 1, by omega, by omega, rfl, by go_num, hall2.out, hbw⟩
      · have hF : Hid (fewU z n = false) := by
          show fewU z n = false
          simp only [fewU, decide_eq_false_iff_not]
          exact fun h => e (h.1 i hi hi2)
        clear hall
        generalize (z i).n = k at *
        go_wp2
        go_returns
        exact ⟨ret_bool hF.out.symm, hbw⟩
    · have hF : Hid (fewU z n = decide (n ≤ 10)) := by
        show fewU z n = _
        rw [Bool.eq_iff_iff]
        simp only [fewU, decide_eq_true_eq]
        constructor
        · rintro ⟨-, h2⟩; exact h2
        · intro h2; exact ⟨fun j hj hj2 => hall j (by omega), h2⟩
      clear hall
      have hor : n ≤ i ∨ 20 ≤ i := by omega
      clear hi
      rcases hor with hor | hor
      · obtain rfl : i = n := by omega
        go_wp2
        all_goals
          go_returns
          exact ⟨ret_bool (by rw [hF.out]; first | (rw [Bool.eq_iff_iff]; simp only [decide_eq_true_eq, Bool.and_eq_true, Bool.false_eq_true]; omega) | (simp; omega) | (simp; done) | (simp_all; done)), hbw⟩
      · obtain rfl : i = 20 := by omega
        go_wp2
        all_goals
          go_returns
          exact ⟨ret_bool (by rw [hF.out]; first | (rw [Bool.eq_iff_iff]; simp only [decide_eq_true_eq, Bool.and_eq_true, Bool.false_eq_true]; omega) | (simp; omega) | (simp; done) | (simp_all; done)), hbw⟩
/-- An array of four numbers is like itself. -/
theorem arr_self {P : Program} (w : World) {t e : TypeId} {i : TypeInfo} (hu : P.underlying t = some (.array 4 e)) (hi : P.info? e = some i) (hk : P.plainKey e = true) (he : P.underlying e = some (.int .i64)) (hc : P.cellsOf e = 1) (a b c d : Int) :
    (Op.equalIn 10000 t (.agg #[.int .i64 a, .int .i64 b, .int .i64 c, .int .i64 d]) (.agg #[.int .i64 a, .int .i64 b, .int .i64 c, .int .i64 d])).run P w = .ok true w := by
  rw [run_equalIn_array w 9999 _ _ hu hi, hc]
  have key : ∀ (x : Int) (k : Nat), (#[.int .i64 a, .int .i64 b, .int .i64 c, .int .i64 d] : Array Value)[k]? = some (.int .i64 x) → (part e #[.int .i64 a, .int .i64 b, .int .i64 c, .int .i64 d] k).run P w = .ok (.int .i64 x) w := fun x k h => run_part_plain w hk h
  have hq : ∀ x : Int, (Op.equalIn 9999 e (.int .i64 x) (.int .i64 x)).run P w = .ok true w := fun x => by
    have := run_equalIn_int w 9998 e .i64 .i64 x x he
    rwa [show (x == x) = true by simp] at this
  rw [show List.range 4 = [0, 1, 2, 3] from rfl]
  simp only [Op.eqItems, Nat.mul_one, Sem.run_bind, key a 0 rfl, key b 1 rfl, key c 2 rfl, key d 3 rfl, hq, Result.andThen_ok, Bool.not_true, Bool.false_eq_true, if_false, Sem.run_pure]
set_option maxRecDepth 20000 in
set_option maxHeartbeats 4000000 in
theorem rsame18_self (m : Mu) (p : Option Addr) (c : Nat) (p' : Option Addr) (c' : Nat) (w : World) (hv : VAt w p c m.n m.st) (hv' : VAt w p' c' m.n m.st) :
    Calls Tryd.prog 39 #[.agg #[.slice p m.n c, .int .i64 m.s, .int .i64 m.ok, .int .i64 m.oa, .int .i64 m.ob, .int .i64 m.oc, .int .i64 m.o, .int .i64 m.v.k, .int .i64 m.v.n, .int .i64 m.c0, .int .i64 m.c1, .int .i64 m.c2, .int .i64 m.c3], .agg #[.slice p' m.n c', .int .i64 m.s, .int .i64 m.ok, .int .i64 m.oa, .int .i64 m.ob, .int .i64 m.oc, .int .i64 m.o, .int .i64 m.v.k, .int .i64 m.v.n, .int .i64 m.c0, .int .i64 m.c1, .int .i64 m.c2, .int .i64 m.c3]] w fun e w' => e = .returned (.bool true) ∧ Below w.heap.size w w' := by
  obtain ⟨w0, hw0⟩ : ∃ w0, w0 = (w.alloc (.cells #[.slice p m.n c, .int .i64 m.s, .int .i64 m.ok, .int .i64 m.oa, .int .i64 m.ob, .int .i64 m.oc, .int .i64 m.o, .int .i64 m.v.k, .int .i64 m.v.n, .int .i64 m.c0, .int .i64 m.c1, .int .i64 m.c2, .int .i64 m.c3] 49)).alloc (.cells #[.slice p' m.n c', .int .i64 m.s, .int .i64 m.ok, .int .i64 m.oa, .int .i64 m.ob, .int .i64 m.oc, .int .i64 m.o, .int .i64 m.v.k, .int .i64 m.v.n, .int .i64 m.c0, .int .i64 m.c1, .int .i64 m.c2, .int .i64 m.c3] 49) := ⟨_, rfl⟩
  obtain ⟨gA, gB, hst⟩ := tbox_two hw0
  have hSv : ∀ W, Below w0.heap.size w0 W → Calls Tryd.prog 20 #[.slice p m.n c, .slice p' m.n c'] W fun e w' => e = .returned (.bool true) ∧ Below W.heap.size W w' := fun W hW => by
    have := rvsame_any p p' m.n c m.n c' m.st m.st W ((hv.below hst).below hW) ((hv'.below hst).below hW)
    rwa [sameV_self] at this
  clear hv hv'
  obtain ⟨n, st, s, ok, oa, ob, oc, o, ⟨vk, vn⟩, c0, c1, c2, c3⟩ := m
  dsimp only at *
  go_enter Tryd.func39, Tryd.ntmps39
  go_upto_region 1 with fail
  rw [← hw0]
  clear hw0
  obtain ⟨l0, x0, x1, x2, x3, x4, x5, x6, x7, x8, x9, x10, x11, x12⟩ := mu_cells gA
  obtain ⟨l1, y0, y1, y2, y3, y4, y5, y6, y7, y8, y9, y10, y11, y12⟩ := mu_cells gB
  clear gA gB
  have hAr : ∀ W, (Op.equalIn 10000 47 (.agg #[.int .i64 c0, .int .i64 c1, .int .i64 c2, .int .i64 c3]) (.agg #[.int .i64 c0, .int .i64 c1, .int .i64 c2, .int .i64 c3])).run Tryd.prog W = .ok true W := fun W => by
    obtain ⟨ii, hi0, -, -, -⟩ := info_parts int_info'
    exact arr_self W (by kernel_rfl) hi0 (by kernel_rfl) Tryd.underlying3 (by kernel_rfl) c0 c1 c2 c3
  go_wp2_with (first
    | (go_at_call 20; refine Calls.mono (hSv _ (by go_grown)) ?_; rintro e w' ⟨rfl, hb⟩; obtain ⟨hc, hf, hb, hz⟩ := bstep hb (w := w0) (by go_grown); try simp only [World.size_alloc, World.size_setCell, World.size_drew] at hc hf hz)
  )
  all_goals
    go_returns
    exact ⟨rfl, bjoin hb hst⟩
end Go.Proofs.YtmbgodncagjncaaDoor
namespace Go.Proofs.YtmbgodncagjncaaDoor
set_option linter.unusedSimpArgs false
set_option linter.unusedVariables false
open Go.ChangeShapes Go.WideShapes Go.ChangeAt Go.RowKit Go.Joins

set_option maxRecDepth 20000 in
set_option maxHeartbeats 4000000 in
theorem fits18_any (p : Option Addr) (c : Nat) (q : Option Addr) (d : Nat) (h : Hp) (n : Nat) (z : Nat → Mu) (pm : Option Addr) (cm : Nat) (w : World) (hh : HpAt w p c q d h) (hz : RAt MuC 13 w pm cm n z) :
    Calls Tryd.prog 8 #[.agg #[.slice p h.n c, .slice q h.m d, .bool h.b], .slice pm n cm] w fun e w' => e = .returned (.bool (formB h && fewU z n)) ∧ Below w.heap.size w w' := by
  obtain ⟨w0, hw0⟩ : ∃ w0, w0 = w.alloc (.cells #[.slice p h.n c, .slice q h.m d, .bool h.b] 25) := ⟨_, rfl⟩
  have gH : TBox 25 w.heap.size #[.slice p h.n c, .slice q h.m d, .bool h.b] w0 := by rw [hw0]; exact TBox.new _ _ _
  have hb0 : Below w.heap.size w w0 := by rw [hw0]; exact (Below.refl _ _).alloc (Nat.le_refl _) _
  have hat := hh.below hb0
  replace hz := hz.below muC_below hb0
  have hFo := fun W (hW : Below w0.heap.size w0 W) => rform_any _ _ _ _ _ W (hat.below hW)
  have hFe := fun W (hW : Below w0.heap.size w0 W) => rfew18_any n z pm cm W (hz.below muC_below hW)
  obtain ⟨l0, x0, x1, x2⟩ : w.heap.size < w0.heap.size ∧ w0.cell? ⟨w.heap.size, 0, none⟩ = some (.slice p h.n c) ∧ w0.cell? ⟨w.heap.size, 1, none⟩ = some (.slice q h.m d) ∧ w0.cell? ⟨w.heap.size, 2, none⟩ = some (.bool h.b) := ⟨gH.lt, gH.cell 0, gH.cell 1, gH.cell 2⟩
  generalize fewU z n = B1 at *
  cases hF : formB h with
  | true =>
    rw [hF] at hFo
    clear hF hat hz hh gH
    go_enter Tryd.func8, Tryd.ntmps8
    go_upto_region 1 with fail
    rw [← hw0]
    clear hw0
    go_wp2_with (first
    | (go_at_call 24; refine Calls.mono (hFo _ (by go_grown)) ?_; rintro e w' ⟨rfl, hb⟩; obtain ⟨hc, hf, hb, hz⟩ := bstep hb (w := w0) (by go_grown); try simp only [World.size_alloc, World.size_setCell, World.size_drew] at hc hf hz)
    | (go_at_call 25; refine Calls.mono (hFe _ (by go_grown)) ?_; rintro e w' ⟨rfl, hb⟩; obtain ⟨hc, hf, hb, hz⟩ := bstep hb (w := w0) (by go_grown); try simp only [World.size_alloc, World.size_setCell, World.size_drew] at hc hf hz)
    )
    go_returns
    exact ⟨ret_bool (by simp), bjoin hb hb0⟩
  | false =>
    rw [hF] at hFo
    clear hF hat hz hh gH
    go_enter Tryd.func8, Tryd.ntmps8
    go_upto_region 1 with fail
    rw [← hw0]
    clear hw0
    go_wp2_with (first
    | (go_at_call 24; refine Calls.mono (hFo _ (by go_grown)) ?_; rintro e w' ⟨rfl, hb⟩; obtain ⟨hc, hf, hb, hz⟩ := bstep hb (w := w0) (by go_grown); try simp only [World.size_alloc, World.size_setCell, World.size_drew] at hc hf hz)
    )
    go_returns
    exact ⟨ret_bool (by simp), bjoin hb hb0⟩
end Go.Proofs.YtmbgodncagjncaaDoor
