/- SweepPages: of every sound heap, and caches (of at most ten mutators): swept to its end, no page is dirty; a page that was dirty, and has no object left, is free, but one that a cache has; a page that wasn't dirty is as it was. No condition; the table that the code reads is tied to the program's text. -/
import Derived.Test.YtjoepiopigmmnaaDoorRows
import Derived.Test.YtjoepiopigmmnaaDoorCards
import Derived.Test.YtjoepiopigmmnaaDoorTie
import Derived.Test.YtjoepiopigmmnaaDoorAwake12
import Derived.SevenTiedAt
namespace Go.Proofs.YtjoepiopigmmnaaDoor
set_option linter.unusedSimpArgs false
set_option linter.unusedVariables false
open Go.ChangeShapes Go.WideShapes Go.ChangeAt Go.RowKit Go.Joins

/-- Does one of the first j addresses lie in the page? -/
def leftY (z : Nat → Int) (q : Int) : Nat → Bool
  | 0 => false
  | j + 1 => leftY z q j || (z j / 32 == q)
theorem leftY_iff {z : Nat → Int} {q : Int} : ∀ {n : Nat}, leftY z q n = true ↔ ∃ j, j < n ∧ z j / 32 = q
  | 0 => by simp [leftY]
  | n + 1 => by
    unfold leftY
    rw [Bool.or_eq_true, leftY_iff, beq_iff_eq]
    constructor
    · rintro (⟨j, hj, e⟩ | e)
      · exact ⟨j, by omega, e⟩
      · exact ⟨n, by omega, e⟩
    · rintro ⟨j, hj, e⟩
      by_cases h : j = n
      · subst h; exact .inr e
      · exact .inl ⟨j, by omega, e⟩
/-- What is asked of a page that was dirty. -/
theorem page_want {h A : Hp} {n : Nat} {y : Nat → Int} (S : Swept n y h A) {M : Nat} {z : Nat → Int} (hzm : ∀ t : Nat, t < M → z t ∈ obL A A.n) (hzs : ∀ a, a ∈ obL A A.n → ∃ t : Nat, t < M ∧ z t = a) {i : Nat} (hi : i < h.m) (hd : (h.s i).st = 2) :
    (A.s i).st = if (leftY z i M || hasY y i (n * 4)) = true then 1 else 0 := by
  obtain ⟨s1, s2⟩ := swept_page S hi hd
  have hl : leftY z i M = true ↔ ∃ b, obB A b = true ∧ b / 32 = i := by
    rw [leftY_iff]
    constructor
    · rintro ⟨j, hj, e⟩
      exact ⟨z j, ((obL_mem A _ A.n).1 (hzm j hj)).2.2, e⟩
    · rintro ⟨b, ho, e⟩
      have hin := ob_fi ho
      simp only [fiB, Bool.and_eq_true] at hin
      obtain ⟨i0, i1⟩ := of_inI hin.1
      have hgn := (form_iff.1 S.form).2.2.1
      obtain ⟨t, ht, e'⟩ := hzs b ((obL_mem A b A.n).2 ⟨i0, by omega, ho⟩)
      exact ⟨t, ht, by rw [e']; exact e⟩
  have hkp : keptY n y (i : Int) = hasY y i (n * 4) := by
    have : (0 : Int) ≤ i := by omega
    simp [keptY, this]
  rw [hkp, ← hl] at s1 s2
  split
  · rename_i e
    exact s1 (by simpa using e)
  · rename_i e
    exact s2 (by simpa using e)
set_option maxHeartbeats 32000000 in
set_option maxRecDepth 20000 in
theorem pages_walk {p : Option Addr} {c : Nat} {q : Option Addr} {d : Nat} {h : Hp} {pc : Option Addr} {k cc : Nat} {y : Nat → Int} (w : World) (hat : HpAt w p c q d h) (hin : Ints .i64 w pc (k * 4) y) (hk : k ≤ maxLen) (hS : Sz w) (hT : Tab w) :
    Calls Tryd.prog 6 #[.agg #[.slice p h.n c, .slice q h.m d, .bool h.b], .slice pc k cc] w fun e w' => e = .returned (.bool true) ∧ Below w.heap.size w w' := by
  obtain ⟨w0, hw0⟩ : ∃ w0, w0 = w.alloc (.cells #[.slice p h.n c, .slice q h.m d, .bool h.b] 25) := ⟨_, rfl⟩
  have g3 : Box3 w.heap.size (.slice p h.n c) (.slice q h.m d) (.bool h.b) w0 := by rw [hw0]; exact Box3.new _ _ _ _ _
  have hB0 : Below w.heap.size w w0 := by rw [hw0]; exact (Below.refl _ _).alloc (Nat.le_refl _) _
  replace hat := hat.below hB0
  replace hin := hin.below hB0
  replace hS := hS.below hB0
  replace hT := hT.below hB0
  obtain ⟨l3, x0, x1, x2, -, -, -⟩ := id g3
  have hCk := fun W (hW : Below w0.heap.size w0 W) => rcheck12_in (hat.below hW).in
  have hFe := fun W => few12_any pc k cc W hk
  by_cases hck : ckH h = 0
  case neg =>
    have hck' : (ckH h == 0) = false := beq_eq_false_iff_ne.2 hck
    generalize ckH h = C at *
    go_enter Tryd.func6, Tryd.ntmps6
    go_upto_region 1 with fail
    rw [← hw0]
    clear hw0
    go_wp2_with (first
    | (go_at_call 7; refine Calls.mono (awake12_any _ (hS.below (by go_grown)) (hT.below (by go_grown))) ?_; rintro e w' ⟨rfl, hb⟩; obtain ⟨hc, hf, hb, hz⟩ := bstep hb (w := w0) (by go_grown); try simp only [World.size_alloc, World.size_setCell, World.size_drew] at hc hf hz)
    | (go_at_call 8; refine Calls.mono (hCk _ (by go_grown)) ?_; rintro e w' ⟨rfl, hb⟩; obtain ⟨hc, hf, hb, hz⟩ := bstep hb (w := w0) (by go_grown); try simp only [World.size_alloc, World.size_setCell, World.size_drew] at hc hf hz)
    )
    go_returns
    exact ⟨rfl, bjoin hb hB0⟩
  case pos =>
    rw [hck] at hCk
    by_cases hk10 : k ≤ 10
    case neg =>
      rw [decide_eq_false hk10] at hFe
      clear hck
      go_enter Tryd.func6, Tryd.ntmps6
      go_upto_region 1 with fail
      rw [← hw0]
      clear hw0
      go_wp2_with (first
    | (go_at_call 7; refine Calls.mono (awake12_any _ (hS.below (by go_grown)) (hT.below (by go_grown))) ?_; rintro e w' ⟨rfl, hb⟩; obtain ⟨hc, hf, hb, hz⟩ := bstep hb (w := w0) (by go_grown); try simp only [World.size_alloc, World.size_setCell, World.size_drew] at hc hf hz)
    | (go_at_call 8; refine Calls.mono (hCk _ (by go_grown)) ?_; rintro e w' ⟨rfl, hb⟩; obtain ⟨hc, hf, hb, hz⟩ := bstep hb (w := w0) (by go_grown); try simp only [World.size_alloc, World.size_setCell, World.size_drew] at hc hf hz)
    | (go_at_call 9; refine Calls.mono (hFe _) ?_; rintro e w' ⟨rfl, hb⟩; obtain ⟨hc, hf, hb, hz⟩ := bstep hb (w := w0) (by go_grown); try simp only [World.size_alloc, World.size_setCell, World.size_drew] at hc hf hz)
      )
      go_returns
      exact ⟨rfl, bjoin hb hB0⟩
    case pos =>
      rw [decide_eq_true hk10] at hFe
      obtain ⟨hF, h2, h3, -⟩ := ck_zero.1 hck
      have hF' : Hid (formB h = true) := hF
      have hwf := hat.wf
      have S := swept hF hwf h2 h3 k y
      have hAl := fun W (hW : Below w0.heap.size w0 W) => sall_in (cc := cc) (hS.below hW) (hT.below hW) (hat.below hW).in hF'.out (hin.below hW) (show k ≤ 1000 by omega)
      have hnn := (al_form hF hwf k y 17).2.2.1
      have hmm := (al_form hF hwf k y 17).2.2.2.1
      generalize (alA h k y 17).1 = A at *
      generalize (alA h k y 17).2 = WA at *
      have hAF : Hid (formB A = true) := S.form
      obtain ⟨M, z, eM, ez, hM, hzm, hzs, -⟩ := list_all hAF.out
      have hzr : Hid (∀ t : Nat, t < M → 0 ≤ z t ∧ z t < 512) := fun t ht => by
        obtain ⟨a1, a2, -⟩ := (obL_mem A _ A.n).1 (hzm t ht)
        have := form_iff.1 hF
        omega
      have hwant : Hid (∀ i : Nat, i < h.m → (h.s i).st = 2 → (A.s i).st = if (leftY z i M || hasY y i (k * 4)) = true then 1 else 0) := fun i hi hd => page_want S hzm hzs hi hd
      have hclean : Hid (∀ i : Nat, i < h.m → ¬ (h.s i).st = 2 → A.s i = h.s i) := S.clean
      have hnm : h.n ≤ 512 ∧ h.m ≤ 16 := by have := form_iff.1 hF; omega
      obtain ⟨hn5, hm16⟩ := hnm
      have hk10' : Hid (k ≤ 10) := hk10
      have hAm : Hid (A.m = h.m) := hmm
      clear hF h2 h3 hwf hck hk10 S hzm hzs hnn hmm
      go_enter Tryd.func6, Tryd.ntmps6
      go_upto_region 1 with fail
      rw [← hw0]
      clear hw0
      go_upto_region 4 with (first
    | (go_at_call 7; refine Calls.mono (awake12_any _ (hS.below (by go_grown)) (hT.below (by go_grown))) ?_; rintro e w' ⟨rfl, hb⟩; obtain ⟨hc, hf, hb, hz⟩ := bstep hb (w := w0) (by go_grown); try simp only [World.size_alloc, World.size_setCell, World.size_drew] at hc hf hz)
    | (go_at_call 8; refine Calls.mono (hCk _ (by go_grown)) ?_; rintro e w' ⟨rfl, hb⟩; obtain ⟨hc, hf, hb, hz⟩ := bstep hb (w := w0) (by go_grown); try simp only [World.size_alloc, World.size_setCell, World.size_drew] at hc hf hz)
    | (go_at_call 9; refine Calls.mono (hFe _) ?_; rintro e w' ⟨rfl, hb⟩; obtain ⟨hc, hf, hb, hz⟩ := bstep hb (w := w0) (by go_grown); try simp only [World.size_alloc, World.size_setCell, World.size_drew] at hc hf hz)
    | (go_at_call 10; refine Calls.mono (hAl _ (by go_grown)) ?_; rintro e w' ⟨p1, c1, q1, d1, rfl, hh1, hb⟩; obtain ⟨hc, hf, hb, hz⟩ := bstep hb (w := w0) (by go_grown); try simp only [World.size_alloc, World.size_setCell, World.size_drew] at hc hf hz)
      )
      obtain ⟨w4, hw4⟩ : ∃ W, W = w'.alloc (.cells #[.slice p1 h.n c1, .slice q1 h.m d1, .bool h.b] 25) := ⟨_, rfl⟩
      have hB4 : Below w'.heap.size w' w4 := by rw [hw4]; exact (Below.refl _ _).alloc (Nat.le_refl _) _
      have gA : Box3 w'.heap.size (.slice p1 h.n c1) (.slice q1 h.m d1) (.bool h.b) w4 := by rw [hw4]; exact Box3.new _ _ _ _ _
      have hb4 := bjoin hB4 hb
      replace hh1 := hh1.below hB4
      replace g3 := g3.below hb4
      have hbW := bjoin hb4 hB0
      have hin4 := hin.below hb4
      have hat4 := hat.below hb4
      rw [← hw4]
      clear hw4 hB4 hb4 hb hc hf hz x0 x1 x2 l3 hAl hCk hFe hS hT hin hat
      generalize w'.heap.size = BA at *
      obtain ⟨l3, x0, x1, x2, -, -, -⟩ := id g3
      obtain ⟨lA, y0, y1, y2, -, -, -⟩ := id gA
      have hL1 := rlist12_row hh1 hAF.out eM ez
      clear eM ez
      go_upto_region 7 with (first
    | (go_at_call 14; refine Calls.mono (hL1) ?_; rintro e w' ⟨pl, cl, rfl, hI7, hb⟩; obtain ⟨hc, hf, hb, hz⟩ := bstep hb (w := w4) (by go_grown); try simp only [World.size_alloc, World.size_setCell, World.size_drew] at hc hf hz)
      )
      replace hh1 := hh1.below hb
      replace gA := gA.below hb
      replace g3 := g3.below hb
      replace hin4 := hin4.below hb
      replace hat4 := hat4.below hb
      replace hbW := bjoin hb hbW
      clear hb hc hf hz x0 x1 x2 l3 y0 y1 y2 lA hL1
      generalize w' = w7 at *
      go_wp2
      go_loopg [8] h.m (fun gg iv wr => ∃ i : Nat, i ≤ h.m ∧ gg = h.m - i ∧ iv = .int .i64 i ∧ Below w7.heap.size w7 wr)
      case atStart => exact ⟨0, by omega, by omega, rfl, Below.refl _ _⟩
      case round =>
        obtain ⟨i, ih, rfl, rfl, hbw⟩ := hrel
        obtain ⟨l3, x0, x1, x2, -, -, -⟩ := g3.below hbw
        obtain ⟨lA, y0, y1, y2, -, -, -⟩ := gA.below hbw
        by_cases hi : i < h.m
        · obtain ⟨⟨bs, os, eq, ls, s0, s1, s2⟩, -⟩ := (hat4.below hbw).spans i hi
          obtain ⟨⟨bt, ot, et, lt, t0, t1, t2⟩, -⟩ := (hh1.below hbw).at'.spans i (by rw [hAm.out]; exact hi)
          rw [eq] at x1
          rw [et] at y1
          by_cases hd : (h.s i).st = 2
          · have hA := hwant.out i hi hd
            have hA' : Hid ((A.s i).st = if (leftY z i M || hasY y i (k * 4)) = true then 1 else 0) := hA
            rw [hd] at s0
            clear hA t0 t1 t2 s1 s2 y0 y1 y2 lA
            go_upto_region 13 with fail
            clear x0 x1 x2 l3 s0
            go_wp2
            go_loopg [9, 10] M (fun gg lv iv wr => ∃ t : Nat, t ≤ M ∧ gg = M - t ∧ lv = .bool (leftY z i t) ∧ iv = .int .i64 t ∧ Below w7.heap.size w7 wr)
            case atStart => exact ⟨0, by omega, by omega, rfl, rfl, hbw⟩
            case round =>
              clear hbw
              obtain ⟨t, th, rfl, rfl, rfl, hbw⟩ := hrel
              by_cases ht : t < M
              · obtain ⟨⟨bl, ol, rfl, ll, v0⟩, -⟩ := (hI7.below hbw) t ht
                obtain ⟨zz0, zz1⟩ := hzr.out t ht
                have dq : IntKind.i64.wrap ((z t).tdiv 32) = z t / 32 := by rw [Int.tdiv_eq_ediv_of_nonneg zz0, IntKind.wrap_i64]; omega
                have hnx : Hid (leftY z i (t + 1) = (leftY z i t || (z t / 32 == (i : Int)))) := rfl
                generalize leftY z i t = L at *
                cases L with
                | true =>
                  go_wp2
                  go_roundg (M - (t + 1))
                  case measure => omega
                  case rel => exact ⟨t + 1, by omega, rfl, by rw [hnx.out]; rfl, by go_num, hbw⟩
                | false =>
                  generalize z t / 32 = D at *
                  generalize z t = X at *
                  go_wp2
                  go_roundg (M - (t + 1))
                  case measure => omega
                  case rel => exact ⟨t + 1, by omega, rfl, by rw [hnx.out]; simp, by go_num, hbw⟩
              · obtain rfl : t = M := by omega
                generalize leftY z i t = L at *
                have hkk : k ≤ 10 := hk10'.out
                go_upto_region 20 with fail
                go_loopg [11, 12] k (fun gg lv iv wr => ∃ u : Nat, u ≤ k ∧ gg = k - u ∧ lv = .bool (hasY y i (u * 4)) ∧ iv = .int .i64 u ∧ Below w7.heap.size w7 wr)
                case atStart => exact ⟨0, by omega, by omega, rfl, rfl, hbw⟩
                case round =>
                  clear hbw
                  obtain ⟨u, uh, rfl, rfl, rfl, hbw⟩ := hrel
                  by_cases hu : u < k
                  · go_wp2
                    go_loopg [11, 13] 4 (fun gg lv iv wr => ∃ v : Nat, v ≤ 4 ∧ gg = 4 - v ∧ lv = .bool (hasY y i (u * 4 + v)) ∧ iv = .int .i64 v ∧ Below w7.heap.size w7 wr)
                    case atStart => exact ⟨0, by omega, by omega, rfl, rfl, hbw⟩
                    case round =>
                      clear hbw
                      obtain ⟨v, vh, rfl, rfl, rfl, hbw⟩ := hrel
                      by_cases hv : v < 4
                      · obtain ⟨⟨b', off', rfl, hlt', hc'⟩, -⟩ := (hin4.below hbw) (u * 4 + v) (by omega)
                        rw [← Nat.add_assoc] at hc'
                        have hnx : Hid (hasY y i (u * 4 + (v + 1)) = (hasY y i (u * 4 + v) || decide (y (u * 4 + v) = i))) := rfl
                        generalize hasY y i (u * 4 + v) = B at *
                        generalize y (u * 4 + v) = X at *
                        cases B with
                        | true =>
                          go_wp2
                          go_roundg (4 - (v + 1))
                          case measure => omega
                          case rel => exact ⟨v + 1, by omega, rfl, by rw [hnx.out]; rfl, by go_num, hbw⟩
                        | false =>
                          go_wp2
                          go_roundg (4 - (v + 1))
                          case measure => omega
                          case rel => exact ⟨v + 1, by omega, rfl, by rw [hnx.out]; simp [BEq.beq], by go_num, hbw⟩
                      · obtain rfl : v = 4 := by omega
                        go_wp2
                        go_roundg (k - (u + 1))
                        case measure => omega
                        case rel => exact ⟨u + 1, by omega, rfl, by rw [show (u + 1) * 4 = u * 4 + 4 by omega], by go_num, hbw⟩
                  · obtain rfl : u = k := by omega
                    generalize hasY y i (u * 4) = B at *
                    obtain ⟨lA, y0, y1, y2, -, -, -⟩ := gA.below hbw
                    obtain ⟨⟨bt, ot, et, lt, t0, t1, t2⟩, -⟩ := (hh1.below hbw).at'.spans i (by rw [hAm.out]; exact hi)
                    rw [et] at y1
                    have hst := hA'.out
                    rw [hst] at t0
                    cases L
                    all_goals
                      cases B
                      all_goals
                        simp only [Bool.or_self, Bool.or_true, Bool.true_or, Bool.or_false, Bool.false_or, if_true, if_false, Bool.false_eq_true] at t0
                        clear hst
                        go_wp2
                        go_roundg (h.m - (i + 1))
                        case measure => omega
                        case rel => exact ⟨i + 1, by omega, rfl, by go_num, hbw⟩
          · rw [hclean.out i hi hd] at t0 t1 t2
            generalize (h.s i).st = st at *
            generalize (h.s i).cl = scl at *
            generalize (h.s i).fr = sfr at *
            have d0 : (st != 2) = true := by simp [hd]
            go_upto_region 11 with fail
            go_region
            all_goals
              go_wp2
              go_roundg (h.m - (i + 1))
              case measure => omega
              case rel => exact ⟨i + 1, by omega, rfl, by go_num, hbw.drew⟩
        · obtain rfl : i = h.m := by omega
          go_wp2
          go_returns
          exact ⟨rfl, bjoin hbw hbW⟩
namespace SweepPages
/-- What the row lists. -/
def lists : List (String × DataW Unit) := [("flotsam/class.sizes", Rows.laid_flotsam_class_sizes)]
set_option maxRecDepth 100000 in
theorem lifted (os : Os) (started : os.Started) (H : Type) (enc : TypeId × Value → H) :
    ReturnsInHanded {} Tryd.checked os 6 .any (fun w args => (Rows.sweepPagesSpec.pre enc Tryd.prog Tryd.f6 Rows.sweepPagesRow.domain false w args ∧ laidMetH Tryd.prog lists w) ∧ sizedMet enc Tryd.prog Tryd.f6 (OpenSpec.ofChange Rows.sweepPagesSpec) false w args) (Rows.sweepPagesSpec.post enc Tryd.prog Tryd.f6 false true false false) := by
  refine law_lifted_laid (C := Tryd.checked) seat_own started (by kernel_rfl) Tryd.func6 (by kernel_rfl) (of_decide_eq_true (by kernel_rfl)) rfl
    (fun ds hd => by have hd' : ds.length = 2 := hd; match ds, hd' with | [d0, d1], _ => rfl) rfl Tryd.underlying4
    (ChangeSpec.witness_shaped (enc := enc) (C := Tryd.checked) (os := os) (X := fun w _ => laidMetH Tryd.prog lists w) false (World.laidAll Tryd.prog os lists) #[.agg #[.slice none 0 0, .slice none 0 0, .bool false], .slice none 0 0] 8 (World.laidAll_os _ _ _)
      (World.shaped_of_ZipB (by kernel_rfl) (by kernel_rfl)) (by kernel_rfl) (by kernel_rfl) (by kernel_rfl)
      (by rw [MakeChecks.laidMetH_plain _ _ _ (by kernel_rfl)]; exact laidMet_laidAll _ (by kernel_rfl) (by kernel_rfl))) ?_
  intro W base args ds p hval hA hlt hL
  have hS : Sz W := sizes_of hL (by kernel_rfl) rfl
  rw [Tryd.params6] at hA hval
  obtain ⟨v0, v1, d0, d1, p0, p1, rfl, rfl, rfl, h0, h1⟩ := trodAll_two hA
  obtain ⟨x0, q0, c0, s0, e0, rfl, hh0⟩ := open_heap Tryd.underlying25 (by kernel_rfl) (by kernel_rfl) Tryd.underlying22 (by kernel_rfl) (by kernel_rfl) Tryd.underlying23 Tryd.underlying42 (by kernel_rfl) (by kernel_rfl) (by kernel_rfl) (by kernel_rfl) (by kernel_rfl) (by kernel_rfl) (hval 0 25 v0 rfl rfl) h0
  obtain ⟨q1, n1, cap1, z1, rfl, hn1, hz1, hq1⟩ := open_caches Tryd.underlying26 Tryd.underlying50 (by kernel_rfl) (by kernel_rfl) Tryd.underlying3 (hval 1 26 v1 rfl rfl) h1
  exact pages_walk W hh0 hz1 hn1 hS (tab_any W)

theorem row_holds : Rows.SweepPagesSaid :=
  OpenClaim.holds_of_wide 6 Tryd.f6 rfl rfl rfl rfl rfl rfl rfl ⟨rfl, rfl, rfl, rfl, rfl⟩ rfl rfl rfl rfl rfl (by kernel_rfl) Tryd.func6 (by kernel_rfl)
    (of_decide_eq_true (by kernel_rfl)) (by unfold Func.isWrapper; first | (rw [if_pos (by decide +kernel)]; kernel_rfl) | (rw [if_neg (by decide +kernel)]; exact ⟨rfl, rfl⟩))
    (fun os started H enc _ => lifted os started H enc)
/-- The tied card. -/
theorem holds : Rows.SweepPagesCardSaid :=
  Claim7.holds_tied_plain_at .later [] [.data] true (true, "b8fd3047d9a688a107e8e65d17c87f1d92279598948f27d970289a927db46c99") false row_holds (fun _ h => by cases h) (by kernel_rfl) (fun _ h => by cases h) sweepPages_row_tie rfl ⟨rfl, rfl⟩ (by kernel_rfl) rfl
    (fun f fn hf hfn => by
      obtain rfl : f = 6 := Option.some.inj ((show Tryd.prog.funcNamed "flotsam/flotsamlaw12.SweepPages" = some 6 by kernel_rfl).symm.trans hf) |>.symm
      obtain rfl : fn = Tryd.f6 := (Option.some.inj (Tryd.func6.symm.trans hfn)).symm
      exact ⟨by kernel_rfl, fun j t ht => by
        rw [Tryd.params6] at ht
        have hm : t ∈ [25, 26] := by simpa using Array.mem_of_getElem? ht
        have hall : ([25, 26].all fun u => !Tryd.prog.wantsStandIn u) = true := by kernel_rfl
        exact (show Tryd.prog.wantsStandIn t = false by simpa using List.all_eq_true.1 hall t hm)⟩)
    (by kernel_rfl)
#print axioms holds
end SweepPages
end Go.Proofs.YtjoepiopigmmnaaDoor
