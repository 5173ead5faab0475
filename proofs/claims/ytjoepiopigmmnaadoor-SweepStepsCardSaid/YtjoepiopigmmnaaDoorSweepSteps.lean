/- SweepSteps: of every heap that has its form, and caches (of at most ten mutators), sweeping page by page is All; pages are swept rising, each once. No condition; the table that the code reads is tied to the program's text. -/
import Derived.Test.YtjoepiopigmmnaaDoorRows
import Derived.Test.YtjoepiopigmmnaaDoorCards
import Derived.Test.YtjoepiopigmmnaaDoorTie
import Derived.Test.YtjoepiopigmmnaaDoorAwake12
import Derived.SevenTiedAt
namespace Go.Proofs.YtjoepiopigmmnaaDoor
set_option linter.unusedSimpArgs false
set_option linter.unusedVariables false
open Go.ChangeShapes Go.WideShapes Go.ChangeAt Go.RowKit Go.Joins

set_option maxHeartbeats 32000000 in
set_option maxRecDepth 20000 in
theorem steps_walk {p : Option Addr} {c : Nat} {q : Option Addr} {d : Nat} {h : Hp} {pc : Option Addr} {k cc : Nat} {y : Nat → Int} (w : World) (hat : HpAt w p c q d h) (hin : Ints .i64 w pc (k * 4) y) (hk : k ≤ maxLen) (hS : Sz w) (hT : Tab w) :
    Calls Tryd.prog 4 #[.agg #[.slice p h.n c, .slice q h.m d, .bool h.b], .slice pc k cc] w fun e w' => e = .returned (.bool true) ∧ Below w.heap.size w w' := by
  obtain ⟨w0, hw0⟩ : ∃ w0, w0 = w.alloc (.cells #[.slice p h.n c, .slice q h.m d, .bool h.b] 25) := ⟨_, rfl⟩
  have g3 : Box3 w.heap.size (.slice p h.n c) (.slice q h.m d) (.bool h.b) w0 := by rw [hw0]; exact Box3.new _ _ _ _ _
  have hB0 : Below w.heap.size w w0 := by rw [hw0]; exact (Below.refl _ _).alloc (Nat.le_refl _) _
  replace hat := hat.below hB0
  replace hin := hin.below hB0
  replace hS := hS.below hB0
  replace hT := hT.below hB0
  obtain ⟨l3, x0, x1, x2, -, -, -⟩ := id g3
  have hFo := fun W (hW : Below w0.heap.size w0 W) => rform_in (hat.below hW).in
  have hFe := fun W => few12_any pc k cc W hk
  cases hF : formB h with
  | false =>
    rw [hF] at hFo
    go_enter Tryd.func4, Tryd.ntmps4
    go_upto_region 1 with fail
    rw [← hw0]
    clear hw0
    go_wp2_with (first
    | (go_at_call 7; refine Calls.mono (awake12_any _ (hS.below (by go_grown)) (hT.below (by go_grown))) ?_; rintro e w' ⟨rfl, hb⟩; obtain ⟨hc, hf, hb, hz⟩ := bstep hb (w := w0) (by go_grown); try simp only [World.size_alloc, World.size_setCell, World.size_drew] at hc hf hz)
    | (go_at_call 11; refine Calls.mono (hFo _ (by go_grown)) ?_; rintro e w' ⟨rfl, hb⟩; obtain ⟨hc, hf, hb, hz⟩ := bstep hb (w := w0) (by go_grown); try simp only [World.size_alloc, World.size_setCell, World.size_drew] at hc hf hz)
    )
    go_returns
    exact ⟨rfl, bjoin hb hB0⟩
  | true =>
    rw [hF] at hFo
    by_cases hk10 : k ≤ 10
    case neg =>
      rw [decide_eq_false hk10] at hFe
      go_enter Tryd.func4, Tryd.ntmps4
      go_upto_region 1 with fail
      rw [← hw0]
      clear hw0
      go_wp2_with (first
    | (go_at_call 7; refine Calls.mono (awake12_any _ (hS.below (by go_grown)) (hT.below (by go_grown))) ?_; rintro e w' ⟨rfl, hb⟩; obtain ⟨hc, hf, hb, hz⟩ := bstep hb (w := w0) (by go_grown); try simp only [World.size_alloc, World.size_setCell, World.size_drew] at hc hf hz)
    | (go_at_call 11; refine Calls.mono (hFo _ (by go_grown)) ?_; rintro e w' ⟨rfl, hb⟩; obtain ⟨hc, hf, hb, hz⟩ := bstep hb (w := w0) (by go_grown); try simp only [World.size_alloc, World.size_setCell, World.size_drew] at hc hf hz)
    | (go_at_call 9; refine Calls.mono (hFe _) ?_; rintro e w' ⟨rfl, hb⟩; obtain ⟨hc, hf, hb, hz⟩ := bstep hb (w := w0) (by go_grown); try simp only [World.size_alloc, World.size_setCell, World.size_drew] at hc hf hz)
      )
      go_returns
      exact ⟨rfl, bjoin hb hB0⟩
    case pos =>
      rw [decide_eq_true hk10] at hFe
      have hF' : Hid (formB h = true) := hF
      have hwf := hat.wf
      have hk10' : Hid (k ≤ 10) := hk10
      clear hF hk10
      go_enter Tryd.func4, Tryd.ntmps4
      go_upto_region 1 with fail
      rw [← hw0]
      clear hw0
      go_upto_region 4 with (first
    | (go_at_call 7; refine Calls.mono (awake12_any _ (hS.below (by go_grown)) (hT.below (by go_grown))) ?_; rintro e w' ⟨rfl, hb⟩; obtain ⟨hc, hf, hb, hz⟩ := bstep hb (w := w0) (by go_grown); try simp only [World.size_alloc, World.size_setCell, World.size_drew] at hc hf hz)
    | (go_at_call 11; refine Calls.mono (hFo _ (by go_grown)) ?_; rintro e w' ⟨rfl, hb⟩; obtain ⟨hc, hf, hb, hz⟩ := bstep hb (w := w0) (by go_grown); try simp only [World.size_alloc, World.size_setCell, World.size_drew] at hc hf hz)
    | (go_at_call 9; refine Calls.mono (hFe _) ?_; rintro e w' ⟨rfl, hb⟩; obtain ⟨hc, hf, hb, hz⟩ := bstep hb (w := w0) (by go_grown); try simp only [World.size_alloc, World.size_setCell, World.size_drew] at hc hf hz)
      )
      have hbW := bjoin hb hB0
      replace hat := hat.below hb
      replace hin := hin.below hb
      replace hS := hS.below hb
      replace hT := hT.below hb
      replace g3 := g3.below hb
      have hlow := hat.in.lower hF'.out
      generalize w' = w1 at hbW hat hin hS hT g3 hlow ⊢
      clear hb hc hf hz x0 x1 x2 l3 hFo hFe hB0
      obtain ⟨w2, hw2⟩ : ∃ W, W = w1.alloc (.cells #[.slice p h.n c, .slice q h.m d, .bool h.b] 25) := ⟨_, rfl⟩
      have gG : Box3 w1.heap.size (.slice p h.n c) (.slice q h.m d) (.bool h.b) w2 := by rw [hw2]; exact Box3.new _ _ _ _ _
      have hB2 : Below w1.heap.size w1 w2 := by rw [hw2]; exact (Below.refl _ _).alloc (Nat.le_refl _) _
      rw [← hw2]
      clear hw2
      have hlG : w.heap.size < w1.heap.size := g3.1
      have hclr0 : Clear w1.heap.size p q := hlow.clear (Nat.le_refl _)
      have hm16 := (form_iff.1 hF'.out).2.1
      have hdm : Hid (drH h ≤ h.m) := dr_le h.s h.m
      clear hlow
      go_wp2
      go_loopg [6, 7, 8] (h.m + 1) (fun gg tv lv iv wr => ∃ (i : Nat) (L : Int) (p' : Option Addr) (c' : Nat) (q' : Option Addr) (d' : Nat), i ≤ h.m ∧ gg = h.m + 1 - i ∧ tv = .int .i64 (alA h k y i).2 ∧ lv = .int .i64 L ∧ iv = .int .i64 i ∧ i ≤ drH h ∧ (∀ x : Nat, onP (alA h k y i).1 = some x → L < x) ∧ -1 ≤ L ∧ L ≤ h.m ∧
        Box3 w1.heap.size (.slice p' h.n c') (.slice q' h.m d') (.bool h.b) wr ∧ HpIn wr p' h.n c' q' h.m d' h.b (alA h k y i).1 ∧ Clear w1.heap.size p' q' ∧ Below w1.heap.size w1 wr)
      case atStart => exact ⟨0, -1, p, c, q, d, by omega, by omega, rfl, rfl, rfl, by omega, fun x _ => by omega, by omega, by omega, gG, (hat.below hB2).in, hclr0, hB2⟩
      case round =>
        clear gG hB2
        obtain ⟨i, L, p1, c1, q1, d1, ih, rfl, rfl, rfl, rfl, hid, hL, hL0, hL1, gG, hh1, hclr, hbw⟩ := hrel
        obtain ⟨a1, a2, -⟩ := al_form hF'.out hwf k y i
        have hbWr := bjoin hbw hbW
        have hSr := hS.below hbw
        have hTr := hT.below hbw
        have hinr := hin.below hbw
        have hatr := hat.below hbw
        have g3r := g3.below hbw
        have hO := sone_in (cc := cc) hSr hTr hh1 a1 hinr (show k ≤ 1000 by have := hk10'.out; omega)
        obtain ⟨lG, z0, z1, z2, -, -, -⟩ := id gG
        obtain ⟨l3, x0, x1, x2, -, -, -⟩ := id g3r
        cases e : onP (alA h k y i).1 with
        | none =>
          obtain ⟨hi, h17⟩ := st_no hF'.out hwf e hid
          rw [e] at hO
          simp only [Option.getD_none, Option.isSome_none] at hO
          have hAl := fun W (hW : Below wr.heap.size wr W) => sall_in (cc := cc) (hSr.below hW) (hTr.below hW) (hatr.below hW).in hF'.out (hinr.below hW) (show k ≤ 1000 by have := hk10'.out; omega)
          rw [h17] at hAl
          have hsame := sameH_self (alA h k y i).1
          have hDi : ((i : Int) == ((drH h : Nat) : Int)) = true := by rw [← hi]; simp
          clear hL e h17 a1 a2 hi
          generalize alA h k y i = A at *
          obtain ⟨A1, A2⟩ := A
          simp only [] at *
          go_upto_region 10 with (first
    | (go_at_call 19; refine Calls.mono (hO) ?_; rintro e w' ⟨p2, c2, q2, d2, rfl, hh2, hsrc, hb⟩; obtain ⟨hc, hf, hb, hz⟩ := bstep hb (w := wr) (by go_grown); try simp only [World.size_alloc, World.size_setCell, World.size_drew] at hc hf hz)
          )
          obtain ⟨w3, hw3⟩ : ∃ W, W = w'.alloc (.cells #[.slice p2 h.n c2, .slice q2 h.m d2, .bool h.b] 25) := ⟨_, rfl⟩
          have hB3 : Below w'.heap.size w' w3 := by rw [hw3]; exact (Below.refl _ _).alloc (Nat.le_refl _) _
          have hb3 := bjoin hB3 hb
          have gG3 := gG.below hb3
          have g33 := g3r.below hb3
          have hh13 := hh1.below hb3
          have hat3 := hatr.below hb3
          have hAl3 := hAl w3 hb3
          rw [← hw3]
          clear hw3 hB3 hb hc hf hz x0 x1 x2 l3 z0 z1 z2 lG hh2 hsrc hAl
          obtain ⟨l3, x0, x1, x2, -, -, -⟩ := id g33
          go_upto_region 12 with (first
    | (go_at_call 10; refine Calls.mono (hAl3) ?_; rintro e w' ⟨p3, c3, q3, d3, rfl, hh3, hb⟩; obtain ⟨hc, hf, hb, hz⟩ := bstep hb (w := w3) (by go_grown); try simp only [World.size_alloc, World.size_setCell, World.size_drew] at hc hf hz)
          )
          obtain ⟨w4, hw4⟩ : ∃ W, W = w'.alloc (.cells #[.slice p3 h.n c3, .slice q3 h.m d3, .bool h.b] 25) := ⟨_, rfl⟩
          have hB4 : Below w'.heap.size w' w4 := by rw [hw4]; exact (Below.refl _ _).alloc (Nat.le_refl _) _
          have gK : Box3 w'.heap.size (.slice p3 h.n c3) (.slice q3 h.m d3) (.bool h.b) w4 := by rw [hw4]; exact Box3.new _ _ _ _ _
          have hb4 := bjoin hB4 hb
          have gG4 := gG3.below hb4
          have g34 := g33.below hb4
          have hh14 := hh13.below hb4
          have hh34 := hh3.below hB4
          have hat4 := hat3.below hb4
          have hbE := bjoin hb4 (bjoin hb3 hbWr)
          rw [← hw4]
          clear hw4 hB4 hb hc hf hz x0 x1 x2 l3
          obtain ⟨l3, x0, x1, x2, -, -, -⟩ := id g34
          obtain ⟨lG, z0, z1, z2, -, -, -⟩ := id gG4
          obtain ⟨lK, v0, v1, v2, -, -, -⟩ := id gK
          have r1 := fun W (hW : Below w4.heap.size w4 W) => rsame_in (hh34.below hW) (hh14.below hW)
          have r2 := fun W (hW : Below w4.heap.size w4 W) => rdirty_in (hat4.below hW).in
          rw [hsame] at r1
          go_wp2_with (first
    | (go_at_call 12; refine Calls.mono (r2 _ (by go_grown)) ?_; rintro e w' ⟨rfl, hb⟩; obtain ⟨hc, hf, hb, hz⟩ := bstep hb (w := w4) (by go_grown); try simp only [World.size_alloc, World.size_setCell, World.size_drew] at hc hf hz)
    | (go_at_call 20; refine Calls.mono (r1 _ (by go_grown)) ?_; rintro e w' ⟨rfl, hb⟩; obtain ⟨hc, hf, hb, hz⟩ := bstep hb (w := w4) (by go_grown); try simp only [World.size_alloc, World.size_setCell, World.size_drew] at hc hf hz)
          )
          go_returns
          exact ⟨ret_bool (by simp [hDi]), bjoin hb hbE⟩
        | some x =>
          have Y := st_yes hF'.out hwf e
          rw [e] at hO
          simp only [Option.getD_some, Option.isSome_some] at hO
          obtain ⟨Y1, Y2, Y3, Y4, ⟨Y5, Y6⟩, ⟨Y7, Y8⟩, Y9⟩ := Y
          have hLx := hL x e
          obtain ⟨⟨bs, os, rfl, hls, s0, -, -⟩, -⟩ := hat.spans x Y1
          rw [Y2] at s0
          have hone : Hid (alA h k y (i + 1) = (onH (alA h k y i).1 k y, (alA h k y i).2 + onW (alA h k y i).1)) := al_one h k y i
          have Y4' : Hid (∀ q : Nat, onP (alA h k y (i + 1)).1 = some q → (x : Int) < q) := Y4
          clear hL e a1 a2 Y4 Y2
          generalize (alA h k y i).2 = A2 at *
          generalize (alA h k y i).1 = A1 at *
          generalize onW A1 = W1 at *
          go_upto_region 10 with (first
    | (go_at_call 19; refine Calls.mono (hO) ?_; rintro e w' ⟨p2, c2, q2, d2, rfl, hh2, hsrc, hb⟩; obtain ⟨hc, hf, hb, hz⟩ := bstep hb (w := wr) (by go_grown); try simp only [World.size_alloc, World.size_setCell, World.size_drew] at hc hf hz)
          )
          obtain ⟨w3, hw3⟩ : ∃ W, W = w'.alloc (.cells #[.slice p2 h.n c2, .slice q2 h.m d2, .bool h.b] 25) := ⟨_, rfl⟩
          have hB3 : Below w'.heap.size w' w3 := by rw [hw3]; exact (Below.refl _ _).alloc (Nat.le_refl _) _
          have gK : Box3 w'.heap.size (.slice p2 h.n c2) (.slice q2 h.m d2) (.bool h.b) w3 := by rw [hw3]; exact Box3.new _ _ _ _ _
          have hb3 := bjoin hB3 hb
          have gG3 := gG.below hb3
          have g33 := g3r.below hb3
          have hh23 := hh2.below hB3
          have hbw3 := bjoin hb3 hbw
          obtain ⟨n1, n2⟩ := hsrc.new rfl
          have hclr2 : Clear w1.heap.size p2 q2 := ⟨fun b off sp e => by have := n1 b (by rw [e]; rfl); omega, fun b off sp e => by have := n2 b (by rw [e]; rfl); omega⟩
          have s03 := (hbw3.cell (p := ⟨bs, os + x * 3, none⟩) hls).trans s0
          rw [← hw3]
          clear hw3 hB3 hb hc hf hz x0 x1 x2 l3 z0 z1 z2 lG hh2 hsrc hO n1 n2 hb3 gG g3r hh1
          obtain ⟨l3, x0, x1, x2, -, -, -⟩ := id g33
          obtain ⟨lG, z0, z1, z2, f0, f1, f2⟩ := id gG3
          obtain ⟨lK, v0, v1, v2, -, -, -⟩ := id gK
          go_upto_region 17 with fail
          have hst := gG3.stores (.slice p2 h.n c2) (.slice q2 h.m d2) (.bool h.b)
          have hhS := hh23.stores hclr2 (.slice p2 h.n c2) (.slice q2 h.m d2) (.bool h.b)
          have hbS := below_stores hbw3 (Nat.le_refl _) (.slice p2 h.n c2) (.slice q2 h.m d2) (.bool h.b)
          go_wp2
          go_roundg (h.m + 1 - (i + 1))
          case measure => omega
          case rel => exact ⟨i + 1, x, p2, c2, q2, d2, by have := hdm.out; omega, rfl, by rw [hone.out], rfl, by go_num, by omega, Y4'.out, by omega, by omega, hst, by rw [hone.out]; exact hhS, hclr2, hbS⟩
namespace SweepSteps
/-- What the row lists. -/
def lists : List (String × DataW Unit) := [("flotsam/class.sizes", Rows.laid_flotsam_class_sizes)]
set_option maxRecDepth 100000 in
theorem lifted (os : Os) (started : os.Started) (H : Type) (enc : TypeId × Value → H) :
    ReturnsInHanded {} Tryd.checked os 4 .any (fun w args => (Rows.sweepStepsSpec.pre enc Tryd.prog Tryd.f4 Rows.sweepStepsRow.domain false w args ∧ laidMetH Tryd.prog lists w) ∧ sizedMet enc Tryd.prog Tryd.f4 (OpenSpec.ofChange Rows.sweepStepsSpec) false w args) (Rows.sweepStepsSpec.post enc Tryd.prog Tryd.f4 false true false false) := by
  refine law_lifted_laid (C := Tryd.checked) seat_own started (by kernel_rfl) Tryd.func4 (by kernel_rfl) (of_decide_eq_true (by kernel_rfl)) rfl
    (fun ds hd => by have hd' : ds.length = 2 := hd; match ds, hd' with | [d0, d1], _ => rfl) rfl Tryd.underlying4
    (ChangeSpec.witness_shaped (enc := enc) (C := Tryd.checked) (os := os) (X := fun w _ => laidMetH Tryd.prog lists w) false (World.laidAll Tryd.prog os lists) #[.agg #[.slice none 0 0, .slice none 0 0, .bool false], .slice none 0 0] 8 (World.laidAll_os _ _ _)
      (World.shaped_of_ZipB (by kernel_rfl) (by kernel_rfl)) (by kernel_rfl) (by kernel_rfl) (by kernel_rfl)
      (by rw [MakeChecks.laidMetH_plain _ _ _ (by kernel_rfl)]; exact laidMet_laidAll _ (by kernel_rfl) (by kernel_rfl))) ?_
  intro W base args ds p hval hA hlt hL
  have hS : Sz W := sizes_of hL (by kernel_rfl) rfl
  rw [Tryd.params4] at hA hval
  obtain ⟨v0, v1, d0, d1, p0, p1, rfl, rfl, rfl, h0, h1⟩ := trodAll_two hA
  obtain ⟨x0, q0, c0, s0, e0, rfl, hh0⟩ := open_heap Tryd.underlying25 (by kernel_rfl) (by kernel_rfl) Tryd.underlying22 (by kernel_rfl) (by kernel_rfl) Tryd.underlying23 Tryd.underlying42 (by kernel_rfl) (by kernel_rfl) (by kernel_rfl) (by kernel_rfl) (by kernel_rfl) (by kernel_rfl) (hval 0 25 v0 rfl rfl) h0
  obtain ⟨q1, n1, cap1, z1, rfl, hn1, hz1, hq1⟩ := open_caches Tryd.underlying26 Tryd.underlying50 (by kernel_rfl) (by kernel_rfl) Tryd.underlying3 (hval 1 26 v1 rfl rfl) h1
  exact steps_walk W hh0 hz1 hn1 hS (tab_any W)

theorem row_holds : Rows.SweepStepsSaid :=
  OpenClaim.holds_of_wide 4 Tryd.f4 rfl rfl rfl rfl rfl rfl rfl ⟨rfl, rfl, rfl, rfl, rfl⟩ rfl rfl rfl rfl rfl (by kernel_rfl) Tryd.func4 (by kernel_rfl)
    (of_decide_eq_true (by kernel_rfl)) (by unfold Func.isWrapper; first | (rw [if_pos (by decide +kernel)]; kernel_rfl) | (rw [if_neg (by decide +kernel)]; exact ⟨rfl, rfl⟩))
    (fun os started H enc _ => lifted os started H enc)
/-- The tied card. -/
theorem holds : Rows.SweepStepsCardSaid :=
  Claim7.holds_tied_plain_at .later [] [.data] true (true, "b8fd3047d9a688a107e8e65d17c87f1d92279598948f27d970289a927db46c99") false row_holds (fun _ h => by cases h) (by kernel_rfl) (fun _ h => by cases h) sweepSteps_row_tie rfl ⟨rfl, rfl⟩ (by kernel_rfl) rfl
    (fun f fn hf hfn => by
      obtain rfl : f = 4 := Option.some.inj ((show Tryd.prog.funcNamed "flotsam/flotsamlaw12.SweepSteps" = some 4 by kernel_rfl).symm.trans hf) |>.symm
      obtain rfl : fn = Tryd.f4 := (Option.some.inj (Tryd.func4.symm.trans hfn)).symm
      exact ⟨by kernel_rfl, fun j t ht => by
        rw [Tryd.params4] at ht
        have hm : t ∈ [25, 26] := by simpa using Array.mem_of_getElem? ht
        have hall : ([25, 26].all fun u => !Tryd.prog.wantsStandIn u) = true := by kernel_rfl
        exact (show Tryd.prog.wantsStandIn t = false by simpa using List.all_eq_true.1 hall t hm)⟩)
    (by kernel_rfl)
#print axioms holds
end SweepSteps
end Go.Proofs.YtjoepiopigmmnaaDoor
