/- GreyBack: of whatever right row, and number: pushed, and popped, the row is as it was; rows stay right; what is refused is refused as the document has it. No condition. -/
import Derived.Test.YtffcekjkgeiccaaRows
import Derived.Test.YtffcekjkgeiccaaAwake13
namespace Go.Proofs.Ytffcekjkgeiccaa
set_option linter.unusedSimpArgs false
set_option linter.unusedVariables false
open Go.ChangeShapes Go.WideShapes Go.ChangeAt Go.RowKit Go.Joins

set_option maxHeartbeats 8000000 in
set_option maxRecDepth 20000 in
theorem back_walk (r a : Int) (p : Option Addr) (n c : Nat) (z : Nat → Int) (w : World) (hz : GrAt w p c n z) (ha : (Lit.int .i64 a).wf = true) :
    Calls Try.prog 6 #[.agg #[.int .i64 r, .slice p n c], .int .i64 a] w fun e w' => e = .returned (.bool true) ∧ Below w.heap.size w w' := by
  obtain ⟨w0, hw0⟩ : ∃ w0, w0 = w.alloc (.cells #[.int .i64 r, .slice p n c] 24) := ⟨_, rfl⟩
  have hB0 : Below w.heap.size w w0 := by rw [hw0]; exact (Below.refl _ _).alloc (Nat.le_refl _) _
  have g2 : w.heap.size < w0.heap.size ∧ w0.cell? ⟨w.heap.size, 0, none⟩ = some (.int .i64 r) ∧ w0.cell? ⟨w.heap.size, 1, none⟩ = some (.slice p n c) := by rw [hw0]; simp [go_sem]
  replace hz := hz.below hB0
  obtain ⟨l0, x0, x1⟩ := g2
  have hR := fun W (hW : Below w0.heap.size w0 W) => rgright_any r p n c z W (hz.below hW)
  cases eR : rightG r n z with
  | false =>
    simp only [eR] at hR
    clear eR
    go_enter Try.func6, Try.ntmps6
    go_upto_region 1 with fail
    rw [← hw0]
    clear hw0
    go_wp2_with (first
    | (go_at_call 7; refine Calls.mono (awake13_any _) ?_; rintro e w' ⟨rfl, hb⟩; obtain ⟨hc, hf, hb, hz⟩ := bstep hb (w := w0) (by go_grown); try simp only [World.size_alloc, World.size_setCell, World.size_drew] at hc hf hz)
    | (go_at_call 9; refine Calls.mono (hR _ (by go_grown)) ?_; rintro e w' ⟨rfl, hb⟩; obtain ⟨hc, hf, hb, hz⟩ := bstep hb (w := w0) (by go_grown); try simp only [World.size_alloc, World.size_setCell, World.size_drew] at hc hf hz)
    )
    go_returns
    exact ⟨rfl, bjoin hb hB0⟩
  | true =>
    simp only [eR] at hR
    obtain ⟨⟨r0, r1, r2⟩, hpos⟩ := rightG_iff.1 eR
    have hn : n ≤ 16 := by omega
    have hPu := fun W (hW : Below w0.heap.size w0 W) => gpush_any r a p n c z W (hz.below hW) (by omega) ha
    have hSm := fun W p1 c1 n1 z1 (h1 : GrAt W p1 c1 n1 z1) (hW : Below w0.heap.size w0 W) => rgsame_any r r p1 p n1 c1 n c z1 z W h1 (hz.below hW)
    cases eP : gpB r n a with
    | false =>
      have eN : gpN r n a = n := by unfold gpN; rw [if_neg (by simp [eP])]
      have eZ : gpZ r n z a = z := by unfold gpZ; rw [if_neg (by simp [eP])]
      simp only [eP, eN, eZ] at hPu
      have hS2 := fun W p1 c1 (h1 : GrAt W p1 c1 n z) (hW : Below w0.heap.size w0 W) => hSm W p1 c1 n z h1 hW
      simp only [sameG_self] at hS2
      have hlen : Hid ((decide (a < 0) || ((n : Int) == r)) = true) := by
        show (decide (a < 0) || ((n : Int) == r)) = true
        simp [gpB] at eP
        simp; omega
      clear eP eN eZ hSm eR hpos
      go_enter Try.func6, Try.ntmps6
      go_upto_region 1 with fail
      rw [← hw0]
      clear hw0
      go_upto_region 4 with (first
    | (go_at_call 7; refine Calls.mono (awake13_any _) ?_; rintro e w' ⟨rfl, hb⟩; obtain ⟨hc, hf, hb, hz⟩ := bstep hb (w := w0) (by go_grown); try simp only [World.size_alloc, World.size_setCell, World.size_drew] at hc hf hz)
    | (go_at_call 9; refine Calls.mono (hR _ (by go_grown)) ?_; rintro e w' ⟨rfl, hb⟩; obtain ⟨hc, hf, hb, hz⟩ := bstep hb (w := w0) (by go_grown); try simp only [World.size_alloc, World.size_setCell, World.size_drew] at hc hf hz)
    | (go_at_call 12; refine Calls.mono (hPu _ (by go_grown)) ?_; rintro e w' ⟨p1, c1, rfl, hA, -, hb⟩; obtain ⟨hc, hf, hb, hz⟩ := bstep hb (w := w0) (by go_grown); try simp only [World.size_alloc, World.size_setCell, World.size_drew] at hc hf hz)
      )
      obtain ⟨w4, hw4⟩ : ∃ W, W = w'.alloc (.cells #[.int .i64 r, .slice p1 n c1] 24) := ⟨_, rfl⟩
      have gA : w'.heap.size < w4.heap.size ∧ w4.cell? ⟨w'.heap.size, 0, none⟩ = some (.int .i64 r) ∧ w4.cell? ⟨w'.heap.size, 1, none⟩ = some (.slice p1 n c1) := by rw [hw4]; simp [go_sem]
      have hB4 : Below w'.heap.size w' w4 := by rw [hw4]; exact (Below.refl _ _).alloc (Nat.le_refl _) _
      have hb4 := bjoin hB4 hb
      replace hA := hA.below hB4
      have x0' := (hb4.cell (p := ⟨w.heap.size, 0, none⟩) l0).trans x0
      have x1' := (hb4.cell (p := ⟨w.heap.size, 1, none⟩) l0).trans x1
      have l0' : w.heap.size < w4.heap.size := Nat.lt_of_lt_of_le l0 hb4.size
      have hS4 := hS2 w4 p1 c1 hA hb4
      rw [← hw4]
      clear hw4 hB4 hb hc hf hz x0 x1 l0 hPu hR hS2 hA
      generalize w'.heap.size = BA at *
      obtain ⟨lA, y0, y1⟩ := gA
      cases e0 : decide (a < 0) with
      | true =>
        go_wp2_with (first
          | (go_at_call 11; refine Calls.mono hS4 ?_; rintro e w5 ⟨rfl, hb5⟩)
        )
        go_returns
        exact ⟨rfl, bjoin hb5 (bjoin hb4 hB0)⟩
      | false =>
        have e1 : ((n : Int) == r) = true := by have := hlen.out; rw [e0] at this; simpa using this
        go_wp2_with (first
          | (go_at_call 11; refine Calls.mono hS4 ?_; rintro e w5 ⟨rfl, hb5⟩; have z0 := (hb5.cell (p := ⟨w.heap.size, 0, none⟩) l0').trans x0'; have z1 := (hb5.cell (p := ⟨w.heap.size, 1, none⟩) l0').trans x1')
        )
        go_returns
        exact ⟨rfl, bjoin hb5 (bjoin hb4 hB0)⟩
    | true =>
      have eN : gpN r n a = n + 1 := by unfold gpN; rw [if_pos eP]
      have eZ : gpZ r n z a = pzZ z n a := by unfold gpZ; rw [if_pos eP]
      simp only [eP, eN, eZ] at hPu
      have h01 : 0 ≤ a ∧ (n : Int) < r := by simpa [gpB] using eP
      obtain ⟨h0, h1⟩ := h01
      have hn1 : n + 1 ≤ 1000000 := by omega
      have hPo := fun W p1 c1 (h1 : GrAt W p1 c1 (n + 1) (pzZ z n a)) => gpop_any r p1 (n + 1) c1 (pzZ z n a) W h1 hn1
      have hRi := fun W p1 c1 (h1 : GrAt W p1 c1 (n + 1) (pzZ z n a)) => gright_any r p1 (n + 1) c1 (pzZ z n a) W h1
      have ex : gqX (n + 1) (pzZ z n a) = a := by unfold gqX pzZ; rw [if_neg (by omega)]; simp
      have er : rightG r (n + 1) (pzZ z n a) = true := rightG_iff.2 ⟨by omega, fun i hi => by
        unfold pzZ
        split
        · exact h0
        · exact hpos i (by omega)⟩
      have ed : decide (0 < n + 1) = true := by simp
      simp only [ex, ed, show n + 1 - 1 = n from rfl] at hPo
      simp only [er] at hRi
      have hS2 := fun W p1 c1 (h1 : GrAt W p1 c1 n (pzZ z n a)) (hW : Below w0.heap.size w0 W) => hSm W p1 c1 n (pzZ z n a) h1 hW
      have es : sameG r n (pzZ z n a) r n z = true := by
        have : sameI n (pzZ z n a) n z = true := sameI_of fun i hi => by unfold pzZ; rw [if_neg (by omega)]
        simp [sameG, this]
      simp only [es] at hS2
      generalize pzZ z n a = Z at *
      clear eP eN eZ hSm eR hpos ex er ed es
      go_enter Try.func6, Try.ntmps6
      go_upto_region 1 with fail
      rw [← hw0]
      clear hw0
      go_upto_region 4 with (first
    | (go_at_call 7; refine Calls.mono (awake13_any _) ?_; rintro e w' ⟨rfl, hb⟩; obtain ⟨hc, hf, hb, hz⟩ := bstep hb (w := w0) (by go_grown); try simp only [World.size_alloc, World.size_setCell, World.size_drew] at hc hf hz)
    | (go_at_call 9; refine Calls.mono (hR _ (by go_grown)) ?_; rintro e w' ⟨rfl, hb⟩; obtain ⟨hc, hf, hb, hz⟩ := bstep hb (w := w0) (by go_grown); try simp only [World.size_alloc, World.size_setCell, World.size_drew] at hc hf hz)
    | (go_at_call 12; refine Calls.mono (hPu _ (by go_grown)) ?_; rintro e w' ⟨p1, c1, rfl, hA, -, hb⟩; obtain ⟨hc, hf, hb, hz⟩ := bstep hb (w := w0) (by go_grown); try simp only [World.size_alloc, World.size_setCell, World.size_drew] at hc hf hz)
      )
      obtain ⟨w4, hw4⟩ : ∃ W, W = w'.alloc (.cells #[.int .i64 r, .slice p1 (n + 1) c1] 24) := ⟨_, rfl⟩
      have gA : w'.heap.size < w4.heap.size ∧ w4.cell? ⟨w'.heap.size, 0, none⟩ = some (.int .i64 r) ∧ w4.cell? ⟨w'.heap.size, 1, none⟩ = some (.slice p1 (n + 1) c1) := by rw [hw4]; simp [go_sem]
      have hB4 : Below w'.heap.size w' w4 := by rw [hw4]; exact (Below.refl _ _).alloc (Nat.le_refl _) _
      have hb4 := bjoin hB4 hb
      replace hA := hA.below hB4
      have x0' := (hb4.cell (p := ⟨w.heap.size, 0, none⟩) l0).trans x0
      have x1' := (hb4.cell (p := ⟨w.heap.size, 1, none⟩) l0).trans x1
      have l0' : w.heap.size < w4.heap.size := Nat.lt_of_lt_of_le l0 hb4.size
      have hPo4 := hPo w4 p1 c1 hA
      rw [← hw4]
      clear hw4 hB4 hb hc hf hz x0 x1 l0 hPu hR hPo
      generalize w'.heap.size = BA at *
      obtain ⟨lA, y0, y1⟩ := gA
      go_upto_region 7 with (first
        | (go_at_call 14; refine Calls.mono hPo4 ?_; rintro e w5 ⟨p2, c2, rfl, hB, -, hb5⟩)
      )
      obtain ⟨w6, hw6⟩ : ∃ W, W = w5.alloc (.cells #[.int .i64 r, .slice p2 n c2] 24) := ⟨_, rfl⟩
      have gB : w5.heap.size < w6.heap.size ∧ w6.cell? ⟨w5.heap.size, 0, none⟩ = some (.int .i64 r) ∧ w6.cell? ⟨w5.heap.size, 1, none⟩ = some (.slice p2 n c2) := by rw [hw6]; simp [go_sem]
      have hB6 : Below w5.heap.size w5 w6 := by rw [hw6]; exact (Below.refl _ _).alloc (Nat.le_refl _) _
      have hb6 := bjoin hB6 hb5
      replace hB := hB.below hB6
      have x0'' := (hb6.cell (p := ⟨w.heap.size, 0, none⟩) l0').trans x0'
      have x1'' := (hb6.cell (p := ⟨w.heap.size, 1, none⟩) l0').trans x1'
      have y0' := (hb6.cell (p := ⟨BA, 0, none⟩) lA).trans y0
      have y1' := (hb6.cell (p := ⟨BA, 1, none⟩) lA).trans y1
      have lA' : BA < w6.heap.size := Nat.lt_of_lt_of_le lA hb6.size
      have l0'' : w.heap.size < w6.heap.size := Nat.lt_of_lt_of_le l0' hb6.size
      have hS6 := hS2 w6 p2 c2 hB (bjoin hb6 hb4)
      have hR6 := fun W (hW : Below w6.heap.size w6 W) => hRi W p1 c1 (hA.below (bjoin hW hb6))
      rw [← hw6]
      clear hw6 hB6 hb5 x0' x1' y0 y1 lA l0' hS2 hRi hPo4 hA hB
      generalize w5.heap.size = BB at *
      obtain ⟨lB, v0, v1⟩ := gB
      go_wp2_with (first
        | (go_at_call 11; refine Calls.mono hS6 ?_; rintro e w7 ⟨rfl, hb7⟩; have k0 := (hb7.cell (p := ⟨BA, 0, none⟩) lA').trans y0'; have k1 := (hb7.cell (p := ⟨BA, 1, none⟩) lA').trans y1'; have k2 := (hb7.cell (p := ⟨w.heap.size, 1, none⟩) l0'').trans x1''; have l7 : BA < w7.heap.size := Nat.lt_of_lt_of_le lA' hb7.size; have l8 : w.heap.size < w7.heap.size := Nat.lt_of_lt_of_le l0'' hb7.size)
        | (go_at_call 8; refine Calls.mono (hR6 _ hb7) ?_; rintro e w8 ⟨rfl, hb8⟩; have k1' := (hb8.cell (p := ⟨BA, 1, none⟩) l7).trans k1; have k2' := (hb8.cell (p := ⟨w.heap.size, 1, none⟩) l8).trans k2)
      )
      go_returns
      exact ⟨ret_bool (by simp), bjoin hb8 (bjoin hb7 (bjoin hb6 (bjoin hb4 hB0)))⟩
namespace GreyBack
theorem own : ownKnob Try.prog.godebug = none := by kernel_rfl
set_option maxRecDepth 100000 in
theorem lifted (os : Os) (started : os.Started) (H : Type) (enc : TypeId × Value → H) :
    ReturnsInHanded {} Try.checked os 6 .any (Rows.greyBackSpec.pre6 enc Try.prog Try.f6 Rows.greyBackRow.domain false) (Rows.greyBackSpec.post enc Try.prog Try.f6 false true false false) := by
  refine law_lifted (C := Try.checked) own started (by kernel_rfl) Try.func6 (by kernel_rfl) (of_decide_eq_true (by kernel_rfl)) rfl
    (fun ds hd => by have hd' : ds.length = 2 := hd; match ds, hd' with | [d0, d1], _ => rfl) rfl Try.underlying4
    (ChangeSpec.witness6 (enc := enc) (C := Try.checked) false ⟨#[], #[.agg #[.int .i64 0, .slice none 0 0], .int .i64 0], []⟩ 8 (by kernel_rfl) (by kernel_rfl) (by kernel_rfl) (by kernel_rfl)) ?_
  intro W base args ds p hval hA hlt
  rw [Try.params6] at hA hval
  obtain ⟨v0, v1, d0, d1, p0, p1, rfl, rfl, rfl, h0, h1⟩ := trodAll_two hA
  obtain ⟨r0, q0, n0, c0, z0, rfl, hr0, hg0⟩ := open_grey Try.underlying24 (by kernel_rfl) (by kernel_rfl) (by kernel_rfl) Try.underlying22 (by kernel_rfl) (by kernel_rfl) (hval 0 24 v0 rfl rfl) h0
  obtain ⟨a1, rfl, ha1⟩ := open_i64 Try.underlying3 (hval 1 3 v1 rfl rfl) h1
  exact back_walk r0 a1 q0 n0 c0 z0 W hg0 (by simp [Lit.wf, IntKind.min, IntKind.max, IntKind.signed, IntKind.bits]; omega)

/-- The statement. -/
theorem holds : Rows.GreyBackSaid :=
  OpenClaim.holds_of_wide 6 Try.f6 rfl rfl rfl rfl rfl rfl rfl ⟨rfl, rfl, rfl, rfl, rfl⟩ rfl rfl rfl rfl rfl (by kernel_rfl) Try.func6 (by kernel_rfl)
    (of_decide_eq_true (by kernel_rfl)) (by unfold Func.isWrapper; first | (rw [if_pos (by decide +kernel)]; kernel_rfl) | (rw [if_neg (by decide +kernel)]; exact ⟨rfl, rfl⟩))
    (fun os started H enc _ => lifted os started H enc)
#print axioms holds
end GreyBack
end Go.Proofs.Ytffcekjkgeiccaa
