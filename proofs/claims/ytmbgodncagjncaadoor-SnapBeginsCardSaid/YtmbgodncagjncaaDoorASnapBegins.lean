/- SnapBegins: of whatever heap that has its form, few mutators, and rooms that may be: a cycle's beginning is the document's. No condition; the table that the code reads is tied to the program's text. -/
import Derived.Test.YtmbgodncagjncaaDoorA47
import Derived.Test.YtmbgodncagjncaaDoorA48
import Derived.Test.YtmbgodncagjncaaDoorA37
import Derived.Test.YtmbgodncagjncaaDoorRows
import Derived.Test.YtmbgodncagjncaaDoorCards
import Derived.Test.YtmbgodncagjncaaDoorTie
import Derived.SevenTiedAt
namespace Go.Proofs.YtmbgodncagjncaaDoor
set_option linter.unusedSimpArgs false
set_option linter.unusedVariables false
open Go.ChangeShapes Go.WideShapes Go.ChangeAt Go.RowKit Go.Joins

theorem two_hm {w w0 : World} {p : Option Addr} {n c : Nat} {q : Option Addr} {k d : Nat} {b : Bool} {x0 x1 x2 x3 x4 x5 x6 x7 : Value} (e : w0 = (w.alloc (.cells #[.slice p n c, .slice q k d, .bool b] 25)).alloc (.cells #[x0, x1, x2, x3, x4, x5, x6, x7] 37)) :
    TBox 25 w.heap.size #[.slice p n c, .slice q k d, .bool b] w0 ∧ TBox 37 (w.heap.size + 1) #[x0, x1, x2, x3, x4, x5, x6, x7] w0 ∧ Below w.heap.size w w0 := tbox_two e
theorem box_three {T g : Nat} {x0 x1 x2 : Value} {w : World} (h : TBox T g #[x0, x1, x2] w) : g < w.heap.size ∧ w.cell? ⟨g, 0, none⟩ = some x0 ∧ w.cell? ⟨g, 1, none⟩ = some x1 ∧ w.cell? ⟨g, 2, none⟩ = some x2 := ⟨h.lt, h.cell 0, h.cell 1, h.cell 2⟩
theorem box_five {T g : Nat} {x0 x1 x2 x3 x4 : Value} {w : World} (h : TBox T g #[x0, x1, x2, x3, x4] w) : g < w.heap.size ∧ w.cell? ⟨g, 0, none⟩ = some x0 ∧ w.cell? ⟨g, 1, none⟩ = some x1 ∧ w.cell? ⟨g, 2, none⟩ = some x2 ∧ w.cell? ⟨g, 3, none⟩ = some x3 ∧ w.cell? ⟨g, 4, none⟩ = some x4 := ⟨h.lt, h.cell 0, h.cell 1, h.cell 2, h.cell 3, h.cell 4⟩
set_option maxHeartbeats 16000000 in
set_option maxRecDepth 20000 in
theorem begins18_walk {p : Option Addr} {c : Nat} {q : Option Addr} {d : Nat} {h : Hp} (a0 a1 : Int) (pm : Option Addr) (n cm : Nat) (z : Nat → Mu) (w : World) (hat : HpAt w p c q d h) (b0 : 0 ≤ a0 ∧ a0 < 256) (b1 : 0 ≤ a1 ∧ a1 < 256) (hz0 : RAt MuC 13 w pm cm n z) (hS : Sz w) :
    Calls Tryd.prog 3 #[.int .u8 a0, .int .u8 a1, .agg #[.slice p h.n c, .slice q h.m d, .bool h.b], .slice pm n cm] w fun e w' => e = .returned (.bool true) ∧ Below w.heap.size w w' := by
  obtain ⟨w0, hw0⟩ : ∃ w0, w0 = w.alloc (.cells #[.slice p h.n c, .slice q h.m d, .bool h.b] 25) := ⟨_, rfl⟩
  have gH : TBox 25 w.heap.size #[.slice p h.n c, .slice q h.m d, .bool h.b] w0 := by rw [hw0]; exact TBox.new _ _ _
  have hB0 : Below w.heap.size w w0 := by rw [hw0]; exact (Below.refl _ _).alloc (Nat.le_refl _) _
  replace hat := hat.below hB0
  replace hS := hS.below hB0
  replace hz0 := hz0.below muC_below hB0
  have hFi := fun W (hW : Below w0.heap.size w0 W) => fits18_any p c q d h n z pm cm W (hat.below hW) (hz0.below muC_below hW)
  obtain ⟨l0, x0, x1, x2⟩ := box_three gH
  by_cases hgo : (formB h && fewU z n) = true
  · have hgo' := hgo
    rw [Bool.and_eq_true] at hgo'
    obtain ⟨hF, hU⟩ := hgo'
    obtain ⟨hn, hst⟩ := few_u hU
    rw [hgo] at hFi
    have hF' : Hid (formB h = true) := hF
    obtain ⟨t, et, t0, t1⟩ : ∃ t : Int, a0 % 17 = t ∧ 0 ≤ t ∧ t < 17 := ⟨_, rfl, Int.emod_nonneg _ (by omega), Int.emod_lt_of_pos _ (by omega)⟩
    obtain ⟨u, eu, u0, u1⟩ : ∃ u : Int, a1 % 17 = u ∧ 0 ≤ u ∧ u < 17 := ⟨_, rfl, Int.emod_nonneg _ (by omega), Int.emod_lt_of_pos _ (by omega)⟩
    clear hgo hU hF
    go_enter Tryd.func3, Tryd.ntmps3
    go_upto_region 1 with fail
    rw [← hw0]
    clear hw0
    go_upto_region 4 with (first
    | (go_at_call 7; refine Calls.mono (awake18_any _ (hS.below (by go_grown))) ?_; rintro e w' ⟨rfl, hb⟩; obtain ⟨hc, hf, hb, hz⟩ := bstep hb (w := w0) (by go_grown); try simp only [World.size_alloc, World.size_setCell, World.size_drew] at hc hf hz)
    | (go_at_call 8; refine Calls.mono (hFi _ (by go_grown)) ?_; rintro e w' ⟨rfl, hb⟩; obtain ⟨hc, hf, hb, hz⟩ := bstep hb (w := w0) (by go_grown); try simp only [World.size_alloc, World.size_setCell, World.size_drew] at hc hf hz)
    )
    have hbW := bjoin hb hB0
    have h4 := hat.below hb
    have hM := hz0.below muC_below hb
    replace gH := gH.below hb
    replace hS := hS.below hb
    obtain ⟨l0, x0, x1, x2⟩ := box_three gH
    clear hFi hat hz0 hB0
    go_upto_region 5 with (first
      | (go_at_call 9; refine Calls.mono (sbegin_any 0 0 0 t u p c q d h n z pm cm _ (hS.below (by go_grown)) ⟨t0, by omega⟩ ⟨u0, by omega⟩ (h4.below (by go_grown)) hF'.out (hM.below muC_below (by go_grown)) hn hst) ?_; rintro e w5 ⟨p', c', q', d', pg, cg, pb, cb, pr, cr, rfl, hI, hMk, -, hb5⟩)
    )
    have gC := (TBox.new 30 w' #[.int .i64 0, .int .i64 0, .int .i64 0, .int .i64 t, .int .i64 u]).below hb5
    have hbC := bjoin hb5 ((Below.refl w'.heap.size w').alloc (Nat.le_refl _) _)
    obtain ⟨w6, hw6⟩ : ∃ W, W = (w5.alloc (.cells #[.slice p' h.n c', .slice q' h.m d', .bool (!h.b)] 25)).alloc (.cells #[.int .i64 t, .slice pg 0 cg, .slice pb n cb, .slice pr (rootL h z n).length cr, .int .i64 (-1), .int .i64 0, .int .i64 (-1), .bool false] 37) := ⟨_, rfl⟩
    obtain ⟨gA, gM, hb6⟩ := two_hm hw6
    rw [← hw6]
    clear hw6 hb hc hf hz x0 x1 x2 l0
    have hb46 := hbC.trans (hb6.mono hbC.size)
    have h6 := h4.below hb46
    have hM6 := hM.below muC_below hb46
    have gH6 := gH.below hb46
    have gC6 := gC.below hb6
    have hI6 := hI.below hb6
    have hMk6 : MAtE _ w6 (newM t n (fun _ => u) (rootL h z n).length (lvF (rootL h z n))) pg cg pb cb pr cr := hMk.below hb6
    have hbW6 := hbW.trans (hb46.mono hbW.size)
    obtain ⟨l0, x0, x1, x2⟩ := box_three gH6
    obtain ⟨l1, y0, y1, y2, y3, y4⟩ := box_five gC6
    clear h4 hM gH gC hI hMk hb46 hbW hb6 hbC hb5 hS
    go_upto_region 6 with (first
      | (go_at_call 10; refine Calls.mono (rbegin18_any 0 0 0 t u p c q d h n z pm cm _ (by constructor <;> omega) (by constructor <;> omega) h6 hF'.out hM6 hn hst) ?_; rintro e w7 ⟨p2, c2, q2, d2, pg2, cg2, pb2, cb2, pr2, cr2, rfl, hI2, hMk2, hb7⟩)
    )
    obtain ⟨w8, hw8⟩ : ∃ W, W = (w7.alloc (.cells #[.slice p2 h.n c2, .slice q2 h.m d2, .bool (!h.b)] 25)).alloc (.cells #[.int .i64 t, .slice pg2 0 cg2, .slice pb2 n cb2, .slice pr2 (rootL h z n).length cr2, .int .i64 (-1), .int .i64 0, .int .i64 (-1), .bool false] 37) := ⟨_, rfl⟩
    obtain ⟨gB, gN, hb8⟩ := two_hm hw8
    rw [← hw8]
    clear hw8 x0 x1 x2 l0 y0 y1 y2 y3 y4 l1
    have hb68 := hb7.trans (hb8.mono hb7.size)
    have gA8 := gA.below hb68
    have gM8 := gM.below hb68
    have hbW8 := hbW6.trans (hb68.mono hbW6.size)
    have hSH : ∀ W, Below w8.heap.size w8 W → Calls Tryd.prog 11 #[.agg #[.slice p' h.n c', .slice q' h.m d', .bool (!h.b)], .agg #[.slice p2 h.n c2, .slice q2 h.m d2, .bool (!h.b)]] W fun e w' => e = .returned (.bool true) ∧ Below W.heap.size W w' := fun W hW => by
      have := rsame_in (hI6.below (hb68.trans (hW.mono hb68.size))) (hI2.below (hb8.trans (hW.mono hb8.size)))
      rw [sameH_self] at this
      exact this
    have hSM : ∀ W, Below w8.heap.size w8 W → Calls Tryd.prog 12 #[.agg #[.int .i64 t, .slice pg 0 cg, .slice pb n cb, .slice pr (rootL h z n).length cr, .int .i64 (-1), .int .i64 0, .int .i64 (-1), .bool false], .agg #[.int .i64 t, .slice pg2 0 cg2, .slice pb2 n cb2, .slice pr2 (rootL h z n).length cr2, .int .i64 (-1), .int .i64 0, .int .i64 (-1), .bool false]] W fun e w' => e = .returned (.bool true) ∧ Below W.heap.size W w' := fun W hW => by
      have h1 := hMk6.below (hb68.trans (hW.mono hb68.size))
      have h2 := hMk2.below (hb8.trans (hW.mono hb8.size))
      exact rsame17_self (newM t n (fun _ => u) (rootL h z n).length (lvF (rootL h z n))) pg cg pb cb pr cr pg2 cg2 pb2 cb2 pr2 cr2 W h1.g h1.b.plain h1.r h2.g h2.b.plain h2.r
    obtain ⟨k0, u0', u1', u2'⟩ := box_three gA8
    obtain ⟨k1, v0, v1, v2⟩ := box_three gB
    obtain ⟨k2, s0, s1, s2, s3, s4, s5, s6, s7⟩ := mk_cells gM8
    obtain ⟨k3, r0, r1, r2, r3, r4, r5, r6, r7⟩ := mk_cells gN
    clear h6 hM6 gH6 gC6 hI6 hMk6 hI2 hMk2 hbW6 hb7 hb8 hb68 gA gM gA8 gM8 gB gN
    go_wp2_with (first
    | (go_at_call 11; refine Calls.mono (hSH _ (by go_grown)) ?_; rintro e w' ⟨rfl, hb⟩; obtain ⟨hc, hf, hb, hz⟩ := bstep hb (w := w8) (by go_grown); try simp only [World.size_alloc, World.size_setCell, World.size_drew] at hc hf hz)
    | (go_at_call 12; refine Calls.mono (hSM _ (by go_grown)) ?_; rintro e w' ⟨rfl, hb⟩; obtain ⟨hc, hf, hb, hz⟩ := bstep hb (w := w8) (by go_grown); try simp only [World.size_alloc, World.size_setCell, World.size_drew] at hc hf hz)
    )
    go_returns
    exact ⟨rfl, bjoin hb hbW8⟩
  · have hgo' : (formB h && fewU z n) = false := by simpa using hgo
    rw [hgo'] at hFi
    clear hgo hgo'
    go_enter Tryd.func3, Tryd.ntmps3
    go_upto_region 1 with fail
    rw [← hw0]
    clear hw0
    go_wp2_with (first
    | (go_at_call 7; refine Calls.mono (awake18_any _ (hS.below (by go_grown))) ?_; rintro e w' ⟨rfl, hb⟩; obtain ⟨hc, hf, hb, hz⟩ := bstep hb (w := w0) (by go_grown); try simp only [World.size_alloc, World.size_setCell, World.size_drew] at hc hf hz)
    | (go_at_call 8; refine Calls.mono (hFi _ (by go_grown)) ?_; rintro e w' ⟨rfl, hb⟩; obtain ⟨hc, hf, hb, hz⟩ := bstep hb (w := w0) (by go_grown); try simp only [World.size_alloc, World.size_setCell, World.size_drew] at hc hf hz)
    )
    go_returns
    exact ⟨rfl, bjoin hb hB0⟩
namespace SnapBegins
/-- What the row lists. -/
def lists : List (String × DataW Unit) := [("flotsam/class.sizes", Rows.laid_flotsam_class_sizes)]
set_option maxRecDepth 100000 in
theorem lifted (os : Os) (started : os.Started) (H : Type) (enc : TypeId × Value → H) :
    ReturnsInHanded {} Tryd.checked os 3 .any (fun w args => (Rows.snapBeginsSpec.pre enc Tryd.prog Tryd.f3 Rows.snapBeginsRow.domain false w args ∧ laidMetH Tryd.prog lists w) ∧ sizedMet enc Tryd.prog Tryd.f3 (OpenSpec.ofChange Rows.snapBeginsSpec) false w args) (Rows.snapBeginsSpec.post enc Tryd.prog Tryd.f3 false true false false) := by
  refine law_lifted_laid (C := Tryd.checked) seat_own started (by kernel_rfl) Tryd.func3 (by kernel_rfl) (of_decide_eq_true (by kernel_rfl)) rfl
    (fun ds hd => by have hd' : ds.length = 4 := hd; match ds, hd' with | [d0, d1, d2, d3], _ => rfl) rfl Tryd.underlying4
    (ChangeSpec.witness_shaped (enc := enc) (C := Tryd.checked) (os := os) (X := fun w _ => laidMetH Tryd.prog lists w) false (World.laidAll Tryd.prog os lists) #[.int .u8 0, .int .u8 0, .agg #[.slice none 0 0, .slice none 0 0, .bool false], .slice none 0 0] 8 (World.laidAll_os _ _ _)
      (World.shaped_of_ZipB (by kernel_rfl) (by kernel_rfl)) (by kernel_rfl) (by kernel_rfl) (by kernel_rfl)
      (by rw [MakeChecks.laidMetH_plain _ _ _ (by kernel_rfl)]; exact laidMet_laidAll _ (by kernel_rfl) (by kernel_rfl))) ?_
  intro W base args ds p hval hA hlt hL
  have hS : Sz W := sizes_of hL (by kernel_rfl) rfl
  rw [Tryd.params3] at hA hval
  obtain ⟨v0, v1, v2, v3, d0, d1, d2, d3, p0, p1, p2, p3, rfl, rfl, rfl, h0, h1, h2, h3⟩ := trodAll_four hA
  obtain ⟨a0, rfl, ha0⟩ := open_u8 Tryd.underlying5 (hval 0 5 v0 rfl rfl) h0
  obtain ⟨a1, rfl, ha1⟩ := open_u8 Tryd.underlying5 (hval 1 5 v1 rfl rfl) h1
  obtain ⟨x2, q2, c2, s2, e2, rfl, hh2⟩ := open_heap Tryd.underlying25 (by kernel_rfl) (by kernel_rfl) Tryd.underlying22 (by kernel_rfl) (by kernel_rfl) Tryd.underlying23 Tryd.underlying68 (by kernel_rfl) (by kernel_rfl) (by kernel_rfl) (by kernel_rfl) (by kernel_rfl) (by kernel_rfl) (hval 2 25 v2 rfl rfl) h2
  obtain ⟨q3, n3, cap3, z3, rfl, hm3⟩ := open_mutators Tryd.underlying26 Tryd.underlying49 (by kernel_rfl) ⟨rfl, rfl, rfl, rfl, rfl, rfl⟩ ⟨by kernel_rfl, by kernel_rfl, by kernel_rfl, by kernel_rfl, by kernel_rfl, by kernel_rfl⟩ Tryd.underlying35 Tryd.underlying46 (by kernel_rfl) (by kernel_rfl) (by kernel_rfl) (by kernel_rfl) (by kernel_rfl) (by kernel_rfl) rfl Tryd.underlying44 ⟨rfl, rfl, rfl, rfl⟩ ⟨by kernel_rfl, by kernel_rfl, by kernel_rfl, by kernel_rfl⟩ ⟨by kernel_rfl, by kernel_rfl, by kernel_rfl, by kernel_rfl⟩ ⟨rfl, rfl⟩ ⟨by kernel_rfl, by kernel_rfl⟩ Tryd.underlying47 (by kernel_rfl) (by kernel_rfl) (hval 3 26 v3 rfl rfl) h3
  exact begins18_walk a0 a1 q3 n3 cap3 z3 W hh2 ha0 ha1 hm3 hS

theorem row_holds : Rows.SnapBeginsSaid :=
  OpenClaim.holds_of_wide 3 Tryd.f3 rfl rfl rfl rfl rfl rfl rfl ⟨rfl, rfl, rfl, rfl, rfl⟩ rfl rfl rfl rfl rfl (by kernel_rfl) Tryd.func3 (by kernel_rfl)
    (of_decide_eq_true (by kernel_rfl)) (by unfold Func.isWrapper; first | (rw [if_pos (by decide +kernel)]; kernel_rfl) | (rw [if_neg (by decide +kernel)]; exact ⟨rfl, rfl⟩))
    (fun os started H enc _ => lifted os started H enc)
/-- The tied card. -/
theorem holds : Rows.SnapBeginsCardSaid :=
  Claim7.holds_tied_plain_at .later [] [.data] true (true, "1fc3ee0dc7588e3d27a7d5a24eafd86ac73523e010a7788d053712e9af2933f6") false row_holds (fun _ h => by cases h) (by kernel_rfl) (fun _ h => by cases h) snapBegins_row_tie rfl ⟨rfl, rfl⟩ (by kernel_rfl) rfl
    (fun f fn hf hfn => by
      obtain rfl : f = 3 := Option.some.inj ((show Tryd.prog.funcNamed "flotsam/flotsamlaw18.SnapBegins" = some 3 by kernel_rfl).symm.trans hf) |>.symm
      obtain rfl : fn = Tryd.f3 := (Option.some.inj (Tryd.func3.symm.trans hfn)).symm
      exact ⟨by kernel_rfl, fun j t ht => by
        rw [Tryd.params3] at ht
        have hm : t ∈ [5, 5, 25, 26] := by simpa using Array.mem_of_getElem? ht
        have hall : ([5, 5, 25, 26].all fun u => !Tryd.prog.wantsStandIn u) = true := by kernel_rfl
        exact (show Tryd.prog.wantsStandIn t = false by simpa using List.all_eq_true.1 hall t hm)⟩)
    (by kernel_rfl)
#print axioms holds
end SnapBegins
end Go.Proofs.YtmbgodncagjncaaDoor
