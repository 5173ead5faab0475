/- SoundStays: of a sound heap a field that becomes a number, Nil, or a reference to an object leaves it sound; so does an object that is painted, if all that it refers to are objects. No condition; the tables that the code reads are tied to the program's text. -/
import Derived.Test.YthhehhlibkdmgaaDoorRows
import Derived.Test.YthhehhlibkdmgaaDoorCards
import Derived.Test.YthhehhlibkdmgaaDoorTie
import Derived.Test.YthhehhlibkdmgaaDoorAwake09
import Derived.Test.YthhehhlibkdmgaaDoorLate
import Derived.SevenTiedAt
namespace Go.Proofs.YthhehhlibkdmgaaDoor
set_option linter.unusedSimpArgs false
set_option linter.unusedVariables false
open Go.ChangeShapes Go.WideShapes Go.ChangeAt Go.RowKit Go.Joins

/-- The reference's list of objects, by its length and numbers. -/
theorem rlist_row {p : Option Addr} {c : Nat} {q : Option Addr} {d : Nat} {h : Hp} {w : World} (hh : HpAt w p c q d h) (hF : formB h = true) {M : Nat} {z : Nat → Int} (eM : (obL h h.n).length = M) (ez : (fun i => (obL h h.n)[i]?.getD 0) = z) :
    Calls Tryd.prog 12 #[.agg #[.slice p h.n c, .slice q h.m d, .bool h.b]] w fun e w' => ∃ pl cl, e = .returned (.slice pl M cl) ∧ Ints .i64 w' pl M z ∧ Below w.heap.size w w' := by
  refine Calls.mono (rlist8_any p c q d h w hh hF) ?_
  rintro e w' ⟨v, rfl, hown, hb⟩
  obtain ⟨pl, cl, rfl, hr⟩ := row_owned hown (obL_wf h (by have := form_iff.1 hF; omega))
  have hi := hr.ints
  rw [eM, ez] at hi
  rw [eM]
  exact ⟨pl, cl, rfl, hi, hb⟩
theorem rrefs_row {p : Option Addr} {c : Nat} {q : Option Addr} {d : Nat} {h : Hp} {w : World} {a : Int} (hh : HpAt w p c q d h) (hF : formB h = true) {R : Nat} {y : Nat → Int} (eM : (rfH h a).length = R) (ey : (fun i => (rfH h a)[i]?.getD 0) = y) :
    Calls Tryd.prog 14 #[.agg #[.slice p h.n c, .slice q h.m d, .bool h.b], .int .i64 a] w fun e w' => ∃ pm cm, e = .returned (.slice pm R cm) ∧ Ints .i64 w' pm R y ∧ Below w.heap.size w w' := by
  refine Calls.mono (rrefs8_any p c q d h a w hh hF) ?_
  rintro e w' ⟨v, rfl, hown, hb⟩
  obtain ⟨pm, cm, rfl, hr⟩ := row_owned hown (rfH_wf hh.wf hF a)
  have hi := hr.ints
  rw [eM, ey] at hi
  rw [eM]
  exact ⟨pm, cm, rfl, hi, hb⟩
set_option maxHeartbeats 32000000 in
set_option maxRecDepth 20000 in
theorem stays_walk {p : Option Addr} {c : Nat} {q : Option Addr} {d : Nat} {h : Hp} (a1 a2 a3 a4 : Int) (w : World) (hat : HpAt w p c q d h) (hS : Sz w) (b1 : 0 ≤ a1 ∧ a1 < 256) (b2 : 0 ≤ a2 ∧ a2 < 256) (b3 : 0 ≤ a3 ∧ a3 < 256) (b4 : 0 ≤ a4 ∧ a4 < 256) :
    Calls Tryd.prog 6 #[.agg #[.slice p h.n c, .slice q h.m d, .bool h.b], .int .u8 a1, .int .u8 a2, .int .u8 a3, .int .u8 a4] w fun e w' => e = .returned (.bool true) ∧ Below w.heap.size w w' := by
  obtain ⟨w0, hw0⟩ : ∃ w0, w0 = w.alloc (.cells #[.slice p h.n c, .slice q h.m d, .bool h.b] 25) := ⟨_, rfl⟩
  have g3 : Box3 w.heap.size (.slice p h.n c) (.slice q h.m d) (.bool h.b) w0 := by rw [hw0]; exact Box3.new _ _ _ _ _
  have hB0 : Below w.heap.size w w0 := by rw [hw0]; exact (Below.refl _ _).alloc (Nat.le_refl _) _
  replace hat := hat.below hB0
  replace hS := hS.below hB0
  obtain ⟨l3, x0, x1, x2, -, -, -⟩ := id g3
  have hC := fun W (hW : Below w0.heap.size w0 W) => rcheck9_in (hat.below hW).in
  by_cases hk : ckH h = 0
  · obtain ⟨hF, k2, k3, k4⟩ := ck_zero.1 hk
    have hF' : Hid (formB h = true) := hF
    have hk' : Hid (ckH h = 0) := hk
    obtain ⟨M, z, eM, ez, hM, hzm, hzs, hin⟩ := list_all hF
    have hLi := fun W (hW : Below w0.heap.size w0 W) => rlist_row (hat.below hW) hF'.out eM ez
    rw [hk] at hC
    clear hk hF k2 k3 k4 eM ez
    go_enter Tryd.func6, Tryd.ntmps6
    go_upto_region 1 with fail
    rw [← hw0]
    clear hw0
    go_upto_region 4 with (first
    | (go_at_call 7; refine Calls.mono (awake9_any _ (hS.below (by go_grown))) ?_; rintro e w' ⟨rfl, hb⟩; obtain ⟨hc, hf, hb, hz⟩ := bstep hb (w := w0) (by go_grown); try simp only [World.size_alloc, World.size_setCell, World.size_drew] at hc hf hz)
    | (go_at_call 9; refine Calls.mono (hC _ (by go_grown)) ?_; rintro e w' ⟨rfl, hb⟩; obtain ⟨hc, hf, hb, hz⟩ := bstep hb (w := w0) (by go_grown); try simp only [World.size_alloc, World.size_setCell, World.size_drew] at hc hf hz)
    | (go_at_call 12; refine Calls.mono (hLi _ (by go_grown)) ?_; rintro e w' ⟨pl, cl, rfl, hI, hb⟩; obtain ⟨hc, hf, hb, hz⟩ := bstep hb (w := w0) (by go_grown); try simp only [World.size_alloc, World.size_setCell, World.size_drew] at hc hf hz)
    )
    have hbW := bjoin hb hB0
    replace hat := hat.below hb
    replace hS := hS.below hb
    replace g3 := g3.below hb
    clear hb hc hf hz x0 x1 x2 l3 hB0 hC hLi
    generalize w' = w4 at hbW hat hS g3 hI ⊢
    obtain ⟨l3, x0, x1, x2, -, -, -⟩ := id g3
    by_cases hM0 : M = 0
    · have hM0' : ((M : Int) == 0) = true := by simp [hM0]
      clear hI hzm hzs hin hM0
      go_wp2
      go_returns
      exact ⟨rfl, hbW⟩
    have hM0' : ((M : Int) == 0) = false := by simp [hM0]
    obtain ⟨⟨bl, ol, eq1, hlt, -⟩, -⟩ := hI 0 (by omega)
    subst eq1
    have hv : ∀ t : Int, 0 ≤ t → t < M → w4.cell? ⟨bl, ol + t.toNat, none⟩ = some (.int .i64 (z t.toNat)) := fun t t0 t1 => by
      obtain ⟨⟨b', o', e, -, v⟩, -⟩ := hI t.toNat (by omega)
      injection e with e
      injection e with e1 e2
      subst e1 e2
      exact v
    obtain ⟨t1, e1, t10, t11⟩ : ∃ t : Int, a1 % (M : Int) = t ∧ 0 ≤ t ∧ t < M := ⟨_, rfl, Int.emod_nonneg _ (by omega), Int.emod_lt_of_pos _ (by omega)⟩
    obtain ⟨t3, e3, t30, t31⟩ : ∃ t : Int, a3 % (M : Int) = t ∧ 0 ≤ t ∧ t < M := ⟨_, rfl, Int.emod_nonneg _ (by omega), Int.emod_lt_of_pos _ (by omega)⟩
    have v1 := hv t1 t10 t11
    have v3 := hv t3 t30 t31
    obtain ⟨z10, z11, ho1⟩ := (obL_mem h _ h.n).1 (hzm t1.toNat (by omega))
    obtain ⟨z30, z31, ho3⟩ := (obL_mem h _ h.n).1 (hzm t3.toNat (by omega))
    generalize hX : z t1.toNat = X at *
    generalize hY : z t3.toNat = Y at *
    clear hX hY hv hzm hzs
    have hnl : h.n ≤ 512 := by have := form_iff.1 hF'.out; omega
    rcases (show a4 % 3 = 0 ∨ a4 % 3 = 1 ∨ a4 % 3 = 2 by omega) with e4 | e4 | e4
    case' neg.inl =>
      go_upto_region 11 with fail
      obtain ⟨w6, hw6⟩ : ∃ W, W = w4.alloc (.cells #[.int .i64 0, .int .i64 0] 47) := ⟨_, rfl⟩
      have hB6 : Below w4.heap.size w4 w6 := by rw [hw6]; exact (Below.refl _ _).alloc (Nat.le_refl _) _
      obtain ⟨KK, NN, gV, hmay, href, hmx⟩ : ∃ KK NN : Int, Box2 w4.heap.size (.int .i64 KK) (.int .i64 NN) w6 ∧ mayB KK NN = true ∧ (KK = 2 → obB h NN = true) ∧ NN ≤ 9223372036854775807 := ⟨0, 0, by rw [hw6]; exact Box2.new _ _ _ _, by decide, fun h => by omega, by omega⟩
      rw [← hw6]
      clear hw6
    case' neg.inr.inl =>
      go_upto_region 11 with fail
      obtain ⟨w6, hw6⟩ : ∃ W, W = w4.alloc (.cells #[.int .i64 1, .int .i64 a3] 47) := ⟨_, rfl⟩
      have hB6 : Below w4.heap.size w4 w6 := by rw [hw6]; exact (Below.refl _ _).alloc (Nat.le_refl _) _
      obtain ⟨KK, NN, gV, hmay, href, hmx⟩ : ∃ KK NN : Int, Box2 w4.heap.size (.int .i64 KK) (.int .i64 NN) w6 ∧ mayB KK NN = true ∧ (KK = 2 → obB h NN = true) ∧ NN ≤ 9223372036854775807 := ⟨1, a3, by rw [hw6]; exact Box2.new _ _ _ _, by simp [mayB]; omega, fun h => by omega, by omega⟩
      rw [← hw6]
      clear hw6
    case' neg.inr.inr =>
      go_upto_region 11 with fail
      obtain ⟨w6, hw6⟩ : ∃ W, W = w4.alloc (.cells #[.int .i64 2, .int .i64 Y] 47) := ⟨_, rfl⟩
      have hB6 : Below w4.heap.size w4 w6 := by rw [hw6]; exact (Below.refl _ _).alloc (Nat.le_refl _) _
      obtain ⟨KK, NN, gV, hmay, href, hmx⟩ : ∃ KK NN : Int, Box2 w4.heap.size (.int .i64 KK) (.int .i64 NN) w6 ∧ mayB KK NN = true ∧ (KK = 2 → obB h NN = true) ∧ NN ≤ 9223372036854775807 := ⟨2, Y, by rw [hw6]; exact Box2.new _ _ _ _, by simp [mayB]; omega, fun _ => ho3, by omega⟩
      rw [← hw6]
      try rw [e3]
      clear hw6
    all_goals
      have hbW6 := bjoin hB6 hbW
      have g36 := g3.below hB6
      have hat6 := hat.below hB6
      have hS6 := hS.below hB6
      have hI6 := hI.below hB6
      have hlt6 : bl < w6.heap.size := Nat.lt_of_lt_of_le hlt hB6.size
      have v16 : w6.cell? ⟨bl, ol + t1.toNat, none⟩ = some (.int .i64 X) := (hB6.cell (p := ⟨bl, ol + t1.toNat, none⟩) hlt).trans v1
      clear hB6 hbW g3 hat hS hI hlt v1 v3 x0 x1 x2 l3 e4
      generalize w4.heap.size = BV at *
      have hG : ∀ W, Below w6.heap.size w6 W → Calls Tryd.prog 13 #[.agg #[.slice p h.n c, .slice q h.m d, .bool h.b], .int .i64 X] W fun e w' => e = .returned (.tuple #[.agg #[.bool true, .bool (obC h X), .int .i64 (obK h X), .int .i64 (obN h X)], .bool true]) ∧ Below W.heap.size W w' := fun W hW => by
        have := rget8_any p c q d h X W (hat6.below hW) hF'.out
        rw [ho1] at this
        exact this
      have hNb : obN h X ≤ 15 := by rw [(ob_spec hF'.out ho1).2.2.2.2.2.2.2.2.1]; exact gN_bound.2
      generalize hCe : obC h X = C at *
      generalize hKe : obK h X = K at *
      generalize hNe : obN h X = N at *
      clear hCe hKe
      refine wp_late (ds := [some 57, some 58, some 59, some 60, some 61, some 62, some 63, some 64, some 65, some 66, some 56, some 67, some 68, some 13, none, some 14]) (ts := [57, 58, 59, 60, 61, 62, 63, 64, 65, 66, 56, 67, 68, 13, 14]) (pv := [(fun v _ => v = .agg #[.slice p h.n c, .slice q h.m d, .bool h.b]), (fun v _ => v = .slice (some ⟨bl, ol, none⟩) M cl), (fun v _ => v = .int .u8 a1), (fun v _ => v = .int .i64 a1), (fun v _ => v = .slice (some ⟨bl, ol, none⟩) M cl), (fun v _ => v = .int .i64 (M : Int)), (fun v _ => v = .int .i64 t1), (fun v _ => v = .pointer (some ⟨bl, ol + t1.toNat, none⟩)), (fun v _ => v = .int .i64 X), (fun v _ => v = .tuple #[.agg #[.bool true, .bool C, .int .i64 K, .int .i64 N], .bool true]), (fun v _ => v = .tuple #[.agg #[.bool true, .bool C, .int .i64 K, .int .i64 N], .bool true]), (fun v _ => v = .agg #[.bool true, .bool C, .int .i64 K, .int .i64 N]), (fun v _ => v = .bool true), (fun _ _ => True), (fun _ _ => True), (fun v _ => v = .bool true)]) (skip := fun i => ([] : List Nat).contains i) (ia := 13) (is := 14) (k := 69) (Shape := Shape4) (Full := (fun g w => Box4 g (.bool true) (.bool C) (.int .i64 K) (.int .i64 N) w)) (by kernel_rfl) (by kernel_rfl) rfl rfl (by decide) (by decide) (by simp) ?_ (by decide) shape4_below (fun _ _ _ h hb => h.below hb) ?_ ?_ ?_ ?_
      · exact .inr ⟨⟨_, rfl⟩, rfl, _, rfl, (by first | rfl | decide | simp [Region.binds]), by decide, rfl⟩
      · exact ⟨fun _ _ _ h _ => h, fun _ _ _ h _ => h, fun _ _ _ h _ => h, fun _ _ _ h _ => h, fun _ _ _ h _ => h, fun _ _ _ h _ => h, fun _ _ _ h _ => h, fun _ _ _ h _ => h, fun _ _ _ h _ => h, fun _ _ _ h _ => h, fun _ _ _ h _ => h, fun _ _ _ h _ => h, fun _ _ _ h _ => h, fun _ _ _ h _ => h, fun _ _ _ h _ => h, fun _ _ _ h _ => h, trivial⟩
      · exact ⟨rfl, rfl, rfl, rfl, rfl, rfl, rfl, rfl, rfl, rfl, rfl, rfl, rfl, rfl, rfl, rfl, trivial⟩
      · refine ⟨?_, ?_, ?_, ?_, ?_, ?_, ?_, ?_, ?_, ?_, ?_, ?_, ?_, ?_, ?_, ?_, trivial⟩
        · intro _ a' w' hb' hs hd hn Kc hK
          have f5 : a'.tmps[5]?.getD undef = .pointer (some ⟨w.heap.size, 0, none⟩) := (hs 5 (by decide)).trans rfl
          clear hs hd hn
          rw [if_neg (by decide), if_neg (by decide)] at hK
          have v17 : w'.cell? ⟨bl, ol + t1.toNat, none⟩ = some (.int .i64 X) := (hb'.cell (p := ⟨bl, ol + t1.toNat, none⟩) hlt6).trans v16
          obtain ⟨lB, k0, k1, k2, -, -, -⟩ := g36.below hb'
          unfold Oper.wp
          go_simp
          try go_bits
          exact hK _ _ (Below.refl _ _) (by first | rfl | (show Value.int _ _ = Value.int _ _; go_num; done) | (simp [valOf, *]; done) | (simp [valOf]; omega))
        · intro _ a' w' hb' hs hd hn Kc hK
          have f11 : a'.tmps[11]?.getD undef = .slice (some ⟨bl, ol, none⟩) M cl := (hs 11 (by decide)).trans rfl
          clear hs hd hn
          rw [if_neg (by decide), if_neg (by decide)] at hK
          have v17 : w'.cell? ⟨bl, ol + t1.toNat, none⟩ = some (.int .i64 X) := (hb'.cell (p := ⟨bl, ol + t1.toNat, none⟩) hlt6).trans v16
          obtain ⟨lB, k0, k1, k2, -, -, -⟩ := g36.below hb'
          unfold Oper.wp
          go_simp
          try go_bits
          exact hK _ _ (Below.refl _ _) (by first | rfl | (show Value.int _ _ = Value.int _ _; go_num; done) | (simp [valOf, *]; done) | (simp [valOf]; omega))
        · intro _ a' w' hb' hs hd hn Kc hK
          have f1 : a'.tmps[1]?.getD undef = .int .u8 a1 := (hs 1 (by decide)).trans rfl
          clear hs hd hn
          rw [if_neg (by decide), if_neg (by decide)] at hK
          have v17 : w'.cell? ⟨bl, ol + t1.toNat, none⟩ = some (.int .i64 X) := (hb'.cell (p := ⟨bl, ol + t1.toNat, none⟩) hlt6).trans v16
          obtain ⟨lB, k0, k1, k2, -, -, -⟩ := g36.below hb'
          unfold Oper.wp
          go_simp
          try go_bits
          exact hK _ _ (Below.refl _ _) (by first | rfl | (show Value.int _ _ = Value.int _ _; go_num; done) | (simp [valOf, *]; done) | (simp [valOf]; omega))
        · intro _ a' w' hb' hs hd hn Kc hK
          have f59 : a'.tmps[59]?.getD undef = .int .u8 a1 := hd 2 59 (by first | rfl | decide | simp [Region.binds]) rfl (by decide) (by decide) rfl
          clear hs hd hn
          rw [if_neg (by decide), if_neg (by decide)] at hK
          have v17 : w'.cell? ⟨bl, ol + t1.toNat, none⟩ = some (.int .i64 X) := (hb'.cell (p := ⟨bl, ol + t1.toNat, none⟩) hlt6).trans v16
          obtain ⟨lB, k0, k1, k2, -, -, -⟩ := g36.below hb'
          unfold Oper.wp
          go_simp
          try go_bits
          exact hK _ _ (Below.refl _ _) (by first | rfl | (show Value.int _ _ = Value.int _ _; go_num; done) | (simp [valOf, *]; done) | (simp [valOf]; omega))
        · intro _ a' w' hb' hs hd hn Kc hK
          have f11 : a'.tmps[11]?.getD undef = .slice (some ⟨bl, ol, none⟩) M cl := (hs 11 (by decide)).trans rfl
          clear hs hd hn
          rw [if_neg (by decide), if_neg (by decide)] at hK
          have v17 : w'.cell? ⟨bl, ol + t1.toNat, none⟩ = some (.int .i64 X) := (hb'.cell (p := ⟨bl, ol + t1.toNat, none⟩) hlt6).trans v16
          obtain ⟨lB, k0, k1, k2, -, -, -⟩ := g36.below hb'
          unfold Oper.wp
          go_simp
          try go_bits
          exact hK _ _ (Below.refl _ _) (by first | rfl | (show Value.int _ _ = Value.int _ _; go_num; done) | (simp [valOf, *]; done) | (simp [valOf]; omega))
        · intro _ a' w' hb' hs hd hn Kc hK
          have f61 : a'.tmps[61]?.getD undef = .slice (some ⟨bl, ol, none⟩) M cl := hd 4 61 (by first | rfl | decide | simp [Region.binds]) rfl (by decide) (by decide) rfl
          clear hs hd hn
          rw [if_neg (by decide), if_neg (by decide)] at hK
          have v17 : w'.cell? ⟨bl, ol + t1.toNat, none⟩ = some (.int .i64 X) := (hb'.cell (p := ⟨bl, ol + t1.toNat, none⟩) hlt6).trans v16
          obtain ⟨lB, k0, k1, k2, -, -, -⟩ := g36.below hb'
          unfold Oper.wp
          go_simp
          try go_bits
          exact hK _ _ (Below.refl _ _) (by first | rfl | (show Value.int _ _ = Value.int _ _; go_num; done) | (simp [valOf, *]; done) | (simp [valOf]; omega))
        · intro _ a' w' hb' hs hd hn Kc hK
          have f60 : a'.tmps[60]?.getD undef = .int .i64 a1 := hd 3 60 (by first | rfl | decide | simp [Region.binds]) rfl (by decide) (by decide) rfl
          have f62 : a'.tmps[62]?.getD undef = .int .i64 (M : Int) := hd 5 62 (by first | rfl | decide | simp [Region.binds]) rfl (by decide) (by decide) rfl
          clear hs hd hn
          rw [if_neg (by decide), if_neg (by decide)] at hK
          have v17 : w'.cell? ⟨bl, ol + t1.toNat, none⟩ = some (.int .i64 X) := (hb'.cell (p := ⟨bl, ol + t1.toNat, none⟩) hlt6).trans v16
          obtain ⟨lB, k0, k1, k2, -, -, -⟩ := g36.below hb'
          unfold Oper.wp
          go_simp
          try go_bits
          exact hK _ _ (Below.refl _ _) (by first | rfl | (show Value.int _ _ = Value.int _ _; go_num; done) | (simp [valOf, *]; done) | (simp [valOf]; omega))
        · intro _ a' w' hb' hs hd hn Kc hK
          have f58 : a'.tmps[58]?.getD undef = .slice (some ⟨bl, ol, none⟩) M cl := hd 1 58 (by first | rfl | decide | simp [Region.binds]) rfl (by decide) (by decide) rfl
          have f63 : a'.tmps[63]?.getD undef = .int .i64 t1 := hd 6 63 (by first | rfl | decide | simp [Region.binds]) rfl (by decide) (by decide) rfl
          clear hs hd hn
          rw [if_neg (by decide), if_neg (by decide)] at hK
          have v17 : w'.cell? ⟨bl, ol + t1.toNat, none⟩ = some (.int .i64 X) := (hb'.cell (p := ⟨bl, ol + t1.toNat, none⟩) hlt6).trans v16
          obtain ⟨lB, k0, k1, k2, -, -, -⟩ := g36.below hb'
          unfold Oper.wp
          go_simp
          try go_bits
          exact hK _ _ (Below.refl _ _) (by first | rfl | (show Value.int _ _ = Value.int _ _; go_num; done) | (simp [valOf, *]; done) | (simp [valOf]; omega))
        · intro _ a' w' hb' hs hd hn Kc hK
          have f64 : a'.tmps[64]?.getD undef = .pointer (some ⟨bl, ol + t1.toNat, none⟩) := hd 7 64 (by first | rfl | decide | simp [Region.binds]) rfl (by decide) (by decide) rfl
          clear hs hd hn
          rw [if_neg (by decide), if_neg (by decide)] at hK
          have v17 : w'.cell? ⟨bl, ol + t1.toNat, none⟩ = some (.int .i64 X) := (hb'.cell (p := ⟨bl, ol + t1.toNat, none⟩) hlt6).trans v16
          obtain ⟨lB, k0, k1, k2, -, -, -⟩ := g36.below hb'
          unfold Oper.wp
          go_simp
          try go_bits
          exact hK _ _ (Below.refl _ _) (by first | rfl | (show Value.int _ _ = Value.int _ _; go_num; done) | (simp [valOf, *]; done) | (simp [valOf]; omega))
        · intro _ a' w' hb' hs hd hn Kc hK
          have f57 : a'.tmps[57]?.getD undef = .agg #[.slice p h.n c, .slice q h.m d, .bool h.b] := hd 0 57 (by first | rfl | decide | simp [Region.binds]) rfl (by decide) (by decide) rfl
          have f65 : a'.tmps[65]?.getD undef = .int .i64 X := hd 8 65 (by first | rfl | decide | simp [Region.binds]) rfl (by decide) (by decide) rfl
          clear hs hd hn
          rw [if_neg (by decide), if_neg (by decide)] at hK
          have v17 : w'.cell? ⟨bl, ol + t1.toNat, none⟩ = some (.int .i64 X) := (hb'.cell (p := ⟨bl, ol + t1.toNat, none⟩) hlt6).trans v16
          obtain ⟨lB, k0, k1, k2, -, -, -⟩ := g36.below hb'
          unfold Oper.wp
          go_simp
          try go_bits
          refine Calls.mono (hG _ hb') ?_
          rintro e w'' ⟨rfl, hb2⟩
          exact hK _ _ hb2 rfl
        · intro _ a' w' hb' hs hd hn Kc hK
          have f66 : a'.tmps[66]?.getD undef = .tuple #[.agg #[.bool true, .bool C, .int .i64 K, .int .i64 N], .bool true] := hd 9 66 (by first | rfl | decide | simp [Region.binds]) rfl (by decide) (by decide) rfl
          clear hs hd hn
          rw [if_neg (by decide), if_neg (by decide)] at hK
          have v17 : w'.cell? ⟨bl, ol + t1.toNat, none⟩ = some (.int .i64 X) := (hb'.cell (p := ⟨bl, ol + t1.toNat, none⟩) hlt6).trans v16
          obtain ⟨lB, k0, k1, k2, -, -, -⟩ := g36.below hb'
          unfold Oper.wp
          go_simp
          try go_bits
          exact hK _ _ (Below.refl _ _) (by first | rfl | (show Value.int _ _ = Value.int _ _; go_num; done) | (simp [valOf, *]; done) | (simp [valOf]; omega))
        · intro _ a' w' hb' hs hd hn Kc hK
          have f56 : a'.tmps[56]?.getD undef = .tuple #[.agg #[.bool true, .bool C, .int .i64 K, .int .i64 N], .bool true] := hd 10 56 (by first | rfl | decide | simp [Region.binds]) rfl (by decide) (by decide) rfl
          clear hs hd hn
          rw [if_neg (by decide), if_neg (by decide)] at hK
          have v17 : w'.cell? ⟨bl, ol + t1.toNat, none⟩ = some (.int .i64 X) := (hb'.cell (p := ⟨bl, ol + t1.toNat, none⟩) hlt6).trans v16
          obtain ⟨lB, k0, k1, k2, -, -, -⟩ := g36.below hb'
          unfold Oper.wp
          go_simp
          try go_bits
          exact hK _ _ (Below.refl _ _) (by first | rfl | (show Value.int _ _ = Value.int _ _; go_num; done) | (simp [valOf, *]; done) | (simp [valOf]; omega))
        · intro _ a' w' hb' hs hd hn Kc hK
          have f56 : a'.tmps[56]?.getD undef = .tuple #[.agg #[.bool true, .bool C, .int .i64 K, .int .i64 N], .bool true] := hd 10 56 (by first | rfl | decide | simp [Region.binds]) rfl (by decide) (by decide) rfl
          clear hs hd hn
          rw [if_neg (by decide), if_neg (by decide)] at hK
          have v17 : w'.cell? ⟨bl, ol + t1.toNat, none⟩ = some (.int .i64 X) := (hb'.cell (p := ⟨bl, ol + t1.toNat, none⟩) hlt6).trans v16
          obtain ⟨lB, k0, k1, k2, -, -, -⟩ := g36.below hb'
          unfold Oper.wp
          go_simp
          try go_bits
          exact hK _ _ (Below.refl _ _) (by first | rfl | (show Value.int _ _ = Value.int _ _; go_num; done) | (simp [valOf, *]; done) | (simp [valOf]; omega))
        · intro _ a' w' hb' hs hd hn Kc hK
          clear hs hd hn
          rw [if_pos rfl] at hK
          unfold Oper.wp
          go_simp
          exact hK _ _ ((Below.refl _ _).alloc (Nat.le_refl _) _) (Nat.le_refl _) ⟨_, _, _, _, Box4.new _ _ _ _ _ _⟩
        · intro _ a' w' hb' hs hd hn Kc hK
          obtain ⟨g, f13, hg, hsh⟩ := hn 13 (by first | rfl | decide | simp [Region.binds]) rfl rfl
          have f67 : a'.tmps[67]?.getD undef = .agg #[.bool true, .bool C, .int .i64 K, .int .i64 N] := hd 11 67 (by first | rfl | decide | simp [Region.binds]) rfl (by decide) (by decide) rfl
          obtain ⟨x0, x1, x2, x3, h3⟩ := id hsh
          rw [if_neg (by decide), if_pos rfl] at hK
          have hfin := hK g (.tuple #[]) (puts4 g (.bool true) (.bool C) (.int .i64 K) (.int .i64 N) w') (fun d hd => by obtain rfl : 13 = d := Option.some.inj (Option.some.inj hd); exact f13) (puts4_below hg _ _ _ _ w') hg (h3.put (.bool true) (.bool C) (.int .i64 K) (.int .i64 N)) (shape4_puts h3 (.bool true) (.bool C) (.int .i64 K) (.int .i64 N)) ⟨fun _ h => h, fun _ h => h, fun _ h => h, fun _ h => h, fun _ h => h, fun _ h => h, fun _ h => h, fun _ h => h, fun _ h => h, fun _ h => h, fun _ h => h, fun _ h => h, fun _ h => h, fun _ h => h, fun _ h => h, fun _ h => h, trivial⟩
          clear hs hd hn hK
          obtain ⟨h0, c0, c1, c2, c3, g0, g1, g2, g3⟩ := h3
          unfold puts4 at hfin
          unfold Oper.wp
          go_simp
          exact hfin
        · intro _ a' w' hb' hs hd hn Kc hK
          have f68 : a'.tmps[68]?.getD undef = .bool true := hd 12 68 (by first | rfl | decide | simp [Region.binds]) rfl (by decide) (by decide) rfl
          clear hs hd hn
          rw [if_neg (by decide), if_neg (by decide)] at hK
          have v17 : w'.cell? ⟨bl, ol + t1.toNat, none⟩ = some (.int .i64 X) := (hb'.cell (p := ⟨bl, ol + t1.toNat, none⟩) hlt6).trans v16
          obtain ⟨lB, k0, k1, k2, -, -, -⟩ := g36.below hb'
          unfold Oper.wp
          go_simp
          try go_bits
          exact hK _ _ (Below.refl _ _) (by first | rfl | (show Value.int _ _ = Value.int _ _; go_num; done) | (simp [valOf, *]; done) | (simp [valOf]; omega))
      intro Xf g w' hX hb hv
      obtain ⟨hg, gX, hgp⟩ := hX (by decide)
      have q13 : Xf 13 = .pointer (some ⟨g, 0, none⟩) := hgp 13 rfl
      clear hX hv hgp
      simp only [List.map_cons, List.map_nil, q13, puts, Act.put, Nat.reduceAdd, List.setIfInBounds_toArray, List.set_cons_succ, List.set_cons_zero]
      have hg7 := g36.below hb
      have hat7 := hat6.below hb
      have hS7 := hS6.below hb
      have hI7 := hI6.below hb
      have gV7 := gV.below hb
      have hlt7 : bl < w'.heap.size := Nat.lt_of_lt_of_le hlt6 hb.size
      have v17 : w'.cell? ⟨bl, ol + t1.toNat, none⟩ = some (.int .i64 X) := (hb.cell (p := ⟨bl, ol + t1.toNat, none⟩) hlt6).trans v16
      have hbW7 := bjoin hb hbW6
      clear hb g36 hat6 hS6 hI6 gV hlt6 v16 hbW6 hG hg
      generalize w' = w7 at *
      obtain ⟨lX, y0, y1, y2, y3, -, -, -, -⟩ := id gX
      obtain ⟨R, y, eM, ey, hRl, hym, hys⟩ := refs_all hF'.out X
      have hn0 : 0 < h.n ∧ 0 < h.m := by have := form_iff.1 hF'.out; omega
      obtain ⟨hn0, hm0⟩ := hn0
      generalize g = gx at *
    all_goals
      by_cases hN0 : 0 < N
      case' pos =>
        obtain ⟨t2, e2, t20, t21⟩ : ∃ t : Int, a2 % N = t ∧ 0 ≤ t ∧ t < N := ⟨_, rfl, Int.emod_nonneg _ (by omega), Int.emod_lt_of_pos _ (by omega)⟩
        have hfe : fdE h X t2 = 0 := by
          rcases fd_cases h X t2 with ⟨-, -, -, e, -⟩ | ⟨-, hn, -⟩ | ⟨ho, -⟩
          · exact e
          · exact absurd ⟨t20, by rw [hNe]; exact t21⟩ hn
          · rw [ho1] at ho; cases ho
        have hse : seE h X t2 KK NN = 0 := by unfold seE; rw [if_pos hfe, if_pos hmay]
        have hck : ckH (seH h X t2 KK NN) = 0 := stays_set hk'.out hfe hmay href
        have hSet : ∀ W, Below w7.heap.size w7 W → Calls Tryd.prog 18 #[.agg #[.slice p h.n c, .slice q h.m d, .bool h.b], .int .i64 X, .int .i64 t2, .agg #[.int .i64 KK, .int .i64 NN]] W fun e w' => ∃ p' c' q' d', e = .returned (.tuple #[.agg #[.slice p' h.n c', .slice q' h.m d', .bool h.b], .int .i64 0]) ∧ HpIn w' p' h.n c' q' h.m d' h.b (seH h X t2 KK NN) ∧ Below W.heap.size W w' := fun W hW => by
          refine Calls.mono (rset8_in (hat7.below hW).in hF'.out hmx) ?_
          rintro e w' ⟨p', c', q', d', rfl, hA, -, hb⟩
          rw [hse]
          exact ⟨p', c', q', d', rfl, hA, hb⟩
        generalize seH h X t2 KK NN = H at *
        have hNz : ¬ N = 0 := by omega
        clear hse hfe
        go_upto_region 13 with fail
        refine wp_late (ds := [some 73, some 74, some 75, some 76, some 77, some 78, some 79, some 80, some 81, some 82, some 83, some 84, some 85, some 86, some 87, some 88, some 72, some 89, some 90, some 15, none, some 16]) (ts := [73, 74, 75, 76, 77, 78, 79, 80, 81, 82, 83, 84, 85, 86, 87, 88, 72, 89, 90, 15, 16]) (pv := [(fun v _ => v = .agg #[.slice p h.n c, .slice q h.m d, .bool h.b]), (fun v _ => v = .slice (some ⟨bl, ol, none⟩) M cl), (fun v _ => v = .int .u8 a1), (fun v _ => v = .int .i64 a1), (fun v _ => v = .slice (some ⟨bl, ol, none⟩) M cl), (fun v _ => v = .int .i64 (M : Int)), (fun v _ => v = .int .i64 t1), (fun v _ => v = .pointer (some ⟨bl, ol + t1.toNat, none⟩)), (fun v _ => v = .int .i64 X), (fun v _ => v = .int .u8 a2), (fun v _ => v = .int .i64 a2), (fun v _ => v = .pointer (some ⟨gx, 3, none⟩)), (fun v _ => v = .int .i64 N), (fun v _ => v = .int .i64 t2), (fun v _ => v = .agg #[.int .i64 KK, .int .i64 NN]), HpT (h.n) (h.m) (h.b) (H) (.int .i64 0), HpT (h.n) (h.m) (h.b) (H) (.int .i64 0), HpV (h.n) (h.m) (h.b) (H), (fun v _ => v = .int .i64 0), (fun _ _ => True), (fun _ _ => True), (fun v _ => v = .int .i64 0)]) (skip := fun i => ([] : List Nat).contains i) (ia := 19) (is := 20) (k := 91) (Shape := ShapeH) (Full := (FullH (h.n) (h.m) (h.b) (H))) (by kernel_rfl) (by kernel_rfl) rfl rfl (by decide) (by decide) (by simp) ?_ (by decide) shapeH_below fullH_below ?_ ?_ ?_ ?_
        · exact .inr ⟨⟨_, rfl⟩, rfl, _, rfl, (by first | rfl | decide | simp [Region.binds]), by decide, rfl⟩
        · exact ⟨fun _ _ _ h _ => h, fun _ _ _ h _ => h, fun _ _ _ h _ => h, fun _ _ _ h _ => h, fun _ _ _ h _ => h, fun _ _ _ h _ => h, fun _ _ _ h _ => h, fun _ _ _ h _ => h, fun _ _ _ h _ => h, fun _ _ _ h _ => h, fun _ _ _ h _ => h, fun _ _ _ h _ => h, fun _ _ _ h _ => h, fun _ _ _ h _ => h, fun _ _ _ h _ => h, fun _ _ _ h hb => h.below hb, fun _ _ _ h hb => h.below hb, fun _ _ _ h hb => h.below hb, fun _ _ _ h _ => h, fun _ _ _ h _ => h, fun _ _ _ h _ => h, fun _ _ _ h _ => h, trivial⟩
        · exact ⟨rfl, rfl, rfl, rfl, rfl, rfl, rfl, rfl, rfl, rfl, rfl, rfl, rfl, rfl, rfl, rfl, rfl, rfl, rfl, rfl, rfl, rfl, trivial⟩
        · refine ⟨?_, ?_, ?_, ?_, ?_, ?_, ?_, ?_, ?_, ?_, ?_, ?_, ?_, ?_, ?_, ?_, ?_, ?_, ?_, ?_, ?_, ?_, trivial⟩
          · intro _ a' w' hb' hs hd hn Kc hK
            have f5 : a'.tmps[5]?.getD undef = .pointer (some ⟨w.heap.size, 0, none⟩) := (hs 5 (by decide)).trans rfl
            clear hs hd hn
            rw [if_neg (by decide), if_neg (by decide)] at hK
            have v18 : w'.cell? ⟨bl, ol + t1.toNat, none⟩ = some (.int .i64 X) := (hb'.cell (p := ⟨bl, ol + t1.toNat, none⟩) hlt7).trans v17
            obtain ⟨lB, k0, k1, k2, -, -, -⟩ := hg7.below hb'
            obtain ⟨lV, k4, k5⟩ := gV7.below hb'
            obtain ⟨lX', k6, k7, k8, k9, -, -, -, -⟩ := gX.below hb'
            unfold Oper.wp
            go_simp
            try go_bits
            exact hK _ _ (Below.refl _ _) (by first | rfl | (show Value.int _ _ = Value.int _ _; go_num; done) | (simp [valOf, *]; done) | (simp [valOf]; omega))
          · intro _ a' w' hb' hs hd hn Kc hK
            have f11 : a'.tmps[11]?.getD undef = .slice (some ⟨bl, ol, none⟩) M cl := (hs 11 (by decide)).trans rfl
            clear hs hd hn
            rw [if_neg (by decide), if_neg (by decide)] at hK
            have v18 : w'.cell? ⟨bl, ol + t1.toNat, none⟩ = some (.int .i64 X) := (hb'.cell (p := ⟨bl, ol + t1.toNat, none⟩) hlt7).trans v17
            obtain ⟨lB, k0, k1, k2, -, -, -⟩ := hg7.below hb'
            obtain ⟨lV, k4, k5⟩ := gV7.below hb'
            obtain ⟨lX', k6, k7, k8, k9, -, -, -, -⟩ := gX.below hb'
            unfold Oper.wp
            go_simp
            try go_bits
            exact hK _ _ (Below.refl _ _) (by first | rfl | (show Value.int _ _ = Value.int _ _; go_num; done) | (simp [valOf, *]; done) | (simp [valOf]; omega))
          · intro _ a' w' hb' hs hd hn Kc hK
            have f1 : a'.tmps[1]?.getD undef = .int .u8 a1 := (hs 1 (by decide)).trans rfl
            clear hs hd hn
            rw [if_neg (by decide), if_neg (by decide)] at hK
            have v18 : w'.cell? ⟨bl, ol + t1.toNat, none⟩ = some (.int .i64 X) := (hb'.cell (p := ⟨bl, ol + t1.toNat, none⟩) hlt7).trans v17
            obtain ⟨lB, k0, k1, k2, -, -, -⟩ := hg7.below hb'
            obtain ⟨lV, k4, k5⟩ := gV7.below hb'
            obtain ⟨lX', k6, k7, k8, k9, -, -, -, -⟩ := gX.below hb'
            unfold Oper.wp
            go_simp
            try go_bits
            exact hK _ _ (Below.refl _ _) (by first | rfl | (show Value.int _ _ = Value.int _ _; go_num; done) | (simp [valOf, *]; done) | (simp [valOf]; omega))
          · intro _ a' w' hb' hs hd hn Kc hK
            have f75 : a'.tmps[75]?.getD undef = .int .u8 a1 := hd 2 75 (by first | rfl | decide | simp [Region.binds]) rfl (by decide) (by decide) rfl
            clear hs hd hn
            rw [if_neg (by decide), if_neg (by decide)] at hK
            have v18 : w'.cell? ⟨bl, ol + t1.toNat, none⟩ = some (.int .i64 X) := (hb'.cell (p := ⟨bl, ol + t1.toNat, none⟩) hlt7).trans v17
            obtain ⟨lB, k0, k1, k2, -, -, -⟩ := hg7.below hb'
            obtain ⟨lV, k4, k5⟩ := gV7.below hb'
            obtain ⟨lX', k6, k7, k8, k9, -, -, -, -⟩ := gX.below hb'
            unfold Oper.wp
            go_simp
            try go_bits
            exact hK _ _ (Below.refl _ _) (by first | rfl | (show Value.int _ _ = Value.int _ _; go_num; done) | (simp [valOf, *]; done) | (simp [valOf]; omega))
          · intro _ a' w' hb' hs hd hn Kc hK
            have f11 : a'.tmps[11]?.getD undef = .slice (some ⟨bl, ol, none⟩) M cl := (hs 11 (by decide)).trans rfl
            clear hs hd hn
            rw [if_neg (by decide), if_neg (by decide)] at hK
            have v18 : w'.cell? ⟨bl, ol + t1.toNat, none⟩ = some (.int .i64 X) := (hb'.cell (p := ⟨bl, ol + t1.toNat, none⟩) hlt7).trans v17
            obtain ⟨lB, k0, k1, k2, -, -, -⟩ := hg7.below hb'
            obtain ⟨lV, k4, k5⟩ := gV7.below hb'
            obtain ⟨lX', k6, k7, k8, k9, -, -, -, -⟩ := gX.below hb'
            unfold Oper.wp
            go_simp
            try go_bits
            exact hK _ _ (Below.refl _ _) (by first | rfl | (show Value.int _ _ = Value.int _ _; go_num; done) | (simp [valOf, *]; done) | (simp [valOf]; omega))
          · intro _ a' w' hb' hs hd hn Kc hK
            have f77 : a'.tmps[77]?.getD undef = .slice (some ⟨bl, ol, none⟩) M cl := hd 4 77 (by first | rfl | decide | simp [Region.binds]) rfl (by decide) (by decide) rfl
            clear hs hd hn
            rw [if_neg (by decide), if_neg (by decide)] at hK
            have v18 : w'.cell? ⟨bl, ol + t1.toNat, none⟩ = some (.int .i64 X) := (hb'.cell (p := ⟨bl, ol + t1.toNat, none⟩) hlt7).trans v17
            obtain ⟨lB, k0, k1, k2, -, -, -⟩ := hg7.below hb'
            obtain ⟨lV, k4, k5⟩ := gV7.below hb'
            obtain ⟨lX', k6, k7, k8, k9, -, -, -, -⟩ := gX.below hb'
            unfold Oper.wp
            go_simp
            try go_bits
            exact hK _ _ (Below.refl _ _) (by first | rfl | (show Value.int _ _ = Value.int _ _; go_num; done) | (simp [valOf, *]; done) | (simp [valOf]; omega))
          · intro _ a' w' hb' hs hd hn Kc hK
            have f76 : a'.tmps[76]?.getD undef = .int .i64 a1 := hd 3 76 (by first | rfl | decide | simp [Region.binds]) rfl (by decide) (by decide) rfl
            have f78 : a'.tmps[78]?.getD undef = .int .i64 (M : Int) := hd 5 78 (by first | rfl | decide | simp [Region.binds]) rfl (by decide) (by decide) rfl
            clear hs hd hn
            rw [if_neg (by decide), if_neg (by decide)] at hK
            have v18 : w'.cell? ⟨bl, ol + t1.toNat, none⟩ = some (.int .i64 X) := (hb'.cell (p := ⟨bl, ol + t1.toNat, none⟩) hlt7).trans v17
            obtain ⟨lB, k0, k1, k2, -, -, -⟩ := hg7.below hb'
            obtain ⟨lV, k4, k5⟩ := gV7.below hb'
            obtain ⟨lX', k6, k7, k8, k9, -, -, -, -⟩ := gX.below hb'
            unfold Oper.wp
            go_simp
            try go_bits
            exact hK _ _ (Below.refl _ _) (by first | rfl | (show Value.int _ _ = Value.int _ _; go_num; done) | (simp [valOf, *]; done) | (simp [valOf]; omega))
          · intro _ a' w' hb' hs hd hn Kc hK
            have f74 : a'.tmps[74]?.getD undef = .slice (some ⟨bl, ol, none⟩) M cl := hd 1 74 (by first | rfl | decide | simp [Region.binds]) rfl (by decide) (by decide) rfl
            have f79 : a'.tmps[79]?.getD undef = .int .i64 t1 := hd 6 79 (by first | rfl | decide | simp [Region.binds]) rfl (by decide) (by decide) rfl
            clear hs hd hn
            rw [if_neg (by decide), if_neg (by decide)] at hK
            have v18 : w'.cell? ⟨bl, ol + t1.toNat, none⟩ = some (.int .i64 X) := (hb'.cell (p := ⟨bl, ol + t1.toNat, none⟩) hlt7).trans v17
            obtain ⟨lB, k0, k1, k2, -, -, -⟩ := hg7.below hb'
            obtain ⟨lV, k4, k5⟩ := gV7.below hb'
            obtain ⟨lX', k6, k7, k8, k9, -, -, -, -⟩ := gX.below hb'
            unfold Oper.wp
            go_simp
            try go_bits
            exact hK _ _ (Below.refl _ _) (by first | rfl | (show Value.int _ _ = Value.int _ _; go_num; done) | (simp [valOf, *]; done) | (simp [valOf]; omega))
          · intro _ a' w' hb' hs hd hn Kc hK
            have f80 : a'.tmps[80]?.getD undef = .pointer (some ⟨bl, ol + t1.toNat, none⟩) := hd 7 80 (by first | rfl | decide | simp [Region.binds]) rfl (by decide) (by decide) rfl
            clear hs hd hn
            rw [if_neg (by decide), if_neg (by decide)] at hK
            have v18 : w'.cell? ⟨bl, ol + t1.toNat, none⟩ = some (.int .i64 X) := (hb'.cell (p := ⟨bl, ol + t1.toNat, none⟩) hlt7).trans v17
            obtain ⟨lB, k0, k1, k2, -, -, -⟩ := hg7.below hb'
            obtain ⟨lV, k4, k5⟩ := gV7.below hb'
            obtain ⟨lX', k6, k7, k8, k9, -, -, -, -⟩ := gX.below hb'
            unfold Oper.wp
            go_simp
            try go_bits
            exact hK _ _ (Below.refl _ _) (by first | rfl | (show Value.int _ _ = Value.int _ _; go_num; done) | (simp [valOf, *]; done) | (simp [valOf]; omega))
          · intro _ a' w' hb' hs hd hn Kc hK
            have f2 : a'.tmps[2]?.getD undef = .int .u8 a2 := (hs 2 (by decide)).trans rfl
            clear hs hd hn
            rw [if_neg (by decide), if_neg (by decide)] at hK
            have v18 : w'.cell? ⟨bl, ol + t1.toNat, none⟩ = some (.int .i64 X) := (hb'.cell (p := ⟨bl, ol + t1.toNat, none⟩) hlt7).trans v17
            obtain ⟨lB, k0, k1, k2, -, -, -⟩ := hg7.below hb'
            obtain ⟨lV, k4, k5⟩ := gV7.below hb'
            obtain ⟨lX', k6, k7, k8, k9, -, -, -, -⟩ := gX.below hb'
            unfold Oper.wp
            go_simp
            try go_bits
            exact hK _ _ (Below.refl _ _) (by first | rfl | (show Value.int _ _ = Value.int _ _; go_num; done) | (simp [valOf, *]; done) | (simp [valOf]; omega))
          · intro _ a' w' hb' hs hd hn Kc hK
            have f82 : a'.tmps[82]?.getD undef = .int .u8 a2 := hd 9 82 (by first | rfl | decide | simp [Region.binds]) rfl (by decide) (by decide) rfl
            clear hs hd hn
            rw [if_neg (by decide), if_neg (by decide)] at hK
            have v18 : w'.cell? ⟨bl, ol + t1.toNat, none⟩ = some (.int .i64 X) := (hb'.cell (p := ⟨bl, ol + t1.toNat, none⟩) hlt7).trans v17
            obtain ⟨lB, k0, k1, k2, -, -, -⟩ := hg7.below hb'
            obtain ⟨lV, k4, k5⟩ := gV7.below hb'
            obtain ⟨lX', k6, k7, k8, k9, -, -, -, -⟩ := gX.below hb'
            unfold Oper.wp
            go_simp
            try go_bits
            exact hK _ _ (Below.refl _ _) (by first | rfl | (show Value.int _ _ = Value.int _ _; go_num; done) | (simp [valOf, *]; done) | (simp [valOf]; omega))
          · intro _ a' w' hb' hs hd hn Kc hK
            have f13 : a'.tmps[13]?.getD undef = .pointer (some ⟨gx, 0, none⟩) := (hs 13 (by decide)).trans rfl
            clear hs hd hn
            rw [if_neg (by decide), if_neg (by decide)] at hK
            have v18 : w'.cell? ⟨bl, ol + t1.toNat, none⟩ = some (.int .i64 X) := (hb'.cell (p := ⟨bl, ol + t1.toNat, none⟩) hlt7).trans v17
            obtain ⟨lB, k0, k1, k2, -, -, -⟩ := hg7.below hb'
            obtain ⟨lV, k4, k5⟩ := gV7.below hb'
            obtain ⟨lX', k6, k7, k8, k9, -, -, -, -⟩ := gX.below hb'
            unfold Oper.wp
            go_simp
            try go_bits
            exact hK _ _ (Below.refl _ _) (by first | rfl | (show Value.int _ _ = Value.int _ _; go_num; done) | (simp [valOf, *]; done) | (simp [valOf]; omega))
          · intro _ a' w' hb' hs hd hn Kc hK
            have f84 : a'.tmps[84]?.getD undef = .pointer (some ⟨gx, 3, none⟩) := hd 11 84 (by first | rfl | decide | simp [Region.binds]) rfl (by decide) (by decide) rfl
            clear hs hd hn
            rw [if_neg (by decide), if_neg (by decide)] at hK
            have v18 : w'.cell? ⟨bl, ol + t1.toNat, none⟩ = some (.int .i64 X) := (hb'.cell (p := ⟨bl, ol + t1.toNat, none⟩) hlt7).trans v17
            obtain ⟨lB, k0, k1, k2, -, -, -⟩ := hg7.below hb'
            obtain ⟨lV, k4, k5⟩ := gV7.below hb'
            obtain ⟨lX', k6, k7, k8, k9, -, -, -, -⟩ := gX.below hb'
            unfold Oper.wp
            go_simp
            try go_bits
            exact hK _ _ (Below.refl _ _) (by first | rfl | (show Value.int _ _ = Value.int _ _; go_num; done) | (simp [valOf, *]; done) | (simp [valOf]; omega))
          · intro _ a' w' hb' hs hd hn Kc hK
            have f83 : a'.tmps[83]?.getD undef = .int .i64 a2 := hd 10 83 (by first | rfl | decide | simp [Region.binds]) rfl (by decide) (by decide) rfl
            have f85 : a'.tmps[85]?.getD undef = .int .i64 N := hd 12 85 (by first | rfl | decide | simp [Region.binds]) rfl (by decide) (by decide) rfl
            clear hs hd hn
            rw [if_neg (by decide), if_neg (by decide)] at hK
            have v18 : w'.cell? ⟨bl, ol + t1.toNat, none⟩ = some (.int .i64 X) := (hb'.cell (p := ⟨bl, ol + t1.toNat, none⟩) hlt7).trans v17
            obtain ⟨lB, k0, k1, k2, -, -, -⟩ := hg7.below hb'
            obtain ⟨lV, k4, k5⟩ := gV7.below hb'
            obtain ⟨lX', k6, k7, k8, k9, -, -, -, -⟩ := gX.below hb'
            unfold Oper.wp
            go_simp
            try go_bits
            exact hK _ _ (Below.refl _ _) (by first | rfl | (show Value.int _ _ = Value.int _ _; go_num; done) | (simp [valOf, *]; done) | (simp [valOf]; omega))
          · intro _ a' w' hb' hs hd hn Kc hK
            have f12 : a'.tmps[12]?.getD undef = .pointer (some ⟨BV, 0, none⟩) := (hs 12 (by decide)).trans rfl
            clear hs hd hn
            rw [if_neg (by decide), if_neg (by decide)] at hK
            have v18 : w'.cell? ⟨bl, ol + t1.toNat, none⟩ = some (.int .i64 X) := (hb'.cell (p := ⟨bl, ol + t1.toNat, none⟩) hlt7).trans v17
            obtain ⟨lB, k0, k1, k2, -, -, -⟩ := hg7.below hb'
            obtain ⟨lV, k4, k5⟩ := gV7.below hb'
            obtain ⟨lX', k6, k7, k8, k9, -, -, -, -⟩ := gX.below hb'
            unfold Oper.wp
            go_simp
            try go_bits
            exact hK _ _ (Below.refl _ _) (by first | rfl | (show Value.int _ _ = Value.int _ _; go_num; done) | (simp [valOf, *]; done) | (simp [valOf]; omega))
          · intro _ a' w' hb' hs hd hn Kc hK
            have f73 : a'.tmps[73]?.getD undef = .agg #[.slice p h.n c, .slice q h.m d, .bool h.b] := hd 0 73 (by first | rfl | decide | simp [Region.binds]) rfl (by decide) (by decide) rfl
            have f81 : a'.tmps[81]?.getD undef = .int .i64 X := hd 8 81 (by first | rfl | decide | simp [Region.binds]) rfl (by decide) (by decide) rfl
            have f86 : a'.tmps[86]?.getD undef = .int .i64 t2 := hd 13 86 (by first | rfl | decide | simp [Region.binds]) rfl (by decide) (by decide) rfl
            have f87 : a'.tmps[87]?.getD undef = .agg #[.int .i64 KK, .int .i64 NN] := hd 14 87 (by first | rfl | decide | simp [Region.binds]) rfl (by decide) (by decide) rfl
            clear hs hd hn
            rw [if_neg (by decide), if_neg (by decide)] at hK
            have v18 : w'.cell? ⟨bl, ol + t1.toNat, none⟩ = some (.int .i64 X) := (hb'.cell (p := ⟨bl, ol + t1.toNat, none⟩) hlt7).trans v17
            obtain ⟨lB, k0, k1, k2, -, -, -⟩ := hg7.below hb'
            obtain ⟨lV, k4, k5⟩ := gV7.below hb'
            obtain ⟨lX', k6, k7, k8, k9, -, -, -, -⟩ := gX.below hb'
            unfold Oper.wp
            go_simp
            try go_bits
            refine Calls.mono (hSet _ hb') ?_
            rintro e w'' ⟨p', c', q', d', rfl, hA, hb2⟩
            exact hK _ _ hb2 ⟨_, _, _, _, rfl, hA⟩
          · intro _ a' w' hb' hs hd hn Kc hK
            obtain ⟨p', c', q', d', f88, hA⟩ := hd 15 88 (by first | rfl | decide | simp [Region.binds]) rfl (by decide) (by decide) rfl
            clear hs hd hn
            rw [if_neg (by decide), if_neg (by decide)] at hK
            have v18 : w'.cell? ⟨bl, ol + t1.toNat, none⟩ = some (.int .i64 X) := (hb'.cell (p := ⟨bl, ol + t1.toNat, none⟩) hlt7).trans v17
            obtain ⟨lB, k0, k1, k2, -, -, -⟩ := hg7.below hb'
            obtain ⟨lV, k4, k5⟩ := gV7.below hb'
            obtain ⟨lX', k6, k7, k8, k9, -, -, -, -⟩ := gX.below hb'
            unfold Oper.wp
            go_simp
            try go_bits
            exact hK _ _ (Below.refl _ _) ⟨_, _, _, _, rfl, hA⟩
          · intro _ a' w' hb' hs hd hn Kc hK
            obtain ⟨p', c', q', d', f72, hA⟩ := hd 16 72 (by first | rfl | decide | simp [Region.binds]) rfl (by decide) (by decide) rfl
            clear hs hd hn
            rw [if_neg (by decide), if_neg (by decide)] at hK
            have v18 : w'.cell? ⟨bl, ol + t1.toNat, none⟩ = some (.int .i64 X) := (hb'.cell (p := ⟨bl, ol + t1.toNat, none⟩) hlt7).trans v17
            obtain ⟨lB, k0, k1, k2, -, -, -⟩ := hg7.below hb'
            obtain ⟨lV, k4, k5⟩ := gV7.below hb'
            obtain ⟨lX', k6, k7, k8, k9, -, -, -, -⟩ := gX.below hb'
            unfold Oper.wp
            go_simp
            try go_bits
            exact hK _ _ (Below.refl _ _) ⟨_, _, _, _, rfl, hA⟩
          · intro _ a' w' hb' hs hd hn Kc hK
            obtain ⟨p', c', q', d', f72, hA⟩ := hd 16 72 (by first | rfl | decide | simp [Region.binds]) rfl (by decide) (by decide) rfl
            clear hs hd hn
            rw [if_neg (by decide), if_neg (by decide)] at hK
            have v18 : w'.cell? ⟨bl, ol + t1.toNat, none⟩ = some (.int .i64 X) := (hb'.cell (p := ⟨bl, ol + t1.toNat, none⟩) hlt7).trans v17
            obtain ⟨lB, k0, k1, k2, -, -, -⟩ := hg7.below hb'
            obtain ⟨lV, k4, k5⟩ := gV7.below hb'
            obtain ⟨lX', k6, k7, k8, k9, -, -, -, -⟩ := gX.below hb'
            unfold Oper.wp
            go_simp
            try go_bits
            exact hK _ _ (Below.refl _ _) (by first | rfl | (show Value.int _ _ = Value.int _ _; go_num; done) | (simp [valOf, *]; done) | (simp [valOf]; omega))
          · intro _ a' w' hb' hs hd hn Kc hK
            clear hs hd hn
            rw [if_pos rfl] at hK
            unfold Oper.wp
            go_simp
            exact hK _ _ ((Below.refl _ _).alloc (Nat.le_refl _) _) (Nat.le_refl _) (shapeH_new _ _)
          · intro _ a' w' hb' hs hd hn Kc hK
            obtain ⟨g, f15, hg, hsh⟩ := hn 15 (by first | rfl | decide | simp [Region.binds]) rfl rfl
            obtain ⟨p', c', q', d', f89, hA⟩ := hd 17 89 (by first | rfl | decide | simp [Region.binds]) rfl (by decide) (by decide) rfl
            obtain ⟨⟨_, _, _, _, _, _, _, h3⟩, hk3⟩ := id hsh
            rw [if_neg (by decide), if_pos rfl] at hK
            have hfin := hK g (.tuple #[]) (puts3 g (.slice p' (h.n) c') (.slice q' (h.m) d') (.bool (h.b)) w') (fun d hd => by obtain rfl : 15 = d := Option.some.inj (Option.some.inj hd); exact f15) (puts3_below hg _ _ _ w') hg ⟨p', c', q', d', h3.puts (.slice p' (h.n) c') (.slice q' (h.m) d') (.bool (h.b)), hA.stores (shapeH_clear hsh hA (hn0) (hm0)) _ _ _⟩ (shapeH_puts h3 hk3 _ _ _ _ _ _ _) ⟨fun _ h => h, fun _ h => h, fun _ h => h, fun _ h => h, fun _ h => h, fun _ h => h, fun _ h => h, fun _ h => h, fun _ h => h, fun _ h => h, fun _ h => h, fun _ h => h, fun _ h => h, fun _ h => h, fun _ h => h, fun _ h => h.puts hsh (hn0) (hm0) _ _ _, fun _ h => h.puts hsh (hn0) (hm0) _ _ _, fun _ h => h.puts hsh (hn0) (hm0) _ _ _, fun _ h => h, fun _ h => h, fun _ h => h, fun _ h => h, trivial⟩
            clear hs hd hn hK
            obtain ⟨h0, c0, c1, c2, g0, g1, g2⟩ := h3
            unfold puts3 at hfin
            unfold Oper.wp
            go_simp
            exact hfin
          · intro _ a' w' hb' hs hd hn Kc hK
            have f90 : a'.tmps[90]?.getD undef = .int .i64 0 := hd 18 90 (by first | rfl | decide | simp [Region.binds]) rfl (by decide) (by decide) rfl
            clear hs hd hn
            rw [if_neg (by decide), if_neg (by decide)] at hK
            have v18 : w'.cell? ⟨bl, ol + t1.toNat, none⟩ = some (.int .i64 X) := (hb'.cell (p := ⟨bl, ol + t1.toNat, none⟩) hlt7).trans v17
            obtain ⟨lB, k0, k1, k2, -, -, -⟩ := hg7.below hb'
            obtain ⟨lV, k4, k5⟩ := gV7.below hb'
            obtain ⟨lX', k6, k7, k8, k9, -, -, -, -⟩ := gX.below hb'
            unfold Oper.wp
            go_simp
            try go_bits
            exact hK _ _ (Below.refl _ _) (by first | rfl | (show Value.int _ _ = Value.int _ _; go_num; done) | (simp [valOf, *]; done) | (simp [valOf]; omega))
        intro Xf g w' hX hb hv
        obtain ⟨hg, gX, hgp⟩ := hX (by decide)
        have q15 : Xf 15 = .pointer (some ⟨g, 0, none⟩) := hgp 15 rfl
        clear hX hv hgp
        simp only [List.map_cons, List.map_nil, q15, puts, Act.put, Nat.reduceAdd, List.setIfInBounds_toArray, List.set_cons_succ, List.set_cons_zero]
        have hg8 := hg7.below hb
        have hat8 := hat7.below hb
        have hS8 := hS7.below hb
        have hI8 := hI7.below hb
        have v18 : w'.cell? ⟨bl, ol + t1.toNat, none⟩ = some (.int .i64 X) := (hb.cell (p := ⟨bl, ol + t1.toNat, none⟩) hlt7).trans v17
        have hlt8 : bl < w'.heap.size := Nat.lt_of_lt_of_le hlt7 hb.size
        have hbW8 := bjoin hb hbW7
        clear hb hg7 hat7 hS7 hI7 v17 hlt7 hbW7 hg hSet e2 hN0
        generalize w' = w8 at *
        obtain ⟨p2, c2, q2, d2, gG, hGH⟩ := gX
        obtain ⟨lG, j0, j1, j2, -, -, -⟩ := id gG
        have hCk := scheck_in hS8 hGH
        rw [hck] at hCk
        go_upto_region 16 with (first
    | (go_at_call 8; refine Calls.mono (hCk) ?_; rintro e w' ⟨rfl, hb⟩; obtain ⟨hc, hf, hb, hz⟩ := bstep hb (w := w8) (by go_grown); try simp only [World.size_alloc, World.size_setCell, World.size_drew] at hc hf hz)
        )
        have hg7 := hg8.below hb
        have hat7 := hat8.below hb
        have hS7 := hS8.below hb
        have hI7 := hI8.below hb
        have v17 : w'.cell? ⟨bl, ol + t1.toNat, none⟩ = some (.int .i64 X) := (hb.cell (p := ⟨bl, ol + t1.toNat, none⟩) hlt8).trans v18
        have hlt7 : bl < w'.heap.size := Nat.lt_of_lt_of_le hlt8 hb.size
        have hbW7 := bjoin hb hbW8
        clear hb hc hf hz hg8 hat8 hS8 hI8 v18 hlt8 hbW8 gG hGH hCk hck lG j0 j1 j2 gV7 y0 y1 y2 y3 lX hmay href hmx t20 t21
        generalize w' = w7 at *
      case' neg =>
        go_upto_region 16 with fail
        clear gX gV7 y0 y1 y2 y3 lX hmay href hmx hN0
    all_goals
      have hRe := fun W (hW : Below w7.heap.size w7 W) => rrefs_row (hat7.below hW) hF'.out eM ey
      refine wp_late (ds := [some 94, some 95, some 96, some 97, some 98, some 99, some 100, some 101, some 102, some 103, some 17]) (ts := [94, 95, 96, 97, 98, 99, 100, 101, 102, 103, 17]) (pv := [(fun v _ => v = .agg #[.slice p h.n c, .slice q h.m d, .bool h.b]), (fun v _ => v = .slice (some ⟨bl, ol, none⟩) M cl), (fun v _ => v = .int .u8 a1), (fun v _ => v = .int .i64 a1), (fun v _ => v = .slice (some ⟨bl, ol, none⟩) M cl), (fun v _ => v = .int .i64 (M : Int)), (fun v _ => v = .int .i64 t1), (fun v _ => v = .pointer (some ⟨bl, ol + t1.toNat, none⟩)), (fun v _ => v = .int .i64 X), RowV (R) (y), RowV (R) (y)]) (skip := fun i => ([] : List Nat).contains i) (ia := 1000) (is := 1000) (k := 104) (Shape := (fun _ _ => True)) (Full := (fun _ _ => True)) (by kernel_rfl) (by kernel_rfl) rfl rfl (by decide) (by decide) (by simp) ?_ (by decide) (fun _ _ _ _ _ => trivial) (fun _ _ _ _ _ => trivial) ?_ ?_ ?_ ?_
      · exact .inl rfl
      · exact ⟨fun _ _ _ h _ => h, fun _ _ _ h _ => h, fun _ _ _ h _ => h, fun _ _ _ h _ => h, fun _ _ _ h _ => h, fun _ _ _ h _ => h, fun _ _ _ h _ => h, fun _ _ _ h _ => h, fun _ _ _ h _ => h, fun _ _ _ h hb => h.below hb, fun _ _ _ h hb => h.below hb, trivial⟩
      · exact ⟨rfl, rfl, rfl, rfl, rfl, rfl, rfl, rfl, rfl, rfl, rfl, trivial⟩
      · refine ⟨?_, ?_, ?_, ?_, ?_, ?_, ?_, ?_, ?_, ?_, ?_, trivial⟩
        · intro _ a' w' hb' hs hd hn Kc hK
          have f5 : a'.tmps[5]?.getD undef = .pointer (some ⟨w.heap.size, 0, none⟩) := (hs 5 (by decide)).trans rfl
          clear hs hd hn
          rw [if_neg (by decide), if_neg (by decide)] at hK
          have v18 : w'.cell? ⟨bl, ol + t1.toNat, none⟩ = some (.int .i64 X) := (hb'.cell (p := ⟨bl, ol + t1.toNat, none⟩) hlt7).trans v17
          obtain ⟨lB, k0, k1, k2, -, -, -⟩ := hg7.below hb'
          unfold Oper.wp
          go_simp
          try go_bits
          exact hK _ _ (Below.refl _ _) (by first | rfl | (show Value.int _ _ = Value.int _ _; go_num; done) | (simp [valOf, *]; done) | (simp [valOf]; omega))
        · intro _ a' w' hb' hs hd hn Kc hK
          have f11 : a'.tmps[11]?.getD undef = .slice (some ⟨bl, ol, none⟩) M cl := (hs 11 (by decide)).trans rfl
          clear hs hd hn
          rw [if_neg (by decide), if_neg (by decide)] at hK
          have v18 : w'.cell? ⟨bl, ol + t1.toNat, none⟩ = some (.int .i64 X) := (hb'.cell (p := ⟨bl, ol + t1.toNat, none⟩) hlt7).trans v17
          obtain ⟨lB, k0, k1, k2, -, -, -⟩ := hg7.below hb'
          unfold Oper.wp
          go_simp
          try go_bits
          exact hK _ _ (Below.refl _ _) (by first | rfl | (show Value.int _ _ = Value.int _ _; go_num; done) | (simp [valOf, *]; done) | (simp [valOf]; omega))
        · intro _ a' w' hb' hs hd hn Kc hK
          have f1 : a'.tmps[1]?.getD undef = .int .u8 a1 := (hs 1 (by decide)).trans rfl
          clear hs hd hn
          rw [if_neg (by decide), if_neg (by decide)] at hK
          have v18 : w'.cell? ⟨bl, ol + t1.toNat, none⟩ = some (.int .i64 X) := (hb'.cell (p := ⟨bl, ol + t1.toNat, none⟩) hlt7).trans v17
          obtain ⟨lB, k0, k1, k2, -, -, -⟩ := hg7.below hb'
          unfold Oper.wp
          go_simp
          try go_bits
          exact hK _ _ (Below.refl _ _) (by first | rfl | (show Value.int _ _ = Value.int _ _; go_num; done) | (simp [valOf, *]; done) | (simp [valOf]; omega))
        · intro _ a' w' hb' hs hd hn Kc hK
          have f96 : a'.tmps[96]?.getD undef = .int .u8 a1 := hd 2 96 (by first | rfl | decide | simp [Region.binds]) rfl (by decide) (by decide) rfl
          clear hs hd hn
          rw [if_neg (by decide), if_neg (by decide)] at hK
          have v18 : w'.cell? ⟨bl, ol + t1.toNat, none⟩ = some (.int .i64 X) := (hb'.cell (p := ⟨bl, ol + t1.toNat, none⟩) hlt7).trans v17
          obtain ⟨lB, k0, k1, k2, -, -, -⟩ := hg7.below hb'
          unfold Oper.wp
          go_simp
          try go_bits
          exact hK _ _ (Below.refl _ _) (by first | rfl | (show Value.int _ _ = Value.int _ _; go_num; done) | (simp [valOf, *]; done) | (simp [valOf]; omega))
        · intro _ a' w' hb' hs hd hn Kc hK
          have f11 : a'.tmps[11]?.getD undef = .slice (some ⟨bl, ol, none⟩) M cl := (hs 11 (by decide)).trans rfl
          clear hs hd hn
          rw [if_neg (by decide), if_neg (by decide)] at hK
          have v18 : w'.cell? ⟨bl, ol + t1.toNat, none⟩ = some (.int .i64 X) := (hb'.cell (p := ⟨bl, ol + t1.toNat, none⟩) hlt7).trans v17
          obtain ⟨lB, k0, k1, k2, -, -, -⟩ := hg7.below hb'
          unfold Oper.wp
          go_simp
          try go_bits
          exact hK _ _ (Below.refl _ _) (by first | rfl | (show Value.int _ _ = Value.int _ _; go_num; done) | (simp [valOf, *]; done) | (simp [valOf]; omega))
        · intro _ a' w' hb' hs hd hn Kc hK
          have f98 : a'.tmps[98]?.getD undef = .slice (some ⟨bl, ol, none⟩) M cl := hd 4 98 (by first | rfl | decide | simp [Region.binds]) rfl (by decide) (by decide) rfl
          clear hs hd hn
          rw [if_neg (by decide), if_neg (by decide)] at hK
          have v18 : w'.cell? ⟨bl, ol + t1.toNat, none⟩ = some (.int .i64 X) := (hb'.cell (p := ⟨bl, ol + t1.toNat, none⟩) hlt7).trans v17
          obtain ⟨lB, k0, k1, k2, -, -, -⟩ := hg7.below hb'
          unfold Oper.wp
          go_simp
          try go_bits
          exact hK _ _ (Below.refl _ _) (by first | rfl | (show Value.int _ _ = Value.int _ _; go_num; done) | (simp [valOf, *]; done) | (simp [valOf]; omega))
        · intro _ a' w' hb' hs hd hn Kc hK
          have f97 : a'.tmps[97]?.getD undef = .int .i64 a1 := hd 3 97 (by first | rfl | decide | simp [Region.binds]) rfl (by decide) (by decide) rfl
          have f99 : a'.tmps[99]?.getD undef = .int .i64 (M : Int) := hd 5 99 (by first | rfl | decide | simp [Region.binds]) rfl (by decide) (by decide) rfl
          clear hs hd hn
          rw [if_neg (by decide), if_neg (by decide)] at hK
          have v18 : w'.cell? ⟨bl, ol + t1.toNat, none⟩ = some (.int .i64 X) := (hb'.cell (p := ⟨bl, ol + t1.toNat, none⟩) hlt7).trans v17
          obtain ⟨lB, k0, k1, k2, -, -, -⟩ := hg7.below hb'
          unfold Oper.wp
          go_simp
          try go_bits
          exact hK _ _ (Below.refl _ _) (by first | rfl | (show Value.int _ _ = Value.int _ _; go_num; done) | (simp [valOf, *]; done) | (simp [valOf]; omega))
        · intro _ a' w' hb' hs hd hn Kc hK
          have f95 : a'.tmps[95]?.getD undef = .slice (some ⟨bl, ol, none⟩) M cl := hd 1 95 (by first | rfl | decide | simp [Region.binds]) rfl (by decide) (by decide) rfl
          have f100 : a'.tmps[100]?.getD undef = .int .i64 t1 := hd 6 100 (by first | rfl | decide | simp [Region.binds]) rfl (by decide) (by decide) rfl
          clear hs hd hn
          rw [if_neg (by decide), if_neg (by decide)] at hK
          have v18 : w'.cell? ⟨bl, ol + t1.toNat, none⟩ = some (.int .i64 X) := (hb'.cell (p := ⟨bl, ol + t1.toNat, none⟩) hlt7).trans v17
          obtain ⟨lB, k0, k1, k2, -, -, -⟩ := hg7.below hb'
          unfold Oper.wp
          go_simp
          try go_bits
          exact hK _ _ (Below.refl _ _) (by first | rfl | (show Value.int _ _ = Value.int _ _; go_num; done) | (simp [valOf, *]; done) | (simp [valOf]; omega))
        · intro _ a' w' hb' hs hd hn Kc hK
          have f101 : a'.tmps[101]?.getD undef = .pointer (some ⟨bl, ol + t1.toNat, none⟩) := hd 7 101 (by first | rfl | decide | simp [Region.binds]) rfl (by decide) (by decide) rfl
          clear hs hd hn
          rw [if_neg (by decide), if_neg (by decide)] at hK
          have v18 : w'.cell? ⟨bl, ol + t1.toNat, none⟩ = some (.int .i64 X) := (hb'.cell (p := ⟨bl, ol + t1.toNat, none⟩) hlt7).trans v17
          obtain ⟨lB, k0, k1, k2, -, -, -⟩ := hg7.below hb'
          unfold Oper.wp
          go_simp
          try go_bits
          exact hK _ _ (Below.refl _ _) (by first | rfl | (show Value.int _ _ = Value.int _ _; go_num; done) | (simp [valOf, *]; done) | (simp [valOf]; omega))
        · intro _ a' w' hb' hs hd hn Kc hK
          have f94 : a'.tmps[94]?.getD undef = .agg #[.slice p h.n c, .slice q h.m d, .bool h.b] := hd 0 94 (by first | rfl | decide | simp [Region.binds]) rfl (by decide) (by decide) rfl
          have f102 : a'.tmps[102]?.getD undef = .int .i64 X := hd 8 102 (by first | rfl | decide | simp [Region.binds]) rfl (by decide) (by decide) rfl
          clear hs hd hn
          rw [if_neg (by decide), if_neg (by decide)] at hK
          have v18 : w'.cell? ⟨bl, ol + t1.toNat, none⟩ = some (.int .i64 X) := (hb'.cell (p := ⟨bl, ol + t1.toNat, none⟩) hlt7).trans v17
          obtain ⟨lB, k0, k1, k2, -, -, -⟩ := hg7.below hb'
          unfold Oper.wp
          go_simp
          try go_bits
          refine Calls.mono (hRe _ hb') ?_
          rintro e w'' ⟨pm, cm, rfl, hA, hb2⟩
          exact hK _ _ hb2 ⟨_, _, rfl, hA⟩
        · intro _ a' w' hb' hs hd hn Kc hK
          obtain ⟨pm, cm, f103, hA⟩ := hd 9 103 (by first | rfl | decide | simp [Region.binds]) rfl (by decide) (by decide) rfl
          clear hs hd hn
          rw [if_neg (by decide), if_neg (by decide)] at hK
          have v18 : w'.cell? ⟨bl, ol + t1.toNat, none⟩ = some (.int .i64 X) := (hb'.cell (p := ⟨bl, ol + t1.toNat, none⟩) hlt7).trans v17
          obtain ⟨lB, k0, k1, k2, -, -, -⟩ := hg7.below hb'
          unfold Oper.wp
          go_simp
          try go_bits
          exact hK _ _ (Below.refl _ _) ⟨_, _, rfl, hA⟩
      intro Xf g w' hX hb hv
      obtain ⟨pm, cm, q17, hJ⟩ := hv 10 17 rfl rfl (by decide) (by decide)
      clear hX hv
      simp only [List.map_cons, List.map_nil, q17, puts, Act.put, Nat.reduceAdd, List.setIfInBounds_toArray, List.set_cons_succ, List.set_cons_zero]
      have hg8 := hg7.below hb
      have hat8 := hat7.below hb
      have hS8 := hS7.below hb
      have hI8 := hI7.below hb
      have v18 : w'.cell? ⟨bl, ol + t1.toNat, none⟩ = some (.int .i64 X) := (hb.cell (p := ⟨bl, ol + t1.toNat, none⟩) hlt7).trans v17
      have hlt8 : bl < w'.heap.size := Nat.lt_of_lt_of_le hlt7 hb.size
      have hbW8 := bjoin hb hbW7
      clear hb hg7 hat7 hS7 hI7 v17 hlt7 hbW7 hRe
      generalize w' = w8 at *
      go_wp2
      go_loopg [18] R (fun g kv wr => ∃ u : Nat, u ≤ R ∧ g = R - u ∧ kv = .int .i64 u ∧ (∀ k : Nat, k < u → obB h (y k) = true) ∧ Below w8.heap.size w8 wr)
      case atStart => exact ⟨0, by omega, by omega, rfl, fun k hk => by omega, Below.refl _ _⟩
      case round =>
        obtain ⟨u, uh, rfl, rfl, hyy, hbz⟩ := hrel
        by_cases hu : u < R
        · obtain ⟨⟨bp, op, eq3, hl3, v3⟩, -⟩ := (hJ.below hbz) u hu
          subst eq3
          have hIn := rin8_any (some ⟨bl, ol, none⟩) M cl z (y u) _ (hI8.below hbz) (by simp only [maxLen]; omega)
          rw [hin] at hIn
          cases e : obB h (y u) with
          | false =>
            rw [e] at hIn
            generalize y u = Y2 at *
            go_wp2_with (first
    | (go_at_call 15; refine Calls.mono (hIn) ?_; rintro e w' ⟨rfl, hb⟩; obtain ⟨hc, hf, hb, hz⟩ := bstep hb (w := wr) (by go_grown); try simp only [World.size_alloc, World.size_setCell, World.size_drew] at hc hf hz)
            )
            go_returns
            exact ⟨rfl, bjoin hb (bjoin hbz hbW8)⟩
          | true =>
            have hy2 : ∀ k : Nat, k < u + 1 → obB h (y k) = true := fun k hk => by
              by_cases ek : k = u
              · subst ek; exact e
              · exact hyy k (by omega)
            rw [e] at hIn
            generalize y u = Y2 at *
            go_wp2_with (first
    | (go_at_call 15; refine Calls.mono (hIn) ?_; rintro e w' ⟨rfl, hb⟩; obtain ⟨hc, hf, hb, hz⟩ := bstep hb (w := wr) (by go_grown); try simp only [World.size_alloc, World.size_setCell, World.size_drew] at hc hf hz)
            )
            go_roundg (R - (u + 1))
            case measure => omega
            case rel => exact ⟨u + 1, by omega, rfl, by go_num, hy2, bjoin hb hbz⟩
        · obtain rfl : u = R := by omega
          have hck : ckH (paH h X) = 0 := stays_paint hk'.out ho1 fun r hr => by
            obtain ⟨k, hk, rfl⟩ := hys r hr
            exact hyy k hk
          have hg9 := hg8.below hbz
          have hat9 := hat8.below hbz
          have hS9 := hS8.below hbz
          have v19 : wr.cell? ⟨bl, ol + t1.toNat, none⟩ = some (.int .i64 X) := (hbz.cell (p := ⟨bl, ol + t1.toNat, none⟩) hlt8).trans v18
          have hlt9 : bl < wr.heap.size := Nat.lt_of_lt_of_le hlt8 hbz.size
          have hbW9 := bjoin hbz hbW8
          have hPa : ∀ W, Below wr.heap.size wr W → Calls Tryd.prog 19 #[.agg #[.slice p h.n c, .slice q h.m d, .bool h.b], .int .i64 X] W fun e w' => ∃ p' c' q' d', e = .returned (.tuple #[.agg #[.slice p' h.n c', .slice q' h.m d', .bool h.b], .bool true]) ∧ HpIn w' p' h.n c' q' h.m d' h.b (paH h X) ∧ Below W.heap.size W w' := fun W hW => by
            refine Calls.mono (rpaint8_in (a := X) (hat9.below hW).in hF'.out) ?_
            rintro e w' ⟨p', c', q', d', rfl, hA, -, hb⟩
            rw [ho1]
            exact ⟨p', c', q', d', rfl, hA, hb⟩
          generalize paH h X = H2 at *
          clear hg8 hat8 hS8 hI8 v18 hlt8 hJ hyy hu
          go_upto_region 22 with fail
          refine wp_late (ds := [some 118, some 119, some 120, some 121, some 122, some 123, some 124, some 125, some 126, some 127, some 117, some 128, some 129, some 19, none, some 20]) (ts := [118, 119, 120, 121, 122, 123, 124, 125, 126, 127, 117, 128, 129, 19, 20]) (pv := [(fun v _ => v = .agg #[.slice p h.n c, .slice q h.m d, .bool h.b]), (fun v _ => v = .slice (some ⟨bl, ol, none⟩) M cl), (fun v _ => v = .int .u8 a1), (fun v _ => v = .int .i64 a1), (fun v _ => v = .slice (some ⟨bl, ol, none⟩) M cl), (fun v _ => v = .int .i64 (M : Int)), (fun v _ => v = .int .i64 t1), (fun v _ => v = .pointer (some ⟨bl, ol + t1.toNat, none⟩)), (fun v _ => v = .int .i64 X), HpT (h.n) (h.m) (h.b) (H2) (.bool true), HpT (h.n) (h.m) (h.b) (H2) (.bool true), HpV (h.n) (h.m) (h.b) (H2), (fun v _ => v = .bool true), (fun _ _ => True), (fun _ _ => True), (fun v _ => v = .bool true)]) (skip := fun i => ([] : List Nat).contains i) (ia := 13) (is := 14) (k := 130) (Shape := ShapeH) (Full := (FullH (h.n) (h.m) (h.b) (H2))) (by kernel_rfl) (by kernel_rfl) rfl rfl (by decide) (by decide) (by simp) ?_ (by decide) shapeH_below fullH_below ?_ ?_ ?_ ?_
          · exact .inr ⟨⟨_, rfl⟩, rfl, _, rfl, (by first | rfl | decide | simp [Region.binds]), by decide, rfl⟩
          · exact ⟨fun _ _ _ h _ => h, fun _ _ _ h _ => h, fun _ _ _ h _ => h, fun _ _ _ h _ => h, fun _ _ _ h _ => h, fun _ _ _ h _ => h, fun _ _ _ h _ => h, fun _ _ _ h _ => h, fun _ _ _ h _ => h, fun _ _ _ h hb => h.below hb, fun _ _ _ h hb => h.below hb, fun _ _ _ h hb => h.below hb, fun _ _ _ h _ => h, fun _ _ _ h _ => h, fun _ _ _ h _ => h, fun _ _ _ h _ => h, trivial⟩
          · exact ⟨rfl, rfl, rfl, rfl, rfl, rfl, rfl, rfl, rfl, rfl, rfl, rfl, rfl, rfl, rfl, rfl, trivial⟩
          · refine ⟨?_, ?_, ?_, ?_, ?_, ?_, ?_, ?_, ?_, ?_, ?_, ?_, ?_, ?_, ?_, ?_, trivial⟩
            · intro _ a' w' hb' hs hd hn Kc hK
              have f5 : a'.tmps[5]?.getD undef = .pointer (some ⟨w.heap.size, 0, none⟩) := (hs 5 (by decide)).trans rfl
              clear hs hd hn
              rw [if_neg (by decide), if_neg (by decide)] at hK
              have v18 : w'.cell? ⟨bl, ol + t1.toNat, none⟩ = some (.int .i64 X) := (hb'.cell (p := ⟨bl, ol + t1.toNat, none⟩) hlt9).trans v19
              obtain ⟨lB, k0, k1, k2, -, -, -⟩ := hg9.below hb'
              unfold Oper.wp
              go_simp
              try go_bits
              exact hK _ _ (Below.refl _ _) (by first | rfl | (show Value.int _ _ = Value.int _ _; go_num; done) | (simp [valOf, *]; done) | (simp [valOf]; omega))
            · intro _ a' w' hb' hs hd hn Kc hK
              have f11 : a'.tmps[11]?.getD undef = .slice (some ⟨bl, ol, none⟩) M cl := (hs 11 (by decide)).trans rfl
              clear hs hd hn
              rw [if_neg (by decide), if_neg (by decide)] at hK
              have v18 : w'.cell? ⟨bl, ol + t1.toNat, none⟩ = some (.int .i64 X) := (hb'.cell (p := ⟨bl, ol + t1.toNat, none⟩) hlt9).trans v19
              obtain ⟨lB, k0, k1, k2, -, -, -⟩ := hg9.below hb'
              unfold Oper.wp
              go_simp
              try go_bits
              exact hK _ _ (Below.refl _ _) (by first | rfl | (show Value.int _ _ = Value.int _ _; go_num; done) | (simp [valOf, *]; done) | (simp [valOf]; omega))
            · intro _ a' w' hb' hs hd hn Kc hK
              have f1 : a'.tmps[1]?.getD undef = .int .u8 a1 := (hs 1 (by decide)).trans rfl
              clear hs hd hn
              rw [if_neg (by decide), if_neg (by decide)] at hK
              have v18 : w'.cell? ⟨bl, ol + t1.toNat, none⟩ = some (.int .i64 X) := (hb'.cell (p := ⟨bl, ol + t1.toNat, none⟩) hlt9).trans v19
              obtain ⟨lB, k0, k1, k2, -, -, -⟩ := hg9.below hb'
              unfold Oper.wp
              go_simp
              try go_bits
              exact hK _ _ (Below.refl _ _) (by first | rfl | (show Value.int _ _ = Value.int _ _; go_num; done) | (simp [valOf, *]; done) | (simp [valOf]; omega))
            · intro _ a' w' hb' hs hd hn Kc hK
              have f120 : a'.tmps[120]?.getD undef = .int .u8 a1 := hd 2 120 (by first | rfl | decide | simp [Region.binds]) rfl (by decide) (by decide) rfl
              clear hs hd hn
              rw [if_neg (by decide), if_neg (by decide)] at hK
              have v18 : w'.cell? ⟨bl, ol + t1.toNat, none⟩ = some (.int .i64 X) := (hb'.cell (p := ⟨bl, ol + t1.toNat, none⟩) hlt9).trans v19
              obtain ⟨lB, k0, k1, k2, -, -, -⟩ := hg9.below hb'
              unfold Oper.wp
              go_simp
              try go_bits
              exact hK _ _ (Below.refl _ _) (by first | rfl | (show Value.int _ _ = Value.int _ _; go_num; done) | (simp [valOf, *]; done) | (simp [valOf]; omega))
            · intro _ a' w' hb' hs hd hn Kc hK
              have f11 : a'.tmps[11]?.getD undef = .slice (some ⟨bl, ol, none⟩) M cl := (hs 11 (by decide)).trans rfl
              clear hs hd hn
              rw [if_neg (by decide), if_neg (by decide)] at hK
              have v18 : w'.cell? ⟨bl, ol + t1.toNat, none⟩ = some (.int .i64 X) := (hb'.cell (p := ⟨bl, ol + t1.toNat, none⟩) hlt9).trans v19
              obtain ⟨lB, k0, k1, k2, -, -, -⟩ := hg9.below hb'
              unfold Oper.wp
              go_simp
              try go_bits
              exact hK _ _ (Below.refl _ _) (by first | rfl | (show Value.int _ _ = Value.int _ _; go_num; done) | (simp [valOf, *]; done) | (simp [valOf]; omega))
            · intro _ a' w' hb' hs hd hn Kc hK
              have f122 : a'.tmps[122]?.getD undef = .slice (some ⟨bl, ol, none⟩) M cl := hd 4 122 (by first | rfl | decide | simp [Region.binds]) rfl (by decide) (by decide) rfl
              clear hs hd hn
              rw [if_neg (by decide), if_neg (by decide)] at hK
              have v18 : w'.cell? ⟨bl, ol + t1.toNat, none⟩ = some (.int .i64 X) := (hb'.cell (p := ⟨bl, ol + t1.toNat, none⟩) hlt9).trans v19
              obtain ⟨lB, k0, k1, k2, -, -, -⟩ := hg9.below hb'
              unfold Oper.wp
              go_simp
              try go_bits
              exact hK _ _ (Below.refl _ _) (by first | rfl | (show Value.int _ _ = Value.int _ _; go_num; done) | (simp [valOf, *]; done) | (simp [valOf]; omega))
            · intro _ a' w' hb' hs hd hn Kc hK
              have f121 : a'.tmps[121]?.getD undef = .int .i64 a1 := hd 3 121 (by first | rfl | decide | simp [Region.binds]) rfl (by decide) (by decide) rfl
              have f123 : a'.tmps[123]?.getD undef = .int .i64 (M : Int) := hd 5 123 (by first | rfl | decide | simp [Region.binds]) rfl (by decide) (by decide) rfl
              clear hs hd hn
              rw [if_neg (by decide), if_neg (by decide)] at hK
              have v18 : w'.cell? ⟨bl, ol + t1.toNat, none⟩ = some (.int .i64 X) := (hb'.cell (p := ⟨bl, ol + t1.toNat, none⟩) hlt9).trans v19
              obtain ⟨lB, k0, k1, k2, -, -, -⟩ := hg9.below hb'
              unfold Oper.wp
              go_simp
              try go_bits
              exact hK _ _ (Below.refl _ _) (by first | rfl | (show Value.int _ _ = Value.int _ _; go_num; done) | (simp [valOf, *]; done) | (simp [valOf]; omega))
            · intro _ a' w' hb' hs hd hn Kc hK
              have f119 : a'.tmps[119]?.getD undef = .slice (some ⟨bl, ol, none⟩) M cl := hd 1 119 (by first | rfl | decide | simp [Region.binds]) rfl (by decide) (by decide) rfl
              have f124 : a'.tmps[124]?.getD undef = .int .i64 t1 := hd 6 124 (by first | rfl | decide | simp [Region.binds]) rfl (by decide) (by decide) rfl
              clear hs hd hn
              rw [if_neg (by decide), if_neg (by decide)] at hK
              have v18 : w'.cell? ⟨bl, ol + t1.toNat, none⟩ = some (.int .i64 X) := (hb'.cell (p := ⟨bl, ol + t1.toNat, none⟩) hlt9).trans v19
              obtain ⟨lB, k0, k1, k2, -, -, -⟩ := hg9.below hb'
              unfold Oper.wp
              go_simp
              try go_bits
              exact hK _ _ (Below.refl _ _) (by first | rfl | (show Value.int _ _ = Value.int _ _; go_num; done) | (simp [valOf, *]; done) | (simp [valOf]; omega))
            · intro _ a' w' hb' hs hd hn Kc hK
              have f125 : a'.tmps[125]?.getD undef = .pointer (some ⟨bl, ol + t1.toNat, none⟩) := hd 7 125 (by first | rfl | decide | simp [Region.binds]) rfl (by decide) (by decide) rfl
              clear hs hd hn
              rw [if_neg (by decide), if_neg (by decide)] at hK
              have v18 : w'.cell? ⟨bl, ol + t1.toNat, none⟩ = some (.int .i64 X) := (hb'.cell (p := ⟨bl, ol + t1.toNat, none⟩) hlt9).trans v19
              obtain ⟨lB, k0, k1, k2, -, -, -⟩ := hg9.below hb'
              unfold Oper.wp
              go_simp
              try go_bits
              exact hK _ _ (Below.refl _ _) (by first | rfl | (show Value.int _ _ = Value.int _ _; go_num; done) | (simp [valOf, *]; done) | (simp [valOf]; omega))
            · intro _ a' w' hb' hs hd hn Kc hK
              have f118 : a'.tmps[118]?.getD undef = .agg #[.slice p h.n c, .slice q h.m d, .bool h.b] := hd 0 118 (by first | rfl | decide | simp [Region.binds]) rfl (by decide) (by decide) rfl
              have f126 : a'.tmps[126]?.getD undef = .int .i64 X := hd 8 126 (by first | rfl | decide | simp [Region.binds]) rfl (by decide) (by decide) rfl
              clear hs hd hn
              rw [if_neg (by decide), if_neg (by decide)] at hK
              have v18 : w'.cell? ⟨bl, ol + t1.toNat, none⟩ = some (.int .i64 X) := (hb'.cell (p := ⟨bl, ol + t1.toNat, none⟩) hlt9).trans v19
              obtain ⟨lB, k0, k1, k2, -, -, -⟩ := hg9.below hb'
              unfold Oper.wp
              go_simp
              try go_bits
              refine Calls.mono (hPa _ hb') ?_
              rintro e w'' ⟨p', c', q', d', rfl, hA, hb2⟩
              exact hK _ _ hb2 ⟨_, _, _, _, rfl, hA⟩
            · intro _ a' w' hb' hs hd hn Kc hK
              obtain ⟨p', c', q', d', f127, hA⟩ := hd 9 127 (by first | rfl | decide | simp [Region.binds]) rfl (by decide) (by decide) rfl
              clear hs hd hn
              rw [if_neg (by decide), if_neg (by decide)] at hK
              have v18 : w'.cell? ⟨bl, ol + t1.toNat, none⟩ = some (.int .i64 X) := (hb'.cell (p := ⟨bl, ol + t1.toNat, none⟩) hlt9).trans v19
              obtain ⟨lB, k0, k1, k2, -, -, -⟩ := hg9.below hb'
              unfold Oper.wp
              go_simp
              try go_bits
              exact hK _ _ (Below.refl _ _) ⟨_, _, _, _, rfl, hA⟩
            · intro _ a' w' hb' hs hd hn Kc hK
              obtain ⟨p', c', q', d', f117, hA⟩ := hd 10 117 (by first | rfl | decide | simp [Region.binds]) rfl (by decide) (by decide) rfl
              clear hs hd hn
              rw [if_neg (by decide), if_neg (by decide)] at hK
              have v18 : w'.cell? ⟨bl, ol + t1.toNat, none⟩ = some (.int .i64 X) := (hb'.cell (p := ⟨bl, ol + t1.toNat, none⟩) hlt9).trans v19
              obtain ⟨lB, k0, k1, k2, -, -, -⟩ := hg9.below hb'
              unfold Oper.wp
              go_simp
              try go_bits
              exact hK _ _ (Below.refl _ _) ⟨_, _, _, _, rfl, hA⟩
            · intro _ a' w' hb' hs hd hn Kc hK
              obtain ⟨p', c', q', d', f117, hA⟩ := hd 10 117 (by first | rfl | decide | simp [Region.binds]) rfl (by decide) (by decide) rfl
              clear hs hd hn
              rw [if_neg (by decide), if_neg (by decide)] at hK
              have v18 : w'.cell? ⟨bl, ol + t1.toNat, none⟩ = some (.int .i64 X) := (hb'.cell (p := ⟨bl, ol + t1.toNat, none⟩) hlt9).trans v19
              obtain ⟨lB, k0, k1, k2, -, -, -⟩ := hg9.below hb'
              unfold Oper.wp
              go_simp
              try go_bits
              exact hK _ _ (Below.refl _ _) (by first | rfl | (show Value.int _ _ = Value.int _ _; go_num; done) | (simp [valOf, *]; done) | (simp [valOf]; omega))
            · intro _ a' w' hb' hs hd hn Kc hK
              clear hs hd hn
              rw [if_pos rfl] at hK
              unfold Oper.wp
              go_simp
              exact hK _ _ ((Below.refl _ _).alloc (Nat.le_refl _) _) (Nat.le_refl _) (shapeH_new _ _)
            · intro _ a' w' hb' hs hd hn Kc hK
              obtain ⟨g, f19, hg, hsh⟩ := hn 19 (by first | rfl | decide | simp [Region.binds]) rfl rfl
              obtain ⟨p', c', q', d', f128, hA⟩ := hd 11 128 (by first | rfl | decide | simp [Region.binds]) rfl (by decide) (by decide) rfl
              obtain ⟨⟨_, _, _, _, _, _, _, h3⟩, hk3⟩ := id hsh
              rw [if_neg (by decide), if_pos rfl] at hK
              have hfin := hK g (.tuple #[]) (puts3 g (.slice p' (h.n) c') (.slice q' (h.m) d') (.bool (h.b)) w') (fun d hd => by obtain rfl : 19 = d := Option.some.inj (Option.some.inj hd); exact f19) (puts3_below hg _ _ _ w') hg ⟨p', c', q', d', h3.puts (.slice p' (h.n) c') (.slice q' (h.m) d') (.bool (h.b)), hA.stores (shapeH_clear hsh hA (hn0) (hm0)) _ _ _⟩ (shapeH_puts h3 hk3 _ _ _ _ _ _ _) ⟨fun _ h => h, fun _ h => h, fun _ h => h, fun _ h => h, fun _ h => h, fun _ h => h, fun _ h => h, fun _ h => h, fun _ h => h, fun _ h => h.puts hsh (hn0) (hm0) _ _ _, fun _ h => h.puts hsh (hn0) (hm0) _ _ _, fun _ h => h.puts hsh (hn0) (hm0) _ _ _, fun _ h => h, fun _ h => h, fun _ h => h, fun _ h => h, trivial⟩
              clear hs hd hn hK
              obtain ⟨h0, c0, c1, c2, g0, g1, g2⟩ := h3
              unfold puts3 at hfin
              unfold Oper.wp
              go_simp
              exact hfin
            · intro _ a' w' hb' hs hd hn Kc hK
              have f129 : a'.tmps[129]?.getD undef = .bool true := hd 12 129 (by first | rfl | decide | simp [Region.binds]) rfl (by decide) (by decide) rfl
              clear hs hd hn
              rw [if_neg (by decide), if_neg (by decide)] at hK
              have v18 : w'.cell? ⟨bl, ol + t1.toNat, none⟩ = some (.int .i64 X) := (hb'.cell (p := ⟨bl, ol + t1.toNat, none⟩) hlt9).trans v19
              obtain ⟨lB, k0, k1, k2, -, -, -⟩ := hg9.below hb'
              unfold Oper.wp
              go_simp
              try go_bits
              exact hK _ _ (Below.refl _ _) (by first | rfl | (show Value.int _ _ = Value.int _ _; go_num; done) | (simp [valOf, *]; done) | (simp [valOf]; omega))
          intro Xf g w' hX hb hv
          obtain ⟨hg, gX, hgp⟩ := hX (by decide)
          have q19 : Xf 19 = .pointer (some ⟨g, 0, none⟩) := hgp 19 rfl
          clear hX hv hgp
          simp only [List.map_cons, List.map_nil, q19, puts, Act.put, Nat.reduceAdd, List.setIfInBounds_toArray, List.set_cons_succ, List.set_cons_zero]
          obtain ⟨p2, c2, q2, d2, gG, hGH⟩ := gX
          obtain ⟨lG, j0, j1, j2, -, -, -⟩ := id gG
          have hSz := hS9.below hb
          have hbY := bjoin hb hbW9
          clear hb hg hPa hg9 hat9 hS9 v19 hlt9 hbW9
          generalize w' = w10 at *
          have hOk := sok_in hSz hGH
          rw [hck] at hOk
          go_wp2_with (first
    | (go_at_call 10; refine Calls.mono (hOk) ?_; rintro e w' ⟨rfl, hb⟩; obtain ⟨hc, hf, hb, hz⟩ := bstep hb (w := w10) (by go_grown); try simp only [World.size_alloc, World.size_setCell, World.size_drew] at hc hf hz)
          )
          go_returns
          exact ⟨rfl, bjoin hb hbY⟩
  · have hk0 : (ckH h != 0) = true := by simp [hk]
    generalize ckH h = k at *
    clear hk
    go_enter Tryd.func6, Tryd.ntmps6
    go_upto_region 1 with fail
    rw [← hw0]
    clear hw0
    go_wp2_with (first
    | (go_at_call 7; refine Calls.mono (awake9_any _ (hS.below (by go_grown))) ?_; rintro e w' ⟨rfl, hb⟩; obtain ⟨hc, hf, hb, hz⟩ := bstep hb (w := w0) (by go_grown); try simp only [World.size_alloc, World.size_setCell, World.size_drew] at hc hf hz)
    | (go_at_call 9; refine Calls.mono (hC _ (by go_grown)) ?_; rintro e w' ⟨rfl, hb⟩; obtain ⟨hc, hf, hb, hz⟩ := bstep hb (w := w0) (by go_grown); try simp only [World.size_alloc, World.size_setCell, World.size_drew] at hc hf hz)
    )
    go_returns
    exact ⟨rfl, bjoin hb hB0⟩

namespace SoundStays
/-- What the row lists. -/
def lists : List (String × DataW Unit) := [("flotsam/class.sizes", Rows.laid_flotsam_class_sizes)]
set_option maxRecDepth 100000 in
theorem lifted (os : Os) (started : os.Started) (H : Type) (enc : TypeId × Value → H) :
    ReturnsInHanded {} Tryd.checked os 6 .any (fun w args => (Rows.soundStaysSpec.pre enc Tryd.prog Tryd.f6 Rows.soundStaysRow.domain false w args ∧ laidMetH Tryd.prog lists w) ∧ sizedMet enc Tryd.prog Tryd.f6 (OpenSpec.ofChange Rows.soundStaysSpec) false w args) (Rows.soundStaysSpec.post enc Tryd.prog Tryd.f6 false true false false) := by
  refine law_lifted_laid (C := Tryd.checked) seat_own started (by kernel_rfl) Tryd.func6 (by kernel_rfl) (of_decide_eq_true (by kernel_rfl)) rfl
    (fun ds hd => by have hd' : ds.length = 5 := hd; match ds, hd' with | [d0, d1, d2, d3, d4], _ => rfl) rfl Tryd.underlying4
    (ChangeSpec.witness_shaped (enc := enc) (C := Tryd.checked) (os := os) (X := fun w _ => laidMetH Tryd.prog lists w) false (World.laidAll Tryd.prog os lists) #[.agg #[.slice none 0 0, .slice none 0 0, .bool false], .int .u8 0, .int .u8 0, .int .u8 0, .int .u8 0] 8 (World.laidAll_os _ _ _)
      (World.shaped_of_ZipB (by kernel_rfl) (by kernel_rfl)) (by kernel_rfl) (by kernel_rfl) (by kernel_rfl)
      (by rw [MakeChecks.laidMetH_plain _ _ _ (by kernel_rfl)]; exact laidMet_laidAll _ (by kernel_rfl) (by kernel_rfl))) ?_
  intro W base args ds p hval hA hlt hL
  have hS : Sz W := sizes_of hL (by kernel_rfl) rfl
  rw [Tryd.params6] at hA hval
  obtain ⟨rest⟩ := args
  dsimp only at hA
  obtain ⟨v0, vs0, d0, ds0, p0, q0, rfl, rfl, rfl, h0, hA0⟩ := trodAll_cons hA
  obtain ⟨v1, vs1, d1, ds1, p1, q1, rfl, rfl, rfl, h1, hA1⟩ := trodAll_cons hA0
  obtain ⟨v2, vs2, d2, ds2, p2, q2, rfl, rfl, rfl, h2, hA2⟩ := trodAll_cons hA1
  obtain ⟨v3, vs3, d3, ds3, p3, q3, rfl, rfl, rfl, h3, hA3⟩ := trodAll_cons hA2
  obtain ⟨v4, vs4, d4, ds4, p4, q4, rfl, rfl, rfl, h4, hA4⟩ := trodAll_cons hA3
  obtain ⟨rfl, rfl, rfl⟩ := trodAll_nil hA4
  obtain ⟨x0, q0, c0, s0, e0, rfl, hh0⟩ := open_heap Tryd.underlying25 (by kernel_rfl) (by kernel_rfl) Tryd.underlying22 (by kernel_rfl) (by kernel_rfl) Tryd.underlying23 Tryd.underlying39 (by kernel_rfl) (by kernel_rfl) (by kernel_rfl) (by kernel_rfl) (by kernel_rfl) (by kernel_rfl) (hval 0 25 v0 rfl rfl) h0
  obtain ⟨a1, rfl, ha1⟩ := open_u8 Tryd.underlying5 (hval 1 5 v1 rfl rfl) h1
  obtain ⟨a2, rfl, ha2⟩ := open_u8 Tryd.underlying5 (hval 2 5 v2 rfl rfl) h2
  obtain ⟨a3, rfl, ha3⟩ := open_u8 Tryd.underlying5 (hval 3 5 v3 rfl rfl) h3
  obtain ⟨a4, rfl, ha4⟩ := open_u8 Tryd.underlying5 (hval 4 5 v4 rfl rfl) h4
  exact stays_walk a1 a2 a3 a4 W hh0 hS ha1 ha2 ha3 ha4

theorem row_holds : Rows.SoundStaysSaid :=
  OpenClaim.holds_of_wide 6 Tryd.f6 rfl rfl rfl rfl rfl rfl rfl ⟨rfl, rfl, rfl, rfl, rfl⟩ rfl rfl rfl rfl rfl (by kernel_rfl) Tryd.func6 (by kernel_rfl)
    (of_decide_eq_true (by kernel_rfl)) (by unfold Func.isWrapper; first | (rw [if_pos (by decide +kernel)]; kernel_rfl) | (rw [if_neg (by decide +kernel)]; exact ⟨rfl, rfl⟩))
    (fun os started H enc _ => lifted os started H enc)
/-- The tied card. -/
theorem holds : Rows.SoundStaysCardSaid :=
  Claim7.holds_tied_plain_at .later [] [.data] true (true, "0319e39815f5d4fc24417ff8cd6ea6b0fe21decf05268195319bf92839ff0bc8") false row_holds (fun _ h => by cases h) (by kernel_rfl) (fun _ h => by cases h) soundStays_row_tie rfl ⟨rfl, rfl⟩ (by kernel_rfl) rfl
    (fun f fn hf hfn => by
      obtain rfl : f = 6 := Option.some.inj ((show Tryd.prog.funcNamed "flotsam/flotsamlaw09.SoundStays" = some 6 by kernel_rfl).symm.trans hf) |>.symm
      obtain rfl : fn = Tryd.f6 := (Option.some.inj (Tryd.func6.symm.trans hfn)).symm
      exact ⟨by kernel_rfl, fun j t ht => by
        rw [Tryd.params6] at ht
        have hm : t ∈ [25, 5, 5, 5, 5] := by simpa using Array.mem_of_getElem? ht
        have hall : ([25, 5, 5, 5, 5].all fun u => !Tryd.prog.wantsStandIn u) = true := by kernel_rfl
        exact (show Tryd.prog.wantsStandIn t = false by simpa using List.all_eq_true.1 hall t hm)⟩)
    (by kernel_rfl)
#print axioms holds
end SoundStays
end Go.Proofs.YthhehhlibkdmgaaDoor
