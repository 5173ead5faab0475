/- The contract of the reference's New marker (chapter 17). -/
import Derived.Test.YtmbgodncagjncaaDoorB36
import Derived.Test.YtmbgodncagjncaaDoorB11
import Derived.Test.YtmbgodncagjncaaDoorB32
import Derived.Test.YtmbgodncagjncaaDoorB35
import Derived.Test.YtmbgodncagjncaaDoorB38
import Derived.Test.YtmbgodncagjncaaDoorB39
namespace Go.Proofs.YtmbgodncagjncaaDoor
set_option linter.unusedSimpArgs false
set_option linter.unusedVariables false
open Go.ChangeShapes Go.WideShapes Go.ChangeAt Go.RowKit Go.Joins

/-- A row without items. -/
def emG (r : Int) : Gy := ⟨r, 0, fun _ => 0⟩
theorem grE_em (N : Nat) (r : Int) (h : In64 r) (w : World) : GrE N w (emG r) [.int .i64 r, .slice none 0 0] := ⟨none, 0, rfl, gr_nil _ _, rowE_nil _ _ _ _, h⟩
theorem TBox.varT8 {T g : Nat} {a0 a4 a5 a6 : Int} {a7 : Bool} {p1 p2 p3 : Option Addr} {n1 n2 n3 c1 c2 c3 : Nat} {w : World} (h : TBox T g #[.int .i64 a0, .slice p1 n1 c1, .slice p2 n2 c2, .slice p3 n3 c3, .int .i64 a4, .int .i64 a5, .int .i64 a6, .bool a7] w) : VarT T 8 g w :=
  TBox.varM (m := ⟨⟨a0, n1, fun _ => 0⟩, n2, fun _ => default, n3, fun _ => default, a4, a5, a6, a7⟩) h
theorem ints_lt {k : IntKind} {w : World} {p : Option Addr} {n : Nat} {z : Nat → Int} (h : Ints k w p n z) (h0 : 0 < n) : ∀ b off sp, p = some ⟨b, off, sp⟩ → b < w.heap.size := fun b off sp e => by
  obtain ⟨⟨b1, o1, e1, hl1, -⟩, -⟩ := h 0 h0
  rw [e] at e1
  injection e1 with e1
  injection e1 with e1
  omega
set_option maxRecDepth 20000 in
set_option maxHeartbeats 16000000 in
theorem rnew17_any (N : Nat) (r : Int) {pb : Option Addr} {nb cb : Nat} {br : Nat → Int} {pv : Option Addr} {nr cv : Nat} {ro : Nat → Vl} {w : World} (hN : N ≤ w.heap.size) (hr64 : In64 r)
    (hb : Ints .i64 w pb nb br) (hn : nb ≤ 1000) (hv : VAt w pv cv nr ro) (hr : nr ≤ 1000000) :
    Calls Tryd.prog 31 #[.int .i64 r, .slice pb nb cb, .slice pv nr cv] w fun e w' => ∃ pb' cb' pr' cr', e = .returned (.agg #[.int .i64 r, .slice none 0 0, .slice pb' nb cb', .slice pr' nr cr', .int .i64 (-1), .int .i64 0, .int .i64 (-1), .bool false]) ∧
      MAtE N w' (newM r nb br nr ro) none 0 pb' cb' pr' cr' ∧ Below w.heap.size w w' := by
  obtain ⟨w0, hw0⟩ : ∃ w0, w0 = w.alloc (.cells #[.int .i64 0, .slice none 0 0, .slice none 0 0, .slice none 0 0, .int .i64 0, .int .i64 0, .int .i64 0, .bool false] 37) := ⟨_, rfl⟩
  have gR : TBox 37 w.heap.size #[.int .i64 0, .slice none 0 0, .slice none 0 0, .slice none 0 0, .int .i64 0, .int .i64 0, .int .i64 0, .bool false] w0 := by rw [hw0]; exact TBox.new _ _ _
  have hb0 : Below w.heap.size w w0 := by rw [hw0]; exact (Below.refl _ _).alloc (Nat.le_refl _) _
  obtain ⟨t0, hq0, hq1, hq2, hq3⟩ := info_parts val_info
  obtain ⟨u0, hu0, hu1, hu2, hu3⟩ := info_parts grey_info
  have hz0 : w.heap.size ≤ w0.heap.size := hb0.size
  have hRX : w.heap.size < w0.heap.size := gR.lt
  go_enter Tryd.func31, Tryd.ntmps31
  go_upto_region 1 with fail
  rw [← hw0]
  clear hw0
  go_upto_region 2 with fail
  obtain ⟨w1, hw1⟩ : ∃ W, W = w0.alloc (.cells #[.int .i64 r, .slice none 0 0, .slice none 0 0, .slice none 0 0, .int .i64 (-1), .int .i64 0, .int .i64 (-1), .bool false] 37) := ⟨_, rfl⟩
  have gX : TBox 37 w0.heap.size #[.int .i64 r, .slice none 0 0, .slice none 0 0, .slice none 0 0, .int .i64 (-1), .int .i64 0, .int .i64 (-1), .bool false] w1 := by rw [hw1]; exact TBox.new _ _ _
  have hb1 : Below w0.heap.size w0 w1 := by rw [hw1]; exact (Below.refl _ _).alloc (Nat.le_refl _) _
  rw [← hw1]
  clear hw1
  replace gR := gR.below hb1
  have hbw1 := bjoin hb1 hb0
  have hNX : N ≤ w0.heap.size := Nat.le_trans hN hz0
  generalize w0.heap.size = BX at *
  have hz1 : w.heap.size ≤ w1.heap.size := hbw1.size
  obtain ⟨lX, k0, k1, k2, k3, k4, k5, k6, k7⟩ := mk_cells gX
  obtain ⟨j0, j1, j2, j3, j4, j5, j6, j7⟩ := mk_frozen gX
  have hvr := hv.row
  have hvn := hv.pnil
  go_upto_region 3 with (first
    | (at_builtin; refine wpList_append_row rfl (.tmp 13) (.tmp 14) 35 rfl w1.heap.size 46 t0 (.agg #[.int .i64 0, .int .i64 0]) 2 16 Tryd.underlying35 hq0 hq1 hq2 hq3 rfl (by decide) (.slice none 0 0) 0 [] rfl (World.ownsRow_nil _ _ _ _) pv nr cv (vlVals nr ro) rfl (by simp [vlVals_length]) (hvr.below hbw1).cells (vlVals_one _ _) hvn (by simp only [maxLen]; omega) (by omega) (Nat.le_refl _) ?_; intro ov0 w6 hown0 hgrow; rw [Nat.zero_add, List.nil_append] at hown0; obtain ⟨prx, crx, rfl, hnewR⟩ := owned_new hown0; have hb6 : Below w1.heap.size w1 w6 := (Below.refl _ _).grown hgrow (Nat.le_refl _) (fun k hk => by cases hk); have k3' := (hb6.cell (p := ⟨BX, 3, none⟩) lX).trans k3; have j3' := (hb6.frozen (p := ⟨BX, 3, none⟩) lX).trans j3; have lX6 := Nat.lt_of_lt_of_le lX hb6.size)
  )
  have hvX6 : VAt w6 prx crx nr ro := va_owned hown0 (by simp only [maxLen]; omega) hvr.wf
  have hreX6 : RowE N 46 nr prx w6 := rowE_owned hown0
  have gX6 := gX.below hb6
  have vX6 := TBox.varT8 gX6
  have hvX := hvX6.of_block (w' := putsL BX 3 [.slice prx nr crx] w6) (by rw [putsL_size]; exact Nat.le_refl _) fun h0 b off sp e => putsL_other (hreX6.ne vX6 (by decide) hNX h0 e) [.slice prx nr crx] 3 w6
  have hreX := row_putsL (k := 3) hreX6 vX6 (by decide) hNX [.slice prx nr crx]
  have gXL := gX6.putsL [.slice prx nr crx] 3
  have gRL := (gR.below hb6).of_block (putsL_other (show ¬ w.heap.size = BX by omega) [.slice prx nr crx] 3 w6)
  have hbL : Below w.heap.size w (putsL BX 3 [.slice prx nr crx] w6) := (hbw1.trans (hb6.mono hz1)).trans ((putsL_below (Nat.le_refl BX) _ _ _).mono (Nat.le_of_lt hRX))
  obtain ⟨wL, hwL⟩ : ∃ W, W = putsL BX 3 [.slice prx nr crx] w6 := ⟨_, rfl⟩
  have hwL' : w6.setCell ⟨BX, 3, none⟩ (.slice prx nr crx) = wL := hwL.symm
  rw [hwL']
  rw [← hwL] at hvX hreX gXL gRL hbL
  simp only [setFrom, List.setIfInBounds_toArray, List.set_cons_succ, List.set_cons_zero, Nat.reduceAdd] at gXL
  clear hwL hwL' hvX6 hreX6 gX6 vX6 hown0 hnewR hgrow gX gR hb6 k0 k1 k2 k3 k4 k5 k6 k7 j0 j1 j2 j3 j4 j5 j6 j7 k3' j3' lX6 lX hbw1 hz1 hb1 hb0 hz0 hvr hvn
  have hXL : BX < wL.heap.size := gXL.lt
  have hwX : w.heap.size ≤ wL.heap.size := hbL.size
  have hNL : N ≤ wL.heap.size := by omega
  have hbL' := hb.below hbL
  have hbt := ints_lt hb
  go_wp2
  go_loopg [8] nb (fun g iv wr => ∃ (i : Nat) (pbx : Option Addr) (cbx : Nat), i ≤ nb ∧ g = nb - i ∧ iv = .int .i64 i ∧ TBox 37 BX #[.int .i64 r, .slice none 0 0, .slice pbx i cbx, .slice prx nr crx, .int .i64 (-1), .int .i64 0, .int .i64 (-1), .bool false] wr ∧ GrowR wL.heap.size 33 2 (GrE N) i (fun k => emG (br k)) (.slice pbx i cbx) wr ∧ Aside (fun k => k = BX) wL wr)
  case atStart => exact ⟨0, none, 0, by omega, by omega, rfl, gXL, growR_nil _ _ _ _ _ _, Aside.of (Below.refl _ _)⟩
  case round =>
    obtain ⟨i, pbx, cbx, ih, rfl, rfl, gX, hGr, hAs⟩ := hrel
    have hszr : wL.heap.size ≤ wr.heap.size := hAs.size
    by_cases hi : i < nb
    · obtain ⟨⟨bb, off, rfl, hl0, v0⟩, hvw⟩ := hbL' i hi
      have hbX : ¬ bb = BX := by have := hbt (by omega) bb off none rfl; omega
      replace v0 := (World.cell?_of_block (w := wL) (a := ⟨bb, off + i, none⟩) (hAs.block bb hl0 hbX)).trans v0
      obtain ⟨lX, k0, k1, k2, k3, k4, k5, k6, k7⟩ := mk_cells gX
      obtain ⟨rr, hrr⟩ : ∃ x, Hid (x = br i) := ⟨_, rfl⟩
      rw [← hrr.out] at v0 hvw
      have hiM : (i : Int) < nb := by omega
      have hrr64 : In64 (br i) := by rw [← hrr.out]; exact wf_i64 hvw
      go_upto_region 6 with fail
      have hKB : ∀ (k : Nat) (w1 w2 : World), Below w1.heap.size w1 w2 → KeepI (fun W9 => Below wL.heap.size wr W9 ∧ GrowR wL.heap.size 33 2 (GrE N) i (fun k => emG (br k)) (.slice pbx i cbx) W9) ([(fun v _ => v = .pointer (some ⟨BX, 2, none⟩)), (fun v _ => v = .slice pbx i cbx), (fun v _ => v = .slice (some ⟨bb, off, none⟩) nb cb), (fun v _ => v = .int .i64 (i : Int)), (fun v _ => v = .pointer (some ⟨bb, off + i, none⟩)), (fun v _ => v = .int .i64 rr), (fun v _ => v = .agg #[.int .i64 rr, .slice none 0 0]), (OneB wL.heap.size 33 [.int .i64 rr, .slice none 0 0]), (GrowRB wL.heap.size N (i + 1) (fun k => emG (br k))), (fun v _ => v = .pointer (some ⟨BX, 2, none⟩))] : List (Value → World → Prop)) [[1, 2, 3, 4, 5, 6, 7, 8, 9], [0, 2, 3, 4, 5, 6, 7, 8, 9], [0, 1, 3, 4, 5, 6, 7, 8, 9], [0, 1, 2, 4, 5, 6, 7, 8, 9], [0, 1, 2, 3, 5, 6, 7, 8, 9], [0, 1, 2, 3, 4, 6, 7, 8, 9], [0, 1, 2, 3, 4, 5, 7, 8, 9], [0, 1, 2, 3, 4, 5, 6, 8, 9], [0, 1, 2, 3, 4, 5, 6, 7, 9], [0, 1, 2, 3, 4, 5, 6, 7, 8]] k w1 w2 := fun k _ _ hb => keepI_below (pv := ([(fun v _ => v = .pointer (some ⟨BX, 2, none⟩)), (fun v _ => v = .slice pbx i cbx), (fun v _ => v = .slice (some ⟨bb, off, none⟩) nb cb), (fun v _ => v = .int .i64 (i : Int)), (fun v _ => v = .pointer (some ⟨bb, off + i, none⟩)), (fun v _ => v = .int .i64 rr), (fun v _ => v = .agg #[.int .i64 rr, .slice none 0 0]), (OneB wL.heap.size 33 [.int .i64 rr, .slice none 0 0]), (GrowRB wL.heap.size N (i + 1) (fun k => emG (br k))), (fun v _ => v = .pointer (some ⟨BX, 2, none⟩))] : List (Value → World → Prop))) (fun _ _ h hb => ⟨h.1.trans (hb.mono (Nat.le_trans hszr h.1.size)), h.2.below grE_below hb⟩) ⟨fun _ _ _ h _ => h, fun _ _ _ h _ => h, fun _ _ _ h _ => h, fun _ _ _ h _ => h, fun _ _ _ h _ => h, fun _ _ _ h _ => h, fun _ _ _ h _ => h, fun _ _ _ h hb => h.below hb, fun _ _ _ h hb => h.below hb, fun _ _ _ h _ => h, trivial⟩ hb k
      refine wp_raw_pv 10 [23, 24, 25, 26, 27, 28, 29, 30, 31, 32] ([(fun v _ => v = .pointer (some ⟨BX, 2, none⟩)), (fun v _ => v = .slice pbx i cbx), (fun v _ => v = .slice (some ⟨bb, off, none⟩) nb cb), (fun v _ => v = .int .i64 (i : Int)), (fun v _ => v = .pointer (some ⟨bb, off + i, none⟩)), (fun v _ => v = .int .i64 rr), (fun v _ => v = .agg #[.int .i64 rr, .slice none 0 0]), (OneB wL.heap.size 33 [.int .i64 rr, .slice none 0 0]), (GrowRB wL.heap.size N (i + 1) (fun k => emG (br k))), (fun v _ => v = .pointer (some ⟨BX, 2, none⟩))] : List (Value → World → Prop)) [8, 9] [[1, 2, 3, 4, 5, 6, 7, 8, 9], [0, 2, 3, 4, 5, 6, 7, 8, 9], [0, 1, 3, 4, 5, 6, 7, 8, 9], [0, 1, 2, 4, 5, 6, 7, 8, 9], [0, 1, 2, 3, 5, 6, 7, 8, 9], [0, 1, 2, 3, 4, 6, 7, 8, 9], [0, 1, 2, 3, 4, 5, 7, 8, 9], [0, 1, 2, 3, 4, 5, 6, 8, 9], [0, 1, 2, 3, 4, 5, 6, 7, 9], [0, 1, 2, 3, 4, 5, 6, 7, 8]] (fun W9 => Below wL.heap.size wr W9 ∧ GrowR wL.heap.size 33 2 (GrE N) i (fun k => emG (br k)) (.slice pbx i cbx) W9) (⟨(Below.refl _ _).drew, hGr.below grE_below (Below.refl _ _).drew⟩) (by kernel_rfl) (by kernel_rfl) (by kernel_rfl) (by decide) (by kernel_rfl) (by kernel_rfl) (by kernel_rfl) rfl rfl (by decide) (by simp) ?_ ?_
      · refine ⟨?_, ?_, ?_, ?_, ?_, ?_, ?_, ?_, ?_, ?_, trivial⟩
        · intro a' w' hI hs hd Kc hK
          have f7 : a'.tmps[7]?.getD undef = .pointer (some ⟨BX, 0, none⟩) := (hs 7 (by decide)).trans rfl
          clear hs hd
          have hsz : wL.heap.size ≤ w'.heap.size := Nat.le_trans hszr hI.1.size
          have c2' := (hI.1.cell (p := ⟨BX, 2, none⟩) hXL).trans k2
          have lX' : BX < w'.heap.size := by omega
          have v0' := (hI.1.cell (p := ⟨bb, off + i, none⟩) hl0).trans v0
          have lb' : bb < w'.heap.size := by omega
          unfold Oper.wp
          go_simp
          try go_bits
          exact hK _ _ (keepI_refl _ _ _ _ _) (by first | rfl | (show Value.int _ _ = Value.int _ _; go_num; done) | (simp [valOf, *]; done) | (simp [valOf]; omega))
        · intro a' w' hI hs hd Kc hK
          have f23 : a'.tmps[23]?.getD undef = .pointer (some ⟨BX, 2, none⟩) := hd 0 23 (by first | rfl | decide | simp [Region.binds]) rfl
          clear hs hd
          have hsz : wL.heap.size ≤ w'.heap.size := Nat.le_trans hszr hI.1.size
          have c2' := (hI.1.cell (p := ⟨BX, 2, none⟩) hXL).trans k2
          have lX' : BX < w'.heap.size := by omega
          have v0' := (hI.1.cell (p := ⟨bb, off + i, none⟩) hl0).trans v0
          have lb' : bb < w'.heap.size := by omega
          unfold Oper.wp
          go_simp
          try go_bits
          exact hK _ _ (keepI_refl _ _ _ _ _) (by first | rfl | (show Value.int _ _ = Value.int _ _; go_num; done) | (simp [valOf, *]; done) | (simp [valOf]; omega))
        · intro a' w' hI hs hd Kc hK
          have f1 : a'.tmps[1]?.getD undef = .slice (some ⟨bb, off, none⟩) nb cb := (hs 1 (by decide)).trans rfl
          clear hs hd
          have hsz : wL.heap.size ≤ w'.heap.size := Nat.le_trans hszr hI.1.size
          have c2' := (hI.1.cell (p := ⟨BX, 2, none⟩) hXL).trans k2
          have lX' : BX < w'.heap.size := by omega
          have v0' := (hI.1.cell (p := ⟨bb, off + i, none⟩) hl0).trans v0
          have lb' : bb < w'.heap.size := by omega
          unfold Oper.wp
          go_simp
          try go_bits
          exact hK _ _ (keepI_refl _ _ _ _ _) (by first | rfl | (show Value.int _ _ = Value.int _ _; go_num; done) | (simp [valOf, *]; done) | (simp [valOf]; omega))
        · intro a' w' hI hs hd Kc hK
          have f8 : a'.tmps[8]?.getD undef = .int .i64 (i : Int) := (hs 8 (by decide)).trans rfl
          clear hs hd
          have hsz : wL.heap.size ≤ w'.heap.size := Nat.le_trans hszr hI.1.size
          have c2' := (hI.1.cell (p := ⟨BX, 2, none⟩) hXL).trans k2
          have lX' : BX < w'.heap.size := by omega
          have v0' := (hI.1.cell (p := ⟨bb, off + i, none⟩) hl0).trans v0
          have lb' : bb < w'.heap.size := by omega
          unfold Oper.wp
          go_simp
          try go_bits
          exact hK _ _ (keepI_refl _ _ _ _ _) (by first | rfl | (show Value.int _ _ = Value.int _ _; go_num; done) | (simp [valOf, *]; done) | (simp [valOf]; omega))
        · intro a' w' hI hs hd Kc hK
          have f25 : a'.tmps[25]?.getD undef = .slice (some ⟨bb, off, none⟩) nb cb := hd 2 25 (by first | rfl | decide | simp [Region.binds]) rfl
          have f26 : a'.tmps[26]?.getD undef = .int .i64 (i : Int) := hd 3 26 (by first | rfl | decide | simp [Region.binds]) rfl
          clear hs hd
          have hsz : wL.heap.size ≤ w'.heap.size := Nat.le_trans hszr hI.1.size
          have c2' := (hI.1.cell (p := ⟨BX, 2, none⟩) hXL).trans k2
          have lX' : BX < w'.heap.size := by omega
          have v0' := (hI.1.cell (p := ⟨bb, off + i, none⟩) hl0).trans v0
          have lb' : bb < w'.heap.size := by omega
          unfold Oper.wp
          go_simp
          try go_bits
          exact hK _ _ (keepI_refl _ _ _ _ _) (by first | rfl | (show Value.int _ _ = Value.int _ _; go_num; done) | (simp [valOf, *]; done) | (simp [valOf]; omega))
        · intro a' w' hI hs hd Kc hK
          have f27 : a'.tmps[27]?.getD undef = .pointer (some ⟨bb, off + i, none⟩) := hd 4 27 (by first | rfl | decide | simp [Region.binds]) rfl
          clear hs hd
          have hsz : wL.heap.size ≤ w'.heap.size := Nat.le_trans hszr hI.1.size
          have c2' := (hI.1.cell (p := ⟨BX, 2, none⟩) hXL).trans k2
          have lX' : BX < w'.heap.size := by omega
          have v0' := (hI.1.cell (p := ⟨bb, off + i, none⟩) hl0).trans v0
          have lb' : bb < w'.heap.size := by omega
          unfold Oper.wp
          go_simp
          try go_bits
          exact hK _ _ (keepI_refl _ _ _ _ _) (by first | rfl | (show Value.int _ _ = Value.int _ _; go_num; done) | (simp [valOf, *]; done) | (simp [valOf]; omega))
        · intro a' w' hI hs hd Kc hK
          have f28 : a'.tmps[28]?.getD undef = .int .i64 rr := hd 5 28 (by first | rfl | decide | simp [Region.binds]) rfl
          clear hs hd
          have hsz : wL.heap.size ≤ w'.heap.size := Nat.le_trans hszr hI.1.size
          have c2' := (hI.1.cell (p := ⟨BX, 2, none⟩) hXL).trans k2
          have lX' : BX < w'.heap.size := by omega
          have v0' := (hI.1.cell (p := ⟨bb, off + i, none⟩) hl0).trans v0
          have lb' : bb < w'.heap.size := by omega
          unfold Oper.wp
          go_simp
          try go_bits
          exact hK _ _ (keepI_refl _ _ _ _ _) (by first | rfl | (show Value.int _ _ = Value.int _ _; go_num; done) | (simp [valOf, *]; done) | (simp [valOf]; omega))
        · intro a' w' hI hs hd Kc hK
          have f29 : a'.tmps[29]?.getD undef = .agg #[.int .i64 rr, .slice none 0 0] := hd 6 29 (by first | rfl | decide | simp [Region.binds]) rfl
          clear hs hd
          have hsz : wL.heap.size ≤ w'.heap.size := Nat.le_trans hszr hI.1.size
          have c2' := (hI.1.cell (p := ⟨BX, 2, none⟩) hXL).trans k2
          have lX' : BX < w'.heap.size := by omega
          have v0' := (hI.1.cell (p := ⟨bb, off + i, none⟩) hl0).trans v0
          have lb' : bb < w'.heap.size := by omega
          unfold Oper.wp
          go_simp
          exact hK _ _ (hKB _ _ _ ((Below.refl _ _).alloc (Nat.le_refl _) _)) (oneB_new _ _ _ hsz)
        · intro a' w' hI hs hd Kc hK
          have f24 : a'.tmps[24]?.getD undef = .slice pbx i cbx := hd 1 24 (by first | rfl | decide | simp [Region.binds]) rfl
          have f30 : (OneB wL.heap.size 33 [.int .i64 rr, .slice none 0 0]) (a'.tmps[30]?.getD undef) w' := hd 7 30 (by first | rfl | decide | simp [Region.binds]) rfl
          clear hs hd
          have hsz : wL.heap.size ≤ w'.heap.size := Nat.le_trans hszr hI.1.size
          have c2' := (hI.1.cell (p := ⟨BX, 2, none⟩) hXL).trans k2
          have lX' : BX < w'.heap.size := by omega
          have v0' := (hI.1.cell (p := ⟨bb, off + i, none⟩) hl0).trans v0
          have lb' : bb < w'.heap.size := by omega
          have hGi := hI.2
          obtain ⟨LL, e1, e2, e3, e4⟩ := id hGi
          refine step_more rfl (.tmp 24) (.tmp 30) 34 rfl 33 u0 (.agg #[.int .i64 0, .slice none 0 0]) 2 32 Tryd.underlying34 hu0 hu1 hu2 hu3 rfl (by decide) wL.heap.size (.slice pbx i cbx) i LL.flatten (by rw [← f24]; simp [Act.eval]) e3 (a'.tmps[30]?.getD undef) [.int .i64 rr, .slice none 0 0] (by simp [Act.eval]) f30 rfl (by simp [Value.oneCell']) (by simp only [maxLen]; omega) (by omega) hsz fun v' w2 ho hch => ?_
          have hnew : GrE N w2 (emG (br i)) [.int .i64 rr, .slice none 0 0] := by rw [hrr.out]; exact grE_em N _ hrr64 w2
          rcases hch with hch | hch
          · exact hK _ _ (hKB _ _ _ hch) (GrowR.more e1 e2 rfl ho (fun k l hk => grE_below _ _ _ _ (e4 k l hk) hch) hnew)
          · exact hK _ _ (keepI_of _ (fun _ => ⟨hI.1.trans hch.lower, growG_inPl hGi hch rfl hNL⟩) ⟨fun _ h => h, fun _ h => h, fun _ h => h, fun _ h => h, fun _ h => h, fun _ h => h, fun _ h => h, fun _ h => h.inPl hch (by decide) rfl, fun _ _ => trivial, fun _ h => h, trivial⟩) (GrowR.more e1 e2 rfl ho (fun k l hk => grE_inPl (e4 k l hk) hch hNL) hnew)
        · intro a' w' hI hs hd Kc hK
          have f7 : a'.tmps[7]?.getD undef = .pointer (some ⟨BX, 0, none⟩) := (hs 7 (by decide)).trans rfl
          clear hs hd
          have hsz : wL.heap.size ≤ w'.heap.size := Nat.le_trans hszr hI.1.size
          have c2' := (hI.1.cell (p := ⟨BX, 2, none⟩) hXL).trans k2
          have lX' : BX < w'.heap.size := by omega
          have v0' := (hI.1.cell (p := ⟨bb, off + i, none⟩) hl0).trans v0
          have lb' : bb < w'.heap.size := by omega
          unfold Oper.wp
          go_simp
          try go_bits
          exact hK _ _ (keepI_refl _ _ _ _ _) (by first | rfl | (show Value.int _ _ = Value.int _ _; go_num; done) | (simp [valOf, *]; done) | (simp [valOf]; omega))
      clear hKB
      intro Xf w' hI hv
      have o8 : (GrowRB wL.heap.size N (i + 1) (fun k => emG (br k))) (Xf 31) w' := hv 8 31 rfl rfl
      have q32 : Xf 32 = .pointer (some ⟨BX, 2, none⟩) := hv 9 32 rfl rfl
      clear hv
      simp only [List.map_cons, List.map_nil, q32, puts, Act.put, Nat.reduceAdd, List.setIfInBounds_toArray, List.set_cons_succ, List.set_cons_zero]
      obtain ⟨pn, cn, ff, -, -⟩ := GrowR.rat o8 (by simp only [maxLen]; omega)
      rw [ff] at o8 ⊢
      have gX' := gX.of_block (hI.1.block BX hXL)
      have vX' := TBox.varT8 gX'
      have gXn := gX'.set 2 (.slice pn (i + 1) cn)
      simp only [List.setIfInBounds_toArray, List.set_cons_succ, List.set_cons_zero] at gXn
      have hGn : GrowR wL.heap.size 33 2 (GrE N) (i + 1) (fun k => emG (br k)) (.slice pn (i + 1) cn) (w'.setCell ⟨BX, 2, none⟩ (.slice pn (i + 1) cn)) := growG_puts (k := 2) o8 vX' (by decide) hNX hXL [.slice pn (i + 1) cn]
      have hAn := (aside_join hAs hI.1).trans (putsL_aside (T := fun k => k = BX) rfl [.slice pn (i + 1) cn] 2 w')
      have lX' := gX'.lt
      have c2 := gX'.cell 2
      have j2 := gX'.frozen 2
      simp only [List.getElem?_toArray, List.getElem?_cons_zero, List.getElem?_cons_succ] at c2
      clear o8 ff vX' gX' hI hGr hAs k0 k1 k2 k3 k4 k5 k6 k7 lX
      go_wp2
      go_roundg (nb - (i + 1))
      case measure => omega
      case rel => exact ⟨i + 1, pn, cn, by omega, rfl, by go_num, gXn, hGn, hAn⟩
    · obtain rfl : i = nb := by omega
      obtain ⟨pn, cn, ff, hrat, hblk⟩ := GrowR.rat hGr (by simp only [maxLen]; omega)
      injection ff with e1 e2 e3
      subst e1 e3
      have vXL := TBox.varT8 gXL
      obtain ⟨hre1, hrk⟩ := rowE_aside hreX vXL (by decide) hNX hAs
      have hMx : MAtE N wr (newM r i br nr ro) none 0 pbx cbx prx crx := ⟨gr_nil _ _, rowE_nil _ _ _ _, hrat, fun h0 b off sp e => by
        obtain ⟨h1, -, h2⟩ := hblk b off sp e
        exact ⟨h1, .inr h2⟩, hvX.of_block hszr hrk, hre1⟩
      have gRr := gRL.of_block (hAs.block _ gRL.lt (by omega))
      obtain ⟨lX, k0, k1, k2, k3, k4, k5, k6, k7⟩ := mk_cells gX
      obtain ⟨lR, z0, z1, z2, z3, z4, z5, z6, z7⟩ := mk_cells gRr
      obtain ⟨j0, j1, j2, j3, j4, j5, j6, j7⟩ := mk_frozen gRr
      have hbE : Below w.heap.size w wr := hbL.trans ((hAs.below (Nat.le_of_lt hXL) fun k e => by omega).mono (Nat.le_of_lt hRX))
      have vR := TBox.varT8 gRr
      have hMf := hMx.puts vR (by decide) (by decide) (by decide) hN [.int .i64 r, .slice none 0 0, .slice pbx i cbx, .slice prx nr crx, .int .i64 (-1), .int .i64 0, .int .i64 (-1), .bool false]
      have hbF := hbE.trans (putsL_below (Nat.le_refl w.heap.size) [.int .i64 r, .slice none 0 0, .slice pbx i cbx, .slice prx nr crx, .int .i64 (-1), .int .i64 0, .int .i64 (-1), .bool false] 0 wr)
      simp only [putsL, Nat.reduceAdd] at hMf hbF
      clear hMx gRr vR vXL hrat hblk hre1 hrk hGr hAs gX gXL gRL hvX hreX hbE hbL'
      go_wp2
      refine bodyPost_ret (by simp [results, Tryd.results31, go_sem, *]; try rfl) rfl ?_
      exact ⟨pbx, cbx, prx, crx, rfl, hMf, hbF⟩
end Go.Proofs.YtmbgodncagjncaaDoor
