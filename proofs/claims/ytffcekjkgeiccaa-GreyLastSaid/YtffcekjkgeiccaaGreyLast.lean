/- GreyLast: whatever is pushed, and then popped, comes out from behind, as many as there was room for. No condition. -/
import Derived.Test.YtffcekjkgeiccaaRows
import Derived.Test.YtffcekjkgeiccaaAwake13
import Derived.Test.YtffcekjkgeiccaaLateG
namespace Go.Proofs.Ytffcekjkgeiccaa
set_option linter.unusedSimpArgs false
set_option linter.unusedVariables false
open Go.ChangeShapes Go.WideShapes Go.ChangeAt Go.RowKit Go.Joins

/-- Push, of the first `min j K` numbers of a list: one more, as long as there is room. -/
theorem lpush_any (K j m : Nat) (p : Option Addr) (c : Nat) (y : Nat → Int) (w : World) (hK : K ≤ 16) (hj : j < m) (hy : ∀ i, i < m → 0 ≤ y i ∧ y i ≤ 65535) (N N2 : Nat) (hN : min j K = N) (hN2 : min (j + 1) K = N2) (B : Bool) (hB : decide ((j : Int) < K) = B) (hz : GrAt w p c N y) (N0 : Nat) (hT : NoTag N0 24 N p w) :
    Calls Try.prog 12 #[.agg #[.int .i64 K, .slice p N c], .int .i64 (y j)] w fun e w' => ∃ p' c', e = .returned (.tuple #[.agg #[.int .i64 K, .slice p' N2 c'], .bool B]) ∧ GrAt w' p' c' N2 y ∧ NoTag N0 24 N2 p' w' ∧ Below w.heap.size w w' := by
  have h := hy j hj
  have hw : (Lit.int .i64 (y j)).wf = true := by simp [Lit.wf, IntKind.min, IntKind.max, IntKind.signed, IntKind.bits]; omega
  have e1 : gpB K N (y j) = B := by
    rw [← hB]; unfold gpB
    by_cases hk : j < K
    · have : N = j := by omega
      simp [h.1, this]
    · have : ¬ N < K := by omega
      simp [this, hk]
  have e2 : gpN K N (y j) = N2 := by
    unfold gpN; rw [e1, ← hB]
    by_cases hk : j < K
    · rw [if_pos (by simp; omega)]; omega
    · rw [if_neg (by simp; omega)]; omega
  have e3 : gpZ K N y (y j) = y := by
    unfold gpZ; rw [e1, ← hB]
    by_cases hk : j < K
    · rw [if_pos (by simp; omega)]
      funext i
      unfold pzZ
      by_cases hi : i = N
      · rw [if_pos hi, hi, show N = j by omega]
      · rw [if_neg hi]
    · rw [if_neg (by simp; omega)]
  have hp := gpush_tag K (y j) p N c y w hz (by omega) hw
  rw [e1, e2, e3] at hp
  refine Calls.mono hp ?_
  rintro e w' ⟨p', c', rfl, hA, -, hb, ht⟩
  refine ⟨p', c', rfl, hA, fun h0 b off sp ep => ?_, hb⟩
  have hlt : b < w'.heap.size := by
    obtain ⟨⟨b1, o1, e1, hl, -⟩, -⟩ := hA.ints 0 h0
    rw [ep] at e1
    injection e1 with e1
    injection e1 with e1
    omega
  refine ⟨hlt, ?_⟩
  rcases ht b off sp ep with ⟨hf, rfl⟩ | ⟨cs, hcs⟩
  · have hNN : N2 = N := by
      rw [← e2]; unfold gpN; rw [e1, if_neg (by simp [hf])]
    rw [hNN] at h0
    exact ((hT.below hb) h0 b off sp ep).2
  · exact .inr ⟨cs, _, by decide, hcs⟩
/-- Pop, of the first numbers of a list. -/
theorem lpop_any (K n : Nat) (p : Option Addr) (c : Nat) (y : Nat → Int) (w : World) (hn : n ≤ 16) (hz : GrAt w p c n y) (N0 : Nat) (hT : NoTag N0 24 n p w) :
    Calls Try.prog 14 #[.agg #[.int .i64 K, .slice p n c]] w fun e w' => ∃ p' c', e = .returned (.tuple #[.agg #[.int .i64 K, .slice p' (n - 1 : Nat) c'], .int .i64 (gqX n y), .bool (decide (0 < n))]) ∧ GrAt w' p' c' (n - 1) y ∧ NoTag N0 24 (n - 1) p' w' ∧ Below w.heap.size w w' := by
  refine Calls.mono (gpop_tag K p n c y w hz (by omega)) ?_
  rintro e w' ⟨p', c', rfl, hA, -, hb, ht⟩
  refine ⟨p', c', rfl, hA, fun h0 b off sp ep => ?_, hb⟩
  have hlt : b < w'.heap.size := by
    obtain ⟨⟨b1, o1, e1, hl, -⟩, -⟩ := hA.ints 0 h0
    rw [ep] at e1
    injection e1 with e1
    injection e1 with e1
    omega
  obtain ⟨cs, hcs⟩ := ht (by omega) b off sp ep
  exact ⟨hlt, .inr ⟨cs, _, by decide, hcs⟩⟩
theorem tl_nil (N : Nat) (T : TypeId) (n : Nat) (w : World) : NoTag N T n none w := fun _ b off sp e => by cases e
theorem TBox.stores {T : TypeId} {g : Nat} {x y : Value} {w : World} (h : TBox T g #[x, y] w) (a b : Value) : TBox T g #[a, b] ((w.setCell ⟨g, 0, none⟩ a).setCell ⟨g, 1, none⟩ b) := (h.set 0 a).set 1 b
set_option maxHeartbeats 16000000 in
set_option maxRecDepth 20000 in
theorem last13_walk (a : Int) (q : Option Addr) (m cap : Nat) (y : Nat → Int) (w : World) (ha0 : 0 ≤ a) (ha1 : a ≤ 255) (hm : m ≤ maxLen) (hy : Ints .u16 w q m y) :
    Calls Try.prog 4 #[.int .u8 a, .slice q m cap] w fun e w' => e = .returned (.bool true) ∧ Below w.heap.size w w' := by
  simp only [maxLen] at hm
  by_cases hbig : 100 < m
  · have d0 : decide (100 < (m : Int)) = true := by simp; omega
    go_enter Try.func4, Try.ntmps4
    go_wp2_with (first
    | (go_at_call 7; refine Calls.mono (awake13_any _) ?_; rintro e w' ⟨rfl, hb⟩; obtain ⟨hc, hf, hb, hz⟩ := bstep hb (w := w) (by go_grown); try simp only [World.size_alloc, World.size_setCell, World.size_drew] at hc hf hz)
    )
    go_returns
    first | exact ⟨rfl, hb⟩ | exact ⟨ret_bool (by simp), hb⟩ | exact ⟨rfl, by go_grown⟩
  · have d0 : decide (100 < (m : Int)) = false := by simp; omega
    obtain ⟨k, hk, k0, k1⟩ : ∃ k : Int, a.tmod 17 = k ∧ 0 ≤ k ∧ k ≤ 16 := ⟨_, rfl, by rw [Int.tmod_eq_emod_of_nonneg ha0]; omega, by rw [Int.tmod_eq_emod_of_nonneg ha0]; omega⟩
    have eN : gnB k = true := by simp [gnB]; omega
    have eR : gnR k = k := by unfold gnR; rw [if_pos eN]
    have hNw := fun W => gnew_any k W
    simp only [eN, eR] at hNw
    clear eN eR
    go_enter Try.func4, Try.ntmps4
    go_upto_region 3 with (first
    | (go_at_call 7; refine Calls.mono (awake13_any _) ?_; rintro e w' ⟨rfl, hb⟩; obtain ⟨hc, hf, hb, hz⟩ := bstep hb (w := w) (by go_grown); try simp only [World.size_alloc, World.size_setCell, World.size_drew] at hc hf hz)
    )
    replace hy := hy.below hb
    have hbW := hb
    clear hb hc hf hz
    generalize w' = w1 at *
    go_upto_region 4 with fail
    obtain ⟨K, rfl⟩ : ∃ K : Nat, k = K := ⟨k.toNat, by omega⟩
    have hK : K ≤ 16 := by omega
    have hyb : ∀ i, i < m → 0 ≤ y i ∧ y i ≤ 65535 := fun i hi => by
      have := hy.wf i hi
      simp [Lit.wf, IntKind.min, IntKind.max, IntKind.signed, IntKind.bits] at this
      omega
    go_upto_region 5 with (first
      | (go_at_call 10; refine Calls.mono (hNw _) ?_; rintro e w3 ⟨rfl, hb3⟩)
    )
    obtain ⟨w4, hw4⟩ : ∃ W, W = w3.alloc (.cells #[.int .i64 K, .slice none 0 0] 24) := ⟨_, rfl⟩
    have gG : TBox 24 w3.heap.size #[.int .i64 K, .slice none 0 0] w4 := by rw [hw4]; exact TBox.new _ _ _
    have hb4 := bjoin ((Below.refl w3.heap.size w3).alloc (Nat.le_refl _) (.cells #[.int .i64 K, .slice none 0 0] 24)) hb3
    rw [← hw4] at hb4 ⊢
    have hy4 := hy.below hb4
    have hbW4 := bjoin hb4 hbW
    have hwG : w.heap.size ≤ w3.heap.size := Nat.le_trans hbW.size hb3.size
    have hqG : ∀ b off sp, q = some ⟨b, off, sp⟩ → 0 < m → b < w3.heap.size := fun b off sp e h0 => by
      obtain ⟨⟨b1, o1, e1, hl, -⟩, -⟩ := hy 0 h0
      rw [e] at e1
      injection e1 with e1
      injection e1 with e1
      have := hb3.size
      omega
    clear hw4 hb3 hb4 hy hbW hNw
    generalize w3.heap.size = BG at *
    clear k0 k1 hk
    go_wp2
    go_loopg [8] m (fun mm jv wr => ∃ j : Nat, j ≤ m ∧ mm = m - j ∧ jv = .int .i64 j ∧ (∃ N p c, min j K = N ∧ TBox 24 BG #[.int .i64 K, .slice p N c] wr ∧ GrAt wr p c N y ∧ NoTag w.heap.size 24 N p wr) ∧ Ints .u16 wr q m y ∧ Below w.heap.size w wr)
    case atStart => exact ⟨0, by omega, by omega, rfl, ⟨0, none, 0, by omega, gG, gr_nil _ _, tl_nil _ _ _ _⟩, hy4, hbW4⟩
    case round =>
      obtain ⟨j, jh, rfl, rfl, ⟨N, p, c, hN, gr, hG, hT⟩, hyr, hbr⟩ := hrel
      clear gG hy4 hbW4
      have l0 := gr.lt
      have x0 : wr.cell? ⟨BG, 0, none⟩ = some (.int .i64 K) := gr.cell 0
      have x1 : wr.cell? ⟨BG, 1, none⟩ = some (.slice p N c) := gr.cell 1
      by_cases hj : j < m
      · have hP := fun W (hW : Below wr.heap.size wr W) => lpush_any K j m p c y W hK hj hyb N _ hN rfl _ rfl (hG.below hW) w.heap.size (hT.below hW)
        generalize hN2 : min (j + 1) K = N2 at hP
        generalize hB : decide ((j : Int) < K) = B at hP
        obtain ⟨⟨by0, bo, rfl, hl, hv⟩, hvw⟩ := hyr j hj
        have hyj := hyb j hj
        have hR := fun W p' c' (h : GrAt W p' c' N2 y) => gright_any K p' N2 c' y W h
        have eR : rightG K N2 y = true := rightG_iff.2 ⟨by omega, fun i hi => (hyb i (by omega)).1⟩
        rw [eR] at hR
        clear eR
        have hjm : (j : Int) < m := by omega
        generalize hY : y j = Y at hP hv hyj
        go_upto_region 8 with fail
        refine wp_late (ds := [some 41, some 42, some 43, some 44, some 45, some 46, some 47, some 40, some 48, some 49, some 9, none, some 10]) (ts := [41, 42, 43, 44, 45, 46, 47, 40, 48, 49, 9, 10]) (pv := [(fun v _ => v = .agg #[.int .i64 K, .slice p N c]), (fun v _ => v = .slice (some ⟨by0, bo, none⟩) m cap), (fun v _ => v = .int .i64 (j : Int)), (fun v _ => v = .pointer (some ⟨by0, bo + j, none⟩)), (fun v _ => v = .int .u16 Y), (fun v _ => v = .int .i64 Y), GreyT (w.heap.size) (24) (K) (N2) (y) [.bool B], GreyT (w.heap.size) (24) (K) (N2) (y) [.bool B], GreyA (w.heap.size) (24) (K) (N2) (y), (fun v _ => v = .bool B), (fun _ _ => True), (fun _ _ => True), (fun v _ => v = .bool B)]) (skip := fun i => ([] : List Nat).contains i) (ia := 10) (is := 11) (k := 50) (Shape := (ShapeT 24 2)) (Full := (FullG (w.heap.size) (24) (K) (N2) (y))) (by kernel_rfl) (by kernel_rfl) rfl rfl (by decide) (by decide) (by simp) ?_ (by decide) shapeT_below fullG_below ?_ ?_ ?_ ?_
        · exact .inr ⟨⟨_, rfl⟩, rfl, _, rfl, (by first | rfl | decide | simp [Region.binds]), by decide, rfl⟩
        · exact ⟨fun _ _ _ h _ => h, fun _ _ _ h _ => h, fun _ _ _ h _ => h, fun _ _ _ h _ => h, fun _ _ _ h _ => h, fun _ _ _ h _ => h, fun _ _ _ h hb => h.below hb, fun _ _ _ h hb => h.below hb, fun _ _ _ h hb => h.below hb, fun _ _ _ h _ => h, fun _ _ _ h _ => h, fun _ _ _ h _ => h, fun _ _ _ h _ => h, trivial⟩
        · exact ⟨rfl, rfl, rfl, rfl, rfl, rfl, rfl, rfl, rfl, rfl, rfl, rfl, rfl, trivial⟩
        · refine ⟨?_, ?_, ?_, ?_, ?_, ?_, ?_, ?_, ?_, ?_, ?_, ?_, ?_, trivial⟩
          · intro _ a' w' hb' hs hd hn Kc hK
            have f6 : a'.tmps[6]?.getD undef = .pointer (some ⟨BG, 0, none⟩) := (hs 6 (by decide)).trans rfl
            clear hs hd hn
            rw [if_neg (by decide), if_neg (by decide)] at hK
            have x0' := (hb'.cell (p := ⟨BG, 0, none⟩) l0).trans x0
            have x1' := (hb'.cell (p := ⟨BG, 1, none⟩) l0).trans x1
            have hv' := (hb'.cell (p := ⟨by0, bo + j, none⟩) hl).trans hv
            unfold Oper.wp
            go_simp
            try go_bits
            exact hK _ _ (Below.refl _ _) (by first | rfl | (show Value.int _ _ = Value.int _ _; go_num; done) | (simp [valOf, *]; done) | (simp [valOf]; omega))
          · intro _ a' w' hb' hs hd hn Kc hK
            have f1 : a'.tmps[1]?.getD undef = .slice (some ⟨by0, bo, none⟩) m cap := (hs 1 (by decide)).trans rfl
            clear hs hd hn
            rw [if_neg (by decide), if_neg (by decide)] at hK
            have x0' := (hb'.cell (p := ⟨BG, 0, none⟩) l0).trans x0
            have x1' := (hb'.cell (p := ⟨BG, 1, none⟩) l0).trans x1
            have hv' := (hb'.cell (p := ⟨by0, bo + j, none⟩) hl).trans hv
            unfold Oper.wp
            go_simp
            try go_bits
            exact hK _ _ (Below.refl _ _) (by first | rfl | (show Value.int _ _ = Value.int _ _; go_num; done) | (simp [valOf, *]; done) | (simp [valOf]; omega))
          · intro _ a' w' hb' hs hd hn Kc hK
            have f8 : a'.tmps[8]?.getD undef = .int .i64 (j : Int) := (hs 8 (by decide)).trans rfl
            clear hs hd hn
            rw [if_neg (by decide), if_neg (by decide)] at hK
            have x0' := (hb'.cell (p := ⟨BG, 0, none⟩) l0).trans x0
            have x1' := (hb'.cell (p := ⟨BG, 1, none⟩) l0).trans x1
            have hv' := (hb'.cell (p := ⟨by0, bo + j, none⟩) hl).trans hv
            unfold Oper.wp
            go_simp
            try go_bits
            exact hK _ _ (Below.refl _ _) (by first | rfl | (show Value.int _ _ = Value.int _ _; go_num; done) | (simp [valOf, *]; done) | (simp [valOf]; omega))
          · intro _ a' w' hb' hs hd hn Kc hK
            have f42 : a'.tmps[42]?.getD undef = .slice (some ⟨by0, bo, none⟩) m cap := hd 1 42 (by first | rfl | decide | simp [Region.binds]) rfl (by decide) (by decide) rfl
            have f43 : a'.tmps[43]?.getD undef = .int .i64 (j : Int) := hd 2 43 (by first | rfl | decide | simp [Region.binds]) rfl (by decide) (by decide) rfl
            clear hs hd hn
            rw [if_neg (by decide), if_neg (by decide)] at hK
            have x0' := (hb'.cell (p := ⟨BG, 0, none⟩) l0).trans x0
            have x1' := (hb'.cell (p := ⟨BG, 1, none⟩) l0).trans x1
            have hv' := (hb'.cell (p := ⟨by0, bo + j, none⟩) hl).trans hv
            unfold Oper.wp
            go_simp
            try go_bits
            exact hK _ _ (Below.refl _ _) (by first | rfl | (show Value.int _ _ = Value.int _ _; go_num; done) | (simp [valOf, *]; done) | (simp [valOf]; omega))
          · intro _ a' w' hb' hs hd hn Kc hK
            have f44 : a'.tmps[44]?.getD undef = .pointer (some ⟨by0, bo + j, none⟩) := hd 3 44 (by first | rfl | decide | simp [Region.binds]) rfl (by decide) (by decide) rfl
            clear hs hd hn
            rw [if_neg (by decide), if_neg (by decide)] at hK
            have x0' := (hb'.cell (p := ⟨BG, 0, none⟩) l0).trans x0
            have x1' := (hb'.cell (p := ⟨BG, 1, none⟩) l0).trans x1
            have hv' := (hb'.cell (p := ⟨by0, bo + j, none⟩) hl).trans hv
            unfold Oper.wp
            go_simp
            try go_bits
            exact hK _ _ (Below.refl _ _) (by first | rfl | (show Value.int _ _ = Value.int _ _; go_num; done) | (simp [valOf, *]; done) | (simp [valOf]; omega))
          · intro _ a' w' hb' hs hd hn Kc hK
            have f45 : a'.tmps[45]?.getD undef = .int .u16 Y := hd 4 45 (by first | rfl | decide | simp [Region.binds]) rfl (by decide) (by decide) rfl
            clear hs hd hn
            rw [if_neg (by decide), if_neg (by decide)] at hK
            have x0' := (hb'.cell (p := ⟨BG, 0, none⟩) l0).trans x0
            have x1' := (hb'.cell (p := ⟨BG, 1, none⟩) l0).trans x1
            have hv' := (hb'.cell (p := ⟨by0, bo + j, none⟩) hl).trans hv
            unfold Oper.wp
            go_simp
            try go_bits
            exact hK _ _ (Below.refl _ _) (by first | rfl | (show Value.int _ _ = Value.int _ _; go_num; done) | (simp [valOf, *]; done) | (simp [valOf]; omega))
          · intro _ a' w' hb' hs hd hn Kc hK
            have f41 : a'.tmps[41]?.getD undef = .agg #[.int .i64 K, .slice p N c] := hd 0 41 (by first | rfl | decide | simp [Region.binds]) rfl (by decide) (by decide) rfl
            have f46 : a'.tmps[46]?.getD undef = .int .i64 Y := hd 5 46 (by first | rfl | decide | simp [Region.binds]) rfl (by decide) (by decide) rfl
            clear hs hd hn
            rw [if_neg (by decide), if_neg (by decide)] at hK
            have x0' := (hb'.cell (p := ⟨BG, 0, none⟩) l0).trans x0
            have x1' := (hb'.cell (p := ⟨BG, 1, none⟩) l0).trans x1
            have hv' := (hb'.cell (p := ⟨by0, bo + j, none⟩) hl).trans hv
            unfold Oper.wp
            go_simp
            try go_bits
            refine Calls.mono (hP w' hb') ?_
            rintro e w'' ⟨p', c', rfl, hA, hT, hb2⟩
            exact hK _ _ hb2 ⟨_, _, rfl, hA, hT⟩
          · intro _ a' w' hb' hs hd hn Kc hK
            obtain ⟨p', c', f47, hA, hT⟩ := hd 6 47 (by first | rfl | decide | simp [Region.binds]) rfl (by decide) (by decide) rfl
            clear hs hd hn
            rw [if_neg (by decide), if_neg (by decide)] at hK
            have x0' := (hb'.cell (p := ⟨BG, 0, none⟩) l0).trans x0
            have x1' := (hb'.cell (p := ⟨BG, 1, none⟩) l0).trans x1
            have hv' := (hb'.cell (p := ⟨by0, bo + j, none⟩) hl).trans hv
            unfold Oper.wp
            go_simp
            try go_bits
            exact hK _ _ (Below.refl _ _) ⟨_, _, rfl, hA, hT⟩
          · intro _ a' w' hb' hs hd hn Kc hK
            obtain ⟨p', c', f40, hA, hT⟩ := hd 7 40 (by first | rfl | decide | simp [Region.binds]) rfl (by decide) (by decide) rfl
            clear hs hd hn
            rw [if_neg (by decide), if_neg (by decide)] at hK
            have x0' := (hb'.cell (p := ⟨BG, 0, none⟩) l0).trans x0
            have x1' := (hb'.cell (p := ⟨BG, 1, none⟩) l0).trans x1
            have hv' := (hb'.cell (p := ⟨by0, bo + j, none⟩) hl).trans hv
            unfold Oper.wp
            go_simp
            try go_bits
            exact hK _ _ (Below.refl _ _) ⟨_, _, rfl, hA, hT⟩
          · intro _ a' w' hb' hs hd hn Kc hK
            obtain ⟨p', c', f40, hA, hT⟩ := hd 7 40 (by first | rfl | decide | simp [Region.binds]) rfl (by decide) (by decide) rfl
            clear hs hd hn
            rw [if_neg (by decide), if_neg (by decide)] at hK
            have x0' := (hb'.cell (p := ⟨BG, 0, none⟩) l0).trans x0
            have x1' := (hb'.cell (p := ⟨BG, 1, none⟩) l0).trans x1
            have hv' := (hb'.cell (p := ⟨by0, bo + j, none⟩) hl).trans hv
            unfold Oper.wp
            go_simp
            try go_bits
            exact hK _ _ (Below.refl _ _) (by first | rfl | (show Value.int _ _ = Value.int _ _; go_num; done) | (simp [valOf, *]; done) | (simp [valOf]; omega))
          · intro _ a' w' hb' hs hd hn Kc hK
            clear hs hd hn
            rw [if_pos rfl] at hK
            unfold Oper.wp
            go_simp
            exact hK _ _ ((Below.refl _ _).alloc (Nat.le_refl _) _) (Nat.le_refl _) (shapeT_new _ _ rfl)
          · intro _ a' w' hb' hs hd hn Kc hK
            obtain ⟨g, f9, hg, hsh⟩ := hn 9 (by first | rfl | decide | simp [Region.binds]) rfl rfl
            obtain ⟨p', c', f48, hA, hT⟩ := hd 8 48 (by first | rfl | decide | simp [Region.binds]) rfl (by decide) (by decide) rfl
            rw [if_neg (by decide), if_pos rfl] at hK
            have hfin := hK g (.tuple #[]) (putsL g 0 [.int .i64 (K), .slice p' (N2) c'] w') (fun d hd => by obtain rfl : 9 = d := Option.some.inj (Option.some.inj hd); exact f9) (putsL_below hg _ _ _) hg (fullG_puts hA hT hsh (Nat.le_trans hbr.size hg)) (fun g' h => shapeT_puts _ g' h) ⟨fun _ h => h, fun _ h => h, fun _ h => h, fun _ h => h, fun _ h => h, fun _ h => h, fun _ h => h.puts hsh (Nat.le_trans hbr.size hg) _, fun _ h => h.puts hsh (Nat.le_trans hbr.size hg) _, fun _ h => h.puts hsh (Nat.le_trans hbr.size hg) _, fun _ h => h, fun _ h => h, fun _ h => h, fun _ h => h, trivial⟩
            clear hs hd hn hK
            obtain ⟨x0, x1, h0, c0, c1, g0, g1⟩ := hsh.two
            simp only [putsL] at hfin
            unfold Oper.wp
            go_simp
            exact hfin
          · intro _ a' w' hb' hs hd hn Kc hK
            have f49 : a'.tmps[49]?.getD undef = .bool B := hd 9 49 (by first | rfl | decide | simp [Region.binds]) rfl (by decide) (by decide) rfl
            clear hs hd hn
            rw [if_neg (by decide), if_neg (by decide)] at hK
            have x0' := (hb'.cell (p := ⟨BG, 0, none⟩) l0).trans x0
            have x1' := (hb'.cell (p := ⟨BG, 1, none⟩) l0).trans x1
            have hv' := (hb'.cell (p := ⟨by0, bo + j, none⟩) hl).trans hv
            unfold Oper.wp
            go_simp
            try go_bits
            exact hK _ _ (Below.refl _ _) (by first | rfl | (show Value.int _ _ = Value.int _ _; go_num; done) | (simp [valOf, *]; done) | (simp [valOf]; omega))
        intro Xf g w' hX hb hv
        obtain ⟨hg, gX, hgp⟩ := hX (by decide)
        have q9 : Xf 9 = .pointer (some ⟨g, 0, none⟩) := hgp 9 rfl
        have q10 : Xf 10 = .bool B := hv 12 10 rfl rfl (by decide) (by decide)
        clear hX hv hgp
        simp only [List.map_cons, List.map_nil, q9, q10, puts, Act.put, Nat.reduceAdd, List.setIfInBounds_toArray, List.set_cons_succ, List.set_cons_zero]
        obtain ⟨p', c', gH, hA, hTA⟩ := gX
        have hgr := gr.below hb
        have lH := gH.lt
        have h0 : w'.cell? ⟨g, 0, none⟩ = some (.int .i64 K) := gH.cell 0
        have h1 : w'.cell? ⟨g, 1, none⟩ = some (.slice p' N2 c') := gH.cell 1
        have hy' := hyr.below hb
        have hbw := bjoin hb hbr
        clear hT hG hl hv x0 x1 hP hvw hyr gr
        generalize w' = w5 at *
        have hst : ∀ W, Below w5.heap.size w5 W → (∃ N p c, min (j + 1) K = N ∧ TBox 24 BG #[.int .i64 K, .slice p N c] ((W.setCell ⟨BG, 0, none⟩ (.int .i64 K)).setCell ⟨BG, 1, none⟩ (.slice p' N2 c')) ∧ GrAt ((W.setCell ⟨BG, 0, none⟩ (.int .i64 K)).setCell ⟨BG, 1, none⟩ (.slice p' N2 c')) p c N y ∧ NoTag w.heap.size 24 N p ((W.setCell ⟨BG, 0, none⟩ (.int .i64 K)).setCell ⟨BG, 1, none⟩ (.slice p' N2 c'))) ∧ Ints .u16 ((W.setCell ⟨BG, 0, none⟩ (.int .i64 K)).setCell ⟨BG, 1, none⟩ (.slice p' N2 c')) (some ⟨by0, bo, none⟩) m y ∧ Below w.heap.size w ((W.setCell ⟨BG, 0, none⟩ (.int .i64 K)).setCell ⟨BG, 1, none⟩ (.slice p' N2 c')) := fun W hW => by
          have hs : ShapeT 24 2 BG W := ⟨_, rfl, hgr.below hW⟩
          have hq : ∀ b off, some (⟨by0, bo, none⟩ : Addr) = some ⟨b, off, none⟩ → b ≠ BG := fun b off e => by have := hqG b off none e (by omega); omega
          exact ⟨⟨N2, p', c', hN2, (hgr.below hW).stores _ _, (hA.below hW).putsL (hTA.below hW) hs hwG [.int .i64 K, .slice p' N2 c'], (hTA.below hW).puts hs hwG [.int .i64 K, .slice p' N2 c']⟩, ((hy'.below hW).setCell hq _ _).setCell hq _ _, ((bjoin hW hbw).setCell hwG _).setCell hwG _⟩
        have hx0 := hgr.cell 0
        have hx1 := hgr.cell 1
        have hf0 := hgr.frozen 0
        have hf1 := hgr.frozen 1
        have lG : BG < w5.heap.size := hgr.lt
        clear hTA hy' hgr gH
        have hjK : (B = true → (j : Int) < K) ∧ (B = false → ¬ (j : Int) < K) := ⟨fun e => of_decide_eq_true (hB.trans e), fun e => of_decide_eq_false (hB.trans e)⟩
        cases B
        case' false => have hlt := hjK.2 rfl
        case' true => have hlt := hjK.1 rfl
        all_goals
          clear hjK hB
          go_wp2_with (first
    | (go_at_call 8; refine Calls.mono (hR _ _ _ (by assumption)) ?_; rintro e w' ⟨rfl, hb⟩; obtain ⟨hc, hf, hb, hz⟩ := bstep hb (w := w5) (by go_grown); try simp only [World.size_alloc, World.size_setCell, World.size_drew] at hc hf hz)
          )
          obtain ⟨s1, s2, s3⟩ := hst _ (by assumption)
          clear hst
          go_roundg (m - (j + 1))
          case measure => omega
          case rel => exact ⟨j + 1, by omega, rfl, by go_num, s1, s2, s3⟩
      · obtain rfl : j = m := by omega
        clear l0 x0 x1
        have hNj : N ≤ j := by omega
        have hN16 : N ≤ 16 := by omega
        by_cases hKm : (K : Int) ≤ j
        case' pos => have hNe : Hid (N = K) := by show _ = _; omega
        case' neg => have hNe : Hid (N = j) := by show _ = _; omega
        all_goals
          clear hN
          go_wp2
          go_loopg [11] N (fun mm v wr' => ∃ i : Int, -1 ≤ i ∧ i < N ∧ mm = (i + 1).toNat ∧ v = .int .i64 i ∧ (∃ (p : Option Addr) (c n : Nat), (n : Int) = i + 1 ∧ TBox 24 BG #[.int .i64 K, .slice p n c] wr' ∧ GrAt wr' p c n y ∧ NoTag w.heap.size 24 n p wr') ∧ Ints .u16 wr' q j y ∧ Below w.heap.size w wr')
          case atStart => exact ⟨(N : Int) - 1, by omega, by omega, by omega, by rw [hNe.out], ⟨p, c, N, by omega, gr, hG, hT⟩, hyr, hbr⟩
          case round =>
            clear gr hG hT hyr hbr hNe hKm
            obtain ⟨i, il, ih, rfl, rfl, ⟨p1, c1, n1, hn1, gr, hG, hT⟩, hyr, hbr⟩ := hrel
            have l0 := gr.lt
            have x0 := gr.cell 0
            have x1 := gr.cell 1
            have f0 := gr.frozen 0
            have f1 := gr.frozen 1
            simp only [List.getElem?_toArray, List.getElem?_cons_zero, List.getElem?_cons_succ] at x0 x1
            by_cases hi : 0 ≤ i
            · obtain ⟨k, rfl⟩ : ∃ k : Nat, i = k := ⟨i.toNat, by omega⟩
              obtain rfl : n1 = k + 1 := by omega
              have hP := lpop_any K (k + 1) p1 c1 y wr (by omega) hG w.heap.size hT
              rw [show gqX (k + 1) y = y k from rfl, show k + 1 - 1 = k from rfl, show decide (0 < k + 1) = true by simp] at hP
              obtain ⟨⟨by0, bo, rfl, hl, hv⟩, hvw⟩ := hyr k (by omega)
              have hyk := hyb k (by omega)
              have hkj : (k : Int) < j := by omega
              have hlG : by0 < BG := hqG by0 bo none rfl (by omega)
              clear hG hT hn1
              generalize hY : y k = Y at hP hv hyk
              go_upto_region 16 with (first
                | (go_at_call 14; refine Calls.mono hP ?_; rintro e w5 ⟨p2, c2, rfl, hA, hTA, hb5⟩)
              )
              obtain ⟨w6, hw6⟩ : ∃ W, W = w5.alloc (.cells #[.int .i64 K, .slice p2 k c2] 24) := ⟨_, rfl⟩
              have hb56 : Below w5.heap.size w5 w6 := by rw [hw6]; exact (Below.refl _ _).alloc (Nat.le_refl _) _
              have gH : TBox 24 w5.heap.size #[.int .i64 K, .slice p2 k c2] w6 := by rw [hw6]; exact TBox.new _ _ _
              rw [← hw6]
              replace hA := hA.below hb56
              replace hTA := hTA.below hb56
              have hb6 := bjoin hb56 hb5
              replace gr := gr.below hb6
              replace hyr := hyr.below hb6
              have hbw := bjoin hb6 hbr
              have hlt := Nat.lt_of_lt_of_le l0 hb5.size
              replace hv := (hb6.cell (p := ⟨by0, bo + k, none⟩) hl).trans hv
              have hs : ShapeT 24 2 BG w6 := ⟨_, rfl, gr⟩
              have hq : ∀ b off, some (⟨by0, bo, none⟩ : Addr) = some ⟨b, off, none⟩ → b ≠ BG := fun b off e => by injection e with e; injection e with e; omega
              have hst : (∃ (p : Option Addr) (c n : Nat), (n : Int) = ((k : Int) - 1) + 1 ∧ TBox 24 BG #[.int .i64 K, .slice p n c] ((w6.setCell ⟨BG, 0, none⟩ (.int .i64 K)).setCell ⟨BG, 1, none⟩ (.slice p2 k c2)) ∧ GrAt ((w6.setCell ⟨BG, 0, none⟩ (.int .i64 K)).setCell ⟨BG, 1, none⟩ (.slice p2 k c2)) p c n y ∧ NoTag w.heap.size 24 n p ((w6.setCell ⟨BG, 0, none⟩ (.int .i64 K)).setCell ⟨BG, 1, none⟩ (.slice p2 k c2))) ∧ Ints .u16 ((w6.setCell ⟨BG, 0, none⟩ (.int .i64 K)).setCell ⟨BG, 1, none⟩ (.slice p2 k c2)) (some ⟨by0, bo, none⟩) j y ∧ Below w.heap.size w ((w6.setCell ⟨BG, 0, none⟩ (.int .i64 K)).setCell ⟨BG, 1, none⟩ (.slice p2 k c2)) :=
                ⟨⟨p2, c2, k, by omega, gr.stores _ _, hA.putsL hTA hs hwG [.int .i64 K, .slice p2 k c2], hTA.puts hs hwG [.int .i64 K, .slice p2 k c2]⟩, (hyr.setCell hq _ _).setCell hq _ _, (hbw.setCell hwG _).setCell hwG _⟩
              have lG := gr.lt
              have lH := gH.lt
              have z0 := gr.cell 0
              have z1 := gr.cell 1
              have e0 := gr.frozen 0
              have e1 := gr.frozen 1
              have h0 := gH.cell 0
              have h1 := gH.cell 1
              simp only [List.getElem?_toArray, List.getElem?_cons_zero, List.getElem?_cons_succ] at z0 z1 h0 h1
              clear hw6 hb56 hb6 gr hyr hbw hs hq hA hTA x0 x1 f0 f1 gH hb5 hP hbr
              generalize w5.heap.size = BH at *
              go_wp2
              go_roundg ((k : Int) - 1 + 1).toNat
              case measure => omega
              case rel => exact ⟨(k : Int) - 1, by omega, by omega, rfl, by go_num, hst⟩
            · obtain rfl : i = -1 := by omega
              obtain rfl : n1 = 0 := by omega
              have hP := lpop_any K 0 p1 c1 y wr (by omega) hG w.heap.size hT
              rw [show gqX 0 y = 0 from rfl, show 0 - 1 = 0 from rfl, show decide (0 < 0) = false by simp] at hP
              go_wp2_with (first
                | (go_at_call 14; refine Calls.mono hP ?_; rintro e w5 ⟨p2, c2, rfl, hA, hTA, hb5⟩)
              )
              go_returns
              exact ⟨rfl, bjoin ((Below.refl w5.heap.size w5).alloc (Nat.le_refl _) _) (bjoin hb5 hbr)⟩
namespace GreyLast
theorem own : ownKnob Try.prog.godebug = none := by kernel_rfl
set_option maxRecDepth 100000 in
theorem lifted (os : Os) (started : os.Started) (H : Type) (enc : TypeId × Value → H) :
    ReturnsInHanded {} Try.checked os 4 .any (Rows.greyLastSpec.pre6 enc Try.prog Try.f4 Rows.greyLastRow.domain false) (Rows.greyLastSpec.post enc Try.prog Try.f4 false true false false) := by
  refine law_lifted (C := Try.checked) own started (by kernel_rfl) Try.func4 (by kernel_rfl) (of_decide_eq_true (by kernel_rfl)) rfl
    (fun ds hd => by have hd' : ds.length = 2 := hd; match ds, hd' with | [d0, d1], _ => rfl) rfl Try.underlying4
    (ChangeSpec.witness6 (enc := enc) (C := Try.checked) false ⟨#[], #[.int .u8 0, .slice none 0 0], []⟩ 8 (by kernel_rfl) (by kernel_rfl) (by kernel_rfl) (by kernel_rfl)) ?_
  intro W base args ds p hval hA hlt
  rw [Try.params4] at hA hval
  obtain ⟨v0, v1, d0, d1, p0, p1, rfl, rfl, rfl, h0, h1⟩ := trodAll_two hA
  obtain ⟨a0, rfl, ha0⟩ := open_u8 Try.underlying5 (hval 0 5 v0 rfl rfl) h0
  obtain ⟨q1, n1, cap1, z1, rfl, hn1, hz1, hq1⟩ := open_slice_ints Try.underlying34 Try.underlying35 (by kernel_rfl) (hval 1 34 v1 rfl rfl) h1
  exact last13_walk a0 q1 n1 cap1 z1 W (by omega) (by omega) hn1 hz1

/-- The statement. -/
theorem holds : Rows.GreyLastSaid :=
  OpenClaim.holds_of_wide 4 Try.f4 rfl rfl rfl rfl rfl rfl rfl ⟨rfl, rfl, rfl, rfl, rfl⟩ rfl rfl rfl rfl rfl (by kernel_rfl) Try.func4 (by kernel_rfl)
    (of_decide_eq_true (by kernel_rfl)) (by unfold Func.isWrapper; first | (rw [if_pos (by decide +kernel)]; kernel_rfl) | (rw [if_neg (by decide +kernel)]; exact ⟨rfl, rfl⟩))
    (fun os started H enc _ => lifted os started H enc)
#print axioms holds
end GreyLast
end Go.Proofs.Ytffcekjkgeiccaa
