/- Contracts of the reference's beginning of a cycle (chapter 18): what registers hold, what mutators hold, what pending writes take away. -/
import Derived.Test.YtmbgodncagjncaaDoorB23
import Derived.Test.YtmbgodncagjncaaDoorB32
import Derived.Test.YtmbgodncagjncaaDoorB11
import Derived.Test.YtmbgodncagjncaaDoorB07
namespace Go.Proofs.YtmbgodncagjncaaDoor
set_option linter.unusedSimpArgs false
set_option linter.unusedVariables false
open Go.ChangeShapes Go.WideShapes Go.ChangeAt Go.RowKit Go.Joins

theorem regL_wf {m : Mu} (h : m.wf) : ∀ v ∈ regL m, v.wf := fun v hv => by
  unfold regL at hv
  rcases List.mem_append.1 hv with hv | hv
  · split at hv
    · rw [List.mem_singleton.1 hv]; exact ⟨(show (Lit.int .i64 2).wf = true by decide), wf_i64_of h.o.1 h.o.2⟩
    · cases hv
  · split at hv
    · rw [List.mem_singleton.1 hv]; exact h.v
    · cases hv
theorem mu_cells {T g : Nat} {x0 x1 x2 x3 x4 x5 x6 x7 x8 x9 x10 x11 x12 : Value} {w : World} (h : TBox T g #[x0, x1, x2, x3, x4, x5, x6, x7, x8, x9, x10, x11, x12] w) :
    g < w.heap.size ∧ w.cell? ⟨g, 0, none⟩ = some x0 ∧ w.cell? ⟨g, 1, none⟩ = some x1 ∧ w.cell? ⟨g, 2, none⟩ = some x2 ∧ w.cell? ⟨g, 3, none⟩ = some x3 ∧ w.cell? ⟨g, 4, none⟩ = some x4 ∧ w.cell? ⟨g, 5, none⟩ = some x5 ∧ w.cell? ⟨g, 6, none⟩ = some x6 ∧ w.cell? ⟨g, 7, none⟩ = some x7 ∧ w.cell? ⟨g, 8, none⟩ = some x8 ∧ w.cell? ⟨g, 9, none⟩ = some x9 ∧ w.cell? ⟨g, 10, none⟩ = some x10 ∧ w.cell? ⟨g, 11, none⟩ = some x11 ∧ w.cell? ⟨g, 12, none⟩ = some x12 :=
  ⟨h.lt, h.cell 0, h.cell 1, h.cell 2, h.cell 3, h.cell 4, h.cell 5, h.cell 6, h.cell 7, h.cell 8, h.cell 9, h.cell 10, h.cell 11, h.cell 12⟩
set_option maxRecDepth 20000 in
set_option maxHeartbeats 4000000 in
theorem rregs18_any (m : Mu) (p : Option Addr) (c : Nat) (w : World) :
    Calls Tryd.prog 54 #[.agg #[.slice p m.n c, .int .i64 m.s, .int .i64 m.ok, .int .i64 m.oa, .int .i64 m.ob, .int .i64 m.oc, .int .i64 m.o, .int .i64 m.v.k, .int .i64 m.v.n, .int .i64 m.c0, .int .i64 m.c1, .int .i64 m.c2, .int .i64 m.c3]] w fun e w' => ∃ p' c', e = .returned (.slice p' (regL m).length c') ∧ w'.ownsRow w.heap.size 46 2 (.slice p' (regL m).length c') (regL m).length (LV (regL m)) ∧ Below w.heap.size w w' := by
  obtain ⟨w0, hw0⟩ : ∃ w0, w0 = w.alloc (.cells #[.slice p m.n c, .int .i64 m.s, .int .i64 m.ok, .int .i64 m.oa, .int .i64 m.ob, .int .i64 m.oc, .int .i64 m.o, .int .i64 m.v.k, .int .i64 m.v.n, .int .i64 m.c0, .int .i64 m.c1, .int .i64 m.c2, .int .i64 m.c3] 49) := ⟨_, rfl⟩
  have gM : TBox 49 w.heap.size #[.slice p m.n c, .int .i64 m.s, .int .i64 m.ok, .int .i64 m.oa, .int .i64 m.ob, .int .i64 m.oc, .int .i64 m.o, .int .i64 m.v.k, .int .i64 m.v.n, .int .i64 m.c0, .int .i64 m.c1, .int .i64 m.c2, .int .i64 m.c3] w0 := by rw [hw0]; exact TBox.new _ _ _
  have hb0 : Below w.heap.size w w0 := by rw [hw0]; exact (Below.refl _ _).alloc (Nat.le_refl _) _
  obtain ⟨l0, x0, x1, x2, x3, x4, x5, x6, x7, x8, x9, x10, x11, x12⟩ := mu_cells gM
  obtain ⟨t0, hq0, hq1, hq2, hq3⟩ := info_parts val_info
  have hz0 : w.heap.size ≤ w0.heap.size := hb0.size
  obtain ⟨v, hv⟩ : ∃ v, v = m.v := ⟨_, rfl⟩
  obtain ⟨vk, vn⟩ := v
  have ek : m.v.k = vk := by rw [← hv]
  have en : m.v.n = vn := by rw [← hv]
  have hR : regL m = (if m.s = 2 ∨ m.s = 4 then [⟨2, m.o⟩] else []) ++ if m.s = 3 ∨ m.s = 4 then [⟨vk, vn⟩] else [] := by unfold regL; rw [hv]
  rw [ek] at x7
  rw [en] at x8
  rw [hR]
  clear hR
  have hcs : (m.s = 2 ∧ (m.s == 2) = true ∧ (m.s == 3) = false ∧ (m.s == 4) = false) ∨ (m.s = 3 ∧ (m.s == 2) = false ∧ (m.s == 3) = true ∧ (m.s == 4) = false) ∨ (m.s = 4 ∧ (m.s == 2) = false ∧ (m.s == 3) = false ∧ (m.s == 4) = true) ∨ ((¬ (m.s = 2 ∨ m.s = 4) ∧ ¬ (m.s = 3 ∨ m.s = 4)) ∧ (m.s == 2) = false ∧ (m.s == 3) = false ∧ (m.s == 4) = false) := by
    by_cases h2 : m.s = 2
    · left; simp [h2]
    · by_cases h3 : m.s = 3
      · right; left; simp [h3]
      · by_cases h4 : m.s = 4
        · right; right; left; simp [h4]
        · right; right; right; simp [h2, h3, h4]
  rcases hcs with ⟨hs, d2, d3, d4⟩ | ⟨hs, d2, d3, d4⟩ | ⟨hs, d2, d3, d4⟩ | ⟨⟨hn1, hn2⟩, d2, d3, d4⟩
  · have e1 : (if m.s = 2 ∨ m.s = 4 then [(⟨2, m.o⟩ : Vl)] else []) ++ (if m.s = 3 ∨ m.s = 4 then [⟨vk, vn⟩] else []) = [⟨2, m.o⟩] := by rw [hs]; rfl
    rw [e1]
    clear e1 hs
    clear ek en hv
    go_enter Tryd.func54, Tryd.ntmps54
    go_upto_region 1 with fail
    rw [← hw0]
    clear hw0 gM
    go_upto_region 4 with (first
      | (at_builtin; refine wpList_append_own _ rfl (.tmp 12) (.tmp 16) 35 rfl w.heap.size 46 t0 (.agg #[.int .i64 0, .int .i64 0]) 2 16 Tryd.underlying35 hq0 hq1 hq2 hq3 rfl (by decide) _ 0 [] rfl (World.ownsRow_nil _ _ _ _) ⟨w0.heap.size, 0, none⟩ 1 1 [.int .i64 2, .int .i64 m.o] rfl rfl (two_new _ _ _ _) (by simp [Value.oneCell']) (by simp only [maxLen]; omega) (by omega) (by simp; omega) ?_; intro ov w8 hown hgrow _)
    )
    have hb8 := ((hb0.alloc hz0 (.cells #[.int .i64 2, .int .i64 m.o] 46)).grown hgrow (by simp; omega) (fun k hk => by cases hk))
    have hb08 : Below w0.heap.size w0 w8 := ((Below.refl _ _).alloc (Nat.le_refl _) (.cells #[.int .i64 2, .int .i64 m.o] 46)).grown hgrow (by simp) (fun k hk => by cases hk)
    have x1' := (hb08.cell (p := ⟨w.heap.size, 1, none⟩) l0).trans x1
    have l8 := Nat.lt_of_lt_of_le l0 hb08.size
    clear x0 x1 x2 x3 x4 x5 x6 x7 x8 x9 x10 x11 x12 l0 hgrow hb08
    obtain ⟨pp, cc, rfl, -⟩ := owned_new hown
    go_wp2
    go_returns
    exact ⟨pp, cc, rfl, hown, hb8⟩
  · have e1 : (if m.s = 2 ∨ m.s = 4 then [(⟨2, m.o⟩ : Vl)] else []) ++ (if m.s = 3 ∨ m.s = 4 then [⟨vk, vn⟩] else []) = [⟨vk, vn⟩] := by rw [hs]; rfl
    rw [e1]
    clear e1 hs
    clear ek en hv
    go_enter Tryd.func54, Tryd.ntmps54
    go_upto_region 1 with fail
    rw [← hw0]
    clear hw0 gM
    go_wp2_with (first
      | (at_builtin; refine wpList_append_own _ rfl (.tmp 26) (.tmp 29) 35 rfl w.heap.size 46 t0 (.agg #[.int .i64 0, .int .i64 0]) 2 16 Tryd.underlying35 hq0 hq1 hq2 hq3 rfl (by decide) _ 0 [] rfl (World.ownsRow_nil _ _ _ _) ⟨w0.heap.size, 0, none⟩ 1 1 [.int .i64 vk, .int .i64 vn] rfl rfl (two_new _ _ _ _) (by simp [Value.oneCell']) (by simp only [maxLen]; omega) (by omega) (by simp; omega) ?_; intro ov w8 hown hgrow _)
    )
    have hb8 := ((hb0.alloc hz0 (.cells #[.int .i64 vk, .int .i64 vn] 46)).grown hgrow (by simp; omega) (fun k hk => by cases hk))
    obtain ⟨pp, cc, rfl, -⟩ := owned_new hown
    go_returns
    exact ⟨pp, cc, rfl, hown, hb8⟩
  · have e1 : (if m.s = 2 ∨ m.s = 4 then [(⟨2, m.o⟩ : Vl)] else []) ++ (if m.s = 3 ∨ m.s = 4 then [⟨vk, vn⟩] else []) = [⟨2, m.o⟩, ⟨vk, vn⟩] := by rw [hs]; rfl
    rw [e1]
    clear e1 hs
    clear ek en hv
    go_enter Tryd.func54, Tryd.ntmps54
    go_upto_region 1 with fail
    rw [← hw0]
    clear hw0 gM
    go_upto_region 4 with (first
      | (at_builtin; refine wpList_append_own _ rfl (.tmp 12) (.tmp 16) 35 rfl w.heap.size 46 t0 (.agg #[.int .i64 0, .int .i64 0]) 2 16 Tryd.underlying35 hq0 hq1 hq2 hq3 rfl (by decide) _ 0 [] rfl (World.ownsRow_nil _ _ _ _) ⟨w0.heap.size, 0, none⟩ 1 1 [.int .i64 2, .int .i64 m.o] rfl rfl (two_new _ _ _ _) (by simp [Value.oneCell']) (by simp only [maxLen]; omega) (by omega) (by simp; omega) ?_; intro ov w8 hown hgrow _)
    )
    have hb8 := ((hb0.alloc hz0 (.cells #[.int .i64 2, .int .i64 m.o] 46)).grown hgrow (by simp; omega) (fun k hk => by cases hk))
    have hb08 : Below w0.heap.size w0 w8 := ((Below.refl _ _).alloc (Nat.le_refl _) (.cells #[.int .i64 2, .int .i64 m.o] 46)).grown hgrow (by simp) (fun k hk => by cases hk)
    have hz8 := hb8.size
    have x1' := (hb08.cell (p := ⟨w.heap.size, 1, none⟩) l0).trans x1
    have x7' := (hb08.cell (p := ⟨w.heap.size, 7, none⟩) l0).trans x7
    have x8' := (hb08.cell (p := ⟨w.heap.size, 8, none⟩) l0).trans x8
    have l8 := Nat.lt_of_lt_of_le l0 hb08.size
    clear x0 x1 x2 x3 x4 x5 x6 x7 x8 x9 x10 x11 x12 l0 hgrow hb08
    go_wp2_with (first
      | (at_builtin; refine wpList_append_own _ rfl (.tmp 26) (.tmp 29) 35 rfl w.heap.size 46 t0 (.agg #[.int .i64 0, .int .i64 0]) 2 16 Tryd.underlying35 hq0 hq1 hq2 hq3 rfl (by decide) _ _ _ rfl (hown.alloc _) ⟨w8.heap.size, 0, none⟩ 1 1 [.int .i64 vk, .int .i64 vn] rfl rfl (two_new _ _ _ _) (by simp [Value.oneCell']) (by simp only [maxLen]; omega) (by omega) (by simp; omega) ?_; intro ov9 w9 hown9 hgrow9 _)
    )
    have hb9 := ((hb8.alloc hz8 (.cells #[.int .i64 vk, .int .i64 vn] 46)).grown hgrow9 (by simp; omega) (fun k hk => (hown.lt k hk).1))
    obtain ⟨pp, cc, rfl, -⟩ := owned_new hown9
    go_returns
    exact ⟨pp, cc, rfl, hown9, hb9⟩
  · have e1 : (if m.s = 2 ∨ m.s = 4 then [(⟨2, m.o⟩ : Vl)] else []) ++ (if m.s = 3 ∨ m.s = 4 then [⟨vk, vn⟩] else []) = [] := by rw [if_neg hn1, if_neg hn2]; rfl
    rw [e1]
    clear e1 hn1 hn2
    clear ek en hv
    go_enter Tryd.func54, Tryd.ntmps54
    go_upto_region 1 with fail
    rw [← hw0]
    clear hw0 gM
    go_wp2
    go_returns
    exact ⟨none, 0, rfl, World.ownsRow_nil _ _ _ _, hb0⟩
set_option maxRecDepth 20000 in
set_option maxHeartbeats 4000000 in
theorem rheld18_any (n : Nat) (z : Nat → Mu) (p : Option Addr) (c : Nat) (w : World) (hz : RAt MuC 13 w p c n z) (hn : n ≤ 10) (hst : ∀ i, i < n → (z i).n ≤ 20) :
    Calls Tryd.prog 32 #[.slice p n c] w fun e w' => ∃ p' c', e = .returned (.slice p' (heldL z n).length c') ∧ w'.ownsRow w.heap.size 46 2 (.slice p' (heldL z n).length c') (heldL z n).length (LV (heldL z n)) ∧ Below w.heap.size w w' := by
  obtain ⟨t0, hq0, hq1, hq2, hq3⟩ := info_parts val_info
  go_enter Tryd.func32, Tryd.ntmps32
  go_wp2
  go_loopg [3, 4] n (fun g ov iv wr => ∃ j : Nat, j ≤ n ∧ g = n - j ∧ iv = .int .i64 j ∧ wr.ownsRow w.heap.size 46 2 ov (heldL z j).length (LV (heldL z j)) ∧ Below w.heap.size w wr)
  case atStart => exact ⟨0, by omega, by omega, rfl, World.ownsRow_nil _ _ _ _, Below.refl _ _⟩
  case round =>
    obtain ⟨j, jh, rfl, rfl, hown, hbw⟩ := hrel
    have hsz := hbw.size
    by_cases hj : j < n
    · obtain ⟨bb, off, L, rfl, hl, -, hc, ps, cs, rfl, hv, hwf⟩ := hz.row j hj
      have hcl : ∀ W, Below w.heap.size w W → bb < W.heap.size ∧ ∀ k u, ((z j).cells ps cs)[k]? = some u → W.cell? ⟨bb, off + j * 13 + k, none⟩ = some u := fun W hW => ⟨Nat.lt_of_lt_of_le hl hW.size, fun k u hk => (hW.cell (p := ⟨bb, off + j * 13 + k, none⟩) hl).trans (hc k u hk)⟩
      have hH : heldL z (j + 1) = heldL z j ++ stkL (z j) ++ regL (z j) := rfl
      have hl1 := heldL_len (n := j) fun i hi => hst i (by omega)
      have hl2 : (stkL (z j)).length = (z j).n := by simp [stkL]
      have hl3 := regL_len (z j)
      have h20 := hst j hj
      have hLs : LV (stkL (z j)) = vlVals (z j).n (z j).st := LV_range _ _
      have hrv := hv.row
      have hpn := hv.pnil
      have hRw := regL_wf hwf
      have hRg := fun W => rregs18_any (z j) ps cs W
      clear hc hv
      generalize hHn : heldL z (j + 1) = Q at *
      generalize heldL z j = A at *
      generalize regL (z j) = R at *
      generalize stkL (z j) = S at *
      obtain ⟨hlt, hcw⟩ := hcl wr hbw
      have v0 := hcw 0 _ rfl
      rw [Nat.add_zero] at v0
      clear hlt hcw
      have hA220 : A.length ≤ 220 := by omega
      have hltb : bb < wr.heap.size := Nat.lt_of_lt_of_le hl hsz
      go_upto_region 6 with (first
        | (at_builtin; refine wpList_append_row rfl (.tmp 11) (.tmp 16) 35 rfl w.heap.size 46 t0 (.agg #[.int .i64 0, .int .i64 0]) 2 16 Tryd.underlying35 hq0 hq1 hq2 hq3 rfl (by decide) _ _ _ rfl hown ps (z j).n cs (vlVals (z j).n (z j).st) rfl (by simp [vlVals_length]) (hrv.below hbw).cells (vlVals_one _ _) hpn (by simp only [maxLen]; omega) (by omega) hsz ?_; intro ov5 w5 hown5 hgrow5)
      )
      have hb5 : Below w.heap.size w w5 := hbw.grown hgrow5 hsz (fun k hk => (hown.lt k hk).1)
      have hown6 : w5.ownsRow w.heap.size 46 2 ov5 (A ++ S).length (LV (A ++ S)) := by
        rw [← LV_append, hLs, List.length_append, hl2]
        exact hown5
      have hz5 := hb5.size
      have hAS : (A ++ S).length ≤ 240 := by rw [List.length_append, hl2]; omega
      clear hown5 hgrow5 hown hrv hpn hLs hl2 v0 hbw hsz hltb
      generalize A ++ S = B at *
      obtain ⟨hlt5, hc5⟩ := hcl w5 hb5
      have v0 := hc5 0 _ rfl
      have v1 := hc5 1 _ rfl
      have v2 := hc5 2 _ rfl
      have v3 := hc5 3 _ rfl
      have v4 := hc5 4 _ rfl
      have v5 := hc5 5 _ rfl
      have v6 := hc5 6 _ rfl
      have v7 := hc5 7 _ rfl
      have v8 := hc5 8 _ rfl
      have v9 := hc5 9 _ rfl
      have v10 := hc5 10 _ rfl
      have v11 := hc5 11 _ rfl
      have v12 := hc5 12 _ rfl
      rw [Nat.add_zero] at v0
      clear hc5 hcl
      go_wp2_with (first
    | (go_at_call 54; refine Calls.mono (hRg _) ?_; rintro e w' ⟨pr, cr, rfl, hownR, hb⟩; obtain ⟨hc, hf, hb, hz⟩ := bstep hb (w := w5) (by go_grown); try simp only [World.size_alloc, World.size_setCell, World.size_drew] at hc hf hz)
        | (at_builtin; refine wpList_append_row rfl (.tmp 18) (.tmp 23) 35 rfl w.heap.size 46 t0 (.agg #[.int .i64 0, .int .i64 0]) 2 16 Tryd.underlying35 hq0 hq1 hq2 hq3 rfl (by decide) _ _ _ rfl (owned_below hown6 hb) pr R.length cr (LV R) rfl (by simp [LV_length]) (va_list hownR (by simp only [maxLen]; omega) hRw).row.cells (LV_one _) (va_list hownR (by simp only [maxLen]; omega) hRw).pnil (by simp only [maxLen]; omega) (by omega) (Nat.le_trans hz5 hb.size) ?_; intro ov9 w9 hown9 hgrow9)
      )
      have hb9 : Below w.heap.size w w9 := (bjoin hb hb5).grown hgrow9 (bjoin hb hb5).size (fun k hk => (hown6.lt k hk).1)
      rw [LV_append, ← List.length_append, ← hH] at hown9
      go_roundg (n - (j + 1))
      case measure => omega
      case rel => exact ⟨j + 1, by omega, rfl, by go_num, by rw [hHn]; exact hown9, hb9⟩
    · obtain rfl : j = n := by omega
      obtain ⟨pp, cc, rfl, -⟩ := owned_new hown
      clear hst
      go_wp2
      go_returns
      exact ⟨pp, cc, rfl, hown, hbw⟩
set_option maxRecDepth 20000 in
set_option maxHeartbeats 8000000 in
theorem rpend18_any (p : Option Addr) (c : Nat) (q : Option Addr) (d : Nat) (h : Hp) (n : Nat) (z : Nat → Mu) (pm : Option Addr) (cm : Nat) (w : World) (hh : HpAt w p c q d h) (hF : formB h = true) (hz : RAt MuC 13 w pm cm n z) (hn : n ≤ 10) :
    Calls Tryd.prog 33 #[.agg #[.slice p h.n c, .slice q h.m d, .bool h.b], .slice pm n cm] w fun e w' => ∃ p' c', e = .returned (.slice p' (pendL h z n).length c') ∧ w'.ownsRow w.heap.size 46 2 (.slice p' (pendL h z n).length c') (pendL h z n).length (LV (pendL h z n)) ∧ Below w.heap.size w w' := by
  obtain ⟨w0, hw0⟩ : ∃ w0, w0 = w.alloc (.cells #[.slice p h.n c, .slice q h.m d, .bool h.b] 25) := ⟨_, rfl⟩
  have gH : TBox 25 w.heap.size #[.slice p h.n c, .slice q h.m d, .bool h.b] w0 := by rw [hw0]; exact TBox.new _ _ _
  have hb0 : Below w.heap.size w w0 := by rw [hw0]; exact (Below.refl _ _).alloc (Nat.le_refl _) _
  obtain ⟨t0, hq0, hq1, hq2, hq3⟩ := info_parts val_info
  replace hh := hh.below hb0
  have hz0 : w.heap.size ≤ w0.heap.size := hb0.size
  go_enter Tryd.func33, Tryd.ntmps33
  go_upto_region 1 with fail
  rw [← hw0]
  clear hw0
  go_wp2
  go_loopg [5, 6] n (fun g ov iv wr => ∃ j : Nat, j ≤ n ∧ g = n - j ∧ iv = .int .i64 j ∧ wr.ownsRow w0.heap.size 46 2 ov (pendL h z j).length (LV (pendL h z j)) ∧ Below w0.heap.size w0 wr)
  case atStart => exact ⟨0, by omega, by omega, rfl, World.ownsRow_nil _ _ _ _, Below.refl _ _⟩
  case round =>
    obtain ⟨j, jh, rfl, rfl, hown, hbw⟩ := hrel
    have hsz := hbw.size
    by_cases hj : j < n
    · obtain ⟨bb, off, L, rfl, hl, -, hc, ps, cs, rfl, hv, hwf⟩ := (hz.below muC_below hb0).row j hj
      have hcw : ∀ k u, ((z j).cells ps cs)[k]? = some u → wr.cell? ⟨bb, off + j * 13 + k, none⟩ = some u := fun k u hk => (hbw.cell (p := ⟨bb, off + j * 13 + k, none⟩) hl).trans (hc k u hk)
      have hltb : bb < wr.heap.size := Nat.lt_of_lt_of_le hl hsz
      have v1 := hcw 1 _ rfl
      have v4 := hcw 4 _ rfl
      have v6 := hcw 6 _ rfl
      have hl1 := pendL_len h z j
      have hP : pendL h z (j + 1) = if (z j).s = 4 then pendL h z j ++ [⟨getK (fdX h (z j).o (z j).ob), getN (fdX h (z j).o (z j).ob)⟩] else pendL h z j := rfl
      have hFd := fun W (hW : Below wr.heap.size wr W) => rfield8_any p c q d h (z j).o (z j).ob W (hh.below (bjoin hW hbw)) hF
      have gHr := gH.below hbw
      generalize hPn : pendL h z (j + 1) = Q at *
      generalize pendL h z j = A at *
      generalize fdE h (z j).o (z j).ob = E at *
      generalize getK (fdX h (z j).o (z j).ob) = K at *
      generalize getN (fdX h (z j).o (z j).ob) = NN at *
      clear hc hcw hv
      by_cases hs : (z j).s = 4
      · rw [if_pos hs] at hP
        have hs' : ((z j).s == 4) = true := by simp [hs]
        have hsH : Hid ((z j).s = 4) := hs
        rw [hs] at v1
        clear hs hs'
        go_upto_region 6 with fail
        refine wp_late (ds := [some 22, some 23, some 24, some 25, some 26, some 27, some 28, some 29, some 30, some 31, some 32, some 33, some 34, some 21, some 35, some 36, some 7, none, some 8]) (ts := [22, 23, 24, 25, 26, 27, 28, 29, 30, 31, 32, 33, 34, 21, 35, 36, 7, 8]) (pv := [(fun v _ => v = .agg #[.slice p h.n c, .slice q h.m d, .bool h.b]), (fun v _ => v = .slice (some ⟨bb, off, none⟩) n cm), (fun v _ => v = .int .i64 (j : Int)), (fun v _ => v = .pointer (some ⟨bb, off + j * 13, none⟩)), (fun v _ => v = .pointer (some ⟨bb, off + j * 13 + 6, none⟩)), (fun v _ => v = .int .i64 (z j).o), (fun v _ => v = .slice (some ⟨bb, off, none⟩) n cm), (fun v _ => v = .int .i64 (j : Int)), (fun v _ => v = .pointer (some ⟨bb, off + j * 13, none⟩)), (fun v _ => v = .pointer (some ⟨bb, off + j * 13 + 2, none⟩)), (fun v _ => v = .pointer (some ⟨bb, off + j * 13 + 4, none⟩)), (fun v _ => v = .int .i64 (z j).ob), (fun v _ => v = .tuple #[.agg #[.int .i64 K, .int .i64 NN], .int .i64 E]), (fun v _ => v = .tuple #[.agg #[.int .i64 K, .int .i64 NN], .int .i64 E]), (fun v _ => v = .agg #[.int .i64 K, .int .i64 NN]), (fun v _ => v = .int .i64 E), (fun _ _ => True), (fun _ _ => True), (fun v _ => v = .int .i64 E)]) (skip := fun i => ([] : List Nat).contains i) (ia := 16) (is := 17) (k := 37) (Shape := (ShapeT 46 2)) (Full := (fun g w => TBox 46 g #[.int .i64 K, .int .i64 NN] w)) (by kernel_rfl) (by kernel_rfl) rfl rfl (by decide) (by decide) (by simp) ?_ (by decide) shapeT_below (fun _ _ _ h hb => TBox.below h hb) ?_ ?_ ?_ ?_
        · exact .inr ⟨⟨_, rfl⟩, rfl, _, rfl, (by first | rfl | decide | simp [Region.binds]), by decide, rfl⟩
        · exact ⟨fun _ _ _ h _ => h, fun _ _ _ h _ => h, fun _ _ _ h _ => h, fun _ _ _ h _ => h, fun _ _ _ h _ => h, fun _ _ _ h _ => h, fun _ _ _ h _ => h, fun _ _ _ h _ => h, fun _ _ _ h _ => h, fun _ _ _ h _ => h, fun _ _ _ h _ => h, fun _ _ _ h _ => h, fun _ _ _ h _ => h, fun _ _ _ h _ => h, fun _ _ _ h _ => h, fun _ _ _ h _ => h, fun _ _ _ h _ => h, fun _ _ _ h _ => h, fun _ _ _ h _ => h, trivial⟩
        · exact ⟨rfl, rfl, rfl, rfl, rfl, rfl, rfl, rfl, rfl, rfl, rfl, rfl, rfl, rfl, rfl, rfl, rfl, rfl, rfl, trivial⟩
        · refine ⟨?_, ?_, ?_, ?_, ?_, ?_, ?_, ?_, ?_, ?_, ?_, ?_, ?_, ?_, ?_, ?_, ?_, ?_, ?_, trivial⟩
          · intro _ a' w' hb' hs hd hn Kc hK
            have f2 : a'.tmps[2]?.getD undef = .pointer (some ⟨w.heap.size, 0, none⟩) := (hs 2 (by decide)).trans rfl
            clear hs hd hn
            rw [if_neg (by decide), if_neg (by decide)] at hK
            have v4' := (hb'.cell (p := ⟨bb, off + j * 13 + 4, none⟩) hltb).trans v4
            have v6' := (hb'.cell (p := ⟨bb, off + j * 13 + 6, none⟩) hltb).trans v6
            have gH' := gHr.below hb'
            obtain ⟨lh, h0', h1', h2'⟩ : w.heap.size < w'.heap.size ∧ w'.cell? ⟨w.heap.size, 0, none⟩ = some (.slice p h.n c) ∧ w'.cell? ⟨w.heap.size, 1, none⟩ = some (.slice q h.m d) ∧ w'.cell? ⟨w.heap.size, 2, none⟩ = some (.bool h.b) := ⟨gH'.lt, gH'.cell 0, gH'.cell 1, gH'.cell 2⟩
            clear gH'
            unfold Oper.wp
            go_simp
            try go_bits
            exact hK _ _ (Below.refl _ _) (by first | rfl | (show Value.int _ _ = Value.int _ _; go_num; done) | (simp [valOf, *]; done) | (simp [valOf]; omega))
          · intro _ a' w' hb' hs hd hn Kc hK
            have f1 : a'.tmps[1]?.getD undef = .slice (some ⟨bb, off, none⟩) n cm := (hs 1 (by decide)).trans rfl
            clear hs hd hn
            rw [if_neg (by decide), if_neg (by decide)] at hK
            have v4' := (hb'.cell (p := ⟨bb, off + j * 13 + 4, none⟩) hltb).trans v4
            have v6' := (hb'.cell (p := ⟨bb, off + j * 13 + 6, none⟩) hltb).trans v6
            have gH' := gHr.below hb'
            obtain ⟨lh, h0', h1', h2'⟩ : w.heap.size < w'.heap.size ∧ w'.cell? ⟨w.heap.size, 0, none⟩ = some (.slice p h.n c) ∧ w'.cell? ⟨w.heap.size, 1, none⟩ = some (.slice q h.m d) ∧ w'.cell? ⟨w.heap.size, 2, none⟩ = some (.bool h.b) := ⟨gH'.lt, gH'.cell 0, gH'.cell 1, gH'.cell 2⟩
            clear gH'
            unfold Oper.wp
            go_simp
            try go_bits
            exact hK _ _ (Below.refl _ _) (by first | rfl | (show Value.int _ _ = Value.int _ _; go_num; done) | (simp [valOf, *]; done) | (simp [valOf]; omega))
          · intro _ a' w' hb' hs hd hn Kc hK
            have f6 : a'.tmps[6]?.getD undef = .int .i64 (j : Int) := (hs 6 (by decide)).trans rfl
            clear hs hd hn
            rw [if_neg (by decide), if_neg (by decide)] at hK
            have v4' := (hb'.cell (p := ⟨bb, off + j * 13 + 4, none⟩) hltb).trans v4
            have v6' := (hb'.cell (p := ⟨bb, off + j * 13 + 6, none⟩) hltb).trans v6
            have gH' := gHr.below hb'
            obtain ⟨lh, h0', h1', h2'⟩ : w.heap.size < w'.heap.size ∧ w'.cell? ⟨w.heap.size, 0, none⟩ = some (.slice p h.n c) ∧ w'.cell? ⟨w.heap.size, 1, none⟩ = some (.slice q h.m d) ∧ w'.cell? ⟨w.heap.size, 2, none⟩ = some (.bool h.b) := ⟨gH'.lt, gH'.cell 0, gH'.cell 1, gH'.cell 2⟩
            clear gH'
            unfold Oper.wp
            go_simp
            try go_bits
            exact hK _ _ (Below.refl _ _) (by first | rfl | (show Value.int _ _ = Value.int _ _; go_num; done) | (simp [valOf, *]; done) | (simp [valOf]; omega))
          · intro _ a' w' hb' hs hd hn Kc hK
            have f23 : a'.tmps[23]?.getD undef = .slice (some ⟨bb, off, none⟩) n cm := hd 1 23 (by first | rfl | decide | simp [Region.binds]) rfl (by decide) (by decide) rfl
            have f24 : a'.tmps[24]?.getD undef = .int .i64 (j : Int) := hd 2 24 (by first | rfl | decide | simp [Region.binds]) rfl (by decide) (by decide) rfl
            clear hs hd hn
            rw [if_neg (by decide), if_neg (by decide)] at hK
            have v4' := (hb'.cell (p := ⟨bb, off + j * 13 + 4, none⟩) hltb).trans v4
            have v6' := (hb'.cell (p := ⟨bb, off + j * 13 + 6, none⟩) hltb).trans v6
            have gH' := gHr.below hb'
            obtain ⟨lh, h0', h1', h2'⟩ : w.heap.size < w'.heap.size ∧ w'.cell? ⟨w.heap.size, 0, none⟩ = some (.slice p h.n c) ∧ w'.cell? ⟨w.heap.size, 1, none⟩ = some (.slice q h.m d) ∧ w'.cell? ⟨w.heap.size, 2, none⟩ = some (.bool h.b) := ⟨gH'.lt, gH'.cell 0, gH'.cell 1, gH'.cell 2⟩
            clear gH'
            unfold Oper.wp
            go_simp
            try go_bits
            exact hK _ _ (Below.refl _ _) (by first | rfl | (show Value.int _ _ = Value.int _ _; go_num; done) | (simp [valOf, *]; done) | (simp [valOf]; omega))
          · intro _ a' w' hb' hs hd hn Kc hK
            have f25 : a'.tmps[25]?.getD undef = .pointer (some ⟨bb, off + j * 13, none⟩) := hd 3 25 (by first | rfl | decide | simp [Region.binds]) rfl (by decide) (by decide) rfl
            clear hs hd hn
            rw [if_neg (by decide), if_neg (by decide)] at hK
            have v4' := (hb'.cell (p := ⟨bb, off + j * 13 + 4, none⟩) hltb).trans v4
            have v6' := (hb'.cell (p := ⟨bb, off + j * 13 + 6, none⟩) hltb).trans v6
            have gH' := gHr.below hb'
            obtain ⟨lh, h0', h1', h2'⟩ : w.heap.size < w'.heap.size ∧ w'.cell? ⟨w.heap.size, 0, none⟩ = some (.slice p h.n c) ∧ w'.cell? ⟨w.heap.size, 1, none⟩ = some (.slice q h.m d) ∧ w'.cell? ⟨w.heap.size, 2, none⟩ = some (.bool h.b) := ⟨gH'.lt, gH'.cell 0, gH'.cell 1, gH'.cell 2⟩
            clear gH'
            unfold Oper.wp
            go_simp
            try go_bits
            exact hK _ _ (Below.refl _ _) (by first | rfl | (show Value.int _ _ = Value.int _ _; go_num; done) | (simp [valOf, *]; done) | (simp [valOf]; omega))
          · intro _ a' w' hb' hs hd hn Kc hK
            have f26 : a'.tmps[26]?.getD undef = .pointer (some ⟨bb, off + j * 13 + 6, none⟩) := hd 4 26 (by first | rfl | decide | simp [Region.binds]) rfl (by decide) (by decide) rfl
            clear hs hd hn
            rw [if_neg (by decide), if_neg (by decide)] at hK
            have v4' := (hb'.cell (p := ⟨bb, off + j * 13 + 4, none⟩) hltb).trans v4
            have v6' := (hb'.cell (p := ⟨bb, off + j * 13 + 6, none⟩) hltb).trans v6
            have gH' := gHr.below hb'
            obtain ⟨lh, h0', h1', h2'⟩ : w.heap.size < w'.heap.size ∧ w'.cell? ⟨w.heap.size, 0, none⟩ = some (.slice p h.n c) ∧ w'.cell? ⟨w.heap.size, 1, none⟩ = some (.slice q h.m d) ∧ w'.cell? ⟨w.heap.size, 2, none⟩ = some (.bool h.b) := ⟨gH'.lt, gH'.cell 0, gH'.cell 1, gH'.cell 2⟩
            clear gH'
            unfold Oper.wp
            go_simp
            try go_bits
            exact hK _ _ (Below.refl _ _) (by first | rfl | (show Value.int _ _ = Value.int _ _; go_num; done) | (simp [valOf, *]; done) | (simp [valOf]; omega))
          · intro _ a' w' hb' hs hd hn Kc hK
            have f1 : a'.tmps[1]?.getD undef = .slice (some ⟨bb, off, none⟩) n cm := (hs 1 (by decide)).trans rfl
            clear hs hd hn
            rw [if_neg (by decide), if_neg (by decide)] at hK
            have v4' := (hb'.cell (p := ⟨bb, off + j * 13 + 4, none⟩) hltb).trans v4
            have v6' := (hb'.cell (p := ⟨bb, off + j * 13 + 6, none⟩) hltb).trans v6
            have gH' := gHr.below hb'
            obtain ⟨lh, h0', h1', h2'⟩ : w.heap.size < w'.heap.size ∧ w'.cell? ⟨w.heap.size, 0, none⟩ = some (.slice p h.n c) ∧ w'.cell? ⟨w.heap.size, 1, none⟩ = some (.slice q h.m d) ∧ w'.cell? ⟨w.heap.size, 2, none⟩ = some (.bool h.b) := ⟨gH'.lt, gH'.cell 0, gH'.cell 1, gH'.cell 2⟩
            clear gH'
            unfold Oper.wp
            go_simp
            try go_bits
            exact hK _ _ (Below.refl _ _) (by first | rfl | (show Value.int _ _ = Value.int _ _; go_num; done) | (simp [valOf, *]; done) | (simp [valOf]; omega))
          · intro _ a' w' hb' hs hd hn Kc hK
            have f6 : a'.tmps[6]?.getD undef = .int .i64 (j : Int) := (hs 6 (by decide)).trans rfl
            clear hs hd hn
            rw [if_neg (by decide), if_neg (by decide)] at hK
            have v4' := (hb'.cell (p := ⟨bb, off + j * 13 + 4, none⟩) hltb).trans v4
            have v6' := (hb'.cell (p := ⟨bb, off + j * 13 + 6, none⟩) hltb).trans v6
            have gH' := gHr.below hb'
            obtain ⟨lh, h0', h1', h2'⟩ : w.heap.size < w'.heap.size ∧ w'.cell? ⟨w.heap.size, 0, none⟩ = some (.slice p h.n c) ∧ w'.cell? ⟨w.heap.size, 1, none⟩ = some (.slice q h.m d) ∧ w'.cell? ⟨w.heap.size, 2, none⟩ = some (.bool h.b) := ⟨gH'.lt, gH'.cell 0, gH'.cell 1, gH'.cell 2⟩
            clear gH'
            unfold Oper.wp
            go_simp
            try go_bits
            exact hK _ _ (Below.refl _ _) (by first | rfl | (show Value.int _ _ = Value.int _ _; go_num; done) | (simp [valOf, *]; done) | (simp [valOf]; omega))
          · intro _ a' w' hb' hs hd hn Kc hK
            have f28 : a'.tmps[28]?.getD undef = .slice (some ⟨bb, off, none⟩) n cm := hd 6 28 (by first | rfl | decide | simp [Region.binds]) rfl (by decide) (by decide) rfl
            have f29 : a'.tmps[29]?.getD undef = .int .i64 (j : Int) := hd 7 29 (by first | rfl | decide | simp [Region.binds]) rfl (by decide) (by decide) rfl
            clear hs hd hn
            rw [if_neg (by decide), if_neg (by decide)] at hK
            have v4' := (hb'.cell (p := ⟨bb, off + j * 13 + 4, none⟩) hltb).trans v4
            have v6' := (hb'.cell (p := ⟨bb, off + j * 13 + 6, none⟩) hltb).trans v6
            have gH' := gHr.below hb'
            obtain ⟨lh, h0', h1', h2'⟩ : w.heap.size < w'.heap.size ∧ w'.cell? ⟨w.heap.size, 0, none⟩ = some (.slice p h.n c) ∧ w'.cell? ⟨w.heap.size, 1, none⟩ = some (.slice q h.m d) ∧ w'.cell? ⟨w.heap.size, 2, none⟩ = some (.bool h.b) := ⟨gH'.lt, gH'.cell 0, gH'.cell 1, gH'.cell 2⟩
            clear gH'
            unfold Oper.wp
            go_simp
            try go_bits
            exact hK _ _ (Below.refl _ _) (by first | rfl | (show Value.int _ _ = Value.int _ _; go_num; done) | (simp [valOf, *]; done) | (simp [valOf]; omega))
          · intro _ a' w' hb' hs hd hn Kc hK
            have f30 : a'.tmps[30]?.getD undef = .pointer (some ⟨bb, off + j * 13, none⟩) := hd 8 30 (by first | rfl | decide | simp [Region.binds]) rfl (by decide) (by decide) rfl
            clear hs hd hn
            rw [if_neg (by decide), if_neg (by decide)] at hK
            have v4' := (hb'.cell (p := ⟨bb, off + j * 13 + 4, none⟩) hltb).trans v4
            have v6' := (hb'.cell (p := ⟨bb, off + j * 13 + 6, none⟩) hltb).trans v6
            have gH' := gHr.below hb'
            obtain ⟨lh, h0', h1', h2'⟩ : w.heap.size < w'.heap.size ∧ w'.cell? ⟨w.heap.size, 0, none⟩ = some (.slice p h.n c) ∧ w'.cell? ⟨w.heap.size, 1, none⟩ = some (.slice q h.m d) ∧ w'.cell? ⟨w.heap.size, 2, none⟩ = some (.bool h.b) := ⟨gH'.lt, gH'.cell 0, gH'.cell 1, gH'.cell 2⟩
            clear gH'
            unfold Oper.wp
            go_simp
            try go_bits
            exact hK _ _ (Below.refl _ _) (by first | rfl | (show Value.int _ _ = Value.int _ _; go_num; done) | (simp [valOf, *]; done) | (simp [valOf]; omega))
          · intro _ a' w' hb' hs hd hn Kc hK
            have f31 : a'.tmps[31]?.getD undef = .pointer (some ⟨bb, off + j * 13 + 2, none⟩) := hd 9 31 (by first | rfl | decide | simp [Region.binds]) rfl (by decide) (by decide) rfl
            clear hs hd hn
            rw [if_neg (by decide), if_neg (by decide)] at hK
            have v4' := (hb'.cell (p := ⟨bb, off + j * 13 + 4, none⟩) hltb).trans v4
            have v6' := (hb'.cell (p := ⟨bb, off + j * 13 + 6, none⟩) hltb).trans v6
            have gH' := gHr.below hb'
            obtain ⟨lh, h0', h1', h2'⟩ : w.heap.size < w'.heap.size ∧ w'.cell? ⟨w.heap.size, 0, none⟩ = some (.slice p h.n c) ∧ w'.cell? ⟨w.heap.size, 1, none⟩ = some (.slice q h.m d) ∧ w'.cell? ⟨w.heap.size, 2, none⟩ = some (.bool h.b) := ⟨gH'.lt, gH'.cell 0, gH'.cell 1, gH'.cell 2⟩
            clear gH'
            unfold Oper.wp
            go_simp
            try go_bits
            exact hK _ _ (Below.refl _ _) (by first | rfl | (show Value.int _ _ = Value.int _ _; go_num; done) | (simp [valOf, *]; done) | (simp [valOf]; omega))
          · intro _ a' w' hb' hs hd hn Kc hK
            have f32 : a'.tmps[32]?.getD undef = .pointer (some ⟨bb, off + j * 13 + 4, none⟩) := hd 10 32 (by first | rfl | decide | simp [Region.binds]) rfl (by decide) (by decide) rfl
            clear hs hd hn
            rw [if_neg (by decide), if_neg (by decide)] at hK
            have v4' := (hb'.cell (p := ⟨bb, off + j * 13 + 4, none⟩) hltb).trans v4
            have v6' := (hb'.cell (p := ⟨bb, off + j * 13 + 6, none⟩) hltb).trans v6
            have gH' := gHr.below hb'
            obtain ⟨lh, h0', h1', h2'⟩ : w.heap.size < w'.heap.size ∧ w'.cell? ⟨w.heap.size, 0, none⟩ = some (.slice p h.n c) ∧ w'.cell? ⟨w.heap.size, 1, none⟩ = some (.slice q h.m d) ∧ w'.cell? ⟨w.heap.size, 2, none⟩ = some (.bool h.b) := ⟨gH'.lt, gH'.cell 0, gH'.cell 1, gH'.cell 2⟩
            clear gH'
            unfold Oper.wp
            go_simp
            try go_bits
            exact hK _ _ (Below.refl _ _) (by first | rfl | (show Value.int _ _ = Value.int _ _; go_num; done) | (simp [valOf, *]; done) | (simp [valOf]; omega))
          · intro _ a' w' hb' hs hd hn Kc hK
            have f22 : a'.tmps[22]?.getD undef = .agg #[.slice p h.n c, .slice q h.m d, .bool h.b] := hd 0 22 (by first | rfl | decide | simp [Region.binds]) rfl (by decide) (by decide) rfl
            have f27 : a'.tmps[27]?.getD undef = .int .i64 (z j).o := hd 5 27 (by first | rfl | decide | simp [Region.binds]) rfl (by decide) (by decide) rfl
            have f33 : a'.tmps[33]?.getD undef = .int .i64 (z j).ob := hd 11 33 (by first | rfl | decide | simp [Region.binds]) rfl (by decide) (by decide) rfl
            clear hs hd hn
            rw [if_neg (by decide), if_neg (by decide)] at hK
            have v4' := (hb'.cell (p := ⟨bb, off + j * 13 + 4, none⟩) hltb).trans v4
            have v6' := (hb'.cell (p := ⟨bb, off + j * 13 + 6, none⟩) hltb).trans v6
            have gH' := gHr.below hb'
            obtain ⟨lh, h0', h1', h2'⟩ : w.heap.size < w'.heap.size ∧ w'.cell? ⟨w.heap.size, 0, none⟩ = some (.slice p h.n c) ∧ w'.cell? ⟨w.heap.size, 1, none⟩ = some (.slice q h.m d) ∧ w'.cell? ⟨w.heap.size, 2, none⟩ = some (.bool h.b) := ⟨gH'.lt, gH'.cell 0, gH'.cell 1, gH'.cell 2⟩
            clear gH'
            unfold Oper.wp
            go_simp
            try go_bits
            refine Calls.mono (hFd w' hb') ?_
            rintro e w'' ⟨rfl, hb2⟩
            exact hK _ _ hb2 rfl
          · intro _ a' w' hb' hs hd hn Kc hK
            have f34 : a'.tmps[34]?.getD undef = .tuple #[.agg #[.int .i64 K, .int .i64 NN], .int .i64 E] := hd 12 34 (by first | rfl | decide | simp [Region.binds]) rfl (by decide) (by decide) rfl
            clear hs hd hn
            rw [if_neg (by decide), if_neg (by decide)] at hK
            have v4' := (hb'.cell (p := ⟨bb, off + j * 13 + 4, none⟩) hltb).trans v4
            have v6' := (hb'.cell (p := ⟨bb, off + j * 13 + 6, none⟩) hltb).trans v6
            have gH' := gHr.below hb'
            obtain ⟨lh, h0', h1', h2'⟩ : w.heap.size < w'.heap.size ∧ w'.cell? ⟨w.heap.size, 0, none⟩ = some (.slice p h.n c) ∧ w'.cell? ⟨w.heap.size, 1, none⟩ = some (.slice q h.m d) ∧ w'.cell? ⟨w.heap.size, 2, none⟩ = some (.bool h.b) := ⟨gH'.lt, gH'.cell 0, gH'.cell 1, gH'.cell 2⟩
            clear gH'
            unfold Oper.wp
            go_simp
            try go_bits
            exact hK _ _ (Below.refl _ _) (by first | rfl | (show Value.int _ _ = Value.int _ _; go_num; done) | (simp [valOf, *]; done) | (simp [valOf]; omega))
          · intro _ a' w' hb' hs hd hn Kc hK
            have f21 : a'.tmps[21]?.getD undef = .tuple #[.agg #[.int .i64 K, .int .i64 NN], .int .i64 E] := hd 13 21 (by first | rfl | decide | simp [Region.binds]) rfl (by decide) (by decide) rfl
            clear hs hd hn
            rw [if_neg (by decide), if_neg (by decide)] at hK
            have v4' := (hb'.cell (p := ⟨bb, off + j * 13 + 4, none⟩) hltb).trans v4
            have v6' := (hb'.cell (p := ⟨bb, off + j * 13 + 6, none⟩) hltb).trans v6
            have gH' := gHr.below hb'
            obtain ⟨lh, h0', h1', h2'⟩ : w.heap.size < w'.heap.size ∧ w'.cell? ⟨w.heap.size, 0, none⟩ = some (.slice p h.n c) ∧ w'.cell? ⟨w.heap.size, 1, none⟩ = some (.slice q h.m d) ∧ w'.cell? ⟨w.heap.size, 2, none⟩ = some (.bool h.b) := ⟨gH'.lt, gH'.cell 0, gH'.cell 1, gH'.cell 2⟩
            clear gH'
            unfold Oper.wp
            go_simp
            try go_bits
            exact hK _ _ (Below.refl _ _) (by first | rfl | (show Value.int _ _ = Value.int _ _; go_num; done) | (simp [valOf, *]; done) | (simp [valOf]; omega))
          · intro _ a' w' hb' hs hd hn Kc hK
            have f21 : a'.tmps[21]?.getD undef = .tuple #[.agg #[.int .i64 K, .int .i64 NN], .int .i64 E] := hd 13 21 (by first | rfl | decide | simp [Region.binds]) rfl (by decide) (by decide) rfl
            clear hs hd hn
            rw [if_neg (by decide), if_neg (by decide)] at hK
            have v4' := (hb'.cell (p := ⟨bb, off + j * 13 + 4, none⟩) hltb).trans v4
            have v6' := (hb'.cell (p := ⟨bb, off + j * 13 + 6, none⟩) hltb).trans v6
            have gH' := gHr.below hb'
            obtain ⟨lh, h0', h1', h2'⟩ : w.heap.size < w'.heap.size ∧ w'.cell? ⟨w.heap.size, 0, none⟩ = some (.slice p h.n c) ∧ w'.cell? ⟨w.heap.size, 1, none⟩ = some (.slice q h.m d) ∧ w'.cell? ⟨w.heap.size, 2, none⟩ = some (.bool h.b) := ⟨gH'.lt, gH'.cell 0, gH'.cell 1, gH'.cell 2⟩
            clear gH'
            unfold Oper.wp
            go_simp
            try go_bits
            exact hK _ _ (Below.refl _ _) (by first | rfl | (show Value.int _ _ = Value.int _ _; go_num; done) | (simp [valOf, *]; done) | (simp [valOf]; omega))
          · intro _ a' w' hb' hs hd hn Kc hK
            clear hs hd hn
            rw [if_pos rfl] at hK
            unfold Oper.wp
            go_simp
            exact hK _ _ ((Below.refl _ _).alloc (Nat.le_refl _) _) (Nat.le_refl _) (shapeT_new _ _ rfl)
          · intro _ a' w' hb' hs hd hn Kc hK
            obtain ⟨g, f7, hg, hsh⟩ := hn 7 (by first | rfl | decide | simp [Region.binds]) rfl rfl
            have f35 : a'.tmps[35]?.getD undef = .agg #[.int .i64 K, .int .i64 NN] := hd 14 35 (by first | rfl | decide | simp [Region.binds]) rfl (by decide) (by decide) rfl
            rw [if_neg (by decide), if_pos rfl] at hK
            have hfin := hK g (.tuple #[]) (putsL g 0 [.int .i64 K, .int .i64 NN] w') (fun d hd => by obtain rfl : 7 = d := Option.some.inj (Option.some.inj hd); exact f7) (putsL_below hg _ _ _) hg (hsh.full2 _ _) (fun g' h => shapeT_puts _ g' h) ⟨fun _ h => h, fun _ h => h, fun _ h => h, fun _ h => h, fun _ h => h, fun _ h => h, fun _ h => h, fun _ h => h, fun _ h => h, fun _ h => h, fun _ h => h, fun _ h => h, fun _ h => h, fun _ h => h, fun _ h => h, fun _ h => h, fun _ h => h, fun _ h => h, fun _ h => h, trivial⟩
            clear hs hd hn hK
            obtain ⟨x0, x1, h0, c0, c1, g0, g1⟩ := hsh.two
            simp only [putsL] at hfin
            unfold Oper.wp
            go_simp
            exact hfin
          · intro _ a' w' hb' hs hd hn Kc hK
            have f36 : a'.tmps[36]?.getD undef = .int .i64 E := hd 15 36 (by first | rfl | decide | simp [Region.binds]) rfl (by decide) (by decide) rfl
            clear hs hd hn
            rw [if_neg (by decide), if_neg (by decide)] at hK
            have v4' := (hb'.cell (p := ⟨bb, off + j * 13 + 4, none⟩) hltb).trans v4
            have v6' := (hb'.cell (p := ⟨bb, off + j * 13 + 6, none⟩) hltb).trans v6
            have gH' := gHr.below hb'
            obtain ⟨lh, h0', h1', h2'⟩ : w.heap.size < w'.heap.size ∧ w'.cell? ⟨w.heap.size, 0, none⟩ = some (.slice p h.n c) ∧ w'.cell? ⟨w.heap.size, 1, none⟩ = some (.slice q h.m d) ∧ w'.cell? ⟨w.heap.size, 2, none⟩ = some (.bool h.b) := ⟨gH'.lt, gH'.cell 0, gH'.cell 1, gH'.cell 2⟩
            clear gH'
            unfold Oper.wp
            go_simp
            try go_bits
            exact hK _ _ (Below.refl _ _) (by first | rfl | (show Value.int _ _ = Value.int _ _; go_num; done) | (simp [valOf, *]; done) | (simp [valOf]; omega))
        intro Xf g w' hX hb hv
        obtain ⟨hg, gX, hgp⟩ := hX (by decide)
        have q7 : Xf 7 = .pointer (some ⟨g, 0, none⟩) := hgp 7 rfl
        have q8 : Xf 8 = .int .i64 E := hv 18 8 rfl rfl (by decide) (by decide)
        clear hX hv hgp
        simp only [List.map_cons, List.map_nil, q7, q8, puts, Act.put, Nat.reduceAdd, List.setIfInBounds_toArray, List.set_cons_succ, List.set_cons_zero]
        have hownE := owned_below hown hb
        have hbE := bjoin hb hbw
        have hszE := hbE.size
        have c0 := gX.cell 0
        have c1 := gX.cell 1
        simp only [List.getElem?_toArray, List.getElem?_cons_zero, List.getElem?_cons_succ] at c0 c1
        have lg := gX.lt
        clear hown hFd v1 v4 v6 hltb gHr hb gX
        generalize w' = w5 at *
        go_wp2_with (first
          | (at_builtin; refine wpList_append_own _ rfl (.tmp 37) (.tmp 39) 35 rfl w0.heap.size 46 t0 (.agg #[.int .i64 0, .int .i64 0]) 2 16 Tryd.underlying35 hq0 hq1 hq2 hq3 rfl (by decide) _ _ _ rfl (hownE.alloc _) ⟨w5.heap.size, 0, none⟩ 1 1 [.int .i64 K, .int .i64 NN] rfl rfl (two_new _ _ _ _) (by simp [Value.oneCell']) (by simp only [maxLen]; omega) (by omega) (by simp; omega) ?_; intro ov9 w9 hown9 hgrow9 _)
        )
        have hb9 := (hbE.alloc hszE (.cells #[.int .i64 K, .int .i64 NN] 46)).grown hgrow9 (by simp; omega) (fun k hk => (hownE.lt k hk).1)
        have hown10 : w9.ownsRow w0.heap.size 46 2 ov9 Q.length (LV Q) := by rw [hP, ← LV_snoc, List.length_append]; exact hown9
        go_roundg (n - (j + 1))
        case measure => omega
        case rel => exact ⟨j + 1, by omega, rfl, by go_num, by rw [hPn]; exact hown10, hb9⟩
      · rw [if_neg hs] at hP
        have hs' : ((z j).s == 4) = false := by simpa using hs
        clear hFd
        go_wp2
        go_roundg (n - (j + 1))
        case measure => omega
        case rel => exact ⟨j + 1, by omega, rfl, by go_num, by rw [hPn, hP]; exact hown, hbw⟩
    · obtain rfl : j = n := by omega
      obtain ⟨pp, cc, rfl, -⟩ := owned_new hown
      go_wp2
      go_returns
      exact ⟨pp, cc, rfl, owned_base hown hz0, bjoin hbw hb0⟩
end Go.Proofs.YtmbgodncagjncaaDoor
