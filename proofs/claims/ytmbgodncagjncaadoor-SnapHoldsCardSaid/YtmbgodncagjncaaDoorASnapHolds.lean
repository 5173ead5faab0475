/- SnapHolds: what is reached from a new marker's roots is what is reached from what stacks and registers hold; colours stay, in the other sense. No condition; the table that the code reads is tied to the program's text. -/
import Derived.Test.YtmbgodncagjncaaDoorA47
import Derived.Test.YtmbgodncagjncaaDoorA48
import Derived.Test.YtmbgodncagjncaaDoorA37
import Derived.Test.YtmbgodncagjncaaDoorA40
import Derived.Test.YtmbgodncagjncaaDoorA50
import Derived.Test.YtmbgodncagjncaaDoorRows
import Derived.Test.YtmbgodncagjncaaDoorCards
import Derived.Test.YtmbgodncagjncaaDoorTie
import Derived.SevenTiedAt
namespace Go.Proofs.YtmbgodncagjncaaDoor
set_option linter.unusedSimpArgs false
set_option linter.unusedVariables false
open Go.ChangeShapes Go.WideShapes Go.ChangeAt Go.RowKit Go.Joins

theorem two_hm {w w0 : World} {p : Option Addr} {n c : Nat} {q : Option Addr} {k d : Nat} {b : Bool} {x0 x1 x2 x3 x4 x5 x6 x7 : Value} (e : w0 = (w.alloc (.cells #[.slice p n c, .slice q k d, .bool b] 25)).alloc (.cells #[x0, x1, x2, x3, x4, x5, x6, x7] 37)) :
    TBox 25 w.heap.size #[.slice p n c, .slice q k d, .bool b] w0 ∧ TBox 37 (w.heap.size + 1) #[x0, x1, x2, x3, x4, x5, x6, x7] w0 ∧ Below w.heap.size w w0 := tbox_two e
theorem box_three {T g : Nat} {x0 x1 x2 : Value} {w : World} (h : TBox T g #[x0, x1, x2] w) : g < w.heap.size ∧ w.cell? ⟨g, 0, none⟩ = some x0 ∧ w.cell? ⟨g, 1, none⟩ = some x1 ∧ w.cell? ⟨g, 2, none⟩ = some x2 := ⟨h.lt, h.cell 0, h.cell 1, h.cell 2⟩
theorem box_five {T g : Nat} {x0 x1 x2 x3 x4 : Value} {w : World} (h : TBox T g #[x0, x1, x2, x3, x4] w) : g < w.heap.size ∧ w.cell? ⟨g, 0, none⟩ = some x0 ∧ w.cell? ⟨g, 1, none⟩ = some x1 ∧ w.cell? ⟨g, 2, none⟩ = some x2 ∧ w.cell? ⟨g, 3, none⟩ = some x3 ∧ w.cell? ⟨g, 4, none⟩ = some x4 := ⟨h.lt, h.cell 0, h.cell 1, h.cell 2, h.cell 3, h.cell 4⟩
theorem rlist18_row {p : Option Addr} {c : Nat} {q : Option Addr} {d : Nat} {h : Hp} {w : World} (hh : HpAt w p c q d h) (hF : formB h = true) {M : Nat} {z : Nat → Int} (eM : (obL h h.n).length = M) (ez : (fun i => (obL h h.n)[i]?.getD 0) = z) :
    Calls Tryd.prog 13 #[.agg #[.slice p h.n c, .slice q h.m d, .bool h.b]] w fun e w' => ∃ pl cl, e = .returned (.slice pl M cl) ∧ Ints .i64 w' pl M z ∧ Below w.heap.size w w' := by
  refine Calls.mono (rlist8_any p c q d h w hh hF) ?_
  rintro e w' ⟨v, rfl, hown, hb⟩
  obtain ⟨pl, cl, rfl, hr⟩ := row_owned hown (obL_wf h (by have := form_iff.1 hF; omega))
  have hi := hr.ints
  rw [eM, ez] at hi
  rw [eM]
  exact ⟨pl, cl, rfl, hi, hb⟩
set_option maxHeartbeats 16000000 in
set_option maxRecDepth 20000 in
theorem holds18_walk {p : Option Addr} {c : Nat} {q : Option Addr} {d : Nat} {h : Hp} (pm : Option Addr) (n cm : Nat) (z : Nat → Mu) (w : World) (hat : HpAt w p c q d h) (hz0 : RAt MuC 13 w pm cm n z) (hS : Sz w) :
    Calls Tryd.prog 4 #[.agg #[.slice p h.n c, .slice q h.m d, .bool h.b], .slice pm n cm] w fun e w' => e = .returned (.bool true) ∧ Below w.heap.size w w' := by
  obtain ⟨w0, hw0⟩ : ∃ w0, w0 = w.alloc (.cells #[.slice p h.n c, .slice q h.m d, .bool h.b] 25) := ⟨_, rfl⟩
  have gH : TBox 25 w.heap.size #[.slice p h.n c, .slice q h.m d, .bool h.b] w0 := by rw [hw0]; exact TBox.new _ _ _
  have hB0 : Below w.heap.size w w0 := by rw [hw0]; exact (Below.refl _ _).alloc (Nat.le_refl _) _
  replace hat := hat.below hB0
  replace hS := hS.below hB0
  replace hz0 := hz0.below muC_below hB0
  have hFi := fun W (hW : Below w0.heap.size w0 W) => fits18_any p c q d h n z pm cm W (hat.below hW) (hz0.below muC_below hW)
  obtain ⟨l0, x0, x1, x2⟩ := box_three gH
  by_cases hgo : (formB h && fewU z n) = true
  · have hgo' := hgo
    rw [Bool.and_eq_true] at hgo'
    obtain ⟨hF, hU⟩ := hgo'
    obtain ⟨hn, hst⟩ := few_u hU
    rw [hgo] at hFi
    have hF' : Hid (formB h = true) := hF
    clear hgo hU hF
    go_enter Tryd.func4, Tryd.ntmps4
    go_upto_region 1 with fail
    rw [← hw0]
    clear hw0
    go_upto_region 3 with (first
    | (go_at_call 7; refine Calls.mono (awake18_any _ (hS.below (by go_grown))) ?_; rintro e w' ⟨rfl, hb⟩; obtain ⟨hc, hf, hb, hz⟩ := bstep hb (w := w0) (by go_grown); try simp only [World.size_alloc, World.size_setCell, World.size_drew] at hc hf hz)
    | (go_at_call 8; refine Calls.mono (hFi _ (by go_grown)) ?_; rintro e w' ⟨rfl, hb⟩; obtain ⟨hc, hf, hb, hz⟩ := bstep hb (w := w0) (by go_grown); try simp only [World.size_alloc, World.size_setCell, World.size_drew] at hc hf hz)
    )
    have hbW := bjoin hb hB0
    have h4 := hat.below hb
    have hM := hz0.below muC_below hb
    replace gH := gH.below hb
    replace hS := hS.below hb
    obtain ⟨l0, x0, x1, x2⟩ := box_three gH
    clear hFi hat hz0 hB0
    go_upto_region 4 with (first
      | (go_at_call 9; refine Calls.mono (sbegin_any 0 0 0 1 1 p c q d h n z pm cm _ (hS.below (by go_grown)) (by decide) (by decide) (h4.below (by go_grown)) hF'.out (hM.below muC_below (by go_grown)) hn hst) ?_; rintro e w5 ⟨p', c', q', d', pg, cg, pb, cb, pr, cr, rfl, hI, hMk, -, hb5⟩)
    )
    obtain ⟨w6, hw6⟩ : ∃ W, W = (w5.alloc (.cells #[.slice p' h.n c', .slice q' h.m d', .bool (!h.b)] 25)).alloc (.cells #[.int .i64 1, .slice pg 0 cg, .slice pb n cb, .slice pr (rootL h z n).length cr, .int .i64 (-1), .int .i64 0, .int .i64 (-1), .bool false] 37) := ⟨_, rfl⟩
    obtain ⟨gA, gM, hb6⟩ := two_hm hw6
    rw [← hw6]
    clear hw6 hb hc hf hz x0 x1 x2 l0
    have hb46 := hb5.trans (hb6.mono hb5.size)
    have h6 := h4.below hb46
    have hM6 := hM.below muC_below hb46
    have gH6 := gH.below hb46
    have hI6 := hI.below hb6
    have hMk6 : MAtE _ w6 (newM 1 n (fun _ => 1) (rootL h z n).length (lvF (rootL h z n))) pg cg pb cb pr cr := hMk.below hb6
    have hbW6 := hbW.trans (hb46.mono hbW.size)
    clear h4 hM gH hI hMk hb46 hbW hb6 hb5 hS
    obtain ⟨t0, hq0, hq1, hq2, hq3⟩ := info_parts val_info
    go_upto_region 6 with fail
    go_loopg [7, 8] n (fun g ov iv wr => ∃ j : Nat, j ≤ n ∧ g = n - j ∧ iv = .int .i64 j ∧ wr.ownsRow w6.heap.size 46 2 ov (heldL z j).length (LV (heldL z j)) ∧ Below w6.heap.size w6 wr)
    case atStart => exact ⟨0, by omega, by omega, rfl, World.ownsRow_nil _ _ _ _, Below.refl _ _⟩
    case round =>
      obtain ⟨j, jh, rfl, rfl, hown, hbw⟩ := hrel
      have hsz := hbw.size
      by_cases hj : j < n
      · obtain ⟨bb, off, L, rfl, hl, -, hc, ps, cs, rfl, hv, hwf⟩ := hM6.row j hj
        have hcl : ∀ W, Below w6.heap.size w6 W → bb < W.heap.size ∧ ∀ k u, ((z j).cells ps cs)[k]? = some u → W.cell? ⟨bb, off + j * 13 + k, none⟩ = some u := fun W hW => ⟨Nat.lt_of_lt_of_le hl hW.size, fun k u hk => (hW.cell (p := ⟨bb, off + j * 13 + k, none⟩) hl).trans (hc k u hk)⟩
        have hH : heldL z (j + 1) = heldL z j ++ stkL (z j) ++ regL (z j) := rfl
        have hl1 := heldL_len (n := j) fun i hi => hst i (by omega)
        have hl2 : (stkL (z j)).length = (z j).n := by simp [stkL]
        have h20 := hst j hj
        have hLs : LV (stkL (z j)) = vlVals (z j).n (z j).st := LV_range _ _
        have hrv := hv.row
        have hpn := hv.pnil
        have hR : regL (z j) = (if (z j).s = 2 ∨ (z j).s = 4 then [⟨2, (z j).o⟩] else []) ++ if (z j).s = 3 ∨ (z j).s = 4 then [⟨(z j).v.k, (z j).v.n⟩] else [] := rfl
        clear hc hv h6 gH6 hI6 hMk6 gA gM
        generalize hHn : heldL z (j + 1) = Q at *
        generalize heldL z j = A at *
        generalize stkL (z j) = S at *
        obtain ⟨hlt, hcw⟩ := hcl wr hbw
        have v0 := hcw 0 _ rfl
        rw [Nat.add_zero] at v0
        clear hlt hcw
        have hA220 : A.length ≤ 220 := by omega
        have hltb : bb < wr.heap.size := Nat.lt_of_lt_of_le hl hsz
        go_upto_region 9 with (first
          | (at_builtin; refine wpList_append_row rfl (.tmp 33) (.tmp 38) 35 rfl w6.heap.size 46 t0 (.agg #[.int .i64 0, .int .i64 0]) 2 16 Tryd.underlying35 hq0 hq1 hq2 hq3 rfl (by decide) _ _ _ rfl hown ps (z j).n cs (vlVals (z j).n (z j).st) rfl (by simp [vlVals_length]) (hrv.below hbw).cells (vlVals_one _ _) hpn (by simp only [maxLen]; omega) (by omega) hsz ?_; intro ov5 w8 hown5 hgrow5)
        )
        have hb8 : Below w6.heap.size w6 w8 := hbw.grown hgrow5 hsz (fun k hk => (hown.lt k hk).1)
        have hown8 : w8.ownsRow w6.heap.size 46 2 ov5 (A ++ S).length (LV (A ++ S)) := by
          rw [← LV_append, hLs, List.length_append, hl2]
          exact hown5
        have hz8 := hb8.size
        have hAS : (A ++ S).length ≤ 240 := by rw [List.length_append, hl2]; omega
        clear hown5 hgrow5 hown hrv hpn hLs hl2 v0 hbw hsz hltb
        generalize A ++ S = B at *
        obtain ⟨mo, emo⟩ : ∃ o, o = (z j).o := ⟨_, rfl⟩
        obtain ⟨vk, ek⟩ : ∃ k, k = (z j).v.k := ⟨_, rfl⟩
        obtain ⟨vn, en⟩ : ∃ k, k = (z j).v.n := ⟨_, rfl⟩
        have hcl2 : ∀ W, Below w6.heap.size w6 W → bb < W.heap.size ∧ W.cell? ⟨bb, off + j * 13 + 1, none⟩ = some (.int .i64 (z j).s) ∧ W.cell? ⟨bb, off + j * 13 + 6, none⟩ = some (.int .i64 mo) ∧ W.cell? ⟨bb, off + j * 13 + 7, none⟩ = some (.int .i64 vk) ∧ W.cell? ⟨bb, off + j * 13 + 8, none⟩ = some (.int .i64 vn) := fun W hW => by
          obtain ⟨a1, a2⟩ := hcl W hW
          rw [emo, ek, en]
          exact ⟨a1, a2 1 _ rfl, a2 6 _ rfl, a2 7 _ rfl, a2 8 _ rfl⟩
        rw [← emo, ← ek, ← en] at hR
        clear emo ek en hcl
        obtain ⟨hlt8, v1, v6, v7, v8⟩ := hcl2 w8 hb8
        have hcs : ((z j).s = 2 ∧ ((z j).s == 2) = true ∧ ((z j).s == 3) = false ∧ ((z j).s == 4) = false) ∨ ((z j).s = 3 ∧ ((z j).s == 2) = false ∧ ((z j).s == 3) = true ∧ ((z j).s == 4) = false) ∨ ((z j).s = 4 ∧ ((z j).s == 2) = false ∧ ((z j).s == 3) = false ∧ ((z j).s == 4) = true) ∨ ((¬ ((z j).s = 2 ∨ (z j).s = 4) ∧ ¬ ((z j).s = 3 ∨ (z j).s = 4)) ∧ ((z j).s == 2) = false ∧ ((z j).s == 3) = false ∧ ((z j).s == 4) = false) := by
          by_cases h2 : (z j).s = 2
          · left; simp [h2]
          · by_cases h3 : (z j).s = 3
            · right; left; simp [h3]
            · by_cases h4 : (z j).s = 4
              · right; right; left; simp [h4]
              · right; right; right; simp [h2, h3, h4]
        generalize regL (z j) = RL at *
        generalize (z j).s = ms at *
        rcases hcs with ⟨hs, d2, d3, d4⟩ | ⟨hs, d2, d3, d4⟩ | ⟨hs, d2, d3, d4⟩ | ⟨⟨hn1, hn2⟩, d2, d3, d4⟩
        · have hQ : Q = B ++ [⟨2, mo⟩] := by rw [hH, hR, hs]; rfl
          clear hR hH hs
          go_upto_region 11 with (first
            | (at_builtin; refine wpList_append_own _ rfl (.tmp 54) (.tmp 61) 35 rfl w6.heap.size 46 t0 (.agg #[.int .i64 0, .int .i64 0]) 2 16 Tryd.underlying35 hq0 hq1 hq2 hq3 rfl (by decide) _ _ _ rfl (hown8.alloc _) ⟨w8.heap.size, 0, none⟩ 1 1 [.int .i64 2, .int .i64 mo] rfl rfl (two_new _ _ _ _) (by simp [Value.oneCell']) (by simp only [maxLen]; omega) (by omega) (by simp; omega) ?_; intro ov9 w9 hown9 hgrow9 _)
          )
          have hb9 : Below w6.heap.size w6 w9 := ((hb8.alloc hz8 (.cells #[.int .i64 2, .int .i64 mo] 46)).grown hgrow9 (by simp; omega) (fun k hk => (hown8.lt k hk).1))
          have hz9 := hb9.size
          clear v1 v6 v7 v8 hlt8 hgrow9
          obtain ⟨hlt9, v1, v6, v7, v8⟩ := hcl2 w9 hb9
          have hownQ : w9.ownsRow w6.heap.size 46 2 ov9 Q.length (LV Q) := by rw [hQ, List.length_append, ← LV_append]; exact hown9
          go_wp2
          go_roundg (n - (j + 1))
          case measure => omega
          case rel => exact ⟨j + 1, by omega, rfl, by go_num, by rw [hHn]; exact hownQ, hb9⟩
        · have hQ : Q = B ++ [⟨vk, vn⟩] := by rw [hH, hR, hs]; rfl
          clear hR hH hs
          go_wp2_with (first
            | (at_builtin; refine wpList_append_own _ rfl (.tmp 77) (.tmp 83) 35 rfl w6.heap.size 46 t0 (.agg #[.int .i64 0, .int .i64 0]) 2 16 Tryd.underlying35 hq0 hq1 hq2 hq3 rfl (by decide) _ _ _ rfl (hown8.alloc _) ⟨w8.heap.size, 0, none⟩ 1 1 [.int .i64 vk, .int .i64 vn] rfl rfl (two_new _ _ _ _) (by simp [Value.oneCell']) (by simp only [maxLen]; omega) (by omega) (by simp; omega) ?_; intro ov9 w9 hown9 hgrow9 _)
          )
          have hb9 : Below w6.heap.size w6 w9 := ((hb8.alloc hz8 (.cells #[.int .i64 vk, .int .i64 vn] 46)).grown hgrow9 (by simp; omega) (fun k hk => (hown8.lt k hk).1))
          have hownQ : w9.ownsRow w6.heap.size 46 2 ov9 Q.length (LV Q) := by rw [hQ, List.length_append, ← LV_append]; exact hown9
          go_roundg (n - (j + 1))
          case measure => omega
          case rel => exact ⟨j + 1, by omega, rfl, by go_num, by rw [hHn]; exact hownQ, hb9⟩
        · have hQ : Q = B ++ ([⟨2, mo⟩] ++ [⟨vk, vn⟩]) := by rw [hH, hR, hs]; rfl
          clear hR hH hs
          go_upto_region 11 with (first
            | (at_builtin; refine wpList_append_own _ rfl (.tmp 54) (.tmp 61) 35 rfl w6.heap.size 46 t0 (.agg #[.int .i64 0, .int .i64 0]) 2 16 Tryd.underlying35 hq0 hq1 hq2 hq3 rfl (by decide) _ _ _ rfl (hown8.alloc _) ⟨w8.heap.size, 0, none⟩ 1 1 [.int .i64 2, .int .i64 mo] rfl rfl (two_new _ _ _ _) (by simp [Value.oneCell']) (by simp only [maxLen]; omega) (by omega) (by simp; omega) ?_; intro ov9 w9 hown9 hgrow9 _)
          )
          have hb9 : Below w6.heap.size w6 w9 := ((hb8.alloc hz8 (.cells #[.int .i64 2, .int .i64 mo] 46)).grown hgrow9 (by simp; omega) (fun k hk => (hown8.lt k hk).1))
          have hz9 := hb9.size
          clear v1 v6 v7 v8 hlt8 hgrow9
          obtain ⟨hlt9, v1, v6, v7, v8⟩ := hcl2 w9 hb9
          go_wp2_with (first
            | (at_builtin; refine wpList_append_own _ rfl (.tmp 77) (.tmp 83) 35 rfl w6.heap.size 46 t0 (.agg #[.int .i64 0, .int .i64 0]) 2 16 Tryd.underlying35 hq0 hq1 hq2 hq3 rfl (by decide) _ _ _ rfl (hown9.alloc _) ⟨w9.heap.size, 0, none⟩ 1 1 [.int .i64 vk, .int .i64 vn] rfl rfl (two_new _ _ _ _) (by simp [Value.oneCell']) (by simp only [maxLen]; omega) (by omega) (by simp; omega) ?_; intro ov10 w10 hown10 hgrow10 _)
          )
          have hb10 : Below w6.heap.size w6 w10 := ((hb9.alloc hz9 (.cells #[.int .i64 vk, .int .i64 vn] 46)).grown hgrow10 (by simp; omega) (fun k hk => (hown9.lt k hk).1))
          have hownQ : w10.ownsRow w6.heap.size 46 2 ov10 Q.length (LV Q) := by rw [hQ, ← List.append_assoc, List.length_append, List.length_append, ← LV_append, ← LV_append]; exact hown10
          go_roundg (n - (j + 1))
          case measure => omega
          case rel => exact ⟨j + 1, by omega, rfl, by go_num, by rw [hHn]; exact hownQ, hb10⟩
        · have hQ : Q = B := by rw [hH, hR, if_neg hn1, if_neg hn2]; simp
          clear hR hH hn1 hn2
          have hownQ : w8.ownsRow w6.heap.size 46 2 ov5 Q.length (LV Q) := by rw [hQ]; exact hown8
          go_wp2
          go_roundg (n - (j + 1))
          case measure => omega
          case rel => exact ⟨j + 1, by omega, rfl, by go_num, by rw [hHn]; exact hownQ, hb8⟩
      · obtain rfl : j = n := by omega
        have hhl := heldL_len (n := j) hst
        clear hst
        obtain ⟨pp, cc, rfl, -⟩ := owned_new hown
        obtain ⟨hmw, hmv⟩ := mu_rows hM6
        have hV : VAt wr pp cc (heldL z j).length (lvF (heldL z j)) := va_list hown (by simp only [maxLen]; omega) (heldL_wf hmw hmv)
        replace h6 := h6.below hbw
        replace gH6 := gH6.below hbw
        replace gA := gA.below hbw
        replace gM := gM.below hbw
        replace hI6 := hI6.below hbw
        replace hMk6 := hMk6.below hbw
        have hbWr := hbW6.trans (hbw.mono hbW6.size)
        clear hown hmw hmv hM6 hbW6 hbw hsz hb hc hf hz x0 x1 x2 l0
        obtain ⟨M, eM⟩ : ∃ M, (obL h h.n).length = M := ⟨_, rfl⟩
        obtain ⟨zl, ez⟩ : ∃ Z : Nat → Int, (fun i => (obL h h.n)[i]?.getD 0) = Z := ⟨_, rfl⟩
        obtain ⟨l0, x0, x1, x2⟩ := box_three gH6
        go_upto_region 15 with (first
    | (go_at_call 13; refine Calls.mono (rlist18_row (h6.below (by go_grown)) hF'.out eM ez) ?_; rintro e w' ⟨pl, cl, rfl, hIl, hb⟩; obtain ⟨hc, hf, hb, hz⟩ := bstep hb (w := wr) (by go_grown); try simp only [World.size_alloc, World.size_setCell, World.size_drew] at hc hf hz)
        )
        have hMle : M ≤ 512 := by rw [← eM]; have h1 := obL_len h h.n; have := form_iff.1 hF'.out; omega
        have hbL := bjoin hb hbWr
        replace gH6 := gH6.below hb
        replace gA := gA.below hb
        replace gM := gM.below hb
        replace hI6 := hI6.below hb
        replace hMk6 := hMk6.below hb
        replace hV := hV.below hb
        have hh9 := (h6.below hb).in
        have hob : ∀ t, t < M → obB h (zl t) = true := fun t ht => by
          rw [← eM] at ht
          rw [← ez]
          dsimp only
          rw [List.getElem?_eq_getElem ht]
          exact (mem_obL hF'.out).1 (List.getElem_mem ht)
        clear hb hc hf hz x0 x1 x2 l0 h6 hbWr eM ez
        generalize w' = w9 at *
        have hFf : Hid (formB (flipB h) = true) := hF'
        go_loopg [10] M (fun g iv wz => ∃ t : Nat, t ≤ M ∧ g = M - t ∧ iv = .int .i64 t ∧ Below w9.heap.size w9 wz)
        case atStart => exact ⟨0, by omega, by omega, rfl, Below.refl _ _⟩
        case round =>
          obtain ⟨t, th, rfl, rfl, hbz⟩ := hrel
          by_cases ht : t < M
          · obtain ⟨⟨bl, ol, rfl, hlt, v0⟩, -⟩ := (hIl.below hbz) t ht
            have hoX := hob t ht
            have hF8 := fl_black hoX
            obtain ⟨X, hX⟩ : ∃ X, Hid (X = zl t) := ⟨_, rfl⟩
            rw [← hX.out] at v0 hoX hF8
            obtain ⟨bx, hbx1, hbx2⟩ : ∃ bx : Bool → Bool, bx h.b = blB h X ∧ bx (!h.b) = blB (flipB h) X := ⟨fun s => if s = h.b then blB h X else blB (flipB h) X, by simp, by simp⟩
            have hB2 : ∀ W p1 c1 q1 d1 s, (HpIn W p1 h.n c1 q1 h.m d1 s h ∨ HpIn W p1 h.n c1 q1 h.m d1 s (flipB h)) → Calls Tryd.prog 14 #[.agg #[.slice p1 h.n c1, .slice q1 h.m d1, .bool s], .int .i64 X] W fun e w' => e = .returned (.bool (bx s)) ∧ Below W.heap.size W w' := fun W p1 c1 q1 d1 s hor => by
              rcases hor with hor | hor
              · obtain ⟨-, -, es, ha⟩ := hor
                have := rblack8_any p1 c1 q1 d1 h X W ha hF'.out
                rwa [← hbx1, ← es] at this
              · obtain ⟨-, -, es, ha⟩ := hor
                have := rblack8_any p1 c1 q1 d1 (flipB h) X W ha hFf.out
                rw [← hbx2, show (!h.b) = s from es.symm] at this
                rw [show s = (flipB h).b from es] at this ⊢
                exact this
            have hne : (bx (!h.b) == bx h.b) = false := by rw [hbx1, hbx2, hF8]; cases blB h X <;> rfl
            have gHz := gH6.below hbz
            have gAz := gA.below hbz
            have hIz := hI6.below hbz
            have hhz := hh9.below hbz
            clear hbx1 hbx2 hF8 hoX
            go_upto_region 17 with fail
            refine wp_late (ds := [some 93, some 94, some 95, some 96, some 97, some 98, some 99, some 100, some 101, some 102, some 103, some 104, some 105]) (ts := [93, 94, 95, 96, 97, 98, 99, 100, 101, 102, 103, 104, 105]) (pv := [(fun v _ => v = .agg #[.slice p' h.n c', .slice q' h.m d', .bool (!h.b)]), (fun v _ => v = .slice (some ⟨bl, ol, none⟩) M cl), (fun v _ => v = .int .i64 (t : Int)), (fun v _ => v = .pointer (some ⟨bl, ol + t, none⟩)), (fun v _ => v = .int .i64 X), (fun v _ => v = .bool (bx (!h.b))), (fun v _ => v = .agg #[.slice p h.n c, .slice q h.m d, .bool h.b]), (fun v _ => v = .slice (some ⟨bl, ol, none⟩) M cl), (fun v _ => v = .int .i64 (t : Int)), (fun v _ => v = .pointer (some ⟨bl, ol + t, none⟩)), (fun v _ => v = .int .i64 X), (fun v _ => v = .bool (bx h.b)), (fun v _ => v = .bool false)]) (skip := fun i => ([] : List Nat).contains i) (ia := 1000) (is := 1000) (k := 106) (Shape := (fun _ _ => True)) (Full := (fun _ _ => True)) (by kernel_rfl) (by kernel_rfl) rfl rfl (by decide) (by decide) (by simp) ?_ (by decide) (fun _ _ _ _ _ => trivial) (fun _ _ _ _ _ => trivial) ?_ ?_ ?_ ?_
            · exact .inl rfl
            · exact ⟨fun _ _ _ h _ => h, fun _ _ _ h _ => h, fun _ _ _ h _ => h, fun _ _ _ h _ => h, fun _ _ _ h _ => h, fun _ _ _ h _ => h, fun _ _ _ h _ => h, fun _ _ _ h _ => h, fun _ _ _ h _ => h, fun _ _ _ h _ => h, fun _ _ _ h _ => h, fun _ _ _ h _ => h, fun _ _ _ h _ => h, trivial⟩
            · exact ⟨rfl, rfl, rfl, rfl, rfl, rfl, rfl, rfl, rfl, rfl, rfl, rfl, rfl, trivial⟩
            · refine ⟨?_, ?_, ?_, ?_, ?_, ?_, ?_, ?_, ?_, ?_, ?_, ?_, ?_, trivial⟩
              · intro _ a' w' hb' hs hd hn Kc hK
                have f5 : a'.tmps[5]?.getD undef = .pointer (some ⟨w5.heap.size, 0, none⟩) := (hs 5 (by decide)).trans rfl
                clear hs hd hn
                rw [if_neg (by decide), if_neg (by decide)] at hK
                have v4 := (hb'.cell (p := ⟨bl, ol + t, none⟩) hlt).trans v0
                obtain ⟨lA, a0, a1, a2⟩ := box_three (gAz.below hb')
                obtain ⟨l0, x0, x1, x2⟩ := box_three (gHz.below hb')
                have hPa : HpIn w' p h.n c q h.m d h.b h ∨ HpIn w' p h.n c q h.m d h.b (flipB h) := .inl (hhz.below hb')
                have hPb : HpIn w' p' h.n c' q' h.m d' (!h.b) h ∨ HpIn w' p' h.n c' q' h.m d' (!h.b) (flipB h) := .inr (hIz.below hb')
                unfold Oper.wp
                go_simp
                try go_bits
                exact hK _ _ (Below.refl _ _) (by first | rfl | (show Value.int _ _ = Value.int _ _; go_num; done) | (simp [valOf, *]; done) | (simp [valOf]; omega))
              · intro _ a' w' hb' hs hd hn Kc hK
                have f9 : a'.tmps[9]?.getD undef = .slice (some ⟨bl, ol, none⟩) M cl := (hs 9 (by decide)).trans rfl
                clear hs hd hn
                rw [if_neg (by decide), if_neg (by decide)] at hK
                have v4 := (hb'.cell (p := ⟨bl, ol + t, none⟩) hlt).trans v0
                obtain ⟨lA, a0, a1, a2⟩ := box_three (gAz.below hb')
                obtain ⟨l0, x0, x1, x2⟩ := box_three (gHz.below hb')
                have hPa : HpIn w' p h.n c q h.m d h.b h ∨ HpIn w' p h.n c q h.m d h.b (flipB h) := .inl (hhz.below hb')
                have hPb : HpIn w' p' h.n c' q' h.m d' (!h.b) h ∨ HpIn w' p' h.n c' q' h.m d' (!h.b) (flipB h) := .inr (hIz.below hb')
                unfold Oper.wp
                go_simp
                try go_bits
                exact hK _ _ (Below.refl _ _) (by first | rfl | (show Value.int _ _ = Value.int _ _; go_num; done) | (simp [valOf, *]; done) | (simp [valOf]; omega))
              · intro _ a' w' hb' hs hd hn Kc hK
                have f10 : a'.tmps[10]?.getD undef = .int .i64 (t : Int) := (hs 10 (by decide)).trans rfl
                clear hs hd hn
                rw [if_neg (by decide), if_neg (by decide)] at hK
                have v4 := (hb'.cell (p := ⟨bl, ol + t, none⟩) hlt).trans v0
                obtain ⟨lA, a0, a1, a2⟩ := box_three (gAz.below hb')
                obtain ⟨l0, x0, x1, x2⟩ := box_three (gHz.below hb')
                have hPa : HpIn w' p h.n c q h.m d h.b h ∨ HpIn w' p h.n c q h.m d h.b (flipB h) := .inl (hhz.below hb')
                have hPb : HpIn w' p' h.n c' q' h.m d' (!h.b) h ∨ HpIn w' p' h.n c' q' h.m d' (!h.b) (flipB h) := .inr (hIz.below hb')
                unfold Oper.wp
                go_simp
                try go_bits
                exact hK _ _ (Below.refl _ _) (by first | rfl | (show Value.int _ _ = Value.int _ _; go_num; done) | (simp [valOf, *]; done) | (simp [valOf]; omega))
              · intro _ a' w' hb' hs hd hn Kc hK
                have f94 : a'.tmps[94]?.getD undef = .slice (some ⟨bl, ol, none⟩) M cl := hd 1 94 (by first | rfl | decide | simp [Region.binds]) rfl (by decide) (by decide) rfl
                have f95 : a'.tmps[95]?.getD undef = .int .i64 (t : Int) := hd 2 95 (by first | rfl | decide | simp [Region.binds]) rfl (by decide) (by decide) rfl
                clear hs hd hn
                rw [if_neg (by decide), if_neg (by decide)] at hK
                have v4 := (hb'.cell (p := ⟨bl, ol + t, none⟩) hlt).trans v0
                obtain ⟨lA, a0, a1, a2⟩ := box_three (gAz.below hb')
                obtain ⟨l0, x0, x1, x2⟩ := box_three (gHz.below hb')
                have hPa : HpIn w' p h.n c q h.m d h.b h ∨ HpIn w' p h.n c q h.m d h.b (flipB h) := .inl (hhz.below hb')
                have hPb : HpIn w' p' h.n c' q' h.m d' (!h.b) h ∨ HpIn w' p' h.n c' q' h.m d' (!h.b) (flipB h) := .inr (hIz.below hb')
                unfold Oper.wp
                go_simp
                try go_bits
                exact hK _ _ (Below.refl _ _) (by first | rfl | (show Value.int _ _ = Value.int _ _; go_num; done) | (simp [valOf, *]; done) | (simp [valOf]; omega))
              · intro _ a' w' hb' hs hd hn Kc hK
                have f96 : a'.tmps[96]?.getD undef = .pointer (some ⟨bl, ol + t, none⟩) := hd 3 96 (by first | rfl | decide | simp [Region.binds]) rfl (by decide) (by decide) rfl
                clear hs hd hn
                rw [if_neg (by decide), if_neg (by decide)] at hK
                have v4 := (hb'.cell (p := ⟨bl, ol + t, none⟩) hlt).trans v0
                obtain ⟨lA, a0, a1, a2⟩ := box_three (gAz.below hb')
                obtain ⟨l0, x0, x1, x2⟩ := box_three (gHz.below hb')
                have hPa : HpIn w' p h.n c q h.m d h.b h ∨ HpIn w' p h.n c q h.m d h.b (flipB h) := .inl (hhz.below hb')
                have hPb : HpIn w' p' h.n c' q' h.m d' (!h.b) h ∨ HpIn w' p' h.n c' q' h.m d' (!h.b) (flipB h) := .inr (hIz.below hb')
                unfold Oper.wp
                go_simp
                try go_bits
                exact hK _ _ (Below.refl _ _) (by first | rfl | (show Value.int _ _ = Value.int _ _; go_num; done) | (simp [valOf, *]; done) | (simp [valOf]; omega))
              · intro _ a' w' hb' hs hd hn Kc hK
                have f93 : a'.tmps[93]?.getD undef = .agg #[.slice p' h.n c', .slice q' h.m d', .bool (!h.b)] := hd 0 93 (by first | rfl | decide | simp [Region.binds]) rfl (by decide) (by decide) rfl
                have f97 : a'.tmps[97]?.getD undef = .int .i64 X := hd 4 97 (by first | rfl | decide | simp [Region.binds]) rfl (by decide) (by decide) rfl
                clear hs hd hn
                rw [if_neg (by decide), if_neg (by decide)] at hK
                have v4 := (hb'.cell (p := ⟨bl, ol + t, none⟩) hlt).trans v0
                obtain ⟨lA, a0, a1, a2⟩ := box_three (gAz.below hb')
                obtain ⟨l0, x0, x1, x2⟩ := box_three (gHz.below hb')
                have hPa : HpIn w' p h.n c q h.m d h.b h ∨ HpIn w' p h.n c q h.m d h.b (flipB h) := .inl (hhz.below hb')
                have hPb : HpIn w' p' h.n c' q' h.m d' (!h.b) h ∨ HpIn w' p' h.n c' q' h.m d' (!h.b) (flipB h) := .inr (hIz.below hb')
                unfold Oper.wp
                go_simp
                try go_bits
                refine Calls.mono (hB2 _ _ _ _ _ _ (by assumption)) ?_
                rintro e w'' ⟨rfl, hb2⟩
                exact hK _ _ hb2 rfl
              · intro _ a' w' hb' hs hd hn Kc hK
                have f2 : a'.tmps[2]?.getD undef = .pointer (some ⟨w.heap.size, 0, none⟩) := (hs 2 (by decide)).trans rfl
                clear hs hd hn
                rw [if_neg (by decide), if_neg (by decide)] at hK
                have v4 := (hb'.cell (p := ⟨bl, ol + t, none⟩) hlt).trans v0
                obtain ⟨lA, a0, a1, a2⟩ := box_three (gAz.below hb')
                obtain ⟨l0, x0, x1, x2⟩ := box_three (gHz.below hb')
                have hPa : HpIn w' p h.n c q h.m d h.b h ∨ HpIn w' p h.n c q h.m d h.b (flipB h) := .inl (hhz.below hb')
                have hPb : HpIn w' p' h.n c' q' h.m d' (!h.b) h ∨ HpIn w' p' h.n c' q' h.m d' (!h.b) (flipB h) := .inr (hIz.below hb')
                unfold Oper.wp
                go_simp
                try go_bits
                exact hK _ _ (Below.refl _ _) (by first | rfl | (show Value.int _ _ = Value.int _ _; go_num; done) | (simp [valOf, *]; done) | (simp [valOf]; omega))
              · intro _ a' w' hb' hs hd hn Kc hK
                have f9 : a'.tmps[9]?.getD undef = .slice (some ⟨bl, ol, none⟩) M cl := (hs 9 (by decide)).trans rfl
                clear hs hd hn
                rw [if_neg (by decide), if_neg (by decide)] at hK
                have v4 := (hb'.cell (p := ⟨bl, ol + t, none⟩) hlt).trans v0
                obtain ⟨lA, a0, a1, a2⟩ := box_three (gAz.below hb')
                obtain ⟨l0, x0, x1, x2⟩ := box_three (gHz.below hb')
                have hPa : HpIn w' p h.n c q h.m d h.b h ∨ HpIn w' p h.n c q h.m d h.b (flipB h) := .inl (hhz.below hb')
                have hPb : HpIn w' p' h.n c' q' h.m d' (!h.b) h ∨ HpIn w' p' h.n c' q' h.m d' (!h.b) (flipB h) := .inr (hIz.below hb')
                unfold Oper.wp
                go_simp
                try go_bits
                exact hK _ _ (Below.refl _ _) (by first | rfl | (show Value.int _ _ = Value.int _ _; go_num; done) | (simp [valOf, *]; done) | (simp [valOf]; omega))
              · intro _ a' w' hb' hs hd hn Kc hK
                have f10 : a'.tmps[10]?.getD undef = .int .i64 (t : Int) := (hs 10 (by decide)).trans rfl
                clear hs hd hn
                rw [if_neg (by decide), if_neg (by decide)] at hK
                have v4 := (hb'.cell (p := ⟨bl, ol + t, none⟩) hlt).trans v0
                obtain ⟨lA, a0, a1, a2⟩ := box_three (gAz.below hb')
                obtain ⟨l0, x0, x1, x2⟩ := box_three (gHz.below hb')
                have hPa : HpIn w' p h.n c q h.m d h.b h ∨ HpIn w' p h.n c q h.m d h.b (flipB h) := .inl (hhz.below hb')
                have hPb : HpIn w' p' h.n c' q' h.m d' (!h.b) h ∨ HpIn w' p' h.n c' q' h.m d' (!h.b) (flipB h) := .inr (hIz.below hb')
                unfold Oper.wp
                go_simp
                try go_bits
                exact hK _ _ (Below.refl _ _) (by first | rfl | (show Value.int _ _ = Value.int _ _; go_num; done) | (simp [valOf, *]; done) | (simp [valOf]; omega))
              · intro _ a' w' hb' hs hd hn Kc hK
                have f100 : a'.tmps[100]?.getD undef = .slice (some ⟨bl, ol, none⟩) M cl := hd 7 100 (by first | rfl | decide | simp [Region.binds]) rfl (by decide) (by decide) rfl
                have f101 : a'.tmps[101]?.getD undef = .int .i64 (t : Int) := hd 8 101 (by first | rfl | decide | simp [Region.binds]) rfl (by decide) (by decide) rfl
                clear hs hd hn
                rw [if_neg (by decide), if_neg (by decide)] at hK
                have v4 := (hb'.cell (p := ⟨bl, ol + t, none⟩) hlt).trans v0
                obtain ⟨lA, a0, a1, a2⟩ := box_three (gAz.below hb')
                obtain ⟨l0, x0, x1, x2⟩ := box_three (gHz.below hb')
                have hPa : HpIn w' p h.n c q h.m d h.b h ∨ HpIn w' p h.n c q h.m d h.b (flipB h) := .inl (hhz.below hb')
                have hPb : HpIn w' p' h.n c' q' h.m d' (!h.b) h ∨ HpIn w' p' h.n c' q' h.m d' (!h.b) (flipB h) := .inr (hIz.below hb')
                unfold Oper.wp
                go_simp
                try go_bits
                exact hK _ _ (Below.refl _ _) (by first | rfl | (show Value.int _ _ = Value.int _ _; go_num; done) | (simp [valOf, *]; done) | (simp [valOf]; omega))
              · intro _ a' w' hb' hs hd hn Kc hK
                have f102 : a'.tmps[102]?.getD undef = .pointer (some ⟨bl, ol + t, none⟩) := hd 9 102 (by first | rfl | decide | simp [Region.binds]) rfl (by decide) (by decide) rfl
                clear hs hd hn
                rw [if_neg (by decide), if_neg (by decide)] at hK
                have v4 := (hb'.cell (p := ⟨bl, ol + t, none⟩) hlt).trans v0
                obtain ⟨lA, a0, a1, a2⟩ := box_three (gAz.below hb')
                obtain ⟨l0, x0, x1, x2⟩ := box_three (gHz.below hb')
                have hPa : HpIn w' p h.n c q h.m d h.b h ∨ HpIn w' p h.n c q h.m d h.b (flipB h) := .inl (hhz.below hb')
                have hPb : HpIn w' p' h.n c' q' h.m d' (!h.b) h ∨ HpIn w' p' h.n c' q' h.m d' (!h.b) (flipB h) := .inr (hIz.below hb')
                unfold Oper.wp
                go_simp
                try go_bits
                exact hK _ _ (Below.refl _ _) (by first | rfl | (show Value.int _ _ = Value.int _ _; go_num; done) | (simp [valOf, *]; done) | (simp [valOf]; omega))
              · intro _ a' w' hb' hs hd hn Kc hK
                have f99 : a'.tmps[99]?.getD undef = .agg #[.slice p h.n c, .slice q h.m d, .bool h.b] := hd 6 99 (by first | rfl | decide | simp [Region.binds]) rfl (by decide) (by decide) rfl
                have f103 : a'.tmps[103]?.getD undef = .int .i64 X := hd 10 103 (by first | rfl | decide | simp [Region.binds]) rfl (by decide) (by decide) rfl
                clear hs hd hn
                rw [if_neg (by decide), if_neg (by decide)] at hK
                have v4 := (hb'.cell (p := ⟨bl, ol + t, none⟩) hlt).trans v0
                obtain ⟨lA, a0, a1, a2⟩ := box_three (gAz.below hb')
                obtain ⟨l0, x0, x1, x2⟩ := box_three (gHz.below hb')
                have hPa : HpIn w' p h.n c q h.m d h.b h ∨ HpIn w' p h.n c q h.m d h.b (flipB h) := .inl (hhz.below hb')
                have hPb : HpIn w' p' h.n c' q' h.m d' (!h.b) h ∨ HpIn w' p' h.n c' q' h.m d' (!h.b) (flipB h) := .inr (hIz.below hb')
                unfold Oper.wp
                go_simp
                try go_bits
                refine Calls.mono (hB2 _ _ _ _ _ _ (by assumption)) ?_
                rintro e w'' ⟨rfl, hb2⟩
                exact hK _ _ hb2 rfl
              · intro _ a' w' hb' hs hd hn Kc hK
                have f98 : a'.tmps[98]?.getD undef = .bool (bx (!h.b)) := hd 5 98 (by first | rfl | decide | simp [Region.binds]) rfl (by decide) (by decide) rfl
                have f104 : a'.tmps[104]?.getD undef = .bool (bx h.b) := hd 11 104 (by first | rfl | decide | simp [Region.binds]) rfl (by decide) (by decide) rfl
                clear hs hd hn
                rw [if_neg (by decide), if_neg (by decide)] at hK
                have v4 := (hb'.cell (p := ⟨bl, ol + t, none⟩) hlt).trans v0
                obtain ⟨lA, a0, a1, a2⟩ := box_three (gAz.below hb')
                obtain ⟨l0, x0, x1, x2⟩ := box_three (gHz.below hb')
                have hPa : HpIn w' p h.n c q h.m d h.b h ∨ HpIn w' p h.n c q h.m d h.b (flipB h) := .inl (hhz.below hb')
                have hPb : HpIn w' p' h.n c' q' h.m d' (!h.b) h ∨ HpIn w' p' h.n c' q' h.m d' (!h.b) (flipB h) := .inr (hIz.below hb')
                unfold Oper.wp
                go_simp
                try go_bits
                exact hK _ _ (Below.refl _ _) (by first | rfl | (show Value.int _ _ = Value.int _ _; go_num; done) | (simp [valOf, *]; done) | (simp [valOf]; omega))
            intro Xf g w' hX hb hv
            have q105 : Xf 105 = .bool false := hv 12 105 rfl rfl (by decide) (by decide)
            clear hX hv
            simp only [List.map_cons, List.map_nil, q105, puts, Act.put, Nat.reduceAdd, List.setIfInBounds_toArray, List.set_cons_succ, List.set_cons_zero]
            have hb10 := bjoin hb hbz
            clear hb hlt v0 hB2 hne gHz gAz hIz hhz
            go_wp2
            go_roundg (M - (t + 1))
            case measure => omega
            case rel => exact ⟨t + 1, by omega, rfl, by go_num, hb10⟩
          · obtain rfl : t = M := by omega
            have hMkr := (hMk6.below hbz).r
            have hVr := hV.below hbz
            have gHz := gH6.below hbz
            have gAz := gA.below hbz
            have gMz := gM.below hbz
            have hIz := hI6.below hbz
            have hhz := hh9.below hbz
            have hbQ := hbL.trans (hbz.mono hbL.size)
            have hrl : (rootL h z j).length ≤ 230 := by unfold rootL; rw [List.length_append]; have := pendL_len h z j; omega
            have hrr : rcL (flipB h) (vrL (lvF (rootL h z j)) (rootL h z j).length) = rcL h (vrL (lvF (heldL z j)) (heldL z j).length) := by
              rw [fl_rc]
              unfold rcL
              congr 1
              funext a
              rw [decide_eq_decide]
              exact root_reach (h := h) (z := z) (n := j) (fun v => Iff.rfl) (fun v => Iff.rfl) a
            obtain ⟨RL, eRL⟩ : ∃ RL, RL = rcL h (vrL (lvF (heldL z j)) (heldL z j).length) := ⟨_, rfl⟩
            have hFr : ∀ W p1 c1 q1 d1 s pv K cv, ((HpIn W p1 h.n c1 q1 h.m d1 s h ∧ VAt W pv cv K (lvF (heldL z j)) ∧ K = (heldL z j).length) ∨ (HpIn W p1 h.n c1 q1 h.m d1 s (flipB h) ∧ VAt W pv cv K (lvF (rootL h z j)) ∧ K = (rootL h z j).length)) → Calls Tryd.prog 16 #[.agg #[.slice p1 h.n c1, .slice q1 h.m d1, .bool s], .slice pv K cv] W fun e w' => ∃ pl cl, e = .returned (.slice pl RL.length cl) ∧ (Ints .i64 w' pl RL.length fun i => RL[i]?.getD 0) ∧ Below W.heap.size W w' := fun W p1 c1 q1 d1 s pv K cv hor => by
              rcases hor with ⟨⟨-, -, es, ha⟩, hv, rfl⟩ | ⟨⟨-, -, es, ha⟩, hv, rfl⟩
              · have := rfrom15_any p1 c1 q1 d1 h pv _ cv _ W ha hF'.out hv (by omega)
                rw [← eRL] at this
                rw [es]
                refine Calls.mono this ?_
                rintro e w' ⟨pl, cl, rfl, hR, hb⟩
                exact ⟨pl, cl, rfl, hR.ints, hb⟩
              · have := rfrom15_any p1 c1 q1 d1 (flipB h) pv _ cv _ W ha hFf.out hv (by omega)
                rw [hrr, ← eRL] at this
                rw [es]
                refine Calls.mono this ?_
                rintro e w' ⟨pl, cl, rfl, hR, hb⟩
                exact ⟨pl, cl, rfl, hR.ints, hb⟩
            have hRl : RL.length ≤ maxLen := by
              have h1 : RL.length ≤ (obL h h.n).length := by rw [eRL]; exact List.length_filter_le _ _
              have h2 := obL_len h h.n
              have := form_iff.1 hF'.out
              simp only [maxLen]
              omega
            have hIs : ∀ (W : World) (pl pr : Option Addr) (cl cr : Nat), (Ints .i64 W pl RL.length fun i => RL[i]?.getD 0) → (Ints .i64 W pr RL.length fun i => RL[i]?.getD 0) → Calls Tryd.prog 15 #[.slice pl RL.length cl, .slice pr RL.length cr] W fun e w' => e = .returned (.bool true) ∧ Below W.heap.size W w' := fun W pl pr cl cr h1 h2 => by
              have := rintsG_any pl pr RL.length cl RL.length cr _ _ W h1 h2 hRl hRl
              rwa [sameI_self] at this
            clear hrr eRL hMk6 hV gH6 gA gM hI6 hh9 hob hIl hhl hrl
            go_upto_region 19 with fail
            refine wp_late (ds := [some 106, some 107, some 108, some 109, some 110, some 111, some 112, some 113, some 4]) (ts := [106, 107, 108, 109, 110, 111, 112, 113, 4]) (pv := [(fun v _ => v = .agg #[.slice p' h.n c', .slice q' h.m d', .bool (!h.b)]), (fun v _ => v = .pointer (some ⟨w5.heap.size + 1, 3, none⟩)), (fun v _ => v = .slice pr (rootL h z j).length cr), RowV (RL.length) (fun i => RL[i]?.getD 0), (fun v _ => v = .agg #[.slice p h.n c, .slice q h.m d, .bool h.b]), (fun v _ => v = .slice pp (heldL z j).length cc), RowV (RL.length) (fun i => RL[i]?.getD 0), (fun v _ => v = .bool true), (fun v _ => v = .bool true)]) (skip := fun i => ([] : List Nat).contains i) (ia := 1000) (is := 1000) (k := 114) (Shape := (fun _ _ => True)) (Full := (fun _ _ => True)) (by kernel_rfl) (by kernel_rfl) rfl rfl (by decide) (by decide) (by simp) ?_ (by decide) (fun _ _ _ _ _ => trivial) (fun _ _ _ _ _ => trivial) ?_ ?_ ?_ ?_
            · exact .inl rfl
            · exact ⟨fun _ _ _ h _ => h, fun _ _ _ h _ => h, fun _ _ _ h _ => h, fun _ _ _ h hb => h.below hb, fun _ _ _ h _ => h, fun _ _ _ h _ => h, fun _ _ _ h hb => h.below hb, fun _ _ _ h _ => h, fun _ _ _ h _ => h, trivial⟩
            · exact ⟨rfl, rfl, rfl, rfl, rfl, rfl, rfl, rfl, rfl, trivial⟩
            · refine ⟨?_, ?_, ?_, ?_, ?_, ?_, ?_, ?_, ?_, trivial⟩
              · intro _ a' w' hb' hs hd hn Kc hK
                have f5 : a'.tmps[5]?.getD undef = .pointer (some ⟨w5.heap.size, 0, none⟩) := (hs 5 (by decide)).trans rfl
                clear hs hd hn
                rw [if_neg (by decide), if_neg (by decide)] at hK
                obtain ⟨lA, a0, a1, a2⟩ := box_three (gAz.below hb')
                obtain ⟨l0, x0, x1, x2⟩ := box_three (gHz.below hb')
                obtain ⟨l8, y0, y1, y2, y3, y4, y5, y6, y7⟩ := mk_cells (gMz.below hb')
                have hPa : (HpIn w' p h.n c q h.m d h.b h ∧ VAt w' pp cc (heldL z j).length (lvF (heldL z j)) ∧ (heldL z j).length = (heldL z j).length) ∨ (HpIn w' p h.n c q h.m d h.b (flipB h) ∧ VAt w' pp cc (heldL z j).length (lvF (rootL h z j)) ∧ (heldL z j).length = (rootL h z j).length) := .inl ⟨hhz.below hb', hVr.below hb', rfl⟩
                have hPb : (HpIn w' p' h.n c' q' h.m d' (!h.b) h ∧ VAt w' pr cr (rootL h z j).length (lvF (heldL z j)) ∧ (rootL h z j).length = (heldL z j).length) ∨ (HpIn w' p' h.n c' q' h.m d' (!h.b) (flipB h) ∧ VAt w' pr cr (rootL h z j).length (lvF (rootL h z j)) ∧ (rootL h z j).length = (rootL h z j).length) := .inr ⟨hIz.below hb', hMkr.below hb', rfl⟩
                unfold Oper.wp
                go_simp
                try go_bits
                exact hK _ _ (Below.refl _ _) (by first | rfl | (show Value.int _ _ = Value.int _ _; go_num; done) | (simp [valOf, *]; done) | (simp [valOf]; omega))
              · intro _ a' w' hb' hs hd hn Kc hK
                have f6 : a'.tmps[6]?.getD undef = .pointer (some ⟨w5.heap.size + 1, 0, none⟩) := (hs 6 (by decide)).trans rfl
                clear hs hd hn
                rw [if_neg (by decide), if_neg (by decide)] at hK
                obtain ⟨lA, a0, a1, a2⟩ := box_three (gAz.below hb')
                obtain ⟨l0, x0, x1, x2⟩ := box_three (gHz.below hb')
                obtain ⟨l8, y0, y1, y2, y3, y4, y5, y6, y7⟩ := mk_cells (gMz.below hb')
                have hPa : (HpIn w' p h.n c q h.m d h.b h ∧ VAt w' pp cc (heldL z j).length (lvF (heldL z j)) ∧ (heldL z j).length = (heldL z j).length) ∨ (HpIn w' p h.n c q h.m d h.b (flipB h) ∧ VAt w' pp cc (heldL z j).length (lvF (rootL h z j)) ∧ (heldL z j).length = (rootL h z j).length) := .inl ⟨hhz.below hb', hVr.below hb', rfl⟩
                have hPb : (HpIn w' p' h.n c' q' h.m d' (!h.b) h ∧ VAt w' pr cr (rootL h z j).length (lvF (heldL z j)) ∧ (rootL h z j).length = (heldL z j).length) ∨ (HpIn w' p' h.n c' q' h.m d' (!h.b) (flipB h) ∧ VAt w' pr cr (rootL h z j).length (lvF (rootL h z j)) ∧ (rootL h z j).length = (rootL h z j).length) := .inr ⟨hIz.below hb', hMkr.below hb', rfl⟩
                unfold Oper.wp
                go_simp
                try go_bits
                exact hK _ _ (Below.refl _ _) (by first | rfl | (show Value.int _ _ = Value.int _ _; go_num; done) | (simp [valOf, *]; done) | (simp [valOf]; omega))
              · intro _ a' w' hb' hs hd hn Kc hK
                have f107 : a'.tmps[107]?.getD undef = .pointer (some ⟨w5.heap.size + 1, 3, none⟩) := hd 1 107 (by first | rfl | decide | simp [Region.binds]) rfl (by decide) (by decide) rfl
                clear hs hd hn
                rw [if_neg (by decide), if_neg (by decide)] at hK
                obtain ⟨lA, a0, a1, a2⟩ := box_three (gAz.below hb')
                obtain ⟨l0, x0, x1, x2⟩ := box_three (gHz.below hb')
                obtain ⟨l8, y0, y1, y2, y3, y4, y5, y6, y7⟩ := mk_cells (gMz.below hb')
                have hPa : (HpIn w' p h.n c q h.m d h.b h ∧ VAt w' pp cc (heldL z j).length (lvF (heldL z j)) ∧ (heldL z j).length = (heldL z j).length) ∨ (HpIn w' p h.n c q h.m d h.b (flipB h) ∧ VAt w' pp cc (heldL z j).length (lvF (rootL h z j)) ∧ (heldL z j).length = (rootL h z j).length) := .inl ⟨hhz.below hb', hVr.below hb', rfl⟩
                have hPb : (HpIn w' p' h.n c' q' h.m d' (!h.b) h ∧ VAt w' pr cr (rootL h z j).length (lvF (heldL z j)) ∧ (rootL h z j).length = (heldL z j).length) ∨ (HpIn w' p' h.n c' q' h.m d' (!h.b) (flipB h) ∧ VAt w' pr cr (rootL h z j).length (lvF (rootL h z j)) ∧ (rootL h z j).length = (rootL h z j).length) := .inr ⟨hIz.below hb', hMkr.below hb', rfl⟩
                unfold Oper.wp
                go_simp
                try go_bits
                exact hK _ _ (Below.refl _ _) (by first | rfl | (show Value.int _ _ = Value.int _ _; go_num; done) | (simp [valOf, *]; done) | (simp [valOf]; omega))
              · intro _ a' w' hb' hs hd hn Kc hK
                have f106 : a'.tmps[106]?.getD undef = .agg #[.slice p' h.n c', .slice q' h.m d', .bool (!h.b)] := hd 0 106 (by first | rfl | decide | simp [Region.binds]) rfl (by decide) (by decide) rfl
                have f108 : a'.tmps[108]?.getD undef = .slice pr (rootL h z j).length cr := hd 2 108 (by first | rfl | decide | simp [Region.binds]) rfl (by decide) (by decide) rfl
                clear hs hd hn
                rw [if_neg (by decide), if_neg (by decide)] at hK
                obtain ⟨lA, a0, a1, a2⟩ := box_three (gAz.below hb')
                obtain ⟨l0, x0, x1, x2⟩ := box_three (gHz.below hb')
                obtain ⟨l8, y0, y1, y2, y3, y4, y5, y6, y7⟩ := mk_cells (gMz.below hb')
                have hPa : (HpIn w' p h.n c q h.m d h.b h ∧ VAt w' pp cc (heldL z j).length (lvF (heldL z j)) ∧ (heldL z j).length = (heldL z j).length) ∨ (HpIn w' p h.n c q h.m d h.b (flipB h) ∧ VAt w' pp cc (heldL z j).length (lvF (rootL h z j)) ∧ (heldL z j).length = (rootL h z j).length) := .inl ⟨hhz.below hb', hVr.below hb', rfl⟩
                have hPb : (HpIn w' p' h.n c' q' h.m d' (!h.b) h ∧ VAt w' pr cr (rootL h z j).length (lvF (heldL z j)) ∧ (rootL h z j).length = (heldL z j).length) ∨ (HpIn w' p' h.n c' q' h.m d' (!h.b) (flipB h) ∧ VAt w' pr cr (rootL h z j).length (lvF (rootL h z j)) ∧ (rootL h z j).length = (rootL h z j).length) := .inr ⟨hIz.below hb', hMkr.below hb', rfl⟩
                unfold Oper.wp
                go_simp
                try go_bits
                refine Calls.mono (hFr _ _ _ _ _ _ _ _ _ (by assumption)) ?_
                rintro e w'' ⟨pm', cm', rfl, hA, hb2⟩
                exact hK _ _ hb2 ⟨_, _, rfl, hA⟩
              · intro _ a' w' hb' hs hd hn Kc hK
                have f2 : a'.tmps[2]?.getD undef = .pointer (some ⟨w.heap.size, 0, none⟩) := (hs 2 (by decide)).trans rfl
                clear hs hd hn
                rw [if_neg (by decide), if_neg (by decide)] at hK
                obtain ⟨lA, a0, a1, a2⟩ := box_three (gAz.below hb')
                obtain ⟨l0, x0, x1, x2⟩ := box_three (gHz.below hb')
                obtain ⟨l8, y0, y1, y2, y3, y4, y5, y6, y7⟩ := mk_cells (gMz.below hb')
                have hPa : (HpIn w' p h.n c q h.m d h.b h ∧ VAt w' pp cc (heldL z j).length (lvF (heldL z j)) ∧ (heldL z j).length = (heldL z j).length) ∨ (HpIn w' p h.n c q h.m d h.b (flipB h) ∧ VAt w' pp cc (heldL z j).length (lvF (rootL h z j)) ∧ (heldL z j).length = (rootL h z j).length) := .inl ⟨hhz.below hb', hVr.below hb', rfl⟩
                have hPb : (HpIn w' p' h.n c' q' h.m d' (!h.b) h ∧ VAt w' pr cr (rootL h z j).length (lvF (heldL z j)) ∧ (rootL h z j).length = (heldL z j).length) ∨ (HpIn w' p' h.n c' q' h.m d' (!h.b) (flipB h) ∧ VAt w' pr cr (rootL h z j).length (lvF (rootL h z j)) ∧ (rootL h z j).length = (rootL h z j).length) := .inr ⟨hIz.below hb', hMkr.below hb', rfl⟩
                unfold Oper.wp
                go_simp
                try go_bits
                exact hK _ _ (Below.refl _ _) (by first | rfl | (show Value.int _ _ = Value.int _ _; go_num; done) | (simp [valOf, *]; done) | (simp [valOf]; omega))
              · intro _ a' w' hb' hs hd hn Kc hK
                have f7 : a'.tmps[7]?.getD undef = .slice pp (heldL z j).length cc := (hs 7 (by decide)).trans rfl
                clear hs hd hn
                rw [if_neg (by decide), if_neg (by decide)] at hK
                obtain ⟨lA, a0, a1, a2⟩ := box_three (gAz.below hb')
                obtain ⟨l0, x0, x1, x2⟩ := box_three (gHz.below hb')
                obtain ⟨l8, y0, y1, y2, y3, y4, y5, y6, y7⟩ := mk_cells (gMz.below hb')
                have hPa : (HpIn w' p h.n c q h.m d h.b h ∧ VAt w' pp cc (heldL z j).length (lvF (heldL z j)) ∧ (heldL z j).length = (heldL z j).length) ∨ (HpIn w' p h.n c q h.m d h.b (flipB h) ∧ VAt w' pp cc (heldL z j).length (lvF (rootL h z j)) ∧ (heldL z j).length = (rootL h z j).length) := .inl ⟨hhz.below hb', hVr.below hb', rfl⟩
                have hPb : (HpIn w' p' h.n c' q' h.m d' (!h.b) h ∧ VAt w' pr cr (rootL h z j).length (lvF (heldL z j)) ∧ (rootL h z j).length = (heldL z j).length) ∨ (HpIn w' p' h.n c' q' h.m d' (!h.b) (flipB h) ∧ VAt w' pr cr (rootL h z j).length (lvF (rootL h z j)) ∧ (rootL h z j).length = (rootL h z j).length) := .inr ⟨hIz.below hb', hMkr.below hb', rfl⟩
                unfold Oper.wp
                go_simp
                try go_bits
                exact hK _ _ (Below.refl _ _) (by first | rfl | (show Value.int _ _ = Value.int _ _; go_num; done) | (simp [valOf, *]; done) | (simp [valOf]; omega))
              · intro _ a' w' hb' hs hd hn Kc hK
                have f110 : a'.tmps[110]?.getD undef = .agg #[.slice p h.n c, .slice q h.m d, .bool h.b] := hd 4 110 (by first | rfl | decide | simp [Region.binds]) rfl (by decide) (by decide) rfl
                have f111 : a'.tmps[111]?.getD undef = .slice pp (heldL z j).length cc := hd 5 111 (by first | rfl | decide | simp [Region.binds]) rfl (by decide) (by decide) rfl
                clear hs hd hn
                rw [if_neg (by decide), if_neg (by decide)] at hK
                obtain ⟨lA, a0, a1, a2⟩ := box_three (gAz.below hb')
                obtain ⟨l0, x0, x1, x2⟩ := box_three (gHz.below hb')
                obtain ⟨l8, y0, y1, y2, y3, y4, y5, y6, y7⟩ := mk_cells (gMz.below hb')
                have hPa : (HpIn w' p h.n c q h.m d h.b h ∧ VAt w' pp cc (heldL z j).length (lvF (heldL z j)) ∧ (heldL z j).length = (heldL z j).length) ∨ (HpIn w' p h.n c q h.m d h.b (flipB h) ∧ VAt w' pp cc (heldL z j).length (lvF (rootL h z j)) ∧ (heldL z j).length = (rootL h z j).length) := .inl ⟨hhz.below hb', hVr.below hb', rfl⟩
                have hPb : (HpIn w' p' h.n c' q' h.m d' (!h.b) h ∧ VAt w' pr cr (rootL h z j).length (lvF (heldL z j)) ∧ (rootL h z j).length = (heldL z j).length) ∨ (HpIn w' p' h.n c' q' h.m d' (!h.b) (flipB h) ∧ VAt w' pr cr (rootL h z j).length (lvF (rootL h z j)) ∧ (rootL h z j).length = (rootL h z j).length) := .inr ⟨hIz.below hb', hMkr.below hb', rfl⟩
                unfold Oper.wp
                go_simp
                try go_bits
                refine Calls.mono (hFr _ _ _ _ _ _ _ _ _ (by assumption)) ?_
                rintro e w'' ⟨pm', cm', rfl, hA, hb2⟩
                exact hK _ _ hb2 ⟨_, _, rfl, hA⟩
              · intro _ a' w' hb' hs hd hn Kc hK
                obtain ⟨pm, cm, f109, hA⟩ := hd 3 109 (by first | rfl | decide | simp [Region.binds]) rfl (by decide) (by decide) rfl
                obtain ⟨pm, cm, f112, hA⟩ := hd 6 112 (by first | rfl | decide | simp [Region.binds]) rfl (by decide) (by decide) rfl
                clear hs hd hn
                rw [if_neg (by decide), if_neg (by decide)] at hK
                obtain ⟨lA, a0, a1, a2⟩ := box_three (gAz.below hb')
                obtain ⟨l0, x0, x1, x2⟩ := box_three (gHz.below hb')
                obtain ⟨l8, y0, y1, y2, y3, y4, y5, y6, y7⟩ := mk_cells (gMz.below hb')
                have hPa : (HpIn w' p h.n c q h.m d h.b h ∧ VAt w' pp cc (heldL z j).length (lvF (heldL z j)) ∧ (heldL z j).length = (heldL z j).length) ∨ (HpIn w' p h.n c q h.m d h.b (flipB h) ∧ VAt w' pp cc (heldL z j).length (lvF (rootL h z j)) ∧ (heldL z j).length = (rootL h z j).length) := .inl ⟨hhz.below hb', hVr.below hb', rfl⟩
                have hPb : (HpIn w' p' h.n c' q' h.m d' (!h.b) h ∧ VAt w' pr cr (rootL h z j).length (lvF (heldL z j)) ∧ (rootL h z j).length = (heldL z j).length) ∨ (HpIn w' p' h.n c' q' h.m d' (!h.b) (flipB h) ∧ VAt w' pr cr (rootL h z j).length (lvF (rootL h z j)) ∧ (rootL h z j).length = (rootL h z j).length) := .inr ⟨hIz.below hb', hMkr.below hb', rfl⟩
                unfold Oper.wp
                go_simp
                try go_bits
                refine Calls.mono (hIs _ _ _ _ _ (by assumption) (by assumption)) ?_
                rintro e w'' ⟨rfl, hb2⟩
                exact hK _ _ hb2 rfl
              · intro _ a' w' hb' hs hd hn Kc hK
                have f113 : a'.tmps[113]?.getD undef = .bool true := hd 7 113 (by first | rfl | decide | simp [Region.binds]) rfl (by decide) (by decide) rfl
                clear hs hd hn
                rw [if_neg (by decide), if_neg (by decide)] at hK
                obtain ⟨lA, a0, a1, a2⟩ := box_three (gAz.below hb')
                obtain ⟨l0, x0, x1, x2⟩ := box_three (gHz.below hb')
                obtain ⟨l8, y0, y1, y2, y3, y4, y5, y6, y7⟩ := mk_cells (gMz.below hb')
                have hPa : (HpIn w' p h.n c q h.m d h.b h ∧ VAt w' pp cc (heldL z j).length (lvF (heldL z j)) ∧ (heldL z j).length = (heldL z j).length) ∨ (HpIn w' p h.n c q h.m d h.b (flipB h) ∧ VAt w' pp cc (heldL z j).length (lvF (rootL h z j)) ∧ (heldL z j).length = (rootL h z j).length) := .inl ⟨hhz.below hb', hVr.below hb', rfl⟩
                have hPb : (HpIn w' p' h.n c' q' h.m d' (!h.b) h ∧ VAt w' pr cr (rootL h z j).length (lvF (heldL z j)) ∧ (rootL h z j).length = (heldL z j).length) ∨ (HpIn w' p' h.n c' q' h.m d' (!h.b) (flipB h) ∧ VAt w' pr cr (rootL h z j).length (lvF (rootL h z j)) ∧ (rootL h z j).length = (rootL h z j).length) := .inr ⟨hIz.below hb', hMkr.below hb', rfl⟩
                unfold Oper.wp
                go_simp
                try go_bits
                exact hK _ _ (Below.refl _ _) (by first | rfl | (show Value.int _ _ = Value.int _ _; go_num; done) | (simp [valOf, *]; done) | (simp [valOf]; omega))
            intro Xf g w' hX hb hv
            have q4 : Xf 4 = .bool true := hv 8 4 rfl rfl (by decide) (by decide)
            clear hX hv
            simp only [List.map_cons, List.map_nil, q4, puts, Act.put, Nat.reduceAdd, List.setIfInBounds_toArray, List.set_cons_succ, List.set_cons_zero]
            go_wp2
            go_returns
            exact ⟨rfl, bjoin hb hbQ⟩
  · have hgo' : (formB h && fewU z n) = false := by simpa using hgo
    rw [hgo'] at hFi
    clear hgo hgo'
    go_enter Tryd.func4, Tryd.ntmps4
    go_upto_region 1 with fail
    rw [← hw0]
    clear hw0
    go_wp2_with (first
    | (go_at_call 7; refine Calls.mono (awake18_any _ (hS.below (by go_grown))) ?_; rintro e w' ⟨rfl, hb⟩; obtain ⟨hc, hf, hb, hz⟩ := bstep hb (w := w0) (by go_grown); try simp only [World.size_alloc, World.size_setCell, World.size_drew] at hc hf hz)
    | (go_at_call 8; refine Calls.mono (hFi _ (by go_grown)) ?_; rintro e w' ⟨rfl, hb⟩; obtain ⟨hc, hf, hb, hz⟩ := bstep hb (w := w0) (by go_grown); try simp only [World.size_alloc, World.size_setCell, World.size_drew] at hc hf hz)
    )
    go_returns
    exact ⟨rfl, bjoin hb hB0⟩
namespace SnapHolds
/-- What the row lists. -/
def lists : List (String × DataW Unit) := [("flotsam/class.sizes", Rows.laid_flotsam_class_sizes)]
set_option maxRecDepth 100000 in
theorem lifted (os : Os) (started : os.Started) (H : Type) (enc : TypeId × Value → H) :
    ReturnsInHanded {} Tryd.checked os 4 .any (fun w args => (Rows.snapHoldsSpec.pre enc Tryd.prog Tryd.f4 Rows.snapHoldsRow.domain false w args ∧ laidMetH Tryd.prog lists w) ∧ sizedMet enc Tryd.prog Tryd.f4 (OpenSpec.ofChange Rows.snapHoldsSpec) false w args) (Rows.snapHoldsSpec.post enc Tryd.prog Tryd.f4 false true false false) := by
  refine law_lifted_laid (C := Tryd.checked) seat_own started (by kernel_rfl) Tryd.func4 (by kernel_rfl) (of_decide_eq_true (by kernel_rfl)) rfl
    (fun ds hd => by have hd' : ds.length = 2 := hd; match ds, hd' with | [d0, d1], _ => rfl) rfl Tryd.underlying4
    (ChangeSpec.witness_shaped (enc := enc) (C := Tryd.checked) (os := os) (X := fun w _ => laidMetH Tryd.prog lists w) false (World.laidAll Tryd.prog os lists) #[.agg #[.slice none 0 0, .slice none 0 0, .bool false], .slice none 0 0] 8 (World.laidAll_os _ _ _)
      (World.shaped_of_ZipB (by kernel_rfl) (by kernel_rfl)) (by kernel_rfl) (by kernel_rfl) (by kernel_rfl)
      (by rw [MakeChecks.laidMetH_plain _ _ _ (by kernel_rfl)]; exact laidMet_laidAll _ (by kernel_rfl) (by kernel_rfl))) ?_
  intro W base args ds p hval hA hlt hL
  have hS : Sz W := sizes_of hL (by kernel_rfl) rfl
  rw [Tryd.params4] at hA hval
  obtain ⟨v0, v1, d0, d1, p0, p1, rfl, rfl, rfl, h0, h1⟩ := trodAll_two hA
  obtain ⟨x0, q0, c0, s0, e0, rfl, hh0⟩ := open_heap Tryd.underlying25 (by kernel_rfl) (by kernel_rfl) Tryd.underlying22 (by kernel_rfl) (by kernel_rfl) Tryd.underlying23 Tryd.underlying68 (by kernel_rfl) (by kernel_rfl) (by kernel_rfl) (by kernel_rfl) (by kernel_rfl) (by kernel_rfl) (hval 0 25 v0 rfl rfl) h0
  obtain ⟨q1, n1, cap1, z1, rfl, hm1⟩ := open_mutators Tryd.underlying26 Tryd.underlying49 (by kernel_rfl) ⟨rfl, rfl, rfl, rfl, rfl, rfl⟩ ⟨by kernel_rfl, by kernel_rfl, by kernel_rfl, by kernel_rfl, by kernel_rfl, by kernel_rfl⟩ Tryd.underlying35 Tryd.underlying46 (by kernel_rfl) (by kernel_rfl) (by kernel_rfl) (by kernel_rfl) (by kernel_rfl) (by kernel_rfl) rfl Tryd.underlying44 ⟨rfl, rfl, rfl, rfl⟩ ⟨by kernel_rfl, by kernel_rfl, by kernel_rfl, by kernel_rfl⟩ ⟨by kernel_rfl, by kernel_rfl, by kernel_rfl, by kernel_rfl⟩ ⟨rfl, rfl⟩ ⟨by kernel_rfl, by kernel_rfl⟩ Tryd.underlying47 (by kernel_rfl) (by kernel_rfl) (hval 1 26 v1 rfl rfl) h1
  exact holds18_walk q1 n1 cap1 z1 W hh0 hm1 hS

theorem row_holds : Rows.SnapHoldsSaid :=
  OpenClaim.holds_of_wide 4 Tryd.f4 rfl rfl rfl rfl rfl rfl rfl ⟨rfl, rfl, rfl, rfl, rfl⟩ rfl rfl rfl rfl rfl (by kernel_rfl) Tryd.func4 (by kernel_rfl)
    (of_decide_eq_true (by kernel_rfl)) (by unfold Func.isWrapper; first | (rw [if_pos (by decide +kernel)]; kernel_rfl) | (rw [if_neg (by decide +kernel)]; exact ⟨rfl, rfl⟩))
    (fun os started H enc _ => lifted os started H enc)
/-- The tied card. -/
theorem holds : Rows.SnapHoldsCardSaid :=
  Claim7.holds_tied_plain_at .later [] [.data] true (true, "1fc3ee0dc7588e3d27a7d5a24eafd86ac73523e010a7788d053712e9af2933f6") false row_holds (fun _ h => by cases h) (by kernel_rfl) (fun _ h => by cases h) snapHolds_row_tie rfl ⟨rfl, rfl⟩ (by kernel_rfl) rfl
    (fun f fn hf hfn => by
      obtain rfl : f = 4 := Option.some.inj ((show Tryd.prog.funcNamed "flotsam/flotsamlaw18.SnapHolds" = some 4 by kernel_rfl).symm.trans hf) |>.symm
      obtain rfl : fn = Tryd.f4 := (Option.some.inj (Tryd.func4.symm.trans hfn)).symm
      exact ⟨by kernel_rfl, fun j t ht => by
        rw [Tryd.params4] at ht
        have hm : t ∈ [25, 26] := by simpa using Array.mem_of_getElem? ht
        have hall : ([25, 26].all fun u => !Tryd.prog.wantsStandIn u) = true := by kernel_rfl
        exact (show Tryd.prog.wantsStandIn t = false by simpa using List.all_eq_true.1 hall t hm)⟩)
    (by kernel_rfl)
#print axioms holds
end SnapHolds
end Go.Proofs.YtmbgodncagjncaaDoor
