/- OpMore: what may be done may still be done with one more value on the stack, and room for one more; a Read is refused as a Write of a slot that is there is, but for the room. No condition; the table that the code reads is tied to the program's text. -/
import Derived.Test.YtonjnedlnfdanaaDoorRows
import Derived.Test.YtonjnedlnfdanaaDoorCards
import Derived.Test.YtonjnedlnfdanaaDoorTie
import Derived.Test.YtonjnedlnfdanaaDoorAwake19
import Derived.Test.YtonjnedlnfdanaaDoorObjIn
import Derived.SevenTiedAt
namespace Go.Proofs.YtonjnedlnfdanaaDoor
set_option linter.unusedSimpArgs false
set_option linter.unusedVariables false
open Go.ChangeShapes Go.WideShapes Go.ChangeAt Go.RowKit Go.Joins

theorem tbox_three19 {w w0 : World} {x1 x2 x3 : Array Value} {t1 t2 t3 : TypeId} (e : w0 = ((w.alloc (.cells x1 t1)).alloc (.cells x2 t2)).alloc (.cells x3 t3)) :
    TBox t1 w.heap.size x1 w0 ∧ TBox t2 (w.heap.size + 1) x2 w0 ∧ TBox t3 (w.heap.size + 1 + 1) x3 w0 ∧ Below w.heap.size w w0 := by
  obtain ⟨g1, g2, hb⟩ := tbox_two (w := w) (x1 := x1) (x2 := x2) (t1 := t1) (t2 := t2) rfl
  have hs : ((w.alloc (.cells x1 t1)).alloc (.cells x2 t2)).heap.size = w.heap.size + 1 + 1 := by simp
  generalize (w.alloc (.cells x1 t1)).alloc (.cells x2 t2) = w1 at *
  have b := (Below.refl w1.heap.size w1).alloc (Nat.le_refl _) (.cells x3 t3)
  have g3 := TBox.new t3 w1 x3
  rw [← e] at b g3
  rw [hs] at g3
  exact ⟨g1.below b, g2.below b, g3, bjoin b hb⟩
theorem pv_more {n : Nat} {z : Nat → Vl} {v : Vl} : ∀ i, i < n → pvZ z n v i = z i := fun i hi => by unfold pvZ; rw [if_neg (by omega)]
set_option maxHeartbeats 16000000 in
set_option maxRecDepth 20000 in
theorem opmore_walk {p : Option Addr} {c : Nat} {q : Option Addr} {d : Nat} {h : Hp} (pv : Option Addr) (n cv : Nat) (z : Nat → Vl) (rm k a b e vk vn : Int) (w : World) (hat : HpAt w p c q d h) (hZ : VAt w pv cv n z) (hr : 0 ≤ rm ∧ rm < 256) (hk6 : In64 k) (hv : (⟨vk, vn⟩ : Vl).wf) (hS : Sz w) :
    Calls Tryd.prog 3 #[.agg #[.slice p h.n c, .slice q h.m d, .bool h.b], .slice pv n cv, .int .u8 rm, .agg #[.int .i64 k, .int .i64 a, .int .i64 b, .int .i64 e], .agg #[.int .i64 vk, .int .i64 vn]] w fun e w' => e = .returned (.bool true) ∧ Below w.heap.size w w' := by
  obtain ⟨w0, hw0⟩ : ∃ w0, w0 = ((w.alloc (.cells #[.slice p h.n c, .slice q h.m d, .bool h.b] 25)).alloc (.cells #[.int .i64 k, .int .i64 a, .int .i64 b, .int .i64 e] 28)).alloc (.cells #[.int .i64 vk, .int .i64 vn] 30) := ⟨_, rfl⟩
  obtain ⟨gH, gO, gV, hB0⟩ := tbox_three19 hw0
  replace hat := hat.below hB0
  replace hS := hS.below hB0
  replace hZ := hZ.below hB0
  have hFi := fun W (hW : Below w0.heap.size w0 W) => rform_in (hat.below hW).in
  have hAw := fun W (hW : Below w0.heap.size w0 W) => awake19_any W (hS.below hW)
  obtain ⟨l0, x0, x1, x2⟩ := three19 gH
  by_cases hgo : formB h = true ∧ n ≤ 50
  · obtain ⟨hF, hn⟩ := hgo
    rw [hF] at hFi
    have hF' : Hid (formB h = true) := hF
    have hn50 : ¬ (n : Int) > 50 := by omega
    have hCk : ∀ (W : World) (m cm : Nat) (pm : Option Addr) (y : Nat → Vl) (r k a b e : Int), Below w0.heap.size w0 W → VAt W pm cm m y → Calls Tryd.prog 7 #[.agg #[.slice p h.n c, .slice q h.m d, .bool h.b], .slice pm m cm, .int .i64 r, .agg #[.int .i64 k, .int .i64 a, .int .i64 b, .int .i64 e]] W fun e' w' => e' = .returned (.int .i64 (ckO h m y r k a b e)) ∧ Below W.heap.size W w' := fun W m cm pm y r k a b e hW hy => ocheck_any p c q d h pm m cm y r k a b e W (hS.below hW) (hat.below hW) hF hy
    clear hF
    go_enter Tryd.func3, Tryd.ntmps3
    go_upto_region 1 with fail
    rw [← hw0]
    clear hw0
    go_upto_region 3 with (first
    | (go_at_call 5; refine Calls.mono (hAw _ (by go_grown)) ?_; rintro e w' ⟨rfl, hb⟩; obtain ⟨hc, hf, hb, hz⟩ := bstep hb (w := w0) (by go_grown); try simp only [World.size_alloc, World.size_setCell, World.size_drew] at hc hf hz)
    | (go_at_call 6; refine Calls.mono (hFi _ (by go_grown)) ?_; rintro e w' ⟨rfl, hb⟩; obtain ⟨hc, hf, hb, hz⟩ := bstep hb (w := w0) (by go_grown); try simp only [World.size_alloc, World.size_setCell, World.size_drew] at hc hf hz)
    )
    have hbW := bjoin hb hB0
    have hb0 := hb
    replace gH := gH.below hb
    replace gO := gO.below hb
    replace gV := gV.below hb
    obtain ⟨l0, x0, x1, x2⟩ := three19 gH
    obtain ⟨l1, y0, y1, y2, y3⟩ := four19 gO
    have hzb := hZ.below hb
    clear hc hf hb hFi hAw
    generalize w' = wA at *
    have hC1 := hCk wA n cv pv z rm k a b e hb0 hzb
    obtain ⟨E, hE⟩ : ∃ E, Hid (E = ckO h n z rm k a b e) := ⟨_, rfl⟩
    rw [← hE.out] at hC1
    go_upto_region 4 with (first
      | (go_at_call 7; refine Calls.mono hC1 ?_; rintro e' w' ⟨rfl, hb⟩; obtain ⟨hc, hf, hb, -⟩ := bstep hb (w := wA) (by go_grown))
    )
    replace gH := gH.below hb
    replace gO := gO.below hb
    replace gV := gV.below hb
    replace hbW := bjoin hb hbW
    replace hb0 := bjoin hb hb0
    have hzb2 := hzb.below hb
    have c0 := gV.cell 0
    have c1 := gV.cell 1
    simp only [List.getElem?_toArray, List.getElem?_cons_zero, List.getElem?_cons_succ] at c0 c1
    have lV := gV.lt
    clear hc hf hb hC1 x0 x1 x2 y0 y1 y2 y3 l0 l1 hzb
    generalize w' = wB at *
    have hE' : Hid (E = 0 → ckO h (n + 1) (pvZ z n ⟨vk, vn⟩) (rm + 1) k a b e = 0) := fun h0 => ck_more pv_more (by rw [← hE.out]; exact h0)
    go_upto_region 4 with fail
    have hPBx : allP (fun p => ∀ v w w', p v w → Below w.heap.size w w' → p v w') ([(NilB (wB.heap.size) 30), (fun v _ => v = .slice pv n cv), (CopyB (wB.heap.size) 30 2 (n) (vlVals n z)), (fun v _ => v = .agg #[.int .i64 vk, .int .i64 vn]), (OneB (wB.heap.size) 30 [.int .i64 vk, .int .i64 vn]), (OwnV (wB.heap.size) 30 2 (n + 1) (vlVals n z ++ [.int .i64 vk, .int .i64 vn]))] : List (Value → World → Prop)) := ⟨fun _ _ _ h hb => h.below hb, fun _ _ _ h _ => h, fun _ _ _ h hb => h.below hb, fun _ _ _ h _ => h, fun _ _ _ h hb => h.below hb, fun _ _ _ h hb => h.below hb, trivial⟩
    have hSBx : ∀ s1 s2 : World, (fun _ : World => True) s1 → Below s1.heap.size s1 s2 → (fun _ : World => True) s2 := fun _ _ _ _ => trivial
    refine wp_toldhead_pv 6 [34, 35, 36, 37, 38, 39] ([(NilB (wB.heap.size) 30), (fun v _ => v = .slice pv n cv), (CopyB (wB.heap.size) 30 2 (n) (vlVals n z)), (fun v _ => v = .agg #[.int .i64 vk, .int .i64 vn]), (OneB (wB.heap.size) 30 [.int .i64 vk, .int .i64 vn]), (OwnV (wB.heap.size) 30 2 (n + 1) (vlVals n z ++ [.int .i64 vk, .int .i64 vn]))] : List (Value → World → Prop)) (by kernel_rfl) (by kernel_rfl) (by kernel_rfl) (by decide) (by kernel_rfl) (by kernel_rfl) rfl rfl (by decide) (by simp) ?_ ?_
    · refine ⟨?_, ?_, ?_, ?_, ?_, ?_, trivial⟩
      · intro a' w' hb' hsz hsh hs hd Kc hK
        clear hs hd
        have x0' := (hb'.cell (p := ⟨w.heap.size + 1 + 1, 0, none⟩) lV).trans c0
        have x1' := (hb'.cell (p := ⟨w.heap.size + 1 + 1, 1, none⟩) lV).trans c1
        unfold Oper.wp
        go_simp
        exact hK _ _ (toldS_below hSBx hPBx hsz ((Below.refl _ _).alloc (Nat.le_refl _) _)) (nilB_new _ _ hsz)
      · intro a' w' hb' hsz hsh hs hd Kc hK
        have f1 : a'.tmps[1]?.getD undef = .slice pv n cv := (hs 1 (by decide)).trans rfl
        clear hs hd
        have x0' := (hb'.cell (p := ⟨w.heap.size + 1 + 1, 0, none⟩) lV).trans c0
        have x1' := (hb'.cell (p := ⟨w.heap.size + 1 + 1, 1, none⟩) lV).trans c1
        unfold Oper.wp
        go_simp
        exact hK _ _ (toldS_below hSBx hPBx hsz (Below.refl _ _)) (by first | rfl | (show Value.int _ _ = Value.int _ _; go_num; done) | (simp [valOf, *]; done) | (simp [valOf]; omega))
      · intro a' w' hb' hsz hsh hs hd Kc hK
        have f34 : NilB (wB.heap.size) 30 (a'.tmps[34]?.getD undef) w' := hd 0 34 (by first | rfl | decide | simp [Region.binds]) rfl
        have f35 : a'.tmps[35]?.getD undef = .slice pv n cv := hd 1 35 (by first | rfl | decide | simp [Region.binds]) rfl
        clear hs hd
        have x0' := (hb'.cell (p := ⟨w.heap.size + 1 + 1, 0, none⟩) lV).trans c0
        have x1' := (hb'.cell (p := ⟨w.heap.size + 1 + 1, 1, none⟩) lV).trans c1
        obtain ⟨i0, hj0, hj1, hj2, hj3⟩ := info_parts val_info
        refine step_copy rfl (.tmp 34) (.tmp 35) 26 rfl 30 i0 (.agg #[.int .i64 0, .int .i64 0]) 2 16 Tryd.underlying26 hj0 hj1 hj2 hj3 rfl (by decide) (wB.heap.size) (a'.tmps[34]?.getD undef) (by simp [Act.eval]) (f34.owns 2) (pv) (n) (cv) (vlVals n z) (by rw [← f35]; simp [Act.eval]) (by simp [vlVals_length, vals_length]) ((fun e => (hzb2.pnil e).1)) ((hzb2.row.below hb').cells) (vlVals_one _ _) (by simp only [maxLen]; omega) (by omega) hsz fun v' w2 ho hbo => ?_
        exact hK _ _ (toldS_below hSBx hPBx hsz hbo) ho
      · intro a' w' hb' hsz hsh hs hd Kc hK
        have f9 : a'.tmps[9]?.getD undef = .pointer (some ⟨w.heap.size + 1 + 1, 0, none⟩) := (hs 9 (by decide)).trans rfl
        clear hs hd
        have x0' := (hb'.cell (p := ⟨w.heap.size + 1 + 1, 0, none⟩) lV).trans c0
        have x1' := (hb'.cell (p := ⟨w.heap.size + 1 + 1, 1, none⟩) lV).trans c1
        unfold Oper.wp
        go_simp
        exact hK _ _ (toldS_below hSBx hPBx hsz (Below.refl _ _)) (by first | rfl | (show Value.int _ _ = Value.int _ _; go_num; done) | (simp [valOf, *]; done) | (simp [valOf]; omega))
      · intro a' w' hb' hsz hsh hs hd Kc hK
        have f37 : a'.tmps[37]?.getD undef = .agg #[.int .i64 vk, .int .i64 vn] := hd 3 37 (by first | rfl | decide | simp [Region.binds]) rfl
        clear hs hd
        have x0' := (hb'.cell (p := ⟨w.heap.size + 1 + 1, 0, none⟩) lV).trans c0
        have x1' := (hb'.cell (p := ⟨w.heap.size + 1 + 1, 1, none⟩) lV).trans c1
        unfold Oper.wp
        go_simp
        exact hK _ _ (toldS_below hSBx hPBx hsz ((Below.refl _ _).alloc (Nat.le_refl _) _)) (oneB_new _ _ [.int .i64 vk, .int .i64 vn] hsz)
      · intro a' w' hb' hsz hsh hs hd Kc hK
        have f36 : CopyB (wB.heap.size) 30 2 (n) (vlVals n z) (a'.tmps[36]?.getD undef) w' := hd 2 36 (by first | rfl | decide | simp [Region.binds]) rfl
        have f38 : OneB (wB.heap.size) 30 [.int .i64 vk, .int .i64 vn] (a'.tmps[38]?.getD undef) w' := hd 4 38 (by first | rfl | decide | simp [Region.binds]) rfl
        clear hs hd
        have x0' := (hb'.cell (p := ⟨w.heap.size + 1 + 1, 0, none⟩) lV).trans c0
        have x1' := (hb'.cell (p := ⟨w.heap.size + 1 + 1, 1, none⟩) lV).trans c1
        obtain ⟨i0, hj0, hj1, hj2, hj3⟩ := info_parts val_info
        refine step_more rfl (.tmp 36) (.tmp 38) 26 rfl 30 i0 (.agg #[.int .i64 0, .int .i64 0]) 2 16 Tryd.underlying26 hj0 hj1 hj2 hj3 rfl (by decide) (wB.heap.size) (a'.tmps[36]?.getD undef) (n) (vlVals n z) (by simp [Act.eval]) f36 (a'.tmps[38]?.getD undef) [.int .i64 vk, .int .i64 vn] (by simp [Act.eval]) f38 rfl (by simp [Value.oneCell']) (by simp only [maxLen]; omega) (by omega) hsz fun v' w2 ho hch => ?_
        refine hK _ _ ?_ ho
        rcases hch with hch | hch
        · exact (toldS_below hSBx hPBx hsz hch)
        · refine ⟨hch.lower, fun h => trivial, fun i v => ?_⟩
          match i with
          | 0 => show NilB (wB.heap.size) 30 v w' → NilB (wB.heap.size) 30 v _; intro h; exact h.inPl hch (by decide)
          | 1 => exact fun h => h
          | 2 => show CopyB (wB.heap.size) 30 2 (n) (vlVals n z) v w' → CopyB (wB.heap.size) 30 2 (n) (vlVals n z) v _; intro h; exact h.inPl hch (by simp [vlVals_length, vals_length])
          | 3 => exact fun h => h
          | 4 => show OneB (wB.heap.size) 30 [.int .i64 vk, .int .i64 vn] v w' → OneB (wB.heap.size) 30 [.int .i64 vk, .int .i64 vn] v _; intro h; exact h.inPl hch (by decide) rfl
          | 5 => show OwnV (wB.heap.size) 30 2 (n + 1) (vlVals n z ++ [.int .i64 vk, .int .i64 vn]) v w' → OwnV (wB.heap.size) 30 2 (n + 1) (vlVals n z ++ [.int .i64 vk, .int .i64 vn]) v _; intro h; exact own_inPl h hch (by simp [vlVals_length, vals_length]) (.inr ⟨_, rfl, rfl⟩)
          | _ + 6 => exact fun _ => trivial
    intro Xf w' hb hv
    have o5 : OwnV (wB.heap.size) 30 2 (n + 1) (vlVals n z ++ [.int .i64 vk, .int .i64 vn]) (Xf 39) w' := hv 5 39 rfl
    clear hv hPBx hSBx
    simp only [List.map_cons, List.map_nil, puts, Act.put, Nat.reduceAdd, List.setIfInBounds_toArray, List.set_cons_succ, List.set_cons_zero, List.drop_succ_cons, List.drop_zero]
    obtain ⟨pp, cc, ff, -⟩ := owned_new o5
    unfold OwnV at o5
    rw [ff] at o5
    rw [ff]
    rw [show [Value.int .i64 vk, .int .i64 vn] = Vl.vals ⟨vk, vn⟩ from rfl, pv_vals] at o5
    have hA : VAt w' pp cc (n + 1) (pvZ z n ⟨vk, vn⟩) := va_owned o5 (by simp only [maxLen]; omega) (pv_wf hzb2.row.wf hv)
    replace gH := gH.below hb
    replace gO := gO.below hb
    replace hzb2 := hzb2.below hb
    replace hbW := bjoin hb hbW
    replace hb0 := bjoin hb hb0
    clear ff o5 gV c0 c1 lV hb
    generalize w' = wC at *
    obtain ⟨l0, x0, x1, x2⟩ := three19 gH
    obtain ⟨l1, y0, y1, y2, y3⟩ := four19 gO
    have hC2 := hCk wC (n + 1) cc pp _ (rm + 1) k a b e hb0 hA
    have ew : IntKind.i64.wrap (rm + 1) = rm + 1 := by rw [IntKind.wrap_i64]; omega
    by_cases h0 : E = 0
    case' pos =>
      rw [hE'.out h0] at hC2
      have h0' : (E == 0) = true := by simpa using h0
      clear h0
      go_upto_region 7 with (first
        | (go_at_call 7; refine Calls.mono hC2 ?_; rintro e' w' ⟨rfl, hb⟩)
      )
      replace gH := gH.below hb
      replace gO := gO.below hb
      replace hzb2 := hzb2.below hb
      replace hbW := bjoin hb hbW
      replace hb0 := bjoin hb hb0
      clear hb h0' hC2 hE' hA x0 x1 x2 y0 y1 y2 y3 l0 l1
      generalize w' = wD at *
    case' neg =>
      have h0' : (E == 0) = false := by simpa using h0
      go_upto_region 7 with fail
      clear h0 h0' hC2 hE' hA x0 x1 x2 y0 y1 y2 y3 l0 l1
      generalize wC = wD at *
    all_goals
      obtain ⟨l0, x0, x1, x2⟩ := three19 gH
      obtain ⟨l1, y0, y1, y2, y3⟩ := four19 gO
      rcases (show (k = 1 ∧ 0 < n) ∨ (k = 1 ∧ n = 0) ∨ ¬ k = 1 by omega) with ⟨hk, hn0⟩ | ⟨hk, hn0⟩ | hk
      · subst hk
        have hn1 : ((n : Int) == 0) = false := by simpa using (show ¬ n = 0 by omega)
        go_upto_region 10 with fail
        obtain ⟨wE, hwE⟩ : ∃ W, W = wD.alloc (.cells #[.int .i64 1, .int .i64 a, .int .i64 b, .int .i64 e] 28) := ⟨_, rfl⟩
        have gE : TBox 28 wD.heap.size #[.int .i64 1, .int .i64 a, .int .i64 b, .int .i64 e] wE := by rw [hwE]; exact TBox.new _ _ _
        have hbE : Below wD.heap.size wD wE := by rw [hwE]; exact (Below.refl _ _).alloc (Nat.le_refl _) _
        rw [← hwE]
        obtain ⟨l2, z0, z1, z2, z3⟩ := four19 gE
        have f0 := gE.frozen 0
        have f3 := gE.frozen 3
        clear hwE y0 y1 y2 y3 l1 x0 x1 x2 l0 hn1
        go_upto_region 12 with fail
        obtain ⟨wF, hwF⟩ : ∃ W, W = (wE.setCell ⟨wD.heap.size, 0, none⟩ (.int .i64 2)).setCell ⟨wD.heap.size, 3, none⟩ (.int .i64 0) := ⟨_, rfl⟩
        have gF : TBox 28 wD.heap.size #[.int .i64 2, .int .i64 a, .int .i64 b, .int .i64 0] wF := by rw [hwF]; exact (gE.set 0 _).set 3 _
        have hbF : Below wD.heap.size wD wF := by rw [hwF]; exact (hbE.setCell (Nat.le_refl _) _).setCell (Nat.le_refl _) _
        rw [← hwF]
        have hbW2 := bjoin hbF hbW
        have hC3 := hCk wF n cv pv z rm 2 a b 0 (bjoin hbF hb0) (hzb2.below hbF)
        have gHF := gH.below hbF
        clear hwF z0 z1 z2 z3 l2 f0 f3 gE hbE
        obtain ⟨l0, x0, x1, x2⟩ := three19 gHF
        obtain ⟨l1, y0, y1, y2, y3⟩ := four19 gF
        obtain ⟨F, hF2⟩ : ∃ F, Hid (F = ckO h n z rm 2 a b 0) := ⟨_, rfl⟩
        rw [← hF2.out] at hC3
        have hEF : E = F ∨ (E = 5 ∧ F = 0) := by rw [hE.out, hF2.out]; exact ck_read hn0
        clear hE hF2
        rcases hEF with rfl | ⟨rfl, rfl⟩
        · go_wp2_with (first
            | (go_at_call 7; refine Calls.mono hC3 ?_; rintro e' w' ⟨rfl, hb⟩)
          )
          all_goals
            go_returns
            exact ⟨rfl, bjoin hb hbW2⟩
        · go_wp2_with (first
            | (go_at_call 7; refine Calls.mono hC3 ?_; rintro e' w' ⟨rfl, hb⟩)
          )
          all_goals
            go_returns
            exact ⟨rfl, bjoin hb hbW2⟩
      · subst hk
        subst hn0
        go_wp2
        go_returns
        exact ⟨rfl, hbW⟩
      · have hk1 : (k != 1) = true := by simpa using hk
        clear hk
        go_wp2
        go_returns
        exact ⟨rfl, hbW⟩
  · have hgo' : formB h = false ∨ (formB h = true ∧ (n : Int) > 50) := by
      cases hf : formB h with
      | false => exact .inl rfl
      | true => exact .inr ⟨rfl, by have : ¬ n ≤ 50 := fun e => hgo ⟨hf, e⟩; omega⟩
    clear hgo
    rcases hgo' with hF | ⟨hF, hn⟩
    all_goals
      rw [hF] at hFi
      clear hF
      go_enter Tryd.func3, Tryd.ntmps3
      go_upto_region 1 with fail
      rw [← hw0]
      clear hw0
      go_wp2_with (first
    | (go_at_call 5; refine Calls.mono (hAw _ (by go_grown)) ?_; rintro e w' ⟨rfl, hb⟩; obtain ⟨hc, hf, hb, hz⟩ := bstep hb (w := w0) (by go_grown); try simp only [World.size_alloc, World.size_setCell, World.size_drew] at hc hf hz)
    | (go_at_call 6; refine Calls.mono (hFi _ (by go_grown)) ?_; rintro e w' ⟨rfl, hb⟩; obtain ⟨hc, hf, hb, hz⟩ := bstep hb (w := w0) (by go_grown); try simp only [World.size_alloc, World.size_setCell, World.size_drew] at hc hf hz)
      )
      go_returns
      exact ⟨rfl, bjoin hb hB0⟩
namespace OpMore
/-- What the row lists. -/
def lists : List (String × DataW Unit) := [("flotsam/class.sizes", Rows.laid_flotsam_class_sizes)]
set_option maxRecDepth 100000 in
theorem lifted (os : Os) (started : os.Started) (H : Type) (enc : TypeId × Value → H) :
    ReturnsInHanded {} Tryd.checked os 3 .any (fun w args => (Rows.opMoreSpec.pre enc Tryd.prog Tryd.f3 Rows.opMoreRow.domain false w args ∧ laidMetH Tryd.prog lists w) ∧ sizedMet enc Tryd.prog Tryd.f3 (OpenSpec.ofChange Rows.opMoreSpec) false w args) (Rows.opMoreSpec.post enc Tryd.prog Tryd.f3 false true false false) := by
  refine law_lifted_laid (C := Tryd.checked) seat_own started (by kernel_rfl) Tryd.func3 (by kernel_rfl) (of_decide_eq_true (by kernel_rfl)) rfl
    (fun ds hd => by have hd' : ds.length = 5 := hd; match ds, hd' with | [d0, d1, d2, d3, d4], _ => rfl) rfl Tryd.underlying4
    (ChangeSpec.witness_shaped (enc := enc) (C := Tryd.checked) (os := os) (X := fun w _ => laidMetH Tryd.prog lists w) false (World.laidAll Tryd.prog os lists) #[.agg #[.slice none 0 0, .slice none 0 0, .bool false], .slice none 0 0, .int .u8 0, .agg #[.int .i64 0, .int .i64 0, .int .i64 0, .int .i64 0], .agg #[.int .i64 0, .int .i64 0]] 8 (World.laidAll_os _ _ _)
      (World.shaped_of_ZipB (by kernel_rfl) (by kernel_rfl)) (by kernel_rfl) (by kernel_rfl) (by kernel_rfl)
      (by rw [MakeChecks.laidMetH_plain _ _ _ (by kernel_rfl)]; exact laidMet_laidAll _ (by kernel_rfl) (by kernel_rfl))) ?_
  intro W base args ds p hval hA hlt hL
  have hS : Sz W := sizes_of hL (by kernel_rfl) rfl
  rw [Tryd.params3] at hA hval
  obtain ⟨rest⟩ := args
  dsimp only at hA
  obtain ⟨v0, vs0, d0, ds0, p0, q0, rfl, rfl, rfl, h0, hA0⟩ := trodAll_cons hA
  obtain ⟨v1, vs1, d1, ds1, p1, q1, rfl, rfl, rfl, h1, hA1⟩ := trodAll_cons hA0
  obtain ⟨v2, vs2, d2, ds2, p2, q2, rfl, rfl, rfl, h2, hA2⟩ := trodAll_cons hA1
  obtain ⟨v3, vs3, d3, ds3, p3, q3, rfl, rfl, rfl, h3, hA3⟩ := trodAll_cons hA2
  obtain ⟨v4, vs4, d4, ds4, p4, q4, rfl, rfl, rfl, h4, hA4⟩ := trodAll_cons hA3
  obtain ⟨rfl, rfl, rfl⟩ := trodAll_nil hA4
  obtain ⟨x0, q0, c0, s0, e0, rfl, hh0⟩ := open_heap Tryd.underlying25 (by kernel_rfl) (by kernel_rfl) Tryd.underlying22 (by kernel_rfl) (by kernel_rfl) Tryd.underlying23 Tryd.underlying46 (by kernel_rfl) (by kernel_rfl) (by kernel_rfl) (by kernel_rfl) (by kernel_rfl) (by kernel_rfl) (hval 0 25 v0 rfl rfl) h0
  obtain ⟨q1, n1, cap1, z1, rfl, hv1⟩ := open_vals Tryd.underlying26 Tryd.underlying30 (by kernel_rfl) (by kernel_rfl) (by kernel_rfl) (by kernel_rfl) (hval 1 26 v1 rfl rfl) h1
  obtain ⟨a2, rfl, ha2⟩ := open_u8 Tryd.underlying5 (hval 2 5 v2 rfl rfl) h2
  obtain ⟨k3, a3, b3, c3, rfl, hk3, ha3, hb3, hc3⟩ := open_op Tryd.underlying28 (by kernel_rfl) (by kernel_rfl) (by kernel_rfl) (by kernel_rfl) (by kernel_rfl) (by kernel_rfl) (hval 3 28 v3 rfl rfl) h3
  obtain ⟨a4, b4, rfl, ha4, hb4⟩ := open_int2 Tryd.underlying30 (by kernel_rfl) (by kernel_rfl) (by kernel_rfl) (by kernel_rfl) (hval 4 30 v4 rfl rfl) h4
  exact opmore_walk q1 n1 cap1 z1 a2 k3 a3 b3 c3 a4 b4 W hh0 hv1 ha2 hk3 ⟨wf_i64_of ha4.1 ha4.2, wf_i64_of hb4.1 hb4.2⟩ hS

theorem row_holds : Rows.OpMoreSaid :=
  OpenClaim.holds_of_wide 3 Tryd.f3 rfl rfl rfl rfl rfl rfl rfl ⟨rfl, rfl, rfl, rfl, rfl⟩ rfl rfl rfl rfl rfl (by kernel_rfl) Tryd.func3 (by kernel_rfl)
    (of_decide_eq_true (by kernel_rfl)) (by unfold Func.isWrapper; first | (rw [if_pos (by decide +kernel)]; kernel_rfl) | (rw [if_neg (by decide +kernel)]; exact ⟨rfl, rfl⟩))
    (fun os started H enc _ => lifted os started H enc)
/-- The tied card. -/
theorem holds : Rows.OpMoreCardSaid :=
  Claim7.holds_tied_plain_at .later [] [.data] true (true, "a4e16072d0b8a80a6a9a8ec20c3dee9269dd19b262ba38d691ec3a0650b8ed94") false row_holds (fun _ h => by cases h) (by kernel_rfl) (fun _ h => by cases h) opMore_row_tie rfl ⟨rfl, rfl⟩ (by kernel_rfl) rfl
    (fun f fn hf hfn => by
      obtain rfl : f = 3 := Option.some.inj ((show Tryd.prog.funcNamed "flotsam/flotsamlaw19.OpMore" = some 3 by kernel_rfl).symm.trans hf) |>.symm
      obtain rfl : fn = Tryd.f3 := (Option.some.inj (Tryd.func3.symm.trans hfn)).symm
      exact ⟨by kernel_rfl, fun j t ht => by
        rw [Tryd.params3] at ht
        have hm : t ∈ [25, 26, 5, 28, 30] := by simpa using Array.mem_of_getElem? ht
        have hall : ([25, 26, 5, 28, 30].all fun u => !Tryd.prog.wantsStandIn u) = true := by kernel_rfl
        exact (show Tryd.prog.wantsStandIn t = false by simpa using List.all_eq_true.1 hall t hm)⟩)
    (by kernel_rfl)
#print axioms holds
end OpMore
end Go.Proofs.YtonjnedlnfdanaaDoor
