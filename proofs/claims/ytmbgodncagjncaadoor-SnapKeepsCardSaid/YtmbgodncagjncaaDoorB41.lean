/- The contract of the reference's beginning of a cycle (chapter 18). -/
import Derived.Test.YtmbgodncagjncaaDoorB33
import Derived.Test.YtmbgodncagjncaaDoorB40
import Derived.Test.YtmbgodncagjncaaDoorB17
namespace Go.Proofs.YtmbgodncagjncaaDoor
set_option linter.unusedSimpArgs false
set_option linter.unusedVariables false
open Go.ChangeShapes Go.WideShapes Go.ChangeAt Go.RowKit Go.Joins

/-- 'append(s, x...)', s a row of the call's own, as one step of a region. -/
theorem step_row {P : Program} {w : World} {o : Oper} {a : Act} {K : Act → World → Prop} {Q : Exit → Act → World → Prop} (s x : Operand) (t : TypeId)
    (ho : o.op = .call { callee := .builtin .append, args := #[s, x], argTypes := #[t, t] })
    (base : Nat) (e : TypeId) (i : TypeInfo) (z0 : Value) (size bytes : Nat) (ht : P.underlying t = some (.slice e)) (hi : P.info? e = some i) (hz : i.zero = some z0) (hsize : i.size = size) (hby : i.bytes = bytes) (hzs : z0.cells.size = size) (hsz : 0 < size)
    (v : Value) (m : Nat) (xs : List Value) (hs : a.eval s = v) (hown : w.ownsRow base e size v m xs)
    (p : Option Addr) (n cap : Nat) (ys : List Value) (hx : a.eval x = .slice p n cap) (hl : ys.length = n * size) (hcells : ∀ ad, p = some ad → ∀ j u, ys[j]? = some u → w.cell? (ad.add j) = some u) (h1 : ∀ u ∈ ys, u.oneCell' = true) (hq : p = none → n = 0 ∧ cap = 0)
    (h63 : m + n ≤ maxLen) (hbytes : (m + n) * bytes ≤ 140737488355328) (hbase : base ≤ w.heap.size)
    (h : ∀ v' w', w'.ownsRow base e size v' (m + n) (xs ++ ys) → w.grownBy w' v.ownBlock → K (a.put o.dst v') w') : o.wp P a w K Q := by
  cases p with
  | none =>
    obtain ⟨rfl, rfl⟩ := hq rfl
    obtain rfl : ys = [] := List.eq_nil_of_length_eq_zero (by omega)
    have hr := run_append_owned_none (P := P) (w := w) base t o.type e i size ht hi v m xs hown
    unfold Oper.wp execOp
    simp only [ho, resolve, invoke, builtin, Sem.run_bind, Sem.run_pure, Result.andThen_ok, List.map_toArray, List.map_cons, List.map_nil, hs, hx, hr]
    exact h v w (by simpa using hown) (World.grownBy.refl _ _)
  | some ad =>
    exact wp_append_own w s x t ho base e i z0 size bytes ht hi hz hsize hby hzs hsz v m xs hs hown ad n cap ys hx hl (hcells ad rfl) h1 h63 hbytes hbase (fun v' w' h1 h2 _ => h v' w' h1 h2)
/-- A row of values of the call's own, as a region leaves it. -/
def OwnL (N : Nat) (L : List Vl) (v : Value) (w : World) : Prop := ∃ p c, v = .slice p L.length c ∧ w.ownsRow N 46 2 (.slice p L.length c) L.length (LV L)
theorem OwnL.below {N : Nat} {L : List Vl} {v : Value} {w w' : World} (h : OwnL N L v w) (hb : Below w.heap.size w w') : OwnL N L v w' := by
  obtain ⟨p, c, e, h⟩ := h
  exact ⟨p, c, e, owned_below h hb⟩
theorem ptrV_grown {M N T e size n m : Nat} {xs : List Value} {v v0 : Value} {w w' : World} (h : PtrV N T m v w) (ho : w.ownsRow M e size v0 n xs) (hg : w.grownBy w' v0.ownBlock) (hT : ¬ e = T) : PtrV N T m v w' := by
  obtain ⟨g, e1, hN, zs, hz, hp, hx⟩ := h
  refine ⟨g, e1, hN, zs, hz, hp, hx.of_block (hg.block g hx.lt fun e2 => ?_)⟩
  rcases ho.2 with ⟨rfl, -⟩ | ⟨b, cap, cur, rfl, -, hb, -⟩
  · cases e2
  · injection e2 with e2
    subst e2
    have := hb.symm.trans hx
    injection this with this
    injection this with _ this
    exact hT this
theorem HpOwn.putsL {base g : Nat} {p : Option Addr} {c : Nat} {q : Option Addr} {d : Nat} {h : Hp} (hg : g < base) : ∀ (ys : List Value) (k : Nat) {W : World}, HpOwn W base p c q d h → HpOwn (putsL g k ys W) base p c q d h
  | [], _, _, h => h
  | y :: ys, k, _, h => HpOwn.putsL hg ys (k + 1) (h.under hg k y)
theorem heldL_wf {z : Nat → Mu} : ∀ {n : Nat}, (∀ i, i < n → (z i).wf) → (∀ i, i < n → ∀ k, k < (z i).n → ((z i).st k).wf) → ∀ v ∈ heldL z n, v.wf
  | 0, _, _, v, hv => by cases hv
  | n + 1, h, h2, v, hv => by
    rcases List.mem_append.1 hv with hv | hv
    · rcases List.mem_append.1 hv with hv | hv
      · exact heldL_wf (n := n) (fun i hi => h i (by omega)) (fun i hi => h2 i (by omega)) v hv
      · obtain ⟨k, hk, rfl⟩ := List.mem_map.1 hv
        exact h2 n (by omega) k (List.mem_range.1 hk)
    · exact regL_wf (h n (by omega)) v hv
theorem pendL_wf {h : Hp} (hF : formB h = true) (hw : h.wf) (z : Nat → Mu) : ∀ n, ∀ v ∈ pendL h z n, v.wf
  | 0, v, hv => by cases hv
  | n + 1, v, hv => by
    unfold pendL at hv
    split at hv
    · rcases List.mem_append.1 hv with hv | hv
      · exact pendL_wf hF hw z n v hv
      · rw [List.mem_singleton.1 hv]; exact fv_wf hF hw _ _
    · exact pendL_wf hF hw z n v hv
theorem mu_rows {w : World} {p : Option Addr} {c n : Nat} {z : Nat → Mu} (hz : RAt MuC 13 w p c n z) : (∀ i, i < n → (z i).wf) ∧ ∀ i, i < n → ∀ k, k < (z i).n → ((z i).st k).wf := by
  refine ⟨fun i hi => ?_, fun i hi k hk => ?_⟩
  · obtain ⟨bb, off, L, rfl, hl, -, hc, ps, cs, rfl, hv, hwf⟩ := hz.row i hi
    exact hwf
  · obtain ⟨bb, off, L, rfl, hl, -, hc, ps, cs, rfl, hv, hwf⟩ := hz.row i hi
    exact hv.row.wf k hk
theorem tbox_four4 {w w0 : World} {x1 x2 x3 x4 : Array Value} {t1 t2 t3 t4 : TypeId} (e : w0 = (((w.alloc (.cells x1 t1)).alloc (.cells x2 t2)).alloc (.cells x3 t3)).alloc (.cells x4 t4)) :
    TBox t1 w.heap.size x1 w0 ∧ TBox t2 (w.heap.size + 1) x2 w0 ∧ TBox t3 (w.heap.size + 1 + 1) x3 w0 ∧ TBox t4 (w.heap.size + 1 + 1 + 1) x4 w0 ∧ Below w.heap.size w w0 := by
  have ba : ∀ (W : World) (o : Obj), Below W.heap.size W (W.alloc o) := fun W o => (Below.refl _ _).alloc (Nat.le_refl _) _
  have sz : ∀ (W : World) (o : Obj), (W.alloc o).heap.size = W.heap.size + 1 := fun W o => by simp
  have b1 := ba w (.cells x1 t1)
  have n1 := TBox.new t1 w x1
  have s1 := sz w (.cells x1 t1)
  generalize w.alloc (.cells x1 t1) = w1 at *
  have b2 := ba w1 (.cells x2 t2)
  have n2 := TBox.new t2 w1 x2
  have s2 := sz w1 (.cells x2 t2)
  generalize w1.alloc (.cells x2 t2) = w2 at *
  have b3 := ba w2 (.cells x3 t3)
  have n3 := TBox.new t3 w2 x3
  have s3 := sz w2 (.cells x3 t3)
  generalize w2.alloc (.cells x3 t3) = w3 at *
  have b4 := ba w3 (.cells x4 t4)
  have n4 := TBox.new t4 w3 x4
  rw [← e] at b4 n4
  rw [s1] at n2
  rw [show w2.heap.size = w.heap.size + 1 + 1 by omega] at n3
  rw [show w3.heap.size = w.heap.size + 1 + 1 + 1 by omega] at n4
  exact ⟨((n1.below b2).below b3).below b4, (n2.below b3).below b4, n3.below b4, n4, bjoin b4 (bjoin b3 (bjoin b2 b1))⟩
set_option maxRecDepth 20000 in
set_option maxHeartbeats 16000000 in
/-- A cycle's beginning. -/
theorem rbegin18_any (a0 a1 a2 cG cB : Int) (p : Option Addr) (c : Nat) (q : Option Addr) (d : Nat) (h : Hp) (n : Nat) (z : Nat → Mu) (pm : Option Addr) (cm : Nat) (w : World) (hG : In64 cG) (hB : In64 cB) (hh : HpAt w p c q d h) (hF : formB h = true) (hz : RAt MuC 13 w pm cm n z) (hn : n ≤ 10) (hst : ∀ i, i < n → (z i).n ≤ 20) :
    Calls Tryd.prog 10 #[.agg #[.int .i64 a0, .int .i64 a1, .int .i64 a2, .int .i64 cG, .int .i64 cB], .agg #[.slice p h.n c, .slice q h.m d, .bool h.b], .slice pm n cm] w fun e w' => ∃ p' c' q' d' pg cg pb cb pr cr, e = .returned (.tuple #[.agg #[.slice p' h.n c', .slice q' h.m d', .bool (!h.b)], .agg #[.int .i64 cG, .slice pg 0 cg, .slice pb n cb, .slice pr (rootL h z n).length cr, .int .i64 (-1), .int .i64 0, .int .i64 (-1), .bool false]]) ∧
      HpIn w' p' h.n c' q' h.m d' (!h.b) (flipB h) ∧ MAtE w.heap.size w' (newM cG n (fun _ => cB) (rootL h z n).length fun i => (rootL h z n)[i]?.getD ⟨0, 0⟩) pg cg pb cb pr cr ∧ Below w.heap.size w w' := by
  obtain ⟨t0, hq0, hq1, hq2, hq3⟩ := info_parts val_info
  obtain ⟨i0, hi, hz0, hz1, hz2⟩ := info_parts infoW
  obtain ⟨i1, hi', hz0', hz1', hz2'⟩ := info_parts infoS
  obtain ⟨ii, hi0, hj0, hj1, hj2⟩ := info_parts int_info'
  have hbb : 0 < h.n ∧ h.n ≤ 512 ∧ 0 < h.m ∧ h.m ≤ 16 := by have := form_iff.1 hF; omega
  obtain ⟨n0, n1, m0, m1⟩ := hbb
  obtain ⟨w0, hw0⟩ : ∃ w0, w0 = (((w.alloc (.cells #[.int .i64 a0, .int .i64 a1, .int .i64 a2, .int .i64 cG, .int .i64 cB] 30)).alloc (.cells #[.slice p h.n c, .slice q h.m d, .bool h.b] 25)).alloc (.cells #[.slice none 0 0, .slice none 0 0, .bool false] 25)).alloc (.cells #[.int .i64 0, .slice none 0 0, .slice none 0 0, .slice none 0 0, .int .i64 0, .int .i64 0, .int .i64 0, .bool false] 37) := ⟨_, rfl⟩
  obtain ⟨gC, gH, gR, gM, hb0⟩ := tbox_four4 hw0
  have hz0w : w.heap.size + 1 + 1 + 1 < w0.heap.size := gM.lt
  obtain ⟨hmw, hmv⟩ := mu_rows hz
  have hHl : ∀ W, Below w.heap.size w W → _ := fun W hW => rheld18_any n z pm cm W (hz.below muC_below hW) hn hst
  have hPd : ∀ W, Below w.heap.size w W → _ := fun W hW => rpend18_any p c q d h n z pm cm W (hh.below hW) hF (hz.below muC_below hW) hn
  have hAl := heldL_len (n := n) hst
  have hPl := pendL_len h z n
  have hAw := heldL_wf hmw hmv
  have hPw := pendL_wf hF hh.wf z n
  have hRd : rootL h z n = heldL z n ++ pendL h z n := rfl
  generalize rootL h z n = R at *
  generalize heldL z n = A at *
  generalize pendL h z n = PP at *
  have hRw : ∀ v ∈ R, v.wf := fun v hv => by
    rw [hRd] at hv
    rcases List.mem_append.1 hv with hv | hv
    · exact hAw v hv
    · exact hPw v hv
  have hRl : R.length ≤ 1000 := by rw [hRd, List.length_append]; omega
  have hRd' : Hid (R = A ++ PP) := hRd
  clear hRd hst hmw hmv
  go_enter Tryd.func10, Tryd.ntmps10
  go_upto_region 1 with fail
  rw [← hw0]
  clear hw0
  have c4 := gC.cell 4
  simp only [List.getElem?_toArray, List.getElem?_cons_zero, List.getElem?_cons_succ] at c4
  have lC := gC.lt
  go_wp2
  go_loopg [8, 9] n (fun g ov iv wr => ∃ j : Nat, j ≤ n ∧ g = n - j ∧ iv = .int .i64 j ∧ wr.ownsRow w0.heap.size 3 1 ov j (vals .i64 j fun _ => cB) ∧ Below w0.heap.size w0 wr)
  case atStart => exact ⟨0, by omega, by omega, rfl, World.ownsRow_nil _ _ _ _, Below.refl _ _⟩
  case round =>
    obtain ⟨j, jh, rfl, rfl, hown, hbw⟩ := hrel
    have hsz := hbw.size
    by_cases hj : j < n
    · have c4' := (hbw.cell (p := ⟨w.heap.size, 4, none⟩) lC).trans c4
      have lC' := Nat.lt_of_lt_of_le lC hsz
      go_wp2_with (first
        | (at_builtin; refine wpList_append_own _ rfl (.tmp 18) (.tmp 21) 31 rfl w0.heap.size 3 ii (.int .i64 0) 1 8 Tryd.underlying31 hi0 hj0 hj1 hj2 rfl (by decide) _ _ _ rfl (hown.alloc _) ⟨wr.heap.size, 0, none⟩ 1 1 [.int .i64 cB] rfl rfl (one_new _ _ _) (by simp [Value.oneCell']) (by simp only [maxLen]; omega) (by omega) (by simp; omega) ?_; intro ov9 w9 hown9 hgrow9 _)
      )
      have hb9 := (hbw.alloc hsz (.cells #[.int .i64 cB] 3)).grown hgrow9 (by simp; omega) (fun k hk => (hown.lt k hk).1)
      have hsn : vals .i64 j (fun _ => cB) ++ [.int .i64 cB] = vals .i64 (j + 1) fun _ => cB := vals_snoc _ _ _
      rw [hsn] at hown9
      go_roundg (n - (j + 1))
      case measure => omega
      case rel => exact ⟨j + 1, by omega, rfl, by go_num, hown9, hb9⟩
    · obtain rfl : j = n := by omega
      obtain ⟨pi, ci, rfl, -⟩ := owned_new hown
      have hin : Ints .i64 wr pi j fun _ => cB := ints_owned hown fun _ _ => wf_i64_of hB.1 hB.2
      have hwr : w.heap.size + 1 + 1 + 1 < wr.heap.size := Nat.lt_of_lt_of_le hz0w hsz
      have hbW : Below w.heap.size w wr := bjoin hbw hb0
      replace gC := gC.below hbw
      replace gH := gH.below hbw
      replace gR := gR.below hbw
      replace gM := gM.below hbw
      clear c4 lC hbw hb0 hz0w hown hsz
      go_upto_region 6 with fail
      have hKB : ∀ (k : Nat) (w1 w2 : World), Below w1.heap.size w1 w2 → KeepI (fun W9 => Below wr.heap.size wr W9) ([(fun v _ => v = .pointer (some ⟨w.heap.size, 3, none⟩)), (fun v _ => v = .int .i64 cG), (fun v _ => v = .slice pi j ci), (fun v _ => v = .slice pm j cm), (OwnL wr.heap.size A), (fun v _ => v = .agg #[.slice p h.n c, .slice q h.m d, .bool h.b]), (fun v _ => v = .slice pm j cm), (OwnL wr.heap.size PP), (OwnL wr.heap.size R), (MkV w.heap.size (newM cG j (fun _ => cB) R.length fun i => R[i]?.getD ⟨0, 0⟩)), (PtrV wr.heap.size 37 8)] : List (Value → World → Prop)) [[1, 2, 3, 4, 5, 6, 7, 8, 9, 10], [0, 2, 3, 4, 5, 6, 7, 8, 9, 10], [0, 1, 3, 4, 5, 6, 7, 8, 9, 10], [0, 1, 2, 4, 5, 6, 7, 8, 9, 10], [0, 1, 2, 3, 5, 6, 7, 8, 9, 10], [0, 1, 2, 3, 4, 6, 7, 8, 9, 10], [0, 1, 2, 3, 4, 5, 7, 8, 9, 10], [0, 1, 2, 3, 4, 5, 6, 8, 9, 10], [0, 1, 2, 3, 5, 6, 10], [0, 1, 2, 3, 4, 5, 6, 7, 8, 10], [0, 1, 2, 3, 4, 5, 6, 7, 8, 9]] k w1 w2 := fun k _ _ hb => keepI_below (pv := ([(fun v _ => v = .pointer (some ⟨w.heap.size, 3, none⟩)), (fun v _ => v = .int .i64 cG), (fun v _ => v = .slice pi j ci), (fun v _ => v = .slice pm j cm), (OwnL wr.heap.size A), (fun v _ => v = .agg #[.slice p h.n c, .slice q h.m d, .bool h.b]), (fun v _ => v = .slice pm j cm), (OwnL wr.heap.size PP), (OwnL wr.heap.size R), (MkV w.heap.size (newM cG j (fun _ => cB) R.length fun i => R[i]?.getD ⟨0, 0⟩)), (PtrV wr.heap.size 37 8)] : List (Value → World → Prop))) (fun _ _ h hb => h.trans (hb.mono h.size)) ⟨fun _ _ _ h _ => h, fun _ _ _ h _ => h, fun _ _ _ h _ => h, fun _ _ _ h _ => h, fun _ _ _ h hb => h.below hb, fun _ _ _ h _ => h, fun _ _ _ h _ => h, fun _ _ _ h hb => h.below hb, fun _ _ _ h hb => h.below hb, fun _ _ _ h hb => h.below hb, fun _ _ _ h hb => h.below hb, trivial⟩ hb k
      refine wp_raw_pv 11 [23, 24, 25, 26, 27, 28, 29, 30, 31, 32, 10] ([(fun v _ => v = .pointer (some ⟨w.heap.size, 3, none⟩)), (fun v _ => v = .int .i64 cG), (fun v _ => v = .slice pi j ci), (fun v _ => v = .slice pm j cm), (OwnL wr.heap.size A), (fun v _ => v = .agg #[.slice p h.n c, .slice q h.m d, .bool h.b]), (fun v _ => v = .slice pm j cm), (OwnL wr.heap.size PP), (OwnL wr.heap.size R), (MkV w.heap.size (newM cG j (fun _ => cB) R.length fun i => R[i]?.getD ⟨0, 0⟩)), (PtrV wr.heap.size 37 8)] : List (Value → World → Prop)) [9, 10] [[1, 2, 3, 4, 5, 6, 7, 8, 9, 10], [0, 2, 3, 4, 5, 6, 7, 8, 9, 10], [0, 1, 3, 4, 5, 6, 7, 8, 9, 10], [0, 1, 2, 4, 5, 6, 7, 8, 9, 10], [0, 1, 2, 3, 5, 6, 7, 8, 9, 10], [0, 1, 2, 3, 4, 6, 7, 8, 9, 10], [0, 1, 2, 3, 4, 5, 7, 8, 9, 10], [0, 1, 2, 3, 4, 5, 6, 8, 9, 10], [0, 1, 2, 3, 5, 6, 10], [0, 1, 2, 3, 4, 5, 6, 7, 8, 10], [0, 1, 2, 3, 4, 5, 6, 7, 8, 9]] (fun W9 => Below wr.heap.size wr W9) ((Below.refl _ _).drew) (by kernel_rfl) (by kernel_rfl) (by kernel_rfl) (by decide) (by kernel_rfl) (by kernel_rfl) (by kernel_rfl) rfl rfl (by decide) (by simp) ?_ ?_
      · refine ⟨?_, ?_, ?_, ?_, ?_, ?_, ?_, ?_, ?_, ?_, ?_, trivial⟩
        · intro a' w' hI hs hd Kc hK
          have f3 : a'.tmps[3]?.getD undef = .pointer (some ⟨w.heap.size, 0, none⟩) := (hs 3 (by decide)).trans rfl
          clear hs hd
          have hsz : wr.heap.size ≤ w'.heap.size := hI.size
          have hww : Below w.heap.size w w' := hbW.trans (hI.mono (by omega))
          have gC' := gC.below hI
          have gH' := gH.below hI
          obtain ⟨lC', c3'⟩ : w.heap.size < w'.heap.size ∧ w'.cell? ⟨w.heap.size, 3, none⟩ = some (.int .i64 cG) := ⟨gC'.lt, gC'.cell 3⟩
          obtain ⟨lh, h0', h1', h2'⟩ : w.heap.size + 1 < w'.heap.size ∧ w'.cell? ⟨w.heap.size + 1, 0, none⟩ = some (.slice p h.n c) ∧ w'.cell? ⟨w.heap.size + 1, 1, none⟩ = some (.slice q h.m d) ∧ w'.cell? ⟨w.heap.size + 1, 2, none⟩ = some (.bool h.b) := ⟨gH'.lt, gH'.cell 0, gH'.cell 1, gH'.cell 2⟩
          clear gC' gH'
          unfold Oper.wp
          go_simp
          try go_bits
          exact hK _ _ (keepI_refl _ _ _ _ _) (by first | rfl | (show Value.int _ _ = Value.int _ _; go_num; done) | (simp [valOf, *]; done) | (simp [valOf]; omega))
        · intro a' w' hI hs hd Kc hK
          have f23 : a'.tmps[23]?.getD undef = .pointer (some ⟨w.heap.size, 3, none⟩) := hd 0 23 (by first | rfl | decide | simp [Region.binds]) rfl
          clear hs hd
          have hsz : wr.heap.size ≤ w'.heap.size := hI.size
          have hww : Below w.heap.size w w' := hbW.trans (hI.mono (by omega))
          have gC' := gC.below hI
          have gH' := gH.below hI
          obtain ⟨lC', c3'⟩ : w.heap.size < w'.heap.size ∧ w'.cell? ⟨w.heap.size, 3, none⟩ = some (.int .i64 cG) := ⟨gC'.lt, gC'.cell 3⟩
          obtain ⟨lh, h0', h1', h2'⟩ : w.heap.size + 1 < w'.heap.size ∧ w'.cell? ⟨w.heap.size + 1, 0, none⟩ = some (.slice p h.n c) ∧ w'.cell? ⟨w.heap.size + 1, 1, none⟩ = some (.slice q h.m d) ∧ w'.cell? ⟨w.heap.size + 1, 2, none⟩ = some (.bool h.b) := ⟨gH'.lt, gH'.cell 0, gH'.cell 1, gH'.cell 2⟩
          clear gC' gH'
          unfold Oper.wp
          go_simp
          try go_bits
          exact hK _ _ (keepI_refl _ _ _ _ _) (by first | rfl | (show Value.int _ _ = Value.int _ _; go_num; done) | (simp [valOf, *]; done) | (simp [valOf]; omega))
        · intro a' w' hI hs hd Kc hK
          have f8 : a'.tmps[8]?.getD undef = .slice pi j ci := (hs 8 (by decide)).trans rfl
          clear hs hd
          have hsz : wr.heap.size ≤ w'.heap.size := hI.size
          have hww : Below w.heap.size w w' := hbW.trans (hI.mono (by omega))
          have gC' := gC.below hI
          have gH' := gH.below hI
          obtain ⟨lC', c3'⟩ : w.heap.size < w'.heap.size ∧ w'.cell? ⟨w.heap.size, 3, none⟩ = some (.int .i64 cG) := ⟨gC'.lt, gC'.cell 3⟩
          obtain ⟨lh, h0', h1', h2'⟩ : w.heap.size + 1 < w'.heap.size ∧ w'.cell? ⟨w.heap.size + 1, 0, none⟩ = some (.slice p h.n c) ∧ w'.cell? ⟨w.heap.size + 1, 1, none⟩ = some (.slice q h.m d) ∧ w'.cell? ⟨w.heap.size + 1, 2, none⟩ = some (.bool h.b) := ⟨gH'.lt, gH'.cell 0, gH'.cell 1, gH'.cell 2⟩
          clear gC' gH'
          unfold Oper.wp
          go_simp
          try go_bits
          exact hK _ _ (keepI_refl _ _ _ _ _) (by first | rfl | (show Value.int _ _ = Value.int _ _; go_num; done) | (simp [valOf, *]; done) | (simp [valOf]; omega))
        · intro a' w' hI hs hd Kc hK
          have f2 : a'.tmps[2]?.getD undef = .slice pm j cm := (hs 2 (by decide)).trans rfl
          clear hs hd
          have hsz : wr.heap.size ≤ w'.heap.size := hI.size
          have hww : Below w.heap.size w w' := hbW.trans (hI.mono (by omega))
          have gC' := gC.below hI
          have gH' := gH.below hI
          obtain ⟨lC', c3'⟩ : w.heap.size < w'.heap.size ∧ w'.cell? ⟨w.heap.size, 3, none⟩ = some (.int .i64 cG) := ⟨gC'.lt, gC'.cell 3⟩
          obtain ⟨lh, h0', h1', h2'⟩ : w.heap.size + 1 < w'.heap.size ∧ w'.cell? ⟨w.heap.size + 1, 0, none⟩ = some (.slice p h.n c) ∧ w'.cell? ⟨w.heap.size + 1, 1, none⟩ = some (.slice q h.m d) ∧ w'.cell? ⟨w.heap.size + 1, 2, none⟩ = some (.bool h.b) := ⟨gH'.lt, gH'.cell 0, gH'.cell 1, gH'.cell 2⟩
          clear gC' gH'
          unfold Oper.wp
          go_simp
          try go_bits
          exact hK _ _ (keepI_refl _ _ _ _ _) (by first | rfl | (show Value.int _ _ = Value.int _ _; go_num; done) | (simp [valOf, *]; done) | (simp [valOf]; omega))
        · intro a' w' hI hs hd Kc hK
          have f26 : a'.tmps[26]?.getD undef = .slice pm j cm := hd 3 26 (by first | rfl | decide | simp [Region.binds]) rfl
          clear hs hd
          have hsz : wr.heap.size ≤ w'.heap.size := hI.size
          have hww : Below w.heap.size w w' := hbW.trans (hI.mono (by omega))
          have gC' := gC.below hI
          have gH' := gH.below hI
          obtain ⟨lC', c3'⟩ : w.heap.size < w'.heap.size ∧ w'.cell? ⟨w.heap.size, 3, none⟩ = some (.int .i64 cG) := ⟨gC'.lt, gC'.cell 3⟩
          obtain ⟨lh, h0', h1', h2'⟩ : w.heap.size + 1 < w'.heap.size ∧ w'.cell? ⟨w.heap.size + 1, 0, none⟩ = some (.slice p h.n c) ∧ w'.cell? ⟨w.heap.size + 1, 1, none⟩ = some (.slice q h.m d) ∧ w'.cell? ⟨w.heap.size + 1, 2, none⟩ = some (.bool h.b) := ⟨gH'.lt, gH'.cell 0, gH'.cell 1, gH'.cell 2⟩
          clear gC' gH'
          unfold Oper.wp
          go_simp
          refine Calls.mono (hHl w' hww) ?_
          rintro e w'' ⟨p9, c9, rfl, ho9, hb2⟩
          exact hK _ _ (hKB _ _ _ hb2) ⟨p9, c9, rfl, owned_base ho9 hsz⟩
        · intro a' w' hI hs hd Kc hK
          have f4 : a'.tmps[4]?.getD undef = .pointer (some ⟨w.heap.size + 1, 0, none⟩) := (hs 4 (by decide)).trans rfl
          clear hs hd
          have hsz : wr.heap.size ≤ w'.heap.size := hI.size
          have hww : Below w.heap.size w w' := hbW.trans (hI.mono (by omega))
          have gC' := gC.below hI
          have gH' := gH.below hI
          obtain ⟨lC', c3'⟩ : w.heap.size < w'.heap.size ∧ w'.cell? ⟨w.heap.size, 3, none⟩ = some (.int .i64 cG) := ⟨gC'.lt, gC'.cell 3⟩
          obtain ⟨lh, h0', h1', h2'⟩ : w.heap.size + 1 < w'.heap.size ∧ w'.cell? ⟨w.heap.size + 1, 0, none⟩ = some (.slice p h.n c) ∧ w'.cell? ⟨w.heap.size + 1, 1, none⟩ = some (.slice q h.m d) ∧ w'.cell? ⟨w.heap.size + 1, 2, none⟩ = some (.bool h.b) := ⟨gH'.lt, gH'.cell 0, gH'.cell 1, gH'.cell 2⟩
          clear gC' gH'
          unfold Oper.wp
          go_simp
          try go_bits
          exact hK _ _ (keepI_refl _ _ _ _ _) (by first | rfl | (show Value.int _ _ = Value.int _ _; go_num; done) | (simp [valOf, *]; done) | (simp [valOf]; omega))
        · intro a' w' hI hs hd Kc hK
          have f2 : a'.tmps[2]?.getD undef = .slice pm j cm := (hs 2 (by decide)).trans rfl
          clear hs hd
          have hsz : wr.heap.size ≤ w'.heap.size := hI.size
          have hww : Below w.heap.size w w' := hbW.trans (hI.mono (by omega))
          have gC' := gC.below hI
          have gH' := gH.below hI
          obtain ⟨lC', c3'⟩ : w.heap.size < w'.heap.size ∧ w'.cell? ⟨w.heap.size, 3, none⟩ = some (.int .i64 cG) := ⟨gC'.lt, gC'.cell 3⟩
          obtain ⟨lh, h0', h1', h2'⟩ : w.heap.size + 1 < w'.heap.size ∧ w'.cell? ⟨w.heap.size + 1, 0, none⟩ = some (.slice p h.n c) ∧ w'.cell? ⟨w.heap.size + 1, 1, none⟩ = some (.slice q h.m d) ∧ w'.cell? ⟨w.heap.size + 1, 2, none⟩ = some (.bool h.b) := ⟨gH'.lt, gH'.cell 0, gH'.cell 1, gH'.cell 2⟩
          clear gC' gH'
          unfold Oper.wp
          go_simp
          try go_bits
          exact hK _ _ (keepI_refl _ _ _ _ _) (by first | rfl | (show Value.int _ _ = Value.int _ _; go_num; done) | (simp [valOf, *]; done) | (simp [valOf]; omega))
        · intro a' w' hI hs hd Kc hK
          have f28 : a'.tmps[28]?.getD undef = .agg #[.slice p h.n c, .slice q h.m d, .bool h.b] := hd 5 28 (by first | rfl | decide | simp [Region.binds]) rfl
          have f29 : a'.tmps[29]?.getD undef = .slice pm j cm := hd 6 29 (by first | rfl | decide | simp [Region.binds]) rfl
          clear hs hd
          have hsz : wr.heap.size ≤ w'.heap.size := hI.size
          have hww : Below w.heap.size w w' := hbW.trans (hI.mono (by omega))
          have gC' := gC.below hI
          have gH' := gH.below hI
          obtain ⟨lC', c3'⟩ : w.heap.size < w'.heap.size ∧ w'.cell? ⟨w.heap.size, 3, none⟩ = some (.int .i64 cG) := ⟨gC'.lt, gC'.cell 3⟩
          obtain ⟨lh, h0', h1', h2'⟩ : w.heap.size + 1 < w'.heap.size ∧ w'.cell? ⟨w.heap.size + 1, 0, none⟩ = some (.slice p h.n c) ∧ w'.cell? ⟨w.heap.size + 1, 1, none⟩ = some (.slice q h.m d) ∧ w'.cell? ⟨w.heap.size + 1, 2, none⟩ = some (.bool h.b) := ⟨gH'.lt, gH'.cell 0, gH'.cell 1, gH'.cell 2⟩
          clear gC' gH'
          unfold Oper.wp
          go_simp
          refine Calls.mono (hPd w' hww) ?_
          rintro e w'' ⟨p9, c9, rfl, ho9, hb2⟩
          exact hK _ _ (hKB _ _ _ hb2) ⟨p9, c9, rfl, owned_base ho9 hsz⟩
        · intro a' w' hI hs hd Kc hK
          have f27 : (OwnL wr.heap.size A) (a'.tmps[27]?.getD undef) w' := hd 4 27 (by first | rfl | decide | simp [Region.binds]) rfl
          have f30 : (OwnL wr.heap.size PP) (a'.tmps[30]?.getD undef) w' := hd 7 30 (by first | rfl | decide | simp [Region.binds]) rfl
          clear hs hd
          have hsz : wr.heap.size ≤ w'.heap.size := hI.size
          have hww : Below w.heap.size w w' := hbW.trans (hI.mono (by omega))
          have gC' := gC.below hI
          have gH' := gH.below hI
          obtain ⟨lC', c3'⟩ : w.heap.size < w'.heap.size ∧ w'.cell? ⟨w.heap.size, 3, none⟩ = some (.int .i64 cG) := ⟨gC'.lt, gC'.cell 3⟩
          obtain ⟨lh, h0', h1', h2'⟩ : w.heap.size + 1 < w'.heap.size ∧ w'.cell? ⟨w.heap.size + 1, 0, none⟩ = some (.slice p h.n c) ∧ w'.cell? ⟨w.heap.size + 1, 1, none⟩ = some (.slice q h.m d) ∧ w'.cell? ⟨w.heap.size + 1, 2, none⟩ = some (.bool h.b) := ⟨gH'.lt, gH'.cell 0, gH'.cell 1, gH'.cell 2⟩
          clear gC' gH'
          obtain ⟨p8, c8, f8, ho8⟩ := f27
          obtain ⟨p9, c9, f9, ho9⟩ := f30
          have hv9 := va_list ho9 (by simp only [maxLen]; omega) hPw
          refine step_row (.tmp 27) (.tmp 30) 35 rfl wr.heap.size 46 t0 (.agg #[.int .i64 0, .int .i64 0]) 2 16 Tryd.underlying35 hq0 hq1 hq2 hq3 rfl (by decide) (.slice p8 A.length c8) A.length (LV A) (by rw [← f8]; simp [Act.eval]) ho8 p9 PP.length c9 (LV PP) (by rw [← f9]; simp [Act.eval]) (by simp [LV_length]) hv9.row.cells (LV_one _) hv9.pnil (by simp only [maxLen]; omega) (by omega) hsz fun v' w2 ho hgr => ?_
          have hb2 : Below wr.heap.size w' w2 := (Below.refl _ _).grown hgr hsz (fun k hk => (ho8.lt k hk).1)
          rw [LV_append, ← List.length_append, ← hRd'.out] at ho
          obtain ⟨p7, c7, rfl, -⟩ := owned_new ho
          exact hK _ _ (keepI_of _ (fun _ => hI.trans hb2) ⟨fun _ h => h, fun _ h => h, fun _ h => h, fun _ h => h, fun _ _ => trivial, fun _ h => h, fun _ h => h, fun _ _ => trivial, fun _ _ => trivial, fun _ _ => trivial, fun _ h => ptrV_grown h ho8 hgr (by decide), trivial⟩) ⟨p7, c7, rfl, ho⟩
        · intro a' w' hI hs hd Kc hK
          have f24 : a'.tmps[24]?.getD undef = .int .i64 cG := hd 1 24 (by first | rfl | decide | simp [Region.binds]) rfl
          have f25 : a'.tmps[25]?.getD undef = .slice pi j ci := hd 2 25 (by first | rfl | decide | simp [Region.binds]) rfl
          have f31 : (OwnL wr.heap.size R) (a'.tmps[31]?.getD undef) w' := hd 8 31 (by first | rfl | decide | simp [Region.binds]) rfl
          clear hs hd
          have hsz : wr.heap.size ≤ w'.heap.size := hI.size
          have hww : Below w.heap.size w w' := hbW.trans (hI.mono (by omega))
          have gC' := gC.below hI
          have gH' := gH.below hI
          obtain ⟨lC', c3'⟩ : w.heap.size < w'.heap.size ∧ w'.cell? ⟨w.heap.size, 3, none⟩ = some (.int .i64 cG) := ⟨gC'.lt, gC'.cell 3⟩
          obtain ⟨lh, h0', h1', h2'⟩ : w.heap.size + 1 < w'.heap.size ∧ w'.cell? ⟨w.heap.size + 1, 0, none⟩ = some (.slice p h.n c) ∧ w'.cell? ⟨w.heap.size + 1, 1, none⟩ = some (.slice q h.m d) ∧ w'.cell? ⟨w.heap.size + 1, 2, none⟩ = some (.bool h.b) := ⟨gH'.lt, gH'.cell 0, gH'.cell 1, gH'.cell 2⟩
          clear gC' gH'
          obtain ⟨p9, c9, f9, ho9⟩ := f31
          have hv9 := va_list ho9 (by simp only [maxLen]; omega) hRw
          unfold Oper.wp
          go_simp
          refine Calls.mono (rnew17_any w.heap.size cG (by omega) hG (hin.below hI) (by omega) hv9 (by omega)) ?_
          rintro e w'' ⟨pb9, cb9, pr9, cr9, rfl, hM9, hb2⟩
          exact hK _ _ (hKB _ _ _ hb2) ⟨none, 0, pb9, cb9, pr9, cr9, rfl, hM9⟩
        · intro a' w' hI hs hd Kc hK
          clear hs hd
          have hsz : wr.heap.size ≤ w'.heap.size := hI.size
          have hww : Below w.heap.size w w' := hbW.trans (hI.mono (by omega))
          have gC' := gC.below hI
          have gH' := gH.below hI
          obtain ⟨lC', c3'⟩ : w.heap.size < w'.heap.size ∧ w'.cell? ⟨w.heap.size, 3, none⟩ = some (.int .i64 cG) := ⟨gC'.lt, gC'.cell 3⟩
          obtain ⟨lh, h0', h1', h2'⟩ : w.heap.size + 1 < w'.heap.size ∧ w'.cell? ⟨w.heap.size + 1, 0, none⟩ = some (.slice p h.n c) ∧ w'.cell? ⟨w.heap.size + 1, 1, none⟩ = some (.slice q h.m d) ∧ w'.cell? ⟨w.heap.size + 1, 2, none⟩ = some (.bool h.b) := ⟨gH'.lt, gH'.cell 0, gH'.cell 1, gH'.cell 2⟩
          clear gC' gH'
          unfold Oper.wp
          go_simp
          exact hK _ _ (hKB _ _ _ ((Below.refl _ _).alloc (Nat.le_refl _) _)) ⟨_, rfl, hsz, TBox.varT8 (TBox.new _ _ _)⟩
      clear hKB
      intro Xf w' hI hv
      have o9 : (MkV w.heap.size (newM cG j (fun _ => cB) R.length fun i => R[i]?.getD ⟨0, 0⟩)) (Xf 32) w' := hv 9 32 rfl rfl
      have o10 : (PtrV wr.heap.size 37 8) (Xf 10) w' := hv 10 10 rfl rfl
      clear hv
      simp only [List.map_cons, List.map_nil, puts, Act.put, Nat.reduceAdd, List.setIfInBounds_toArray, List.set_cons_succ, List.set_cons_zero]
      obtain ⟨pg9, cg9, pb9, cb9, pr9, cr9, ev, hM9⟩ := o9
      obtain ⟨gk, ek, hNk, hVk⟩ := o10
      have ev' : Xf 32 = .agg #[.int .i64 cG, .slice pg9 0 cg9, .slice pb9 j cb9, .slice pr9 R.length cr9, .int .i64 (-1), .int .i64 0, .int .i64 (-1), .bool false] := ev
      rw [ev', ek]
      clear hHl hPd ev ev' ek
      obtain ⟨x0, x1, x2, x3, x4, x5, x6, x7, gX⟩ := hVk.eight
      have gXF := hVk.full8 (a0 := .int .i64 cG) (a1 := .slice pg9 0 cg9) (a2 := .slice pb9 j cb9) (a3 := .slice pr9 R.length cr9) (a4 := .int .i64 (-1)) (a5 := .int .i64 0) (a6 := .int .i64 (-1)) (a7 := .bool false)
      have hMF := hM9.puts hVk (by decide) (by decide) (by decide) (by omega) [.int .i64 cG, .slice pg9 0 cg9, .slice pb9 j cb9, .slice pr9 R.length cr9, .int .i64 (-1), .int .i64 0, .int .i64 (-1), .bool false]
      have hbF : Below wr.heap.size wr (putsL gk 0 [.int .i64 cG, .slice pg9 0 cg9, .slice pb9 j cb9, .slice pr9 R.length cr9, .int .i64 (-1), .int .i64 0, .int .i64 (-1), .bool false] w') := hI.trans (putsL_below hNk _ _ _)
      obtain ⟨wM, hwM⟩ : ∃ W, W = putsL gk 0 [.int .i64 cG, .slice pg9 0 cg9, .slice pb9 j cb9, .slice pr9 R.length cr9, .int .i64 (-1), .int .i64 0, .int .i64 (-1), .bool false] w' := ⟨_, rfl⟩
      rw [← hwM] at gXF hMF hbF
      obtain ⟨lX, k0, k1, k2, k3, k4, k5, k6, k7⟩ := mk_cells gX
      obtain ⟨f0, f1, f2, f3, f4, f5, f6, f7⟩ := mk_frozen gX
      go_upto_region 7 with fail
      have hwM' : (((((((w'.setCell ⟨gk, 0, none⟩ (.int .i64 cG)).setCell ⟨gk, 1, none⟩ (.slice pg9 0 cg9)).setCell ⟨gk, 2, none⟩ (.slice pb9 j cb9)).setCell ⟨gk, 3, none⟩ (.slice pr9 R.length cr9)).setCell ⟨gk, 4, none⟩ (.int .i64 (-1))).setCell ⟨gk, 5, none⟩ (.int .i64 0)).setCell ⟨gk, 6, none⟩ (.int .i64 (-1))).setCell ⟨gk, 7, none⟩ (.bool false) = wM := hwM.symm
      rw [hwM']
      clear hwM hwM' lX k0 k1 k2 k3 k4 k5 k6 k7 f0 f1 f2 f3 f4 f5 f6 f7 gX hVk hI hM9 hin
      have hlM : wr.heap.size ≤ wM.heap.size := hbF.size
      have hbWM : Below w.heap.size w wM := hbW.trans (hbF.mono (by omega))
      replace gH := gH.below hbF
      replace gR := gR.below hbF
      replace gM := gM.below hbF
      clear hbF hbW gC
      have lM0 : w.heap.size + 1 + 1 + 1 < wM.heap.size := gM.lt
      have hlk : gk < wM.heap.size := gXF.lt
      generalize wr.heap.size = Nr at *
      obtain ⟨lH, x0, x1, x2⟩ : w.heap.size + 1 < wM.heap.size ∧ wM.cell? ⟨w.heap.size + 1, 0, none⟩ = some (.slice p h.n c) ∧ wM.cell? ⟨w.heap.size + 1, 1, none⟩ = some (.slice q h.m d) ∧ wM.cell? ⟨w.heap.size + 1, 2, none⟩ = some (.bool h.b) := ⟨gH.lt, gH.cell 0, gH.cell 1, gH.cell 2⟩
      go_upto_region 8 with fail
      obtain ⟨w1, hw1⟩ : ∃ W, W = wM.alloc (.cells #[.slice none 0 0, .slice none 0 0, .bool (!h.b)] 25) := ⟨_, rfl⟩
      have gG : TBox 25 wM.heap.size #[.slice none 0 0, .slice none 0 0, .bool (!h.b)] w1 := by rw [hw1]; exact TBox.new _ _ _
      have hst1 : Below wM.heap.size wM w1 := by rw [hw1]; exact (Below.refl _ _).alloc (Nat.le_refl _) _
      have hl1 : wM.heap.size < w1.heap.size := gG.lt
      have hbW1 : Below w.heap.size w w1 := hbWM.trans (hst1.mono (by omega))
      replace gH := gH.below hst1
      replace gR := gR.below hst1
      replace gM := gM.below hst1
      replace gXF := gXF.below hst1
      replace hMF := hMF.below hst1
      have hin1 := hh.ints.below hbW1
      have hsp1 := hh.spans.below hbW1
      rw [← hw1]
      clear hw1 x0 x1 x2 lH hst1 hbWM
      generalize wM.heap.size = G at *
      obtain ⟨lH, x0, x1, x2⟩ : w.heap.size + 1 < w1.heap.size ∧ w1.cell? ⟨w.heap.size + 1, 0, none⟩ = some (.slice p h.n c) ∧ w1.cell? ⟨w.heap.size + 1, 1, none⟩ = some (.slice q h.m d) ∧ w1.cell? ⟨w.heap.size + 1, 2, none⟩ = some (.bool h.b) := ⟨gH.lt, gH.cell 0, gH.cell 1, gH.cell 2⟩
      obtain ⟨z0, f0⟩ : w1.cell? ⟨G, 0, none⟩ = some (.slice none 0 0) ∧ w1.frozen? ⟨G, 0, none⟩ = false := ⟨gG.cell 0, gG.frozen 0⟩
      go_upto_region 9 with (first
        | (at_builtin; refine wpList_append_ints rfl (.tmp 38) (.tmp 40) 22 rfl w1.heap.size 56 i0 (.int .u64 0) 8 Tryd.underlying22 hi hz0 hz1 hz2 rfl (.slice none 0 0) 0 [] rfl (World.ownsRow_nil w1 _ _ _) .u64 p h.n c h.z rfl hin1 hh.pnil (by simp only [maxLen]; omega) (by omega) (Nat.le_refl _) ?_; intro v2 w2 hown2 hgrow2; obtain ⟨p2, c2, rfl, -⟩ := owned_new hown2; have hst2 : Below w1.heap.size w1 w2 := (Below.refl _ _).grown hgrow2 (Nat.le_refl _) (fun k hk => by cases hk); have l2' := Nat.lt_of_lt_of_le hl1 hst2.size; have f0' := (hst2.frozen (p := ⟨G, 0, none⟩) hl1).trans f0; have z0' := (hst2.cell (p := ⟨G, 0, none⟩) hl1).trans z0)
      )
      obtain ⟨w3, hw3⟩ : ∃ W, W = w2.setCell ⟨G, 0, none⟩ (.slice p2 h.n c2) := ⟨_, rfl⟩
      rw [Nat.zero_add, List.nil_append] at hown2
      have gG3 : TBox 25 G #[.slice p2 h.n c2, .slice none 0 0, .bool (!h.b)] w3 := by rw [hw3]; exact (gG.below hst2).set 0 _
      have hA3 : Aside (fun k => k = G) w1 w3 := by rw [hw3]; exact Aside.setCell (T := fun k => k = G) (g := G) (Aside.of hst2) rfl 0 _
      have hown3 : w3.ownsRow w1.heap.size 56 1 (.slice p2 h.n c2) h.n (vals .u64 h.n h.z) := by rw [hw3]; exact ownsRow_setCell_below hown2 (by show G < w1.heap.size; omega) _
      rw [← hw3]
      clear hw3 hown2 hgrow2 hst2 x0 x1 x2 lH z0 f0 z0' f0' l2'
      have hl3 : w1.heap.size ≤ w3.heap.size := hA3.size
      have hG3 : G < w3.heap.size := by omega
      obtain ⟨z1, f1⟩ : w3.cell? ⟨G, 1, none⟩ = some (.slice none 0 0) ∧ w3.frozen? ⟨G, 1, none⟩ = false := ⟨gG3.cell 1, gG3.frozen 1⟩
      have gH3 := gH.of_block (hA3.block _ gH.lt (by omega))
      obtain ⟨lH, x0, x1, x2⟩ : w.heap.size + 1 < w3.heap.size ∧ w3.cell? ⟨w.heap.size + 1, 0, none⟩ = some (.slice p h.n c) ∧ w3.cell? ⟨w.heap.size + 1, 1, none⟩ = some (.slice q h.m d) ∧ w3.cell? ⟨w.heap.size + 1, 2, none⟩ = some (.bool h.b) := ⟨gH3.lt, gH3.cell 0, gH3.cell 1, gH3.cell 2⟩
      have hsp3 : Spans w3 q h.m h.s := hh.spans.below (hbW1.trans (hA3.below (by omega) fun k e => by omega))
      obtain ⟨ad, rfl, hcell⟩ := hsp3.cells m0
      go_upto_region 10 with (first
        | (at_builtin; refine wpList_append_own _ rfl (.tmp 44) (.tmp 46) 23 rfl w3.heap.size 68 i1 (.agg #[.int .i64 0, .int .i64 0, .int .u32 0]) 3 24 Tryd.underlying23 hi' hz0' hz1' hz2' rfl (by decide) (.slice none 0 0) 0 [] rfl (World.ownsRow_nil w3 _ _ _) ad h.m d (spVals h.m h.s) rfl (spVals_length _ _) hcell (spVals_one _ _) (by simp only [maxLen]; omega) (by omega) (Nat.le_refl _) ?_; intro v4 w4 hown4 hgrow4 _; obtain ⟨q4, d4, rfl, -⟩ := owned_new hown4; have hst4 : Below w3.heap.size w3 w4 := (Below.refl _ _).grown hgrow4 (Nat.le_refl _) (fun k hk => by cases hk); have l4' := Nat.lt_of_lt_of_le hG3 hst4.size; have f1' := (hst4.frozen (p := ⟨G, 1, none⟩) hG3).trans f1; have z1' := (hst4.cell (p := ⟨G, 1, none⟩) hG3).trans z1)
      )
      obtain ⟨w5, hw5⟩ : ∃ W, W = w4.setCell ⟨G, 1, none⟩ (.slice q4 h.m d4) := ⟨_, rfl⟩
      rw [Nat.zero_add, List.nil_append] at hown4
      have gG5 : TBox 25 G #[.slice p2 h.n c2, .slice q4 h.m d4, .bool (!h.b)] w5 := by rw [hw5]; exact (gG3.below hst4).set 1 _
      have hA5 : Aside (fun k => k = G) w1 w5 := by rw [hw5]; exact hA3.trans (Aside.setCell (T := fun k => k = G) (g := G) (Aside.of hst4) rfl 1 _)
      have hown5 : w5.ownsRow w3.heap.size 68 3 (.slice q4 h.m d4) h.m (spVals h.m h.s) := by rw [hw5]; exact ownsRow_setCell_below hown4 (by show G < w3.heap.size; omega) _
      have hownW : w5.ownsRow w1.heap.size 56 1 (.slice p2 h.n c2) h.n (vals .u64 h.n h.z) := by rw [hw5]; exact ownsRow_setCell_below (owned_below hown3 hst4) (by show G < w1.heap.size; omega) _
      have hne : ∀ b b', (Value.slice p2 h.n c2).ownBlock = some b → (Value.slice q4 h.m d4).ownBlock = some b' → b ≠ b' := fun b b' e e' => by
        have h1 := (hown3.lt b e).2
        have h2 := (hown5.lt b' e').1
        omega
      rw [← hw5]
      have hO : HpOwn w5 w1.heap.size p2 c2 q4 d4 h := ⟨hownW, owned_base hown5 hl3, hne, hh.wf, hh.nle, hh.mle⟩
      have hM5 := hMF.aside (TBox.varH gG) (by decide) (by decide) (by decide) (by omega) hA5
      have gX5 := gXF.of_block (hA5.block gk gXF.lt (by omega))
      have gR5 := gR.of_block (hA5.block _ gR.lt (by omega))
      have gM5 := gM.of_block (hA5.block _ gM.lt (by omega))
      have hb5 : Below w.heap.size w w5 := hbW1.trans (hA5.below (by omega) fun k e => by omega)
      clear hw5 hown4 hgrow4 hst4 hown3 hown5 hownW hne gG gG3 gH gH3 gR gM gXF hMF hA3 x0 x1 x2 lH z1 f1 z1' f1' l4' hcell hsp3 hin1 hsp1
      obtain ⟨lG, z0, z1, z2⟩ : G < w5.heap.size ∧ w5.cell? ⟨G, 0, none⟩ = some (.slice p2 h.n c2) ∧ w5.cell? ⟨G, 1, none⟩ = some (.slice q4 h.m d4) ∧ w5.cell? ⟨G, 2, none⟩ = some (.bool (!h.b)) := ⟨gG5.lt, gG5.cell 0, gG5.cell 1, gG5.cell 2⟩
      obtain ⟨lX, k0, k1, k2, k3, k4, k5, k6, k7⟩ := mk_cells gX5
      obtain ⟨lR, y0, y1, y2, e0, e1, e2⟩ : w.heap.size + 1 + 1 < w5.heap.size ∧ w5.cell? ⟨w.heap.size + 1 + 1, 0, none⟩ = some (.slice none 0 0) ∧ w5.cell? ⟨w.heap.size + 1 + 1, 1, none⟩ = some (.slice none 0 0) ∧ w5.cell? ⟨w.heap.size + 1 + 1, 2, none⟩ = some (.bool false) ∧ w5.frozen? ⟨w.heap.size + 1 + 1, 0, none⟩ = false ∧ w5.frozen? ⟨w.heap.size + 1 + 1, 1, none⟩ = false ∧ w5.frozen? ⟨w.heap.size + 1 + 1, 2, none⟩ = false := ⟨gR5.lt, gR5.cell 0, gR5.cell 1, gR5.cell 2, gR5.frozen 0, gR5.frozen 1, gR5.frozen 2⟩
      obtain ⟨lM, t0, t1, t2, t3, t4, t5, t6, t7⟩ := mk_cells gM5
      obtain ⟨f0, f1, f2, f3, f4, f5, f6, f7⟩ := mk_frozen gM5
      have hR1 : ¬ w.heap.size + 1 + 1 = gk := by omega
      have hG1 : ¬ w.heap.size + 1 + 1 = G := by omega
      have vR := TBox.varH gR5
      have vM := TBox.varT8 gM5
      have hMR : ¬ w.heap.size + 1 + 1 + 1 = w.heap.size + 1 + 1 := by omega
      have gM6 := gM5.of_block (putsL_other hMR [.slice p2 h.n c2, .slice q4 h.m d4, .bool (!h.b)] 0 w5)
      have gR6 := gR5.putsL [.slice p2 h.n c2, .slice q4 h.m d4, .bool (!h.b)] 0
      simp only [setFrom, List.setIfInBounds_toArray, List.set_cons_succ, List.set_cons_zero, Nat.reduceAdd] at gR6
      have vM6 := TBox.varT8 gM6
      have hM6 := hM5.puts vR (by decide) (by decide) (by decide) (by omega) [.slice p2 h.n c2, .slice q4 h.m d4, .bool (!h.b)]
      have hM7 := hM6.puts vM6 (by decide) (by decide) (by decide) (by omega) [.int .i64 cG, .slice pg9 0 cg9, .slice pb9 j cb9, .slice pr9 R.length cr9, .int .i64 (-1), .int .i64 0, .int .i64 (-1), .bool false]
      have hO7 := HpOwn.putsL (g := w.heap.size + 1 + 1 + 1) (by omega) [.int .i64 cG, .slice pg9 0 cg9, .slice pb9 j cb9, .slice pr9 R.length cr9, .int .i64 (-1), .int .i64 0, .int .i64 (-1), .bool false] 0 (HpOwn.putsL (g := w.heap.size + 1 + 1) (by omega) [.slice p2 h.n c2, .slice q4 h.m d4, .bool (!h.b)] 0 hO)
      have hb7 := (hb5.trans (putsL_below (show w.heap.size ≤ w.heap.size + 1 + 1 by omega) [.slice p2 h.n c2, .slice q4 h.m d4, .bool (!h.b)] 0 w5)).trans (putsL_below (show w.heap.size ≤ w.heap.size + 1 + 1 + 1 by omega) [.int .i64 cG, .slice pg9 0 cg9, .slice pb9 j cb9, .slice pr9 R.length cr9, .int .i64 (-1), .int .i64 0, .int .i64 (-1), .bool false] 0 _)
      have gM7 := vM6.full8 (a0 := .int .i64 cG) (a1 := .slice pg9 0 cg9) (a2 := .slice pb9 j cb9) (a3 := .slice pr9 R.length cr9) (a4 := .int .i64 (-1)) (a5 := .int .i64 0) (a6 := .int .i64 (-1)) (a7 := .bool false)
      have gR7 := gR6.of_block (putsL_other (show ¬ w.heap.size + 1 + 1 = w.heap.size + 1 + 1 + 1 by omega) [.int .i64 cG, .slice pg9 0 cg9, .slice pb9 j cb9, .slice pr9 R.length cr9, .int .i64 (-1), .int .i64 0, .int .i64 (-1), .bool false] 0 _)
      have hI7 := hO7.at
      go_region
      have hw9 : (((((((((((w5.setCell ⟨w.heap.size + 1 + 1, 0, none⟩ (.slice p2 h.n c2)).setCell ⟨w.heap.size + 1 + 1, 1, none⟩ (.slice q4 h.m d4)).setCell ⟨w.heap.size + 1 + 1, 2, none⟩ (.bool (!h.b))).setCell ⟨w.heap.size + 1 + 1 + 1, 0, none⟩ (.int .i64 cG)).setCell ⟨w.heap.size + 1 + 1 + 1, 1, none⟩ (.slice pg9 0 cg9)).setCell ⟨w.heap.size + 1 + 1 + 1, 2, none⟩ (.slice pb9 j cb9)).setCell ⟨w.heap.size + 1 + 1 + 1, 3, none⟩ (.slice pr9 R.length cr9)).setCell ⟨w.heap.size + 1 + 1 + 1, 4, none⟩ (.int .i64 (-1))).setCell ⟨w.heap.size + 1 + 1 + 1, 5, none⟩ (.int .i64 0)).setCell ⟨w.heap.size + 1 + 1 + 1, 6, none⟩ (.int .i64 (-1))).setCell ⟨w.heap.size + 1 + 1 + 1, 7, none⟩ (.bool false)) = putsL (w.heap.size + 1 + 1 + 1) 0 [.int .i64 cG, .slice pg9 0 cg9, .slice pb9 j cb9, .slice pr9 R.length cr9, .int .i64 (-1), .int .i64 0, .int .i64 (-1), .bool false] (putsL (w.heap.size + 1 + 1) 0 [.slice p2 h.n c2, .slice q4 h.m d4, .bool (!h.b)] w5) := rfl
      rw [hw9]
      clear hw9 hO hM5 gX5 gR5 gM5 gG5 hb5 vR vM hM6 gM6 gR6 vM6 z0 z1 z2 k0 k1 k2 k3 k4 k5 k6 k7 y0 y1 y2 e0 e1 e2 t0 t1 t2 t3 t4 t5 t6 t7 f0 f1 f2 f3 f4 f5 f6 f7 lG lX lR lM
      generalize putsL (w.heap.size + 1 + 1 + 1) 0 [.int .i64 cG, .slice pg9 0 cg9, .slice pb9 j cb9, .slice pr9 R.length cr9, .int .i64 (-1), .int .i64 0, .int .i64 (-1), .bool false] (putsL (w.heap.size + 1 + 1) 0 [.slice p2 h.n c2, .slice q4 h.m d4, .bool (!h.b)] w5) = w9 at *
      have hdr : Below w9.heap.size w9 w9.drew := (Below.refl _ _).drew
      have gR9 := gR7.below hdr
      have gM9 := gM7.below hdr
      have hM9 := hM7.below hdr
      have hI9 := hI7.below hdr
      have hb9 := bjoin hdr hb7
      clear gR7 gM7 hM7 hI7 hb7 hdr
      generalize w9.drew = wZ at *
      obtain ⟨lR, y0, y1, y2⟩ : w.heap.size + 1 + 1 < wZ.heap.size ∧ wZ.cell? ⟨w.heap.size + 1 + 1, 0, none⟩ = some (.slice p2 h.n c2) ∧ wZ.cell? ⟨w.heap.size + 1 + 1, 1, none⟩ = some (.slice q4 h.m d4) ∧ wZ.cell? ⟨w.heap.size + 1 + 1, 2, none⟩ = some (.bool (!h.b)) := ⟨gR9.lt, gR9.cell 0, gR9.cell 1, gR9.cell 2⟩
      obtain ⟨lM, t0, t1, t2, t3, t4, t5, t6, t7⟩ := mk_cells gM9
      go_wp2
      refine bodyPost_ret (by simp [results, Tryd.results10, go_sem, *]; try rfl) rfl ?_
      exact ⟨p2, c2, q4, d4, pg9, cg9, pb9, cb9, pr9, cr9, rfl, hI9.in.flip, hM9, hb9⟩
end Go.Proofs.YtmbgodncagjncaaDoor
