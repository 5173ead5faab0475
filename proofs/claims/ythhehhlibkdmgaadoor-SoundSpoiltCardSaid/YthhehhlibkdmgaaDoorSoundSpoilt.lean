/- SoundSpoilt: whatever is laid and freed in a heap without references leaves it sound; of a sound heap, with one more bit set in a word that is 0, ahead of which no object's fields reach, a rule is broken. No condition; the tables that the code reads are tied to the program's text. -/
import Derived.Test.YthhehhlibkdmgaaDoorRows
import Derived.Test.YthhehhlibkdmgaaDoorCards
import Derived.Test.YthhehhlibkdmgaaDoorTie
import Derived.Test.YthhehhlibkdmgaaDoorRow09
import Derived.SevenTiedAt
namespace Go.Proofs.YthhehhlibkdmgaaDoor
set_option linter.unusedSimpArgs false
set_option linter.unusedVariables false
open Go.ChangeShapes Go.WideShapes Go.ChangeAt Go.RowKit Go.Joins

theorem at_words {w : World} {base : Nat} {e1 : TypeId} {p' : Option Addr} {c' : Nat} {q : Option Addr} {d : Nat} {h : Hp} (h1 : w.ownsRow base e1 1 (.slice p' h.n c') h.n (vals .u64 h.n h.z)) (hs : Spans w q h.m h.s) (hw : ∀ i, i < h.n → (Lit.int .u64 (h.z i)).wf = true) (hn : h.n ≤ maxLen) (hm : h.m ≤ maxLen) (hq : q = none → h.m = 0 ∧ d = 0) (hd : h.m ≤ d ∧ d ≤ maxLen) : HpAt w p' c' q d h where
  ints := ints_owned h1 hw
  spans := hs
  nle := hn
  mle := hm
  pnil := fun e => by
    subst e
    rcases h1.2 with ⟨hv, h0⟩ | ⟨g, cap', cur, hv, -⟩
    · injection hv with _ _ e; exact ⟨h0, e⟩
    · injection hv with e; cases e
  qnil := hq
  ncap := by
    rcases h1.2 with ⟨hv, h0⟩ | ⟨g, cap', cur, hv, -, -, h1, h2, -⟩
    · injection hv with _ _ e; rw [h0, e]; exact ⟨Nat.le_refl _, by decide⟩
    · injection hv with _ _ e; subst e; exact ⟨h1, h2⟩
  mcap := hd
set_option maxHeartbeats 32000000 in
set_option maxRecDepth 20000 in
theorem spoilt_walk {p : Option Addr} {c : Nat} {q : Option Addr} {d : Nat} {h : Hp} (a1 a2 : Int) (p3 : Option Addr) (n3 c3 : Nat) (f3 : Nat → Dd) (w : World) (hat : HpAt w p c q d h) (hS : Sz w) (b1 : 0 ≤ a1 ∧ a1 < 65536) (b2 : 0 ≤ a2 ∧ a2 < 256) (hD : Deeds w p3 n3 f3) (hn3 : n3 ≤ maxLen) :
    Calls Tryd.prog 5 #[.agg #[.slice p h.n c, .slice q h.m d, .bool h.b], .int .u16 a1, .int .u8 a2, .slice p3 n3 c3] w fun e w' => e = .returned (.bool true) ∧ Below w.heap.size w w' := by
  obtain ⟨w0, hw0⟩ : ∃ w0, w0 = w.alloc (.cells #[.slice p h.n c, .slice q h.m d, .bool h.b] 25) := ⟨_, rfl⟩
  have g3 : Box3 w.heap.size (.slice p h.n c) (.slice q h.m d) (.bool h.b) w0 := by rw [hw0]; exact Box3.new _ _ _ _ _
  have hB0 : Below w.heap.size w w0 := by rw [hw0]; exact (Below.refl _ _).alloc (Nat.le_refl _) _
  have hat0 := hat
  have hS0 := hS
  replace hat := hat.below hB0
  replace hS := hS.below hB0
  replace hD := hD.below hB0
  obtain ⟨l3, x0, x1, x2, -, -, -⟩ := id g3
  by_cases hl : n3 ≤ 60
  · have hMd : ∀ W, Below w0.heap.size w0 W → Calls Tryd.prog 17 #[.int .i64 (1 + a2 % 16), .slice p3 n3 c3] W fun e w' => ∃ p' c' q' d', e = .returned (.agg #[.slice p' (32 * (1 + a2 % 16).toNat) c', .slice q' (1 + a2 % 16).toNat d', .bool (maH (newH (1 + a2 % 16).toNat) f3 n3).b]) ∧ HpIn w' p' (32 * (1 + a2 % 16).toNat) c' q' (1 + a2 % 16).toNat d' (maH (newH (1 + a2 % 16).toNat) f3 n3).b (maH (newH (1 + a2 % 16).toNat) f3 n3) ∧ Below W.heap.size W w' := fun W hW => by
      refine Calls.mono (rmade_any (1 + a2 % 16) p3 n3 c3 f3 W (by omega) (by omega) (hD.below hW) hn3) ?_
      rintro e w' ⟨p', c', q', d', rfl, h1, -, -, -, h2⟩
      exact ⟨p', c', q', d', rfl, h1, h2⟩
    have hms := made_sound (n := (1 + a2 % 16).toNat) (by omega) (by omega) f3 n3
    generalize maH (newH (1 + a2 % 16).toNat) f3 n3 = H at *
    generalize 32 * (1 + a2 % 16).toNat = n7 at *
    generalize (1 + a2 % 16).toNat = m7 at *
    generalize hHb : H.b = b7 at *
    clear hHb hD hn3
    go_enter Tryd.func5, Tryd.ntmps5
    go_upto_region 1 with fail
    rw [← hw0]
    clear hw0
    go_upto_region 4 with (first
    | (go_at_call 7; refine Calls.mono (awake9_any _ (hS.below (by go_grown))) ?_; rintro e w' ⟨rfl, hb⟩; obtain ⟨hc, hf, hb, hz⟩ := bstep hb (w := w0) (by go_grown); try simp only [World.size_alloc, World.size_setCell, World.size_drew] at hc hf hz)
    | (go_at_call 17; refine Calls.mono (hMd _ (by go_grown)) ?_; rintro e w' ⟨p7, c7, q7, d7, rfl, hH, hb⟩; obtain ⟨hc, hf, hb, hz⟩ := bstep hb (w := w0) (by go_grown); try simp only [World.size_alloc, World.size_setCell, World.size_drew] at hc hf hz)
    )
    obtain ⟨w2, hw2⟩ : ∃ W, W = w'.alloc (.cells #[.slice p7 n7 c7, .slice q7 m7 d7, .bool b7] 25) := ⟨_, rfl⟩
    have hB2 : Below w'.heap.size w' w2 := by rw [hw2]; exact (Below.refl _ _).alloc (Nat.le_refl _) _
    have gH : Box3 w'.heap.size (.slice p7 n7 c7) (.slice q7 m7 d7) (.bool b7) w2 := by rw [hw2]; exact Box3.new _ _ _ _ _
    have hb2 := bjoin hB2 hb
    have hbW := bjoin hb2 hB0
    replace hat := hat.below hb2
    replace hS := hS.below hb2
    replace g3 := g3.below hb2
    replace hH := hH.below hB2
    rw [← hw2]
    clear hw2 hb hc hf hz x0 x1 x2 l3 hB0 hMd hB2 hb2
    generalize w'.heap.size = B7 at *
    obtain ⟨l3, x0, x1, x2, -, -, -⟩ := id g3
    obtain ⟨lH, y0, y1, y2, -, -, -⟩ := id gH
    have hOk7 := sok_in hS hH
    rw [hms] at hOk7
    go_upto_region 6 with (first
    | (go_at_call 10; refine Calls.mono (hOk7) ?_; rintro e w' ⟨rfl, hb⟩; obtain ⟨hc, hf, hb, hz⟩ := bstep hb (w := w2) (by go_grown); try simp only [World.size_alloc, World.size_setCell, World.size_drew] at hc hf hz)
    )
    replace hbW := bjoin hb hbW
    replace hat := hat.below hb
    replace hS := hS.below hb
    replace g3 := g3.below hb
    clear hb hc hf hz x0 x1 x2 l3 lH y0 y1 y2 gH hH hms hOk7
    generalize w' = w3 at *
    obtain ⟨l3, x0, x1, x2, -, -, -⟩ := id g3
    have hFo := fun W (hW : Below w3.heap.size w3 W) => rform_in (hat.below hW).in
    have hOk := fun W (hW : Below w3.heap.size w3 W) => sok_in (hS.below hW) (hat.below hW).in
    cases hF : formB h with
    | false =>
      rw [hF] at hFo
      clear hF
      go_wp2_with (first
    | (go_at_call 11; refine Calls.mono (hFo _ (by go_grown)) ?_; rintro e w' ⟨rfl, hb⟩; obtain ⟨hc, hf, hb, hz⟩ := bstep hb (w := w3) (by go_grown); try simp only [World.size_alloc, World.size_setCell, World.size_drew] at hc hf hz)
      )
      go_returns
      exact ⟨rfl, bjoin hb hbW⟩
    | true =>
      rw [hF] at hFo
      by_cases hk : ckH h = 0
      · obtain ⟨-, k2, k3, k4⟩ := ck_zero.1 hk
        have hF' : Hid (formB h = true) := hF
        obtain ⟨M, z, eM, ez, hM, hzm, hzs, hin⟩ := list_all hF
        have hLi := fun W (hW : Below w3.heap.size w3 W) => rlist_row2 (hat.below hW) hF'.out eM ez
        have hnl : h.n ≤ 512 ∧ 0 < h.n := by have := form_iff.1 hF; omega
        obtain ⟨hnl, hn0⟩ := hnl
        have hnz : ¬ h.n = 0 := by omega
        obtain ⟨ti, ei, ti0, ti1⟩ : ∃ t : Int, a1 % (h.n : Int) = t ∧ 0 ≤ t ∧ t < h.n := ⟨_, rfl, Int.emod_nonneg _ (by omega), Int.emod_lt_of_pos _ (by omega)⟩
        rw [hk] at hOk
        clear hk hF k2 k3 k4 eM ez
        go_upto_region 10 with (first
    | (go_at_call 11; refine Calls.mono (hFo _ (by go_grown)) ?_; rintro e w' ⟨rfl, hb⟩; obtain ⟨hc, hf, hb, hz⟩ := bstep hb (w := w3) (by go_grown); try simp only [World.size_alloc, World.size_setCell, World.size_drew] at hc hf hz)
    | (go_at_call 10; refine Calls.mono (hOk _ (by go_grown)) ?_; rintro e w' ⟨rfl, hb⟩; obtain ⟨hc, hf, hb, hz⟩ := bstep hb (w := w3) (by go_grown); try simp only [World.size_alloc, World.size_setCell, World.size_drew] at hc hf hz)
    | (go_at_call 12; refine Calls.mono (hLi _ (by go_grown)) ?_; rintro e w' ⟨pl, cl, rfl, hI, hb⟩; obtain ⟨hc, hf, hb, hz⟩ := bstep hb (w := w3) (by go_grown); try simp only [World.size_alloc, World.size_setCell, World.size_drew] at hc hf hz)
        )
        replace hbW := bjoin hb hbW
        replace hat := hat.below hb
        replace hS := hS.below hb
        replace g3 := g3.below hb
        clear hb hc hf hz x0 x1 x2 l3 hFo hOk hLi
        generalize w' = w4 at *
        clear ei
        go_wp2
        go_loopg [12] M (fun g kv wr => ∃ t : Int, 0 ≤ t ∧ t ≤ M ∧ g = (M - t).toNat ∧ kv = .int .i64 t ∧ (∀ u : Nat, (u : Int) < t → ¬ (z u ≤ ti ∧ ti ≤ z u + obN h (z u))) ∧ Below w4.heap.size w4 wr)
        case atStart => exact ⟨0, by omega, by omega, by omega, rfl, fun u hu => by omega, Below.refl _ _⟩
        case round =>
          obtain ⟨t, t0, t1, rfl, rfl, hno, hbw⟩ := hrel
          have hbWr := bjoin hbw hbW
          by_cases ht : t < M
          · have hg3 := g3.below hbw
            have hatr := hat.below hbw
            obtain ⟨⟨bl, ol, eq1, hlt, v1⟩, -⟩ := (hI.below hbw) t.toNat (by omega)
            subst eq1
            obtain ⟨X0, X1, hox⟩ := (obL_mem h (z t.toNat) h.n).1 (hzm t.toNat (by omega))
            have hN : 0 ≤ obN h (z t.toNat) ∧ obN h (z t.toNat) ≤ 15 := by rw [(ob_spec hF'.out hox).2.2.2.2.2.2.2.2.1]; exact gN_bound
            obtain ⟨N0, N1⟩ := hN
            have hG' := fun W (hW : Below wr.heap.size wr W) => rget_at (hatr.below hW) hF'.out hox
            have hnext : ¬ (z t.toNat ≤ ti ∧ ti ≤ z t.toNat + obN h (z t.toNat)) → ∀ u : Nat, (u : Int) < t + 1 → ¬ (z u ≤ ti ∧ ti ≤ z u + obN h (z u)) := fun e u hu => by
              by_cases eu : (u : Int) < t
              · exact hno u eu
              · rw [show u = t.toNat by omega]; exact e
            clear hno hox
            generalize obC h (z t.toNat) = C at *
            generalize obK h (z t.toNat) = K at *
            generalize obN h (z t.toNat) = N at *
            generalize z t.toNat = X at *
            have hX5 : X < 512 := by omega
            go_upto_region 13 with fail
            refine wp_got (s := 56) (r := 55) (d0 := 13) (d1 := 14) (hb := 4) (lb := 11) (ib := 12) (pos := "law.go:70") (enters_of Tryd.func13 (by kernel_rfl) rfl) (by kernel_rfl) (by simp) (by decide) (by decide) (by decide) (by decide) (by decide) (by decide) (by decide) (by decide) (by decide) (by decide) (by decide) (by decide) (by decide) (by decide) (by decide) (by decide) (by decide) (by decide) hg3 t0 ht hM v1 hlt hG' rfl rfl rfl ?_
            intro y0 y1 y2 y3 y4 y5 y6 y7 y8 g w7 hg gX hb7
            simp only [puts, Act.put, Nat.reduceAdd, List.setIfInBounds_toArray, List.set_cons_succ, List.set_cons_zero]
            have hbw7 := bjoin hb7 hbw
            have hbW7 := bjoin hb7 hbWr
            have v7 : w7.cell? ⟨bl, ol + t.toNat, none⟩ = some (.int .i64 X) := (hb7.cell (p := ⟨bl, ol + t.toNat, none⟩) hlt).trans v1
            have hl7 : bl < w7.heap.size := Nat.lt_of_lt_of_le hlt hb7.size
            obtain ⟨lX, j0, j1, j2, j3, -, -, -, -⟩ := id gX
            clear hg3 hatr v1 hlt hG' hb7 hg gX hbw hbWr hzm hzs hin
            go_upto_region 14 with fail
            by_cases hA : X ≤ ti
            · have dA : decide (X ≤ ti) = true := by simp [hA]
              by_cases hB : ti ≤ X + N
              · have dB : decide (ti ≤ X + N) = true := by simp [hB]
                clear hnext
                refine wp_region_plus (by kernel_rfl) (by kernel_rfl) fun hpc => ?_
                repeat (first | go_big_quiet_step (fail) | quiet_step (fail))
                refine wpQuiet_nil ?_
                intro w' hbq
                clear hpc
                obtain ⟨hc, hf, hb, hz⟩ := bstep hbq (w := w7) (by go_grown)
                try simp only [World.size_alloc, World.size_setCell, World.size_drew] at hc hf hz
                go_wp2
                go_returns
                exact ⟨rfl, bjoin hb hbW7⟩
              · have dB : decide (ti ≤ X + N) = false := by simp; omega
                have hno' := hnext (by omega)
                clear hnext
                refine wp_region_plus (by kernel_rfl) (by kernel_rfl) fun hpc => ?_
                repeat (first | go_big_quiet_step (fail) | quiet_step (fail))
                refine wpQuiet_nil ?_
                intro w' hbq
                clear hpc
                obtain ⟨hc, hf, hb, hz⟩ := bstep hbq (w := w7) (by go_grown)
                try simp only [World.size_alloc, World.size_setCell, World.size_drew] at hc hf hz
                go_wp2
                go_roundg ((M : Int) - (t + 1)).toNat
                case measure => omega
                case rel => exact ⟨t + 1, by omega, by omega, rfl, by go_num, hno', bjoin hb hbw7⟩
            · have dA : decide (X ≤ ti) = false := by simp; omega
              have hno' := hnext (by omega)
              clear hnext
              refine wp_region_plus (by kernel_rfl) (by kernel_rfl) fun hpc => ?_
              repeat (first | go_big_quiet_step (fail) | quiet_step (fail))
              refine wpQuiet_nil ?_
              intro w' hbq
              clear hpc
              obtain ⟨hc, hf, hb, hz⟩ := bstep hbq (w := w7) (by go_grown)
              try simp only [World.size_alloc, World.size_setCell, World.size_drew] at hc hf hz
              go_wp2
              go_roundg ((M : Int) - (t + 1)).toNat
              case measure => omega
              case rel => exact ⟨t + 1, by omega, by omega, rfl, by go_num, hno', bjoin hb hbw7⟩
          · obtain rfl : t = (M : Int) := by omega
            have hsp := spoilt hF'.out ti0 ti1 fun a ho hc => by
              obtain ⟨-, -, a3, a4, -⟩ := ob_spec hF'.out ho
              obtain ⟨u, hu, rfl⟩ := hzs a ((obL_mem h a h.n).2 ⟨a3, a4, ho⟩)
              exact hno u (by omega) hc
            have hg3 := g3.below hbw
            have hatr := hat.below hbw
            have hSr := hS.below hbw
            obtain ⟨l3, x0, x1, x2, -, -, -⟩ := id hg3
            obtain ⟨i0, hi0, hz0, hz1, hz2⟩ := info_parts infoW
            have hlw := hbWr.size
            clear hno hzm hzs hin hat hS g3 hI
            go_upto_region 17 with (first
              | (at_builtin; (refine wpList_append_ints rfl (.tmp 81) (.tmp 83) 22 rfl wr.heap.size 41 i0 (.int .u64 0) 8 Tryd.underlying22 hi0 hz0 hz1 hz2 rfl (.slice (some ⟨wr.heap.size, 0, none⟩) 0 0) 0 [] rfl (World.ownsRow_lit wr #[] 0 (Nat.le_refl _) (by simp only [maxLen]; omega) rfl) .u64 _ _ _ h.z rfl (hatr.ints.below (by go_grown)) hatr.pnil (by simp only [maxLen]; omega) (by omega) (by first | (simp; done) | (simp; omega)) ?_); intro ov w1 hown1 hgrow1; have hB1 : Below wr.heap.size wr w1 := ((Below.refl _ wr).alloc (Nat.le_refl _) _).grown hgrow1 (by simp) (by intro k hk; simp [Value.ownBlock] at hk; omega); have g31 := hg3.below hB1; obtain ⟨l31, x01, x11, x21, f01, f11, f21⟩ := id g31; obtain ⟨q9, c9, rfl, -⟩ := owned_new hown1)
            )
            rw [Nat.zero_add, List.nil_append] at hown1
            rcases hown1.2 with ⟨-, h0⟩ | ⟨gq, capq, cur, hv, -⟩
            · omega
            injection hv with hv1 hv2 hv3
            subst hv1 hv3
            obtain ⟨lq0, lq1⟩ := hown1.lt gq rfl
            obtain ⟨w2, hw2⟩ : ∃ W, W = w1.setCell ⟨w.heap.size, 0, none⟩ (.slice (some ⟨gq, 0, none⟩) h.n c9) := ⟨_, rfl⟩
            have hwl : w.heap.size < wr.heap.size := l3
            have g32 : Box3 w.heap.size (.slice (some ⟨gq, 0, none⟩) h.n c9) (.slice q h.m d) (.bool h.b) w2 := by rw [hw2]; exact g31.store0 _
            have hown2 := owned_setCell hown1 (g := w.heap.size) (fun e => by simp [Value.ownBlock] at e; omega) 0 (.slice (some ⟨gq, 0, none⟩) h.n c9)
            have hbw2 : Below w.heap.size w w2 := by rw [hw2]; exact (bjoin hB1 hbWr).setCell (Nat.le_refl _) _
            rw [← hw2] at hown2 ⊢
            clear hw2 hown1 hgrow1 hB1 g31 l31 x01 x11 x21 f01 f11 f21 l3 x0 x1 x2 hg3 hatr hSr hbWr
            have hlen : (vals .u64 h.n h.z).length = h.n := vals_length _ _ _
            have hst := (hown2.stored ti.toNat (.int .u64 1)).1
            rw [vals_putZ _ _ _ _ ti0] at hst
            obtain ⟨cu, hcu⟩ : ∃ u, (vals .u64 h.n h.z)[ti.toNat]? = some u := ⟨(vals .u64 h.n h.z)[ti.toNat]'(by omega), List.getElem?_eq_getElem _⟩
            have hcell := (hown2.cellAt ti.toNat (by omega)).trans hcu
            have hfz := hown2.frozenAt ti.toNat
            have lg2 := (hown2.lt gq rfl).2
            obtain ⟨l3, x0, x1, x2, -, -, -⟩ := id g32
            go_upto_region 18 with fail
            obtain ⟨w5, hw5⟩ : ∃ W, W = w2.setCell ⟨gq, ti.toNat, none⟩ (.int .u64 1) := ⟨_, rfl⟩
            have g33 : Box3 w.heap.size (.slice (some ⟨gq, 0, none⟩) h.n c9) (.slice q h.m d) (.bool h.b) w5 := by rw [hw5]; exact g32.other (by omega) _ _
            have hbw3 : Below w.heap.size w w5 := by rw [hw5]; exact hbw2.setCell (by show w.heap.size ≤ gq; omega) _
            rw [← hw5] at hst ⊢
            clear hw5 hown2 g32 hbw2 hcell hfz x0 x1 x2 l3 lg2
            have hat5 : HpAt w5 (some ⟨gq, 0, none⟩) c9 q d (putH h ti 1) := at_words (h := putH h ti 1) hst (hat0.spans.below hbw3) (fun i hi => by
              show (Lit.int .u64 (putZ h.z ti 1 i)).wf = true
              unfold putZ
              split
              · decide
              · exact hat0.ints.wf i hi) hat0.nle hat0.mle hat0.qnil hat0.mcap
            have hCk : Calls Tryd.prog 8 #[.agg #[.slice (some ⟨gq, 0, none⟩) h.n c9, .slice q h.m d, .bool h.b]] w5 fun e w' => e = .returned (.int .i64 (ckH (putH h ti 1))) ∧ Below w5.heap.size w5 w' := scheck_any _ _ _ _ (putH h ti 1) w5 (hS0.below hbw3) hat5
            obtain ⟨l3, x0, x1, x2, -, -, -⟩ := id g33
            clear hst hat5 hat0 hS0
            rcases hsp with e | e
            all_goals
              rw [e] at hCk
              clear e
              go_wp2_with (first
    | (go_at_call 8; refine Calls.mono (hCk) ?_; rintro e w' ⟨rfl, hb⟩; obtain ⟨hc, hf, hb, hz⟩ := bstep hb (w := w5) (by go_grown); try simp only [World.size_alloc, World.size_setCell, World.size_drew] at hc hf hz)
              )
              go_returns
              exact ⟨rfl, bjoin hb hbw3⟩
      · have hk0 : (ckH h == 0) = false := by simp [hk]
        rw [hk0] at hOk
        clear hk hk0 hF
        go_wp2_with (first
    | (go_at_call 11; refine Calls.mono (hFo _ (by go_grown)) ?_; rintro e w' ⟨rfl, hb⟩; obtain ⟨hc, hf, hb, hz⟩ := bstep hb (w := w3) (by go_grown); try simp only [World.size_alloc, World.size_setCell, World.size_drew] at hc hf hz)
    | (go_at_call 10; refine Calls.mono (hOk _ (by go_grown)) ?_; rintro e w' ⟨rfl, hb⟩; obtain ⟨hc, hf, hb, hz⟩ := bstep hb (w := w3) (by go_grown); try simp only [World.size_alloc, World.size_setCell, World.size_drew] at hc hf hz)
        )
        go_returns
        exact ⟨rfl, bjoin hb hbW⟩
  · have hd : decide (60 < (n3 : Int)) = true := by simp; omega
    go_enter Tryd.func5, Tryd.ntmps5
    go_upto_region 1 with fail
    rw [← hw0]
    clear hw0
    go_wp2_with (first
    | (go_at_call 7; refine Calls.mono (awake9_any _ (hS.below (by go_grown))) ?_; rintro e w' ⟨rfl, hb⟩; obtain ⟨hc, hf, hb, hz⟩ := bstep hb (w := w0) (by go_grown); try simp only [World.size_alloc, World.size_setCell, World.size_drew] at hc hf hz)
    )
    go_returns
    exact ⟨rfl, bjoin hb hB0⟩

namespace SoundSpoilt
/-- What the row lists. -/
def lists : List (String × DataW Unit) := [("flotsam/class.sizes", Rows.laid_flotsam_class_sizes)]
set_option maxRecDepth 100000 in
theorem lifted (os : Os) (started : os.Started) (H : Type) (enc : TypeId × Value → H) :
    ReturnsInHanded {} Tryd.checked os 5 .any (fun w args => (Rows.soundSpoiltSpec.pre enc Tryd.prog Tryd.f5 Rows.soundSpoiltRow.domain false w args ∧ laidMetH Tryd.prog lists w) ∧ sizedMet enc Tryd.prog Tryd.f5 (OpenSpec.ofChange Rows.soundSpoiltSpec) false w args) (Rows.soundSpoiltSpec.post enc Tryd.prog Tryd.f5 false true false false) := by
  refine law_lifted_laid (C := Tryd.checked) seat_own started (by kernel_rfl) Tryd.func5 (by kernel_rfl) (of_decide_eq_true (by kernel_rfl)) rfl
    (fun ds hd => by have hd' : ds.length = 4 := hd; match ds, hd' with | [d0, d1, d2, d3], _ => rfl) rfl Tryd.underlying4
    (ChangeSpec.witness_shaped (enc := enc) (C := Tryd.checked) (os := os) (X := fun w _ => laidMetH Tryd.prog lists w) false (World.laidAll Tryd.prog os lists) #[.agg #[.slice none 0 0, .slice none 0 0, .bool false], .int .u16 0, .int .u8 0, .slice none 0 0] 8 (World.laidAll_os _ _ _)
      (World.shaped_of_ZipB (by kernel_rfl) (by kernel_rfl)) (by kernel_rfl) (by kernel_rfl) (by kernel_rfl)
      (by rw [MakeChecks.laidMetH_plain _ _ _ (by kernel_rfl)]; exact laidMet_laidAll _ (by kernel_rfl) (by kernel_rfl))) ?_
  intro W base args ds p hval hA hlt hL
  have hS : Sz W := sizes_of hL (by kernel_rfl) rfl
  rw [Tryd.params5] at hA hval
  obtain ⟨v0, v1, v2, v3, d0, d1, d2, d3, p0, p1, p2, p3, rfl, rfl, rfl, h0, h1, h2, h3⟩ := trodAll_four hA
  obtain ⟨x0, q0, c0, s0, e0, rfl, hh0⟩ := open_heap Tryd.underlying25 (by kernel_rfl) (by kernel_rfl) Tryd.underlying22 (by kernel_rfl) (by kernel_rfl) Tryd.underlying23 Tryd.underlying39 (by kernel_rfl) (by kernel_rfl) (by kernel_rfl) (by kernel_rfl) (by kernel_rfl) (by kernel_rfl) (hval 0 25 v0 rfl rfl) h0
  obtain ⟨a1, rfl, ha1⟩ := open_u16 Tryd.underlying42 (hval 1 42 v1 rfl rfl) h1
  obtain ⟨a2, rfl, ha2⟩ := open_u8 Tryd.underlying5 (hval 2 5 v2 rfl rfl) h2
  obtain ⟨q3, n3, cap3, f3, rfl, hn3, hz3, hq3⟩ := open_deeds Tryd.underlying43 Tryd.underlying67 (by kernel_rfl) (by kernel_rfl) (by kernel_rfl) (by kernel_rfl) (by kernel_rfl) (hval 3 43 v3 rfl rfl) h3
  exact spoilt_walk a1 a2 q3 n3 cap3 f3 W hh0 hS ha1 ha2 hz3 hn3

theorem row_holds : Rows.SoundSpoiltSaid :=
  OpenClaim.holds_of_wide 5 Tryd.f5 rfl rfl rfl rfl rfl rfl rfl ⟨rfl, rfl, rfl, rfl, rfl⟩ rfl rfl rfl rfl rfl (by kernel_rfl) Tryd.func5 (by kernel_rfl)
    (of_decide_eq_true (by kernel_rfl)) (by unfold Func.isWrapper; first | (rw [if_pos (by decide +kernel)]; kernel_rfl) | (rw [if_neg (by decide +kernel)]; exact ⟨rfl, rfl⟩))
    (fun os started H enc _ => lifted os started H enc)
/-- The tied card. -/
theorem holds : Rows.SoundSpoiltCardSaid :=
  Claim7.holds_tied_plain_at .later [] [.data] true (true, "0319e39815f5d4fc24417ff8cd6ea6b0fe21decf05268195319bf92839ff0bc8") false row_holds (fun _ h => by cases h) (by kernel_rfl) (fun _ h => by cases h) soundSpoilt_row_tie rfl ⟨rfl, rfl⟩ (by kernel_rfl) rfl
    (fun f fn hf hfn => by
      obtain rfl : f = 5 := Option.some.inj ((show Tryd.prog.funcNamed "flotsam/flotsamlaw09.SoundSpoilt" = some 5 by kernel_rfl).symm.trans hf) |>.symm
      obtain rfl : fn = Tryd.f5 := (Option.some.inj (Tryd.func5.symm.trans hfn)).symm
      exact ⟨by kernel_rfl, fun j t ht => by
        rw [Tryd.params5] at ht
        have hm : t ∈ [25, 42, 5, 43] := by simpa using Array.mem_of_getElem? ht
        have hall : ([25, 42, 5, 43].all fun u => !Tryd.prog.wantsStandIn u) = true := by kernel_rfl
        exact (show Tryd.prog.wantsStandIn t = false by simpa using List.all_eq_true.1 hall t hm)⟩)
    (by kernel_rfl)
#print axioms holds
end SoundSpoilt
end Go.Proofs.YthhehhlibkdmgaaDoor
