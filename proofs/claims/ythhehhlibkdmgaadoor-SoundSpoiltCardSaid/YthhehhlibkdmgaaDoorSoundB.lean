/- Contract of sound's isRightPage. -/
import Derived.Test.YthhehhlibkdmgaaDoorSoundA
namespace Go.Proofs.YthhehhlibkdmgaaDoor
set_option linter.unusedSimpArgs false
set_option linter.unusedVariables false
open Go.ChangeShapes Go.WideShapes Go.ChangeAt Go.RowKit Go.Joins

set_option maxHeartbeats 8000000 in
theorem spage_any (p : Option Addr) (c : Nat) (q : Option Addr) (d : Nat) (h : Hp) (j : Nat) (w : World) (hS : Sz w) (hh : HpAt w p c q d h) (hF : formB h = true) (hj : j < h.m) :
    Calls Tryd.prog 41 #[.agg #[.slice p h.n c, .slice q h.m d, .bool h.b], .int .i64 (j : Int)] w fun e w' => e = .returned (.bool (pg2 h j)) ∧ Below w.heap.size w w' := by
  obtain ⟨w0, hw0⟩ : ∃ w0, w0 = w.alloc (.cells #[.slice p h.n c, .slice q h.m d, .bool h.b] 55) := ⟨_, rfl⟩
  have gB : Box3 w.heap.size (.slice p h.n c) (.slice q h.m d) (.bool h.b) w0 := by rw [hw0]; exact Box3.new _ _ _ _ _
  have hst : Below w.heap.size w w0 := by rw [hw0]; go_grown
  have hS0 := hS.below hst
  have hat := hh.below hst
  obtain ⟨l0, x0, x1, x2, -, -, -⟩ := id gB
  have hnl : h.n ≤ 512 := by have := form_iff.1 hF; omega
  have hnm : 32 * j + 32 ≤ h.n := by have := (form_iff.1 hF).2.2.1; omega
  have hcp := hat.ncap.1
  obtain ⟨⟨b, off, eq, hlt, s0, s1, s2⟩, hws⟩ := hat.spans j hj
  have hmk : Mask (h.s j).fr := hws.2.2
  by_cases hs : (h.s j).st = 0
  · have eP : pg2 h j = noB h (32 * j) 32 := by unfold pg2; rw [if_pos hs]
    rw [eP]
    have hs0 : ((h.s j).st == 0) = true := by simp [hs]
    obtain ⟨⟨b', off', eq', hlt', -⟩, -⟩ := hat.ints 0 (by omega)
    obtain ⟨A, hA⟩ : ∃ A : Int, A = (j : Int) * 32 := ⟨_, rfl⟩
    have hN : ∀ W, Below w0.heap.size w0 W → Calls Tryd.prog 44 #[.slice (some ⟨b', off' + A.toNat, none⟩) ((A + 32).toNat - A.toNat) (c - A.toNat)] W fun e w' => e = .returned (.bool (noB h (32 * j) 32)) ∧ Below W.heap.size W w' := fun W hb => by
      rw [show (A + 32).toNat - A.toNat = 32 by omega, show 32 * (j : Int) = A by omega]
      exact azero_part (hat.below hb) (by omega) (by omega) hnl fun _ b'' off'' e => by rw [eq'] at e; injection e with e; injection e with e1 e2; subst e1 e2; rfl
    subst eq eq'
    have hi' : A + 32 ≤ c := by omega
    have hne : ¬ c = A.toNat := by omega
    have hA0 : 0 ≤ A ∧ A ≤ 512 := by omega
    have hA1 : A ≤ A + 32 := by omega
    generalize noB h (32 * j) 32 = V at *
    clear hat hh hF hcp eP hws hmk hs
    go_enter Tryd.func41, Tryd.ntmps41
    go_upto_region 1 with fail
    rw [← hw0]
    clear hw0
    go_upto_region 2 with fail
    rw [← hA]
    have hA' : Hid (A = (j : Int) * 32) := hA
    clear hA
    go_wp2_with (first
    | (go_at_call 44; refine Calls.mono (hN _ (by go_grown)) ?_; rintro e w' ⟨rfl, hb⟩; obtain ⟨hc, hf, hb, hz⟩ := bstep hb (w := w0) (by go_grown); try simp only [World.size_alloc, World.size_setCell, World.size_drew] at hc hf hz)
    )
    go_returns
    exact ⟨rfl, bjoin hb hst⟩
  · have hs0 : ((h.s j).st == 0) = false := by simp [hs]
    have hbd := fun (i : Nat) (hi : (i : Int) < blW (h.s j).cl) => blk_at hF hj hs hi
    have hsH : Hid (¬ (h.s j).st = 0) := hs
    have hF' : Hid (formB h = true) := hF
    obtain ⟨B0, B1⟩ := bl_bound (h.s j).cl
    subst eq
    have hm5 : (j : Int) ≤ 16 := by have := (form_iff.1 hF'.out).2.1; omega
    clear hs hF hnm
    go_enter Tryd.func41, Tryd.ntmps41
    go_upto_region 1 with fail
    rw [← hw0]
    clear hw0
    go_upto_region 2 with fail
    obtain ⟨A, hA⟩ : ∃ A : Int, A = (j : Int) * 32 := ⟨_, rfl⟩
    rw [← hA]
    have hAb : 0 ≤ A ∧ A ≤ 512 := by omega
    obtain ⟨hAb0, hAb1⟩ := hAb
    have hA' : Hid (A = (j : Int) * 32) := hA
    clear hA
    obtain ⟨w4, hw4⟩ : ∃ W, W = w0.alloc (.cells #[.int .i64 (h.s j).st, .int .i64 (h.s j).cl, .int .u32 (h.s j).fr] 39) := ⟨_, rfl⟩
    have hB4 : Below w0.heap.size w0 w4 := by rw [hw4]; exact (Below.refl _ _).alloc (Nat.le_refl _) _
    have gS : Box3 w0.heap.size (.int .i64 (h.s j).st) (.int .i64 (h.s j).cl) (.int .u32 (h.s j).fr) w4 := by rw [hw4]; exact Box3.new _ _ _ _ _
    have hat4 := hat.below hB4
    have gr4 := gB.below hB4
    have hS4 := hS0.below hB4
    have hbW4 := bjoin hB4 hst
    rw [← hw4]
    clear hw4 hB4 gB l0 x0 x1 x2 hlt s0 s1 s2 hws hat hst hS0
    generalize w0.heap.size = BS at *
    obtain ⟨l0, x0, x1, x2, -, -, -⟩ := id gr4
    obtain ⟨lS, y0, y1, y2, -, -, -⟩ := id gS
    go_upto_region 5 with (first
    | (go_at_call 58; refine Calls.mono (cblocks_any _ _ (hS4.below (by go_grown))) ?_; rintro e w' ⟨rfl, hb⟩; obtain ⟨hc, hf, hb, hz⟩ := bstep hb (w := w4) (by go_grown); try simp only [World.size_alloc, World.size_setCell, World.size_drew] at hc hf hz)
    )
    replace hat4 := hat4.below hb
    replace gr4 := gr4.below hb
    replace gS := gS.below hb
    replace hS4 := hS4.below hb
    replace hbW4 := bjoin hb hbW4
    clear hb hc hf hz x0 x1 x2 l0 y0 y1 y2 lS
    generalize w' = w6 at *
    go_loopg [30] (blW (h.s j).cl).toNat (fun g iv wr => ∃ (i : Nat), (i : Int) ≤ blW (h.s j).cl ∧ g = (blW (h.s j).cl - i).toNat ∧ iv = .int .i64 i ∧ (∀ t, t < i → bk2 h j t = true) ∧ Below w6.heap.size w6 wr)
    case atStart => exact ⟨0, by omega, by omega, rfl, fun t ht => by omega, Below.refl _ _⟩
    case round =>
      obtain ⟨i, ih, rfl, rfl, h2b, hbr⟩ := hrel
      have gr6 := gr4.below hbr
      have gS6 := gS.below hbr
      have hat7 := hat4.below hbr
      have hS7 := hS4.below hbr
      have hbW7 := bjoin hbr hbW4
      obtain ⟨l0, x0, x1, x2, -, -, -⟩ := id gr6
      obtain ⟨lS, y0, y1, y2, -, -, -⟩ := id gS6
      by_cases hi : (i : Int) < blW (h.s j).cl
      · obtain ⟨A0, A1, A2, A3, M0, M1⟩ := hbd i hi
        have hB : ∀ W, Below wr.heap.size wr W → Calls Tryd.prog 59 #[.agg #[.slice p h.n c, .slice (some ⟨b, off, none⟩) h.m d, .bool h.b], .int .i64 (A + i * szW (h.s j).cl), .int .i64 (h.s j).cl, .bool (hasB (h.s j).fr i)] W fun e w' => e = .returned (.bool (bk2 h j i)) ∧ Below W.heap.size W w' := fun W hW => by
          have e : A + i * szW (h.s j).cl = bkA h j i := by rw [hA'.out]; unfold bkA; omega
          rw [e]
          exact sblock_any p c _ d h (bkA h j i) (h.s j).cl (hasB (h.s j).fr i) W (hS7.below hW) (hat7.below hW) hF'.out A0 A1 (by omega)
        have hpn : bk2 h j i = false → pg2 h j = false := pg2_no hsH.out hi
        cases e : bk2 h j i with
        | true =>
          have h2' : ∀ t, t < i + 1 → bk2 h j t = true := fun t ht => by
            by_cases et : t = i
            · subst et; exact e
            · exact h2b t (by omega)
          rw [e] at hB
          clear e hpn A0 A1 hbd
          go_upto_region 7 with fail
          refine wp_region_plus (by kernel_rfl) (by kernel_rfl) fun hpc => ?_
          repeat (first | go_big_quiet_step ((first | (go_at_call 45; exact quiet_plus (cwords_any _ _ (hS7.below (plus_below _ _)))) | (go_at_call 60; exact quiet_plus (has_any _ _ _ hmk)) | (go_at_call 59; exact quiet_plus (hB _ (plus_below _ _))))) | quiet_step ((first | (go_at_call 45; exact quiet_plus (cwords_any _ _ (hS7.below (plus_below _ _)))) | (go_at_call 60; exact quiet_plus (has_any _ _ _ hmk)) | (go_at_call 59; exact quiet_plus (hB _ (plus_below _ _))))))
          refine wpQuiet_nil ?_
          intro w' hbq
          clear hpc
          obtain ⟨hc, hf, hb, hz⟩ := bstep hbq (w := wr) (by go_grown)
          try simp only [World.size_alloc, World.size_setCell, World.size_drew] at hc hf hz
          go_wp2
          go_roundg (blW (h.s j).cl - ((i + 1 : Nat) : Int)).toNat
          case measure => omega
          case rel => exact ⟨i + 1, by omega, rfl, by go_num, h2', bjoin hb hbr⟩
        | false =>
          have er := hpn e
          rw [e] at hB
          clear e hpn A0 A1 hbd
          go_upto_region 7 with fail
          refine wp_region_plus (by kernel_rfl) (by kernel_rfl) fun hpc => ?_
          repeat (first | go_big_quiet_step ((first | (go_at_call 45; exact quiet_plus (cwords_any _ _ (hS7.below (plus_below _ _)))) | (go_at_call 60; exact quiet_plus (has_any _ _ _ hmk)) | (go_at_call 59; exact quiet_plus (hB _ (plus_below _ _))))) | quiet_step ((first | (go_at_call 45; exact quiet_plus (cwords_any _ _ (hS7.below (plus_below _ _)))) | (go_at_call 60; exact quiet_plus (has_any _ _ _ hmk)) | (go_at_call 59; exact quiet_plus (hB _ (plus_below _ _))))))
          refine wpQuiet_nil ?_
          intro w' hbq
          clear hpc
          obtain ⟨hc, hf, hb, hz⟩ := bstep hbq (w := wr) (by go_grown)
          try simp only [World.size_alloc, World.size_setCell, World.size_drew] at hc hf hz
          go_wp2
          go_returns
          exact ⟨ret_bool (by simp [er]), bjoin hb hbW7⟩
      · have e2 : pg2 h j = true := (pg2_used hsH.out).2 fun t ht => h2b t (by omega)
        have hle : ¬ (i : Int) < blW (h.s j).cl := hi
        go_wp2
        go_returns
        exact ⟨ret_bool (by simp [e2]), hbW7⟩
end Go.Proofs.YthhehhlibkdmgaaDoor
