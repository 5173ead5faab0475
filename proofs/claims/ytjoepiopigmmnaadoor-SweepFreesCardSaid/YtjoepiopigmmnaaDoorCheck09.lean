/- The reference's Check (chapter 9). -/
import Derived.Test.YtjoepiopigmmnaaDoorRef09
import Derived.Test.YtjoepiopigmmnaaDoorTold
namespace Go.Proofs.YtjoepiopigmmnaaDoor
set_option linter.unusedSimpArgs false
set_option linter.unusedVariables false
open Go.ChangeShapes Go.WideShapes Go.ChangeAt Go.RowKit Go.Joins

/-- What 'bad' says of the pages ahead, and of the blocks ahead in this one. -/
structure BadIs (h : Hp) (j i : Nat) (v : Int) : Prop where
  out : (v = 0 ∧ (∀ t, t < j → pg3 h t = true) ∧ ∀ t, t < i → bk3 h j t = true) ∨ (v = 3 ∧ ((∃ t, t < j ∧ pg3 h t = false) ∨ ∃ t, t < i ∧ bk3 h j t = false))
theorem BadIs.next {h : Hp} {j i : Nat} {v : Int} (b : BadIs h j i v) (e : bk3 h j i = true) : BadIs h j (i + 1) v := by
  rcases b.out with ⟨h0, h1, h2⟩ | ⟨h0, h1 | ⟨t, h1, h2⟩⟩
  · refine ⟨.inl ⟨h0, h1, fun t ht => ?_⟩⟩
    by_cases et : t = i
    · subst et; exact e
    · exact h2 t (by omega)
  · exact ⟨.inr ⟨h0, .inl h1⟩⟩
  · exact ⟨.inr ⟨h0, .inr ⟨t, by omega, h2⟩⟩⟩
theorem BadIs.fall {h : Hp} {j i : Nat} {v : Int} (b : BadIs h j i v) (e : bk3 h j i = false) : BadIs h j (i + 1) 3 := ⟨.inr ⟨rfl, .inr ⟨i, by omega, e⟩⟩⟩
theorem BadIs.free {h : Hp} {j : Nat} {v : Int} (b : BadIs h j 0 v) (e : (h.s j).st = 0) : BadIs h (j + 1) 0 v := by
  have hp : pg3 h j = true := by unfold pg3; rw [if_pos e]
  rcases b.out with ⟨h0, h1, h2⟩ | ⟨h0, ⟨t, h1, h2⟩ | ⟨t, h1, h2⟩⟩
  · refine ⟨.inl ⟨h0, fun t ht => ?_, fun t ht => by omega⟩⟩
    by_cases et : t = j
    · subst et; exact hp
    · exact h1 t (by omega)
  · exact ⟨.inr ⟨h0, .inl ⟨t, by omega, h2⟩⟩⟩
  · omega
theorem BadIs.page {h : Hp} {j i : Nat} {v : Int} (b : BadIs h j i v) (e : ¬ (h.s j).st = 0) (hi : (i : Int) = blW (h.s j).cl) : BadIs h (j + 1) 0 v := by
  rcases b.out with ⟨h0, h1, h2⟩ | ⟨h0, ⟨t, h1, h2⟩ | ⟨t, h1, h2⟩⟩
  · refine ⟨.inl ⟨h0, fun t ht => ?_, fun t ht => by omega⟩⟩
    by_cases et : t = j
    · subst et; exact (pg3_used e).2 fun u hu => h2 u (by omega)
    · exact h1 t (by omega)
  · exact ⟨.inr ⟨h0, .inl ⟨t, by omega, h2⟩⟩⟩
  · refine ⟨.inr ⟨h0, .inl ⟨j, by omega, ?_⟩⟩⟩
    cases hp : pg3 h j with
    | false => rfl
    | true => have := (pg3_used e).1 hp t (by omega); rw [this] at h2; cases h2
theorem BadIs.end {h : Hp} {v : Int} (b : BadIs h h.m 0 v) : (v = 0 ∧ ru3 h = true) ∨ (v = 3 ∧ ru3 h = false) := by
  rcases b.out with ⟨h0, h1, h2⟩ | ⟨h0, ⟨t, h1, h2⟩ | ⟨t, h1, h2⟩⟩
  · exact .inl ⟨h0, ru3_iff.2 h1⟩
  · refine .inr ⟨h0, ?_⟩
    cases hr : ru3 h with
    | false => rfl
    | true => have := ru3_iff.1 hr t h1; rw [this] at h2; cases h2
  · omega
theorem ru2_no {h : Hp} {p : Nat} (hp : p < h.m) (e : pg2 h p = false) : ru2 h = false := by
  cases hr : ru2 h with
  | false => rfl
  | true => have := ru2_iff.1 hr p hp; rw [this] at e; cases e
theorem pg2_no {h : Hp} {p i : Nat} (hs : ¬ (h.s p).st = 0) (hi : (i : Int) < blW (h.s p).cl) (e : bk2 h p i = false) : pg2 h p = false := by
  cases hr : pg2 h p with
  | false => rfl
  | true => have := (pg2_used hs).1 hr i hi; rw [this] at e; cases e

theorem blk_at {h : Hp} (hF : formB h = true) {j : Nat} (hj : j < h.m) (hs : ¬ (h.s j).st = 0) {i : Nat} (hi : (i : Int) < blW (h.s j).cl) :
    0 ≤ bkA h j i ∧ bkA h j i + szW (h.s j).cl ≤ h.n ∧ 2 ≤ szW (h.s j).cl ∧ szW (h.s j).cl ≤ 16 ∧ 0 ≤ (i : Int) * szW (h.s j).cl ∧ (i : Int) * szW (h.s j).cl ≤ 32 := by
  obtain ⟨f1, f2, f3⟩ := fi_of (h := h) (p := (j : Int)) (i := i) hF (by omega) (by omega) (by rw [spH_nat]; exact hs) (by omega) (by rw [spH_nat]; exact hi)
  rw [spH_nat] at f1 f2 f3
  have e : 32 * (j : Int) + i * szW (h.s j).cl = bkA h j i := rfl
  rw [e] at f1 f2 f3
  obtain ⟨b0, b1, b2, b3, b4⟩ := block_in hF f1
  rw [f2, spH_nat] at b2 b3 b4
  have := sz_bound (h.s j).cl
  refine ⟨b0, b3, b4, by omega, ?_, ?_⟩
  · exact Int.mul_nonneg (by omega) (by omega)
  · omega
set_option maxHeartbeats 16000000 in
set_option maxRecDepth 20000 in
theorem rcheck9_any (p : Option Addr) (c : Nat) (q : Option Addr) (d : Nat) (h : Hp) (w : World) (hh : HpAt w p c q d h) :
    Calls Tryd.prog 8 #[.agg #[.slice p h.n c, .slice q h.m d, .bool h.b]] w fun e w' => e = .returned (.int .i64 (ckH h)) ∧ Below w.heap.size w w' := by
  obtain ⟨w0, hw0⟩ : ∃ w0, w0 = w.alloc (.cells #[.slice p h.n c, .slice q h.m d, .bool h.b] 25) := ⟨_, rfl⟩
  have gB : Box3 w.heap.size (.slice p h.n c) (.slice q h.m d) (.bool h.b) w0 := by rw [hw0]; exact Box3.new _ _ _ _ _
  have hst : Below w.heap.size w w0 := by rw [hw0]; go_grown
  have hat := hh.below hst
  obtain ⟨l0, x0, x1, x2, -, -, -⟩ := id gB
  have hFo := rform_any p c q d h w0 hat
  clear hh
  cases hF : formB h with
  | false =>
    rw [hF] at hFo
    rw [ck_form hF]
    clear hF
    go_enter Tryd.func8, Tryd.ntmps8
    go_upto_region 1 with fail
    rw [← hw0]
    clear hw0
    go_wp2_with (first
    | (go_at_call 11; refine Calls.mono (hFo) ?_; rintro e w' ⟨rfl, hb⟩; obtain ⟨hc, hf, hb, hz⟩ := bstep hb (w := w0) (by go_grown); try simp only [World.size_alloc, World.size_setCell, World.size_drew] at hc hf hz)
    )
    go_returns
    exact ⟨rfl, bjoin hb hst⟩
  | true =>
    rw [hF] at hFo
    have hF' : Hid (formB h = true) := hF
    have hnl : h.n ≤ 512 ∧ h.m ≤ 16 := by have := form_iff.1 hF; omega
    obtain ⟨hnl, hml⟩ := hnl
    have hnm : Hid (h.n = 32 * h.m) := (form_iff.1 hF).2.2.1
    clear hF
    go_enter Tryd.func8, Tryd.ntmps8
    go_upto_region 1 with fail
    rw [← hw0]
    clear hw0
    go_upto_region 3 with (first
    | (go_at_call 11; refine Calls.mono (hFo) ?_; rintro e w' ⟨rfl, hb⟩; obtain ⟨hc, hf, hb, hz⟩ := bstep hb (w := w0) (by go_grown); try simp only [World.size_alloc, World.size_setCell, World.size_drew] at hc hf hz)
    )
    replace gB := gB.below hb
    replace hat := hat.below hb
    have hbW := bjoin hb hst
    clear hb hc hf hz x0 x1 x2 l0 hFo
    generalize w' = w3 at *
    go_wp2
    go_loopg [3, 4] h.m (fun g bv iv wr => ∃ (j : Nat) (v : Int), j ≤ h.m ∧ g = h.m - j ∧ bv = .int .i64 v ∧ iv = .int .i64 j ∧ BadIs h j 0 v ∧ (∀ t, t < j → pg2 h t = true) ∧ Below w3.heap.size w3 wr)
    case atStart => exact ⟨0, 0, by omega, by omega, rfl, rfl, ⟨.inl ⟨rfl, fun t ht => by omega, fun t ht => by omega⟩⟩, fun t ht => by omega, Below.refl _ _⟩
    case round =>
      obtain ⟨j, v, jh, rfl, rfl, rfl, hbad, h2s, hbw⟩ := hrel
      have gr := gB.below hbw
      obtain ⟨l0, x0, x1, x2, -, -, -⟩ := id gr
      by_cases hj : j < h.m
      · obtain ⟨⟨b, off, eq, hlt, s0, s1, s2⟩, hws⟩ := (hat.below hbw).spans j hj
        subst eq
        have hmk : Mask (h.s j).fr := hws.2.2
        go_upto_region 8 with fail
        obtain ⟨w4, hw4⟩ : ∃ W, W = wr.alloc (.cells #[.int .i64 (h.s j).st, .int .i64 (h.s j).cl, .int .u32 (h.s j).fr] 42) := ⟨_, rfl⟩
        have hB4 : Below wr.heap.size wr w4 := by rw [hw4]; exact (Below.refl _ _).alloc (Nat.le_refl _) _
        have gS : Box3 wr.heap.size (.int .i64 (h.s j).st) (.int .i64 (h.s j).cl) (.int .u32 (h.s j).fr) w4 := by rw [hw4]; exact Box3.new _ _ _ _ _
        have hat4 := (hat.below hbw).below hB4
        have gr4 := gr.below hB4
        have hbw4 := bjoin hB4 hbw
        have hbW4 := bjoin hbw4 hbW
        rw [← hw4]
        clear hw4 hB4 gr l0 x0 x1 x2 hlt s0 s1 s2 hws
        generalize wr.heap.size = BS at *
        obtain ⟨l0, x0, x1, x2, -, -, -⟩ := id gr4
        obtain ⟨lS, y0, y1, y2, -, -, -⟩ := id gS
        by_cases hs : (h.s j).st = 0
        · have eP : pg2 h j = noB h (32 * j) 32 := by unfold pg2; rw [if_pos hs]
          have hN := rnought_any p c _ d h (32 * j) 32 w4 hat4 (by omega) (by have := hnm.out; omega) hnl
          rw [show ((32 : Nat) : Int) = 32 from rfl] at hN
          have hb' := hbad.free hs
          have hs0 : ((h.s j).st == 0) = true := by simp [hs]
          rw [← eP] at hN
          cases e : pg2 h j with
          | false =>
            have ek := ck_two hF'.out (ru2_no hj e)
            rw [e] at hN
            clear hs
            go_wp2_with (first
    | (go_at_call 25; refine Calls.mono (hN) ?_; rintro e w' ⟨rfl, hb⟩; obtain ⟨hc, hf, hb, hz⟩ := bstep hb (w := w4) (by go_grown); try simp only [World.size_alloc, World.size_setCell, World.size_drew] at hc hf hz)
            )
            go_returns
            exact ⟨ret_int (by rw [ek]), bjoin hb hbW4⟩
          | true =>
            have h2s' : ∀ t, t < j + 1 → pg2 h t = true := fun t ht => by
              by_cases et : t = j
              · subst et; exact e
              · exact h2s t (by omega)
            rw [e] at hN
            clear hs
            go_wp2_with (first
    | (go_at_call 25; refine Calls.mono (hN) ?_; rintro e w' ⟨rfl, hb⟩; obtain ⟨hc, hf, hb, hz⟩ := bstep hb (w := w4) (by go_grown); try simp only [World.size_alloc, World.size_setCell, World.size_drew] at hc hf hz)
            )
            go_roundg (h.m - (j + 1))
            case measure => omega
            case rel => exact ⟨j + 1, v, by omega, rfl, rfl, by go_num, hb', h2s', bjoin hb hbw4⟩
        · have hs0 : ((h.s j).st == 0) = false := by simp [hs]
          have hbd := fun (i : Nat) (hi : (i : Int) < blW (h.s j).cl) => blk_at hF'.out hj hs hi
          have hpn := fun (i : Nat) (hi : (i : Int) < blW (h.s j).cl) e => ck_two hF'.out (ru2_no hj (pg2_no hs hi e))
          have hsH : Hid (¬ (h.s j).st = 0) := hs
          obtain ⟨B0, B1⟩ := bl_bound (h.s j).cl
          clear hs
          go_upto_region 12 with (first
    | (go_at_call 26; refine Calls.mono (rcwords_any _ _) ?_; rintro e w' ⟨rfl, hb⟩; obtain ⟨hc, hf, hb, hz⟩ := bstep hb (w := w4) (by go_grown); try simp only [World.size_alloc, World.size_setCell, World.size_drew] at hc hf hz)
          )
          replace hat4 := hat4.below hb
          replace gr4 := gr4.below hb
          replace gS := gS.below hb
          replace hbw4 := bjoin hb hbw4
          replace hbW4 := bjoin hb hbW4
          clear hb hc hf hz x0 x1 x2 l0 y0 y1 y2 lS
          generalize w' = w6 at *
          go_wp2
          go_loopg [3, 7] (blW (h.s j).cl).toNat (fun g bv iv wr => ∃ (i : Nat) (v : Int), (i : Int) ≤ blW (h.s j).cl ∧ g = (blW (h.s j).cl - i).toNat ∧ bv = .int .i64 v ∧ iv = .int .i64 i ∧ BadIs h j i v ∧ (∀ t, t < i → bk2 h j t = true) ∧ Below w6.heap.size w6 wr)
          case atStart => exact ⟨0, v, by omega, by omega, rfl, rfl, hbad, fun t ht => by omega, Below.refl _ _⟩
          case round =>
            clear hbad
            obtain ⟨i, v, ih, rfl, rfl, rfl, hbad, h2b, hbr⟩ := hrel
            have gr6 := gr4.below hbr
            have gS6 := gS.below hbr
            have hat7 := hat4.below hbr
            have hbw7 := bjoin hbr hbw4
            have hbW7 := bjoin hbr hbW4
            obtain ⟨l0, x0, x1, x2, -, -, -⟩ := id gr6
            obtain ⟨lS, y0, y1, y2, -, -, -⟩ := id gS6
            by_cases hi : (i : Int) < blW (h.s j).cl
            · obtain ⟨A0, A1, A2, A3, M0, M1⟩ := hbd i hi
              have hpn' := hpn i hi
              have h2n : bk2 h j i = true → ∀ t, t < i + 1 → bk2 h j t = true := fun e t ht => by
                by_cases et : t = i
                · subst et; exact e
                · exact h2b t (by omega)
              cases hf : hasB (h.s j).fr i with
              | true =>
                have eB : bk2 h j i = noB h (bkA h j i) (szW (h.s j).cl).toNat := by unfold bk2; rw [if_pos hf]
                have hb3 := hbad.next (show bk3 h j i = true by unfold bk3; rw [if_pos hf])
                have hN : ∀ W, HpAt W p c (some ⟨b, off, none⟩) d h → Calls Tryd.prog 25 #[.agg #[.slice p h.n c, .slice (some ⟨b, off, none⟩) h.m d, .bool h.b], .int .i64 (32 * (j : Int) + i * szW (h.s j).cl), .int .i64 (szW (h.s j).cl)] W fun e w' => e = .returned (.bool (bk2 h j i)) ∧ Below W.heap.size W w' := fun W hW => by
                  have := rnought_any p c _ d h (bkA h j i) (szW (h.s j).cl).toNat W hW A0 (by omega) hnl
                  rw [← eB, show (((szW (h.s j).cl).toNat : Nat) : Int) = szW (h.s j).cl by omega] at this
                  exact this
                clear eB A0 A1
                cases e : bk2 h j i with
                | false =>
                  have ek := hpn' e
                  rw [e] at hN
                  go_wp2_with (first
    | (go_at_call 27; refine Calls.mono (rcblocks_any _ _) ?_; rintro e w' ⟨rfl, hb⟩; obtain ⟨hc, hf, hb, hz⟩ := bstep hb (w := wr) (by go_grown); try simp only [World.size_alloc, World.size_setCell, World.size_drew] at hc hf hz)
    | (go_at_call 28; refine Calls.mono (rhas_any _ _ _ hmk) ?_; rintro e w' ⟨rfl, hb⟩; obtain ⟨hc, hf, hb, hz⟩ := bstep hb (w := wr) (by go_grown); try simp only [World.size_alloc, World.size_setCell, World.size_drew] at hc hf hz)
    | (go_at_call 25; refine Calls.mono (hN _ (hat7.below (by go_grown))) ?_; rintro e w' ⟨rfl, hb⟩; obtain ⟨hc, hf, hb, hz⟩ := bstep hb (w := wr) (by go_grown); try simp only [World.size_alloc, World.size_setCell, World.size_drew] at hc hf hz)
                  )
                  go_returns
                  exact ⟨ret_int (by rw [ek]), bjoin hb hbW7⟩
                | true =>
                  have h2' := h2n e
                  rw [e] at hN
                  go_wp2_with (first
    | (go_at_call 27; refine Calls.mono (rcblocks_any _ _) ?_; rintro e w' ⟨rfl, hb⟩; obtain ⟨hc, hf, hb, hz⟩ := bstep hb (w := wr) (by go_grown); try simp only [World.size_alloc, World.size_setCell, World.size_drew] at hc hf hz)
    | (go_at_call 28; refine Calls.mono (rhas_any _ _ _ hmk) ?_; rintro e w' ⟨rfl, hb⟩; obtain ⟨hc, hf, hb, hz⟩ := bstep hb (w := wr) (by go_grown); try simp only [World.size_alloc, World.size_setCell, World.size_drew] at hc hf hz)
    | (go_at_call 25; refine Calls.mono (hN _ (hat7.below (by go_grown))) ?_; rintro e w' ⟨rfl, hb⟩; obtain ⟨hc, hf, hb, hz⟩ := bstep hb (w := wr) (by go_grown); try simp only [World.size_alloc, World.size_setCell, World.size_drew] at hc hf hz)
                  )
                  go_roundg (blW (h.s j).cl - ((i + 1 : Nat) : Int)).toNat
                  case measure => omega
                  case rel => exact ⟨i + 1, v, by omega, rfl, rfl, by go_num, hb3, h2', bjoin hb hbr⟩
              | false =>
                have eB : bk2 h j i = (obB h (bkA h j i) && (obK h (bkA h j i) == (h.s j).cl)) := by unfold bk2; rw [if_neg (by simp [hf])]
                have e3 : bk3 h j i = noB h (bkA h j i + 1 + obN h (bkA h j i)) (szW (h.s j).cl - 1 - obN h (bkA h j i)).toNat := by unfold bk3; rw [if_neg (by simp [hf])]
                have hG : ∀ W, HpAt W p c (some ⟨b, off, none⟩) d h → Calls Tryd.prog 15 #[.agg #[.slice p h.n c, .slice (some ⟨b, off, none⟩) h.m d, .bool h.b], .int .i64 (32 * (j : Int) + i * szW (h.s j).cl)] W fun e w' => e = .returned (.tuple #[.agg #[.bool (obB h (bkA h j i)), .bool (obC h (bkA h j i)), .int .i64 (obK h (bkA h j i)), .int .i64 (obN h (bkA h j i))], .bool (obB h (bkA h j i))]) ∧ Below W.heap.size W w' := fun W hW => rget8_any p c _ d h (bkA h j i) W hW hF'.out
                cases ho : obB h (bkA h j i) with
                | false =>
                  have ek := hpn' (by rw [eB, ho]; rfl)
                  obtain ⟨o1, o2, o3⟩ := ob_no ho
                  rw [ho, o1, o2, o3] at hG
                  clear eB e3 ho o1 o2 o3 A0 A1
                  go_wp2_with (first
    | (go_at_call 27; refine Calls.mono (rcblocks_any _ _) ?_; rintro e w' ⟨rfl, hb⟩; obtain ⟨hc, hf, hb, hz⟩ := bstep hb (w := wr) (by go_grown); try simp only [World.size_alloc, World.size_setCell, World.size_drew] at hc hf hz)
    | (go_at_call 28; refine Calls.mono (rhas_any _ _ _ hmk) ?_; rintro e w' ⟨rfl, hb⟩; obtain ⟨hc, hf, hb, hz⟩ := bstep hb (w := wr) (by go_grown); try simp only [World.size_alloc, World.size_setCell, World.size_drew] at hc hf hz)
    | (go_at_call 15; refine Calls.mono (hG _ (hat7.below (by go_grown))) ?_; rintro e w' ⟨rfl, hb⟩; obtain ⟨hc, hf, hb, hz⟩ := bstep hb (w := wr) (by go_grown); try simp only [World.size_alloc, World.size_setCell, World.size_drew] at hc hf hz)
                  )
                  go_returns
                  exact ⟨ret_int (by rw [ek]), by go_grown; exact bjoin hb hbW7⟩
                | true =>
                  rw [ho] at hG
                  by_cases eK : obK h (bkA h j i) = (h.s j).cl
                  · have e2 : bk2 h j i = true := by rw [eB, ho, eK]; simp
                    have h2' := h2n e2
                    obtain ⟨-, -, -, -, -, -, -, oK, oN, hmy⟩ := ob_spec hF'.out ho
                    rw [← oK, ← oN] at hmy
                    obtain ⟨-, -, N0, N1⟩ := may_class hmy
                    rw [eK] at N1
                    have hN : ∀ W, HpAt W p c (some ⟨b, off, none⟩) d h → Calls Tryd.prog 25 #[.agg #[.slice p h.n c, .slice (some ⟨b, off, none⟩) h.m d, .bool h.b], .int .i64 (32 * (j : Int) + i * szW (h.s j).cl + 1 + obN h (bkA h j i)), .int .i64 (szW (h.s j).cl - 1 - obN h (bkA h j i))] W fun e w' => e = .returned (.bool (bk3 h j i)) ∧ Below W.heap.size W w' := fun W hW => by
                      have := rnought_any p c _ d h (bkA h j i + 1 + obN h (bkA h j i)) (szW (h.s j).cl - 1 - obN h (bkA h j i)).toNat W hW (by omega) (by omega) hnl
                      rw [← e3, show (((szW (h.s j).cl - 1 - obN h (bkA h j i)).toNat : Nat) : Int) = szW (h.s j).cl - 1 - obN h (bkA h j i) by omega] at this
                      exact this
                    rw [eK] at hG
                    clear eB e3 ho eK oK oN hmy A0 A1 hpn' e2
                    generalize obN h (bkA h j i) = N at *
                    generalize obC h (bkA h j i) = C at *
                    cases e : bk3 h j i with
                    | true =>
                      have hb3 := hbad.next e
                      rw [e] at hN
                      go_wp2_with (first
    | (go_at_call 27; refine Calls.mono (rcblocks_any _ _) ?_; rintro e w' ⟨rfl, hb⟩; obtain ⟨hc, hf, hb, hz⟩ := bstep hb (w := wr) (by go_grown); try simp only [World.size_alloc, World.size_setCell, World.size_drew] at hc hf hz)
    | (go_at_call 28; refine Calls.mono (rhas_any _ _ _ hmk) ?_; rintro e w' ⟨rfl, hb⟩; obtain ⟨hc, hf, hb, hz⟩ := bstep hb (w := wr) (by go_grown); try simp only [World.size_alloc, World.size_setCell, World.size_drew] at hc hf hz)
    | (go_at_call 15; refine Calls.mono (hG _ (hat7.below (by go_grown))) ?_; rintro e w' ⟨rfl, hb⟩; obtain ⟨hc, hf, hb, hz⟩ := bstep hb (w := wr) (by go_grown); try simp only [World.size_alloc, World.size_setCell, World.size_drew] at hc hf hz)
    | (go_at_call 25; refine Calls.mono (hN _ (hat7.below (by go_grown))) ?_; rintro e w' ⟨rfl, hb⟩; obtain ⟨hc, hf, hb, hz⟩ := bstep hb (w := wr) (by go_grown); try simp only [World.size_alloc, World.size_setCell, World.size_drew] at hc hf hz)
                      )
                      go_roundg (blW (h.s j).cl - ((i + 1 : Nat) : Int)).toNat
                      case measure => omega
                      case rel => exact ⟨i + 1, v, by omega, rfl, rfl, by go_num, hb3, h2', bjoin hb hbr⟩
                    | false =>
                      have hb3 := hbad.fall e
                      rw [e] at hN
                      go_wp2_with (first
    | (go_at_call 27; refine Calls.mono (rcblocks_any _ _) ?_; rintro e w' ⟨rfl, hb⟩; obtain ⟨hc, hf, hb, hz⟩ := bstep hb (w := wr) (by go_grown); try simp only [World.size_alloc, World.size_setCell, World.size_drew] at hc hf hz)
    | (go_at_call 28; refine Calls.mono (rhas_any _ _ _ hmk) ?_; rintro e w' ⟨rfl, hb⟩; obtain ⟨hc, hf, hb, hz⟩ := bstep hb (w := wr) (by go_grown); try simp only [World.size_alloc, World.size_setCell, World.size_drew] at hc hf hz)
    | (go_at_call 15; refine Calls.mono (hG _ (hat7.below (by go_grown))) ?_; rintro e w' ⟨rfl, hb⟩; obtain ⟨hc, hf, hb, hz⟩ := bstep hb (w := wr) (by go_grown); try simp only [World.size_alloc, World.size_setCell, World.size_drew] at hc hf hz)
    | (go_at_call 25; refine Calls.mono (hN _ (hat7.below (by go_grown))) ?_; rintro e w' ⟨rfl, hb⟩; obtain ⟨hc, hf, hb, hz⟩ := bstep hb (w := wr) (by go_grown); try simp only [World.size_alloc, World.size_setCell, World.size_drew] at hc hf hz)
                      )
                      go_roundg (blW (h.s j).cl - ((i + 1 : Nat) : Int)).toNat
                      case measure => omega
                      case rel => exact ⟨i + 1, 3, by omega, rfl, rfl, by go_num, hb3, h2', bjoin hb hbr⟩
                  · have ek := hpn' (by rw [eB, ho]; simp [eK])
                    have dK : (obK h (bkA h j i) != (h.s j).cl) = true := by simp [eK]
                    clear eB e3 ho eK A0 A1
                    generalize obN h (bkA h j i) = N at *
                    generalize obC h (bkA h j i) = C at *
                    generalize obK h (bkA h j i) = K at *
                    go_wp2_with (first
    | (go_at_call 27; refine Calls.mono (rcblocks_any _ _) ?_; rintro e w' ⟨rfl, hb⟩; obtain ⟨hc, hf, hb, hz⟩ := bstep hb (w := wr) (by go_grown); try simp only [World.size_alloc, World.size_setCell, World.size_drew] at hc hf hz)
    | (go_at_call 28; refine Calls.mono (rhas_any _ _ _ hmk) ?_; rintro e w' ⟨rfl, hb⟩; obtain ⟨hc, hf, hb, hz⟩ := bstep hb (w := wr) (by go_grown); try simp only [World.size_alloc, World.size_setCell, World.size_drew] at hc hf hz)
    | (go_at_call 15; refine Calls.mono (hG _ (hat7.below (by go_grown))) ?_; rintro e w' ⟨rfl, hb⟩; obtain ⟨hc, hf, hb, hz⟩ := bstep hb (w := wr) (by go_grown); try simp only [World.size_alloc, World.size_setCell, World.size_drew] at hc hf hz)
                    )
                    go_returns
                    exact ⟨ret_int (by rw [ek]), by go_grown; exact bjoin hb hbW7⟩
            · have hi' : (i : Int) = blW (h.s j).cl := by omega
              have hbp := hbad.page hsH.out hi'
              have e2 : pg2 h j = true := (pg2_used hsH.out).2 fun t ht => h2b t (by omega)
              have h2s' : ∀ t, t < j + 1 → pg2 h t = true := fun t ht => by
                by_cases et : t = j
                · subst et; exact e2
                · exact h2s t (by omega)
              have hle : ¬ (i : Int) < blW (h.s j).cl := hi
              clear hi'
              go_wp2_with (first
    | (go_at_call 27; refine Calls.mono (rcblocks_any _ _) ?_; rintro e w' ⟨rfl, hb⟩; obtain ⟨hc, hf, hb, hz⟩ := bstep hb (w := wr) (by go_grown); try simp only [World.size_alloc, World.size_setCell, World.size_drew] at hc hf hz)
              )
              go_roundg (h.m - (j + 1))
              case measure => omega
              case rel => exact ⟨j + 1, v, by omega, rfl, rfl, by go_num, hbp, h2s', bjoin hb hbw7⟩
      · obtain rfl : j = h.m := by omega
        have hr2 : ru2 h = true := ru2_iff.2 h2s
        have hbW3 := bjoin hbw hbW
        rcases hbad.end with ⟨rfl, hr3⟩ | ⟨rfl, hr3⟩
        · have hck := ck_rest hF'.out hr2 hr3
          obtain ⟨M, z, eM, ez, hM, hzm, hzs, hin⟩ := list_all hF'.out
          have hLi : ∀ W, HpAt W p c q d h → Calls Tryd.prog 14 #[.agg #[.slice p h.n c, .slice q h.m d, .bool h.b]] W fun e w' => ∃ pl cl, e = .returned (.slice pl M cl) ∧ Ints .i64 w' pl M z ∧ Below W.heap.size W w' := fun W hW => by
            refine Calls.mono (rlist8_any p c q d h W hW hF'.out) ?_
            rintro e w' ⟨v, rfl, hown, hb⟩
            obtain ⟨pl, cl, rfl, hr⟩ := row_owned hown (obL_wf h hnl)
            have hi := hr.ints
            rw [eM, ez] at hi
            rw [eM]
            exact ⟨pl, cl, rfl, hi, hb⟩
          have hz4 : ru4 h = true ↔ ∀ t : Nat, t < M → reB h (z t) = true := by
            rw [ru4_iff]
            constructor
            · intro H t ht; exact H _ (hzm t ht)
            · intro H a ha; obtain ⟨t, ht, rfl⟩ := hzs a ha; exact H t ht
          clear eM ez hbad h2s hr2 hr3
          go_upto_region 27 with (first
    | (go_at_call 14; refine Calls.mono (hLi _ (hat.below (by go_grown))) ?_; rintro e w' ⟨pl, cl, rfl, hI, hb⟩; obtain ⟨hc, hf, hb, hz⟩ := bstep hb (w := wr) (by go_grown); try simp only [World.size_alloc, World.size_setCell, World.size_drew] at hc hf hz)
          )
          replace hat := hat.below (bjoin hb hbw)
          replace gB := gB.below (bjoin hb hbw)
          replace hbW := bjoin hb hbW3
          clear hb hc hf hz x0 x1 x2 l0 gr hLi hbw hbW3
          generalize w' = w5 at *
          go_wp2
          go_loopg [12] M (fun g iv wr => ∃ t : Nat, t ≤ M ∧ g = M - t ∧ iv = .int .i64 t ∧ (∀ u : Nat, u < t → reB h (z u) = true) ∧ Below w5.heap.size w5 wr)
          case atStart => exact ⟨0, by omega, by omega, rfl, fun u hu => by omega, Below.refl _ _⟩
          case round =>
            obtain ⟨t, th, rfl, rfl, hall, hbw⟩ := hrel
            have gr := gB.below hbw
            have hbW6 := bjoin hbw hbW
            obtain ⟨l0, x0, x1, x2, -, -, -⟩ := id gr
            by_cases ht : t < M
            · obtain ⟨⟨bl, ol, eq1, hlt, v0⟩, -⟩ := (hI.below hbw) t ht
              subst eq1
              obtain ⟨X0, X1, hox⟩ := (obL_mem h (z t) h.n).1 (hzm t ht)
              have hP : (z t / 32).toNat < h.m := by have := hnm.out; omega
              obtain ⟨⟨bs, os, eq2, hlt2, s0, s1, s2⟩, -⟩ := (hat.below hbw).spans (z t / 32).toNat hP
              subst eq2
              have eR : reB h (z t) = (if (h.s (z t / 32).toNat).st != 1 && !blB h (z t) then true else (rfH h (z t)).all (obB h)) := rfl
              have hBl : ∀ W, HpAt W p c (some ⟨bs, os, none⟩) d h → Calls Tryd.prog 16 #[.agg #[.slice p h.n c, .slice (some ⟨bs, os, none⟩) h.m d, .bool h.b], .int .i64 (z t)] W fun e w' => e = .returned (.bool (blB h (z t))) ∧ Below W.heap.size W w' := fun W hW => rblack8_any p c _ d h (z t) W hW hF'.out
              have hatr := hat.below hbw
              have hX5 : z t < 512 := by omega
              have hnext : reB h (z t) = true → ∀ u : Nat, u < t + 1 → reB h (z u) = true := fun e u hu => by
                by_cases eu : u = t
                · subst eu; exact e
                · exact hall u (by omega)
              have hfail : reB h (z t) = false → ckH h = 4 := fun e => by
                rw [hck, if_neg (fun hr => by have := hz4.1 hr t ht; rw [this] at e; cases e)]
              clear s1 s2 hox
              have hP32 : 0 ≤ z t / 32 ∧ z t / 32 < 16 := by omega
              obtain ⟨Q0, Q1⟩ := hP32
              generalize hSt : (h.s (z t / 32).toNat).st = St at *
              clear hSt
              cases hst1 : (St != 1) with
              | false =>
                have eA : reB h (z t) = (rfH h (z t)).all (obB h) := by rw [eR, if_neg (by simp [hst1])]
                obtain ⟨R, y, eM, ey, hRl, hym, hys⟩ := refs_all hF'.out (z t)
                have hRe : ∀ W, HpAt W p c (some ⟨bs, os, none⟩) d h → Calls Tryd.prog 18 #[.agg #[.slice p h.n c, .slice (some ⟨bs, os, none⟩) h.m d, .bool h.b], .int .i64 (z t)] W fun e w' => ∃ pm cm, e = .returned (.slice pm R cm) ∧ Ints .i64 w' pm R y ∧ Below W.heap.size W w' := fun W hW => by
                  refine Calls.mono (rrefs8_any p c _ d h (z t) W hW hF'.out) ?_
                  rintro e w' ⟨v, rfl, hown, hb⟩
                  obtain ⟨pm, cm, rfl, hr⟩ := row_owned hown (rfH_wf hW.wf hF'.out (z t))
                  have hi := hr.ints
                  rw [eM, ey] at hi
                  rw [eM]
                  exact ⟨pm, cm, rfl, hi, hb⟩
                have hrr : reB h (z t) = true ↔ ∀ u : Nat, u < R → obB h (y u) = true := by
                  rw [eA, List.all_eq_true]
                  constructor
                  · intro H u hu; exact H _ (hym u hu)
                  · intro H r hr; obtain ⟨u, hu, rfl⟩ := hys r hr; exact H u hu
                go_upto_region 30 with fail
                refine wp_region_plus (by kernel_rfl) (by kernel_rfl) fun hpc => ?_
                repeat (first | go_big_quiet_step ((first | (go_at_call 16; exact quiet_plus (hBl _ (hatr.below (plus_below _ _)))))) | quiet_step ((first | (go_at_call 16; exact quiet_plus (hBl _ (hatr.below (plus_below _ _)))))))
                refine wpQuiet_nil ?_
                intro w' hbq
                clear hpc
                obtain ⟨hc, hf, hb, hz⟩ := bstep hbq (w := wr) (by go_grown)
                try simp only [World.size_alloc, World.size_setCell, World.size_drew] at hc hf hz
                have gr6 := gr.below hb
                have hat6 := hatr.below hb
                have hI6 := (hI.below hbw).below hb
                have v06 : w'.cell? ⟨bl, ol + t, none⟩ = some (.int .i64 (z t)) := (hb.cell (p := ⟨bl, ol + t, none⟩) hlt).trans v0
                have lt6 : bl < w'.heap.size := Nat.lt_of_lt_of_le hlt hb.size
                have hbw6 := bjoin hb hbw
                have hbW7 := bjoin hb hbW6
                clear hb hc hf hz x0 x1 x2 l0 v0 s0 hlt hBl hatr
                generalize w' = w6 at *
                obtain ⟨l0, x0, x1, x2, -, -, -⟩ := id gr6
                generalize z t = X at *
                go_upto_region 31 with fail
                go_region_with (first
    | (go_at_call 18; refine Calls.mono (hRe _ (hat6.below (by go_grown))) ?_; rintro e w' ⟨pm, cm, rfl, hJ, hb⟩; obtain ⟨hc, hf, hb, hz⟩ := bstep hb (w := w6) (by go_grown); try simp only [World.size_alloc, World.size_setCell, World.size_drew] at hc hf hz)
                )
                all_goals
                  have gr7 := gr6.below hb
                  have hI7 := hI6.below hb
                  have hbw8 := bjoin hb hbw6
                  have hbW8 := bjoin hb hbW7
                  clear hb hc hf hz x0 x1 x2 l0 hRe hat6 v06 lt6
                  generalize w' = w7 at *
                  go_wp2
                  go_loopg [14] R (fun g iv wr => ∃ u : Nat, u ≤ R ∧ g = R - u ∧ iv = .int .i64 u ∧ (∀ k : Nat, k < u → obB h (y k) = true) ∧ Below w7.heap.size w7 wr)
                  case atStart => exact ⟨0, by omega, by omega, rfl, fun k hk => by omega, Below.refl _ _⟩
                  case round =>
                    obtain ⟨u, uh, rfl, rfl, hyy, hbz⟩ := hrel
                    by_cases hu : u < R
                    · obtain ⟨⟨bp, op, eq3, hl3, v3⟩, -⟩ := (hJ.below hbz) u hu
                      subst eq3
                      have hIn := rin8_any (some ⟨bl, ol, none⟩) M cl z (y u) _ (hI7.below hbz) (by simp only [maxLen]; omega)
                      rw [hin] at hIn
                      cases e : obB h (y u) with
                      | false =>
                        have ek := hfail (by
                          cases er : reB h X with
                          | false => rfl
                          | true => have := hrr.1 er u hu; rw [this] at e; cases e)
                        rw [e] at hIn
                        generalize y u = Y at *
                        go_wp2_with (first
    | (go_at_call 29; refine Calls.mono (hIn) ?_; rintro e w' ⟨rfl, hb⟩; obtain ⟨hc, hf, hb, hz⟩ := bstep hb (w := wr) (by go_grown); try simp only [World.size_alloc, World.size_setCell, World.size_drew] at hc hf hz)
                        )
                        go_returns
                        exact ⟨ret_int (by rw [ek]), bjoin hb (bjoin hbz hbW8)⟩
                      | true =>
                        have hy2 : ∀ k : Nat, k < u + 1 → obB h (y k) = true := fun k hk => by
                          by_cases ek : k = u
                          · subst ek; exact e
                          · exact hyy k (by omega)
                        rw [e] at hIn
                        generalize y u = Y at *
                        go_wp2_with (first
    | (go_at_call 29; refine Calls.mono (hIn) ?_; rintro e w' ⟨rfl, hb⟩; obtain ⟨hc, hf, hb, hz⟩ := bstep hb (w := wr) (by go_grown); try simp only [World.size_alloc, World.size_setCell, World.size_drew] at hc hf hz)
                        )
                        go_roundg (R - (u + 1))
                        case measure => omega
                        case rel => exact ⟨u + 1, by omega, rfl, by go_num, hy2, bjoin hb hbz⟩
                    · obtain rfl : u = R := by omega
                      have hn' := hnext (hrr.2 hyy)
                      go_wp2
                      go_roundg (M - (t + 1))
                      case measure => omega
                      case rel => exact ⟨t + 1, by omega, rfl, by go_num, hn', bjoin hbz hbw8⟩
              | true =>
                cases hbb : blB h (z t) with
                | true =>
                  have eA : reB h (z t) = (rfH h (z t)).all (obB h) := by rw [eR, if_neg (by simp [hbb])]
                  rw [hbb] at hBl
                  obtain ⟨R, y, eM, ey, hRl, hym, hys⟩ := refs_all hF'.out (z t)
                  have hRe : ∀ W, HpAt W p c (some ⟨bs, os, none⟩) d h → Calls Tryd.prog 18 #[.agg #[.slice p h.n c, .slice (some ⟨bs, os, none⟩) h.m d, .bool h.b], .int .i64 (z t)] W fun e w' => ∃ pm cm, e = .returned (.slice pm R cm) ∧ Ints .i64 w' pm R y ∧ Below W.heap.size W w' := fun W hW => by
                    refine Calls.mono (rrefs8_any p c _ d h (z t) W hW hF'.out) ?_
                    rintro e w' ⟨v, rfl, hown, hb⟩
                    obtain ⟨pm, cm, rfl, hr⟩ := row_owned hown (rfH_wf hW.wf hF'.out (z t))
                    have hi := hr.ints
                    rw [eM, ey] at hi
                    rw [eM]
                    exact ⟨pm, cm, rfl, hi, hb⟩
                  have hrr : reB h (z t) = true ↔ ∀ u : Nat, u < R → obB h (y u) = true := by
                    rw [eA, List.all_eq_true]
                    constructor
                    · intro H u hu; exact H _ (hym u hu)
                    · intro H r hr; obtain ⟨u, hu, rfl⟩ := hys r hr; exact H u hu
                  go_upto_region 30 with fail
                  refine wp_region_plus (by kernel_rfl) (by kernel_rfl) fun hpc => ?_
                  repeat (first | go_big_quiet_step ((first | (go_at_call 16; exact quiet_plus (hBl _ (hatr.below (plus_below _ _)))))) | quiet_step ((first | (go_at_call 16; exact quiet_plus (hBl _ (hatr.below (plus_below _ _)))))))
                  refine wpQuiet_nil ?_
                  intro w' hbq
                  clear hpc
                  obtain ⟨hc, hf, hb, hz⟩ := bstep hbq (w := wr) (by go_grown)
                  try simp only [World.size_alloc, World.size_setCell, World.size_drew] at hc hf hz
                  have gr6 := gr.below hb
                  have hat6 := hatr.below hb
                  have hI6 := (hI.below hbw).below hb
                  have v06 : w'.cell? ⟨bl, ol + t, none⟩ = some (.int .i64 (z t)) := (hb.cell (p := ⟨bl, ol + t, none⟩) hlt).trans v0
                  have lt6 : bl < w'.heap.size := Nat.lt_of_lt_of_le hlt hb.size
                  have hbw6 := bjoin hb hbw
                  have hbW7 := bjoin hb hbW6
                  clear hb hc hf hz x0 x1 x2 l0 v0 s0 hlt hBl hatr
                  generalize w' = w6 at *
                  obtain ⟨l0, x0, x1, x2, -, -, -⟩ := id gr6
                  generalize z t = X at *
                  go_upto_region 31 with fail
                  go_region_with (first
    | (go_at_call 18; refine Calls.mono (hRe _ (hat6.below (by go_grown))) ?_; rintro e w' ⟨pm, cm, rfl, hJ, hb⟩; obtain ⟨hc, hf, hb, hz⟩ := bstep hb (w := w6) (by go_grown); try simp only [World.size_alloc, World.size_setCell, World.size_drew] at hc hf hz)
                  )
                  all_goals
                    have gr7 := gr6.below hb
                    have hI7 := hI6.below hb
                    have hbw8 := bjoin hb hbw6
                    have hbW8 := bjoin hb hbW7
                    clear hb hc hf hz x0 x1 x2 l0 hRe hat6 v06 lt6
                    generalize w' = w7 at *
                    go_wp2
                    go_loopg [14] R (fun g iv wr => ∃ u : Nat, u ≤ R ∧ g = R - u ∧ iv = .int .i64 u ∧ (∀ k : Nat, k < u → obB h (y k) = true) ∧ Below w7.heap.size w7 wr)
                    case atStart => exact ⟨0, by omega, by omega, rfl, fun k hk => by omega, Below.refl _ _⟩
                    case round =>
                      obtain ⟨u, uh, rfl, rfl, hyy, hbz⟩ := hrel
                      by_cases hu : u < R
                      · obtain ⟨⟨bp, op, eq3, hl3, v3⟩, -⟩ := (hJ.below hbz) u hu
                        subst eq3
                        have hIn := rin8_any (some ⟨bl, ol, none⟩) M cl z (y u) _ (hI7.below hbz) (by simp only [maxLen]; omega)
                        rw [hin] at hIn
                        cases e : obB h (y u) with
                        | false =>
                          have ek := hfail (by
                            cases er : reB h X with
                            | false => rfl
                            | true => have := hrr.1 er u hu; rw [this] at e; cases e)
                          rw [e] at hIn
                          generalize y u = Y at *
                          go_wp2_with (first
    | (go_at_call 29; refine Calls.mono (hIn) ?_; rintro e w' ⟨rfl, hb⟩; obtain ⟨hc, hf, hb, hz⟩ := bstep hb (w := wr) (by go_grown); try simp only [World.size_alloc, World.size_setCell, World.size_drew] at hc hf hz)
                          )
                          go_returns
                          exact ⟨ret_int (by rw [ek]), bjoin hb (bjoin hbz hbW8)⟩
                        | true =>
                          have hy2 : ∀ k : Nat, k < u + 1 → obB h (y k) = true := fun k hk => by
                            by_cases ek : k = u
                            · subst ek; exact e
                            · exact hyy k (by omega)
                          rw [e] at hIn
                          generalize y u = Y at *
                          go_wp2_with (first
    | (go_at_call 29; refine Calls.mono (hIn) ?_; rintro e w' ⟨rfl, hb⟩; obtain ⟨hc, hf, hb, hz⟩ := bstep hb (w := wr) (by go_grown); try simp only [World.size_alloc, World.size_setCell, World.size_drew] at hc hf hz)
                          )
                          go_roundg (R - (u + 1))
                          case measure => omega
                          case rel => exact ⟨u + 1, by omega, rfl, by go_num, hy2, bjoin hb hbz⟩
                      · obtain rfl : u = R := by omega
                        have hn' := hnext (hrr.2 hyy)
                        go_wp2
                        go_roundg (M - (t + 1))
                        case measure => omega
                        case rel => exact ⟨t + 1, by omega, rfl, by go_num, hn', bjoin hbz hbw8⟩
                | false =>
                  have eA : reB h (z t) = true := by rw [eR, if_pos (by simp [hst1, hbb])]
                  have hn' := hnext eA
                  rw [hbb] at hBl
                  go_upto_region 30 with fail
                  refine wp_region_plus (by kernel_rfl) (by kernel_rfl) fun hpc => ?_
                  repeat (first | go_big_quiet_step ((first | (go_at_call 16; exact quiet_plus (hBl _ (hatr.below (plus_below _ _)))))) | quiet_step ((first | (go_at_call 16; exact quiet_plus (hBl _ (hatr.below (plus_below _ _)))))))
                  refine wpQuiet_nil ?_
                  intro w' hbq
                  clear hpc
                  obtain ⟨hc, hf, hb, hz⟩ := bstep hbq (w := wr) (by go_grown)
                  try simp only [World.size_alloc, World.size_setCell, World.size_drew] at hc hf hz
                  go_wp2
                  go_roundg (M - (t + 1))
                  case measure => omega
                  case rel => exact ⟨t + 1, by omega, rfl, by go_num, hn', bjoin hb hbw⟩
            · obtain rfl : t = M := by omega
              have e0 : ckH h = 0 := by rw [hck, if_pos (hz4.2 hall)]
              go_wp2
              go_returns
              exact ⟨ret_int (by rw [e0]), hbW6⟩
        · have e3 := ck_three hF'.out hr2 hr3
          go_wp2
          go_returns
          exact ⟨ret_int (by rw [e3]), hbW3⟩
end Go.Proofs.YtjoepiopigmmnaaDoor
