/- Contract of the reference's Lay (chapter 7). -/
import Derived.Test.YtjlflbaglaillaaDoorRef07d
import Derived.Test.YtjlflbaglaillaaDoorRef02
import Derived.Test.YtjlflbaglaillaaDoorTail
namespace Go.Proofs.YtjlflbaglaillaaDoor
set_option linter.unusedSimpArgs false
set_option linter.unusedVariables false
open Go.ChangeShapes Go.WideShapes Go.ChangeAt Go.RowKit Go.Joins

theorem take_val {st fr : Int} (hg : takeB st fr = true) : takeI st fr = leastW fr ∧ takeF st fr = woutW fr (leastW fr) := ⟨by unfold takeI; rw [if_pos hg], by unfold takeF; rw [if_pos hg]⟩
theorem la_no {h : Hp} {g f : Int} (e : laB h g f = false) : laH h g f = h ∧ laA h g f = 0 := ⟨by unfold laH; rw [if_neg (by simp [e])], by unfold laA; rw [if_neg (by simp [e])]⟩
/-- Where the object comes to lie. -/
theorem la_at {h : Hp} {g f : Int} (hf : formB h = true) (hw : h.wf) (e : laB h g f = true) : 0 ≤ laA h g f ∧ laA h g f + szW (spH h g).cl ≤ h.n ∧ laA h g f = 32 * g + leastW (spH h g).fr * szW (spH h g).cl ∧ hmayB true h.b (spH h g).cl f = true := by
  obtain ⟨p0, p1, p2, f0, f1, ht, hst, c0, c1, l0, l1⟩ := la_spec hf hw e
  obtain ⟨i0, i1, -⟩ := fi_of hf (p := g) (i := leastW (spH h g).fr) p0 p1 (by omega) l0 l1
  have ea : laA h g f = 32 * g + leastW (spH h g).fr * szW (spH h g).cl := by unfold laA; rw [if_pos e]
  obtain ⟨k0, -, -, k3, -⟩ := block_in hf i0
  rw [i1] at k3
  rw [ea]
  exact ⟨k0, k3, rfl, may_of c0 c1 f0 f1⟩
set_option maxHeartbeats 16000000 in
theorem rlay_any (p : Option Addr) (c : Nat) (q : Option Addr) (d : Nat) (h : Hp) (g f : Int) (w : World) (hh : HpAt w p c q d h) (hF : formB h = true) :
    Calls Tryd.prog 26 #[.agg #[.slice p h.n c, .slice q h.m d, .bool h.b], .int .i64 g, .int .i64 f] w fun e w' => ∃ p' c' q' d', e = .returned (.tuple #[.agg #[.slice p' h.n c', .slice q' h.m d', .bool h.b], .int .i64 (laA h g f), .bool (laB h g f)]) ∧
      HpAt w' p' c' q' d' (laH h g f) ∧ Src w.heap.size (laB h g f) h.n h.m p c q d p' c' q' d' ∧ Below w.heap.size w w' := by
  have hwf := hh.wf
  have hmm : h.m ≤ 16 := (form_iff.1 hF).2.1
  obtain ⟨w0, hw0, hB0, hR, hst⟩ := boxed2 (w := w) (v0 := .slice p h.n c) (v1 := .slice q h.m d) (v2 := .bool h.b) (u0 := .slice none 0 0) (u1 := .slice none 0 0) (u2 := .bool false) (t := 25)
  have hat := hh.below hst
  have gB0 := hB0
  have gR := hR
  obtain ⟨l0, x0, x1, x2, -, -, -⟩ := hB0
  obtain ⟨l1, y0, y1, y2, f0, f1, f2⟩ := hR
  have hF' : Hid (formB h = true) := hF
  by_cases hg : 0 ≤ g ∧ g < h.m
  · obtain ⟨p0, p1⟩ := hg
    have hmask := wf_mask hwf p0 p1
    have hright := form_at hF p0 p1
    have hspw := hwf.2 g.toNat (by omega)
    have hLA : laB h g f = true → laA h g f = 32 * g + leastW (spH h g).fr * szW (spH h g).cl ∧ 0 ≤ laA h g f ∧ laA h g f + szW (spH h g).cl ≤ h.n ∧ hmayB true h.b (spH h g).cl f = true ∧
        laH h g f = { withS h g ⟨(spH h g).st, (spH h g).cl, woutW (spH h g).fr (leastW (spH h g).fr)⟩ with z := putZ (zerZ h.z (laA h g f) (szW (spH h g).cl)) (laA h g f) (hputW true h.b (spH h g).cl f) } ∧
        adB g (spH h g).cl (leastW (spH h g).fr) = true ∧ adW g (spH h g).cl (leastW (spH h g).fr) = laA h g f := fun e => by
      obtain ⟨a0, a1, a2, a3⟩ := la_at hF hwf e
      obtain ⟨-, -, p2, -, -, -, -, -, -, l0, l1⟩ := la_spec hF hwf e
      obtain ⟨b0, b1⟩ := ad_in (c := (spH h g).cl) p0 p2 l0 l1
      exact ⟨a2, a0, a1, a3, by rw [a2]; unfold laH; rw [if_pos e], b0, by rw [b1, a2]⟩
    have hLB : laB h g f = (decide (0 ≤ f) && (decide (f < szW (spH h g).cl) && takeB (spH h g).st (spH h g).fr)) := by unfold laB; rw [inI_yes p0 p1, Bool.true_and]
    have hLN := la_no (h := h) (g := g) (f := f)
    rw [show spH h g = h.s g.toNat from rfl] at *
    obtain ⟨⟨b, off, rfl, hlt, s0, s1, s2⟩, -⟩ := hat.spans g.toNat (by omega)
    generalize h.s g.toNat = S at *
    obtain ⟨st, cl, fr⟩ := S
    simp only [] at *
    have hz16 : 0 ≤ szW cl ∧ szW cl ≤ 16 := by have := cl_cases cl; omega
    obtain ⟨z0, z1⟩ := hz16
    by_cases hf0 : 0 ≤ f
    · by_cases hf1 : f < szW cl
      · cases ht : takeB st fr with
        | false =>
          have e : laB h g f = false := by rw [hLB, ht]; simp
          obtain ⟨e1, e2⟩ := hLN e
          rw [e, e1, e2]
          clear e e1 e2 hF hLA hLB hLN
          go_enter Tryd.func26, Tryd.ntmps26
          go_upto_region 1 with fail
          rw [← hw0]
          clear hw0
          go_wp2_with (first
    | (go_at_call 35; refine Calls.mono (rcwords_any _ _) ?_; rintro e w' ⟨rfl, hb⟩; obtain ⟨hc, hf, hb, hz⟩ := bstep hb (w := w0) (by go_grown); try simp only [World.size_alloc, World.size_setCell, World.size_drew] at hc hf hz)
    | (go_at_call 54; refine Calls.mono (rtake_any _ _ _ _ hmask hright) ?_; rintro e w' ⟨rfl, hb⟩; obtain ⟨hc, hf, hb, hz⟩ := bstep hb (w := w0) (by go_grown); try simp only [World.size_alloc, World.size_setCell, World.size_drew] at hc hf hz)
          )
          refine bodyPost_ret (by simp [results, Tryd.results26, go_sem, *]; try rfl) rfl ?_
          first | exact ⟨p, c, _, d, rfl, hh.below (by go_grown; exact bjoin hb hst), ⟨fun h => (by cases h), fun _ => ⟨rfl, rfl, rfl, rfl⟩⟩, by go_grown; exact bjoin hb hst⟩ | exact ⟨hh.below (by go_grown; exact bjoin hb hst), ⟨fun h => (by cases h), fun _ => ⟨rfl, rfl, rfl, rfl⟩⟩, by go_grown; exact bjoin hb hst⟩
        | true =>
          have e : laB h g f = true := by rw [hLB, ht, decide_eq_true hf0, decide_eq_true hf1]; rfl
          obtain ⟨a0, a1, a2, a3, a4, a5, a6⟩ := hLA e
          obtain ⟨t0, t1⟩ := take_val ht
          have hx : (⟨st, cl, woutW fr (leastW fr)⟩ : Sp).wf := ⟨hspw.1, hspw.2.1, mask_wout _ _⟩
          rw [e, a4]
          clear a0 a4 hLA hLB hLN hF
          generalize laA h g f = A at *
          go_enter Tryd.func26, Tryd.ntmps26
          go_upto_region 1 with fail
          rw [← hw0]
          clear hw0
          go_upto_region 6 with (first
    | (go_at_call 35; refine Calls.mono (rcwords_any _ _) ?_; rintro e w' ⟨rfl, hb⟩; obtain ⟨hc, hf, hb, hz⟩ := bstep hb (w := w0) (by go_grown); try simp only [World.size_alloc, World.size_setCell, World.size_drew] at hc hf hz)
    | (go_at_call 54; refine Calls.mono (rtake_any _ _ _ _ hmask hright) ?_; rintro e w' ⟨rfl, hb⟩; obtain ⟨hc, hf, hb, hz⟩ := bstep hb (w := w0) (by go_grown); try simp only [World.size_alloc, World.size_setCell, World.size_drew] at hc hf hz)
          )
          have hn0 : 0 < h.n := by omega
          have hn5 : h.n ≤ 512 := by have := form_iff.1 hF'.out; omega
          obtain ⟨w5, hw5⟩ : ∃ w5, w5 = w'.alloc (.cells #[.int .i64 st, .int .i64 cl, .int .u32 (woutW fr (leastW fr))] 49) := ⟨_, rfl⟩
          have hB5 : Below w0.heap.size w0 w5 := by rw [hw5]; exact hb.alloc hb.size _
          have gS : SpBox w'.heap.size st cl (woutW fr (leastW fr)) w5 := by rw [hw5]; exact SpBox.new _ _ _ _ _
          have hSl : w0.heap.size ≤ w'.heap.size := hb.size
          rw [← hw5]
          clear hw5 hb hc hf hz x0 x1 x2 y0 y1 y2 f0 f1 f2 s0 s1 s2 hlt
          generalize w'.heap.size = S at *
          replace gB0 := gB0.below hB5
          replace gR := gR.below hB5
          have hat5 := hat.below hB5
          have g0 := gB0
          obtain ⟨l0', x0, x1, x2, -, -, -⟩ := g0
          have gs := gS
          obtain ⟨lS, s0, s1, s2, -, -, -⟩ := gs
          go_upto_region 7 with (first
    | (go_at_call 42; refine Calls.mono (rwithO_any _ _ _ _ h _ ⟨st, cl, woutW fr (leastW fr)⟩ _ hat5 hx hF'.out) ?_; rintro e w' ⟨p', c', q', d', rfl, hown, hb⟩; obtain ⟨hc, hf, hb, hz⟩ := bstep hb (w := w5) (by go_grown); try simp only [World.size_alloc, World.size_setCell, World.size_drew] at hc hf hz)
          )
          obtain ⟨gw, rfl, hgB, hgG⟩ := hown.word hn0
          obtain ⟨w7, hw7⟩ : ∃ w7, w7 = w'.alloc (.cells #[.slice (some ⟨gw, 0, none⟩) h.n c', .slice q' h.m d', .bool h.b] 25) := ⟨_, rfl⟩
          have hB7 : Below w5.heap.size w5 w7 := by rw [hw7]; exact hb.alloc hb.size _
          have hB6 : Below w'.heap.size w' w7 := by rw [hw7]; exact (Below.refl _ _).alloc (Nat.le_refl _) _
          have gG : Box3 w'.heap.size (.slice (some ⟨gw, 0, none⟩) h.n c') (.slice q' h.m d') (.bool h.b) w7 := by rw [hw7]; exact Box3.new _ _ _ _ _
          replace hown := hown.below hB6
          have hGl : w5.heap.size ≤ w'.heap.size := hb.size
          replace gB0 := gB0.below hB7
          replace gR := gR.below hB7
          replace gS := gS.below hB7
          have hbW : Below w.heap.size w w7 := bjoin hB7 (bjoin hB5 hst)
          rw [← hw7]
          clear hw7 hb hc hf hz x0 x1 x2 s0 s1 s2 hB5 hB6 hB7 hat5 hat hh hst l0'
          generalize w'.heap.size = G at *
          have hown0 : HpOwn w7 w5.heap.size (some ⟨gw, 0, none⟩) c' q' d' { withS h g ⟨st, cl, woutW fr (leastW fr)⟩ with z := zerZ h.z A 0 } := by rw [zer_none]; exact hown
          clear hown
          have hs := gS
          obtain ⟨lS', s0, s1, s2, -, -, -⟩ := hs
          go_upto_region 8 with (first
    | (go_at_call 55; refine Calls.mono (raddress_any _ _ _ _) ?_; rintro e w' ⟨rfl, hb⟩; obtain ⟨hc, hf, hb, hz⟩ := bstep hb (w := w7) (by go_grown); try simp only [World.size_alloc, World.size_setCell, World.size_drew] at hc hf hz)
          )
          have hB8 := hb
          generalize w5.heap.size = B at *
          replace gB0 := gB0.below hB8
          replace gR := gR.below hB8
          replace gS := gS.below hB8
          replace gG := gG.below hB8
          replace hown0 := hown0.below hB8
          replace hbW := bjoin hB8 hbW
          clear hb hc hf hz s0 s1 s2 lS' hB8
          go_wp2
          go_loopg [15] (szW cl).toNat (fun n kv wr => ∃ k : Int, 0 ≤ k ∧ k ≤ szW cl ∧ n = (szW cl - k).toNat ∧ kv = .int .i64 k ∧ Box3 w.heap.size (.slice p h.n c) (.slice (some ⟨b, off, none⟩) h.m d) (.bool h.b) wr ∧ Box3 (w.heap.size + 1) (.slice none 0 0) (.slice none 0 0) (.bool false) wr ∧ SpBox S st cl (woutW fr (leastW fr)) wr ∧ Box3 G (.slice (some ⟨gw, 0, none⟩) h.n c') (.slice q' h.m d') (.bool h.b) wr ∧ HpOwn wr B (some ⟨gw, 0, none⟩) c' q' d' { withS h g ⟨st, cl, woutW fr (leastW fr)⟩ with z := zerZ h.z A k } ∧ Below w.heap.size w wr)
          case atStart => exact ⟨0, by omega, by omega, by omega, rfl, gB0, gR, gS, gG, hown0, hbW⟩
          case round =>
            clear gB0 gR gS gG hown0 hbW
            obtain ⟨k, kl, kh, rfl, rfl, gB0, gR, gS, gG, hown, hbw⟩ := hrel
            have hs := gS
            obtain ⟨lS, s0, s1, s2, -, -, -⟩ := hs
            have hs := gG
            obtain ⟨lG, x0, x1, x2, -, -, -⟩ := hs
            by_cases hk : k < szW cl
            · obtain ⟨⟨u, u0⟩, u1, -⟩ := hown.store (i := A + k) (v := 0) (by omega) (show A + k < h.n by omega) (by decide)
              go_wp2_with (first
    | (go_at_call 35; refine Calls.mono (rcwords_any _ _) ?_; rintro e w' ⟨rfl, hb⟩; obtain ⟨hc, hf, hb, hz⟩ := bstep hb (w := wr) (by go_grown); try simp only [World.size_alloc, World.size_setCell, World.size_drew] at hc hf hz)
              )
              have hown' := (hown.below (by assumption)).store (i := A + k) (v := 0) (by omega) (show A + k < h.n by omega) (by decide)
              go_roundg (szW cl - (k + 1)).toNat
              case measure => omega
              case rel => exact ⟨k + 1, by omega, by omega, rfl, by go_num, (gB0.below hb).other (by omega) _ _, (gR.below hb).other (by omega) _ _, (gS.below hb).other (by omega) _ _, (gG.below hb).other (by omega) _ _, by rw [← zer_next _ _ _ kl]; exact hown'.2.2, (bjoin hb hbw).setCell (by show w.heap.size ≤ gw; omega) _⟩
            · obtain rfl : k = szW cl := by omega
              have hwd : (Lit.int .u64 (hputW true h.b cl f)).wf = true := by have := hput_lt a3; exact wf_u64_of this.1 (by omega)
              obtain ⟨⟨u, u0⟩, u1, -⟩ := hown.store (i := A) (v := hputW true h.b cl f) (by omega) (show A < h.n by omega) hwd
              have hs := gR
              obtain ⟨lR, y0, y1, y2, f0, f1, f2⟩ := hs
              have hs := gB0
              obtain ⟨lB, b0, b1, b2, -, -, -⟩ := hs
              go_upto_region 12 with (first
    | (go_at_call 35; refine Calls.mono (rcwords_any _ _) ?_; rintro e w' ⟨rfl, hb⟩; obtain ⟨hc, hf, hb, hz⟩ := bstep hb (w := wr) (by go_grown); try simp only [World.size_alloc, World.size_setCell, World.size_drew] at hc hf hz)
              )
              have hB9 := hb
              replace gB0 := gB0.below hB9
              replace gR := gR.below hB9
              replace gS := gS.below hB9
              replace gG := gG.below hB9
              replace hown := hown.below hB9
              replace hbw := bjoin hB9 hbw
              clear hb hc hf hz s0 s1 s2 x0 x1 x2 y0 y1 y2 f0 f1 f2 b0 b1 b2 u0 u1 lS lG lR lB hB9
              generalize w' = w8 at gB0 gR gS gG hown hbw ⊢
              obtain ⟨⟨u, u0⟩, u1, ho⟩ := hown.store (i := A) (v := hputW true h.b cl f) (by omega) (show A < h.n by omega) hwd
              have hs := gS
              obtain ⟨lS, s0, s1, s2, -, -, -⟩ := hs
              have hs := gG
              obtain ⟨lG, x0, x1, x2, -, -, -⟩ := hs
              have hs := gR
              obtain ⟨lR, y0, y1, y2, f0, f1, f2⟩ := hs
              have hs := gB0
              obtain ⟨lB, b0, b1, b2, -, -, -⟩ := hs
              refine wp_region_plus_tail 11 (by kernel_rfl) (by kernel_rfl) fun hpc => ?_
              simp only [List.take_succ_cons, List.take_zero, List.drop_succ_cons, List.drop_zero]
              repeat (first | go_big_quiet_step ((first | (go_at_call 28; exact quiet_plus (rhput_any _ _ _ _ _ a3)))) | quiet_step ((first | (go_at_call 28; exact quiet_plus (rhput_any _ _ _ _ _ a3)))))
              refine wpQuiet_nil ?_
              intro w' hbq
              clear hpc
              obtain ⟨hc, hf, hb, hz⟩ := bstep hbq (w := w8) (by go_grown)
              try simp only [World.size_alloc, World.size_setCell, World.size_drew] at hc hf hz
              have ho := ((hown.below hb).store (i := A) (v := hputW true h.b cl f) (by omega) (show A < h.n by omega) hwd).2.2
              go_wp2
              refine bodyPost_ret (by simp [results, Tryd.results26, go_sem, *]; try rfl) rfl ?_
              have hz := (((ho.under (g := w.heap.size + 1) (by omega) 0 (.slice (some ⟨gw, 0, none⟩) h.n c')).under (g := w.heap.size + 1) (by omega) 1 (.slice q' h.m d')).under (g := w.heap.size + 1) (by omega) 2 (.bool h.b)).lower (show w.heap.size ≤ B by omega)
              exact ⟨_, c', q', d', rfl, hz.at, ⟨fun _ => ⟨hz.newW, hz.newS⟩, fun h => (by cases h)⟩, ((((bjoin hb hbw).setCell (by show w.heap.size ≤ gw; omega) _).setCell (Nat.le_succ _) _).setCell (Nat.le_succ _) _).setCell (Nat.le_succ _) _⟩
      · have e : laB h g f = false := by rw [hLB, decide_eq_false hf1]; simp
        obtain ⟨e1, e2⟩ := hLN e
        rw [e, e1, e2]
        clear e e1 e2 hF hLA hLB hLN
        go_enter Tryd.func26, Tryd.ntmps26
        go_upto_region 1 with fail
        rw [← hw0]
        clear hw0
        go_wp2_with (first
    | (go_at_call 35; refine Calls.mono (rcwords_any _ _) ?_; rintro e w' ⟨rfl, hb⟩; obtain ⟨hc, hf, hb, hz⟩ := bstep hb (w := w0) (by go_grown); try simp only [World.size_alloc, World.size_setCell, World.size_drew] at hc hf hz)
        )
        refine bodyPost_ret (by simp [results, Tryd.results26, go_sem, *]; try rfl) rfl ?_
        first | exact ⟨p, c, _, d, rfl, hh.below (by go_grown; exact bjoin hb hst), ⟨fun h => (by cases h), fun _ => ⟨rfl, rfl, rfl, rfl⟩⟩, by go_grown; exact bjoin hb hst⟩ | exact ⟨hh.below (by go_grown; exact bjoin hb hst), ⟨fun h => (by cases h), fun _ => ⟨rfl, rfl, rfl, rfl⟩⟩, by go_grown; exact bjoin hb hst⟩
    · have e : laB h g f = false := by rw [hLB, decide_eq_false hf0]; simp
      obtain ⟨e1, e2⟩ := hLN e
      rw [e, e1, e2]
      clear e e1 e2 hF hLA hLB hLN
      go_enter Tryd.func26, Tryd.ntmps26
      go_upto_region 1 with fail
      rw [← hw0]
      clear hw0
      go_wp2
      refine bodyPost_ret (by simp [results, Tryd.results26, go_sem, *]; try rfl) rfl ?_
      first | exact ⟨p, c, _, d, rfl, hh.below (by go_grown), ⟨fun h => (by cases h), fun _ => ⟨rfl, rfl, rfl, rfl⟩⟩, by go_grown⟩ | exact ⟨hh.below (by go_grown), ⟨fun h => (by cases h), fun _ => ⟨rfl, rfl, rfl, rfl⟩⟩, by go_grown⟩
  · have e : laB h g f = false := by unfold laB; rw [inI_no hg]; rfl
    obtain ⟨e1, e2⟩ := la_no e
    rw [e, e1, e2]
    clear e e1 e2 hF
    by_cases hg0 : 0 ≤ g
    · have hg1 : (h.m : Int) ≤ g := by omega
      go_enter Tryd.func26, Tryd.ntmps26
      go_upto_region 1 with fail
      rw [← hw0]
      clear hw0
      go_wp2
      refine bodyPost_ret (by simp [results, Tryd.results26, go_sem, *]; try rfl) rfl ?_
      first | exact ⟨p, c, q, d, rfl, hh.below (by go_grown), ⟨fun h => (by cases h), fun _ => ⟨rfl, rfl, rfl, rfl⟩⟩, by go_grown⟩ | exact ⟨hh.below (by go_grown), ⟨fun h => (by cases h), fun _ => ⟨rfl, rfl, rfl, rfl⟩⟩, by go_grown⟩
    · have hg1 : g < 0 := by omega
      go_enter Tryd.func26, Tryd.ntmps26
      go_upto_region 1 with fail
      rw [← hw0]
      clear hw0
      go_wp2
      refine bodyPost_ret (by simp [results, Tryd.results26, go_sem, *]; try rfl) rfl ?_
      first | exact ⟨p, c, q, d, rfl, hh.below (by go_grown), ⟨fun h => (by cases h), fun _ => ⟨rfl, rfl, rfl, rfl⟩⟩, by go_grown⟩ | exact ⟨hh.below (by go_grown), ⟨fun h => (by cases h), fun _ => ⟨rfl, rfl, rfl, rfl⟩⟩, by go_grown⟩
end Go.Proofs.YtjlflbaglaillaaDoor
