/- Contract of the reference's Free (chapter 7). -/
import Derived.Test.YtjlflbaglaillaaDoorRef07c
import Derived.Test.YtjlflbaglaillaaDoorHeapOwn
namespace Go.Proofs.YtjlflbaglaillaaDoor
set_option linter.unusedSimpArgs false
set_option linter.unusedVariables false
open Go.ChangeShapes Go.WideShapes Go.ChangeAt Go.RowKit Go.Joins

theorem give_val {st cl fr i : Int} (hg : giveB st cl fr i = true) : giveF st cl fr i = withW fr i := by unfold giveF; rw [if_pos hg]
set_option maxHeartbeats 8000000 in
theorem rfree7_any (p : Option Addr) (c : Nat) (q : Option Addr) (d : Nat) (h : Hp) (a : Int) (w : World) (hh : HpAt w p c q d h) (hF : formB h = true) :
    Calls Tryd.prog 24 #[.agg #[.slice p h.n c, .slice q h.m d, .bool h.b], .int .i64 a] w fun e w' => ∃ p' c' q' d', e = .returned (.tuple #[.agg #[.slice p' h.n c', .slice q' h.m d', .bool h.b], .bool (frB h a)]) ∧
      HpAt w' p' c' q' d' (frH h a) ∧ Src w.heap.size (frB h a) h.n h.m p c q d p' c' q' d' ∧ Below w.heap.size w w' := by
  have hwf := hh.wf
  obtain ⟨w0, hw0, hB0, hR, hst⟩ := boxed2 (w := w) (v0 := .slice p h.n c) (v1 := .slice q h.m d) (v2 := .bool h.b) (u0 := .slice none 0 0) (u1 := .slice none 0 0) (u2 := .bool false) (t := 25)
  have hat := hh.below hst
  have gB0 := hB0
  have gR := hR
  obtain ⟨l0, x0, x1, x2, -, -, -⟩ := hB0
  obtain ⟨l1, y0, y1, y2, f0, f1, f2⟩ := hR
  have hF' : Hid (formB h = true) := hF
  cases hf : fiB h a with
  | false =>
    have efr : frB h a = false := by unfold frB; rw [hf]; rfl
    have eH : frH h a = h := by unfold frH; rw [if_neg (by simp [efr])]
    rw [eH, efr]
    clear eH efr hF
    go_enter Tryd.func24, Tryd.ntmps24
    go_upto_region 1 with fail
    rw [← hw0]
    clear hw0
    go_wp2_with (first
    | (go_at_call 16; refine Calls.mono (rfind_any _ _ _ _ h _ _ hat hF'.out) ?_; rintro e w' ⟨rfl, hb⟩; obtain ⟨hc, hf, hb, hz⟩ := bstep hb (w := w0) (by go_grown); try simp only [World.size_alloc, World.size_setCell, World.size_drew] at hc hf hz)
    )
    refine bodyPost_ret (by simp [results, Tryd.results24, go_sem, *]; try rfl) rfl ?_
    exact ⟨p, c, q, d, rfl, hh.below (by go_grown; exact bjoin hb hst), ⟨fun h => (by cases h), fun _ => ⟨rfl, rfl, rfl, rfl⟩⟩, by go_grown; exact bjoin hb hst⟩
  | true =>
    obtain ⟨p0, p1, p2, hstt, -, i0, i1, -⟩ := fi_spec hF hf
    have eP : fiP h a = a / 32 := by unfold fiP; rw [if_pos hf]
    have eI : fiI h a = plI (spH h (a / 32)).cl a := by unfold fiI; rw [if_pos hf]
    obtain ⟨k0, -, -, k3, k4⟩ := block_in hF hf
    have hmask := wf_mask hwf p0 p1
    have hspw := hwf.2 (a / 32).toNat (by omega)
    have eF : frB h a = giveB (spH h (a / 32)).st (spH h (a / 32)).cl (spH h (a / 32)).fr (plI (spH h (a / 32)).cl a) := by unfold frB; rw [hf]; rfl
    have eH : frB h a = true → frH h a = { withS h (a / 32) ⟨(spH h (a / 32)).st, (spH h (a / 32)).cl, withW (spH h (a / 32)).fr (plI (spH h (a / 32)).cl a)⟩ with z := zerZ h.z a (szW (spH h (a / 32)).cl) } := fun e => by unfold frH; rw [if_pos e]
    have eN : frB h a = false → frH h a = h := fun e => by unfold frH; rw [if_neg (by simp [e])]
    generalize a / 32 = P at *
    generalize plI (spH h P).cl a = I at *
    rw [show spH h P = h.s P.toNat from rfl] at *
    obtain ⟨⟨b, off, rfl, hlt, s0, s1, s2⟩, -⟩ := hat.spans P.toNat (by omega)
    generalize h.s P.toNat = S at *
    obtain ⟨st, cl, fr⟩ := S
    simp only [] at *
    cases hg : giveB st cl fr I with
    | false =>
      rw [hg] at eF
      rw [eN eF, eF]
      clear eF eN eH hF
      go_enter Tryd.func24, Tryd.ntmps24
      go_upto_region 1 with fail
      rw [← hw0]
      clear hw0
      go_wp2_with (first
    | (go_at_call 16; refine Calls.mono (rfind_any _ _ _ _ h _ _ hat hF'.out) ?_; rintro e w' ⟨rfl, hb⟩; obtain ⟨hc, hf, hb, hz⟩ := bstep hb (w := w0) (by go_grown); try simp only [World.size_alloc, World.size_setCell, World.size_drew] at hc hf hz)
    | (go_at_call 49; refine Calls.mono (rgive_any _ _ _ _ _ hmask) ?_; rintro e w' ⟨rfl, hb⟩; obtain ⟨hc, hf, hb, hz⟩ := bstep hb (w := w0) (by go_grown); try simp only [World.size_alloc, World.size_setCell, World.size_drew] at hc hf hz)
      )
      refine bodyPost_ret (by simp [results, Tryd.results24, go_sem, *]; try rfl) rfl ?_
      exact ⟨p, c, _, d, rfl, hh.below (by go_grown; exact bjoin hb hst), ⟨fun h => (by cases h), fun _ => ⟨rfl, rfl, rfl, rfl⟩⟩, by go_grown; exact bjoin hb hst⟩
    | true =>
      rw [hg] at eF
      have eG := give_val hg
      have hx : (⟨st, cl, withW fr I⟩ : Sp).wf := ⟨hspw.1, hspw.2.1, mask_with hmask⟩
      rw [eH eF, eF]
      clear eF eN eH hF
      go_enter Tryd.func24, Tryd.ntmps24
      go_upto_region 1 with fail
      rw [← hw0]
      clear hw0
      go_upto_region 7 with (first
    | (go_at_call 16; refine Calls.mono (rfind_any _ _ _ _ h _ _ hat hF'.out) ?_; rintro e w' ⟨rfl, hb⟩; obtain ⟨hc, hf, hb, hz⟩ := bstep hb (w := w0) (by go_grown); try simp only [World.size_alloc, World.size_setCell, World.size_drew] at hc hf hz)
    | (go_at_call 49; refine Calls.mono (rgive_any _ _ _ _ _ hmask) ?_; rintro e w' ⟨rfl, hb⟩; obtain ⟨hc, hf, hb, hz⟩ := bstep hb (w := w0) (by go_grown); try simp only [World.size_alloc, World.size_setCell, World.size_drew] at hc hf hz)
      )
      obtain ⟨w5, hw5⟩ : ∃ w5, w5 = w'.alloc (.cells #[.int .i64 st, .int .i64 cl, .int .u32 (withW fr I)] 49) := ⟨_, rfl⟩
      have hB5 : Below w0.heap.size w0 w5 := by rw [hw5]; exact hb.alloc hb.size _
      have gS : SpBox w'.heap.size st cl (withW fr I) w5 := by rw [hw5]; exact SpBox.new _ _ _ _ _
      have hSl : w0.heap.size ≤ w'.heap.size := hb.size
      rw [← hw5]
      clear hw5 hb hc hf hz x0 x1 x2 y0 y1 y2 f0 f1 f2 s0 s1 s2 hlt
      generalize w'.heap.size = S at *
      replace gB0 := gB0.below hB5
      replace gR := gR.below hB5
      have hat5 := hat.below hB5
      have g0 := gB0
      obtain ⟨l0', x0, x1, x2, -, -, -⟩ := g0
      have gs := gS
      obtain ⟨lS, s0, s1, s2, -, -, -⟩ := gs
      go_upto_region 8 with (first
    | (go_at_call 42; refine Calls.mono (rwithO_any _ _ _ _ h _ ⟨st, cl, withW fr I⟩ _ hat5 hx hF'.out) ?_; rintro e w' ⟨p', c', q', d', rfl, hown, hb⟩; obtain ⟨hc, hf, hb, hz⟩ := bstep hb (w := w5) (by go_grown); try simp only [World.size_alloc, World.size_setCell, World.size_drew] at hc hf hz)
      )
      have hn0 : 0 < h.n := by omega
      have hn5 : h.n ≤ 512 := by have := form_iff.1 hF'.out; omega
      have hsz : szW cl ≤ 16 := by have := cl_cases cl; omega
      obtain ⟨gw, rfl, hgB, hgG⟩ := hown.word hn0
      obtain ⟨w7, hw7⟩ : ∃ w7, w7 = w'.alloc (.cells #[.slice (some ⟨gw, 0, none⟩) h.n c', .slice q' h.m d', .bool h.b] 25) := ⟨_, rfl⟩
      have hB7 : Below w5.heap.size w5 w7 := by rw [hw7]; exact hb.alloc hb.size _
      have hB6 : Below w'.heap.size w' w7 := by rw [hw7]; exact (Below.refl _ _).alloc (Nat.le_refl _) _
      have gG : Box3 w'.heap.size (.slice (some ⟨gw, 0, none⟩) h.n c') (.slice q' h.m d') (.bool h.b) w7 := by rw [hw7]; exact Box3.new _ _ _ _ _
      replace hown := hown.below hB6
      have hGl : w5.heap.size ≤ w'.heap.size := hb.size
      replace gR := gR.below hB7
      replace gS := gS.below hB7
      have hbW : Below w.heap.size w w7 := bjoin hB7 (bjoin hB5 hst)
      rw [← hw7]
      clear hw7 hb hc hf hz x0 x1 x2 s0 s1 s2 gB0 hB5 hB6 hB7 hat5 hat hh hst l0'
      generalize w'.heap.size = G at *
      have hown0 : HpOwn w7 w5.heap.size (some ⟨gw, 0, none⟩) c' q' d' { withS h P ⟨st, cl, withW fr I⟩ with z := zerZ h.z a 0 } := by rw [zer_none]; exact hown
      clear hown
      generalize w5.heap.size = B at *
      go_wp2
      go_loopg [12] (szW cl).toNat (fun g kv wr => ∃ k : Int, 0 ≤ k ∧ k ≤ szW cl ∧ g = (szW cl - k).toNat ∧ kv = .int .i64 k ∧ Box3 (w.heap.size + 1) (.slice none 0 0) (.slice none 0 0) (.bool false) wr ∧ SpBox S st cl (withW fr I) wr ∧ Box3 G (.slice (some ⟨gw, 0, none⟩) h.n c') (.slice q' h.m d') (.bool h.b) wr ∧ HpOwn wr B (some ⟨gw, 0, none⟩) c' q' d' { withS h P ⟨st, cl, withW fr I⟩ with z := zerZ h.z a k } ∧ Below w.heap.size w wr)
      case atStart => exact ⟨0, by omega, by omega, by omega, rfl, gR, gS, gG, hown0, hbW⟩
      case round =>
        clear gR gS gG hown0 hbW
        obtain ⟨k, kl, kh, rfl, rfl, gR, gS, gG, hown, hbw⟩ := hrel
        have hs := gS
        obtain ⟨lS, s0, s1, s2, -, -, -⟩ := hs
        have hs := gG
        obtain ⟨lG, x0, x1, x2, -, -, -⟩ := hs
        by_cases hk : k < szW cl
        · obtain ⟨⟨u, u0⟩, u1, -⟩ := hown.store (i := a + k) (v := 0) (by omega) (show a + k < h.n by omega) (by decide)
          go_wp2_with (first
    | (go_at_call 35; refine Calls.mono (rcwords_any _ _) ?_; rintro e w' ⟨rfl, hb⟩; obtain ⟨hc, hf, hb, hz⟩ := bstep hb (w := wr) (by go_grown); try simp only [World.size_alloc, World.size_setCell, World.size_drew] at hc hf hz)
          )
          have hown' := (hown.below (by assumption)).store (i := a + k) (v := 0) (by omega) (show a + k < h.n by omega) (by decide)
          go_roundg (szW cl - (k + 1)).toNat
          case measure => omega
          case rel => exact ⟨k + 1, by omega, by omega, rfl, by go_num, (gR.below hb).other (by omega) _ _, (gS.below hb).other (by omega) _ _, (gG.below hb).other (by omega) _ _, by rw [← zer_next _ _ _ kl]; exact hown'.2.2, (bjoin hb hbw).setCell (by show w.heap.size ≤ gw; omega) _⟩
        · obtain rfl : k = szW cl := by omega
          have hs := gR
          obtain ⟨lR, y0, y1, y2, f0, f1, f2⟩ := hs
          go_wp2_with (first
    | (go_at_call 35; refine Calls.mono (rcwords_any _ _) ?_; rintro e w' ⟨rfl, hb⟩; obtain ⟨hc, hf, hb, hz⟩ := bstep hb (w := wr) (by go_grown); try simp only [World.size_alloc, World.size_setCell, World.size_drew] at hc hf hz)
          )
          refine bodyPost_ret (by simp [results, Tryd.results24, go_sem, *]; try rfl) rfl ?_
          have ho := ((((hown.below hb).under (g := w.heap.size + 1) (by omega) 0 (.slice (some ⟨gw, 0, none⟩) h.n c')).under (g := w.heap.size + 1) (by omega) 1 (.slice q' h.m d')).under (g := w.heap.size + 1) (by omega) 2 (.bool h.b)).lower (show w.heap.size ≤ B by omega)
          exact ⟨_, c', q', d', rfl, ho.at, ⟨fun _ => ⟨ho.newW, ho.newS⟩, fun h => (by cases h)⟩, (((bjoin hb hbw).setCell (Nat.le_succ _) _).setCell (Nat.le_succ _) _).setCell (Nat.le_succ _) _⟩
end Go.Proofs.YtjlflbaglaillaaDoor
