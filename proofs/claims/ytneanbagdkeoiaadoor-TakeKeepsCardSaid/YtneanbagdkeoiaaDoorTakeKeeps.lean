/- TakeKeeps: of every heap that has its form, right caches (of at most ten mutators), a mutator of them and a number of fields, take.Take leaves what it is handed as it was, and what it answers, where a block was taken, is other memory. No condition; the tables that the code reads are tied to the program's text. -/
import Derived.Test.YtneanbagdkeoiaaDoorRows
import Derived.Test.YtneanbagdkeoiaaDoorCards
import Derived.Test.YtneanbagdkeoiaaDoorTie
import Derived.Test.YtneanbagdkeoiaaDoorTiedBits
import Derived.Test.YtneanbagdkeoiaaDoorAwake11
import Derived.SevenTiedAt
namespace Go.Proofs.YtneanbagdkeoiaaDoor
set_option linter.unusedSimpArgs false
set_option linter.unusedVariables false
open Go.ChangeShapes Go.WideShapes Go.ChangeAt Go.RowKit Go.Joins

set_option maxHeartbeats 32000000 in
set_option maxRecDepth 20000 in
theorem keeps_walk {p : Option Addr} {c : Nat} {q : Option Addr} {d : Nat} {h : Hp} {pc : Option Addr} {k cc : Nat} {y : Nat → Int} (mm f : Int) (w : World) (hat : HpAt w p c q d h) (hin : Ints .i64 w pc (k * 4) y) (hk : k ≤ maxLen) (hpc : pc = none → k = 0 ∧ cc = 0) (hS : Sz w) (hT : Tab w) :
    Calls Tryd.prog 7 #[.agg #[.slice p h.n c, .slice q h.m d, .bool h.b], .slice pc k cc, .int .i64 mm, .int .i64 f] w fun e w' => e = .returned (.bool true) ∧ Below w.heap.size w w' := by
  obtain ⟨w0, hw0⟩ : ∃ w0, w0 = w.alloc (.cells #[.slice p h.n c, .slice q h.m d, .bool h.b] 25) := ⟨_, rfl⟩
  have g3 : Box3 w.heap.size (.slice p h.n c) (.slice q h.m d) (.bool h.b) w0 := by rw [hw0]; exact Box3.new _ _ _ _ _
  have hB0 : Below w.heap.size w w0 := by rw [hw0]; exact (Below.refl _ _).alloc (Nat.le_refl _) _
  have hl0 : w.heap.size + 1 ≤ w0.heap.size := by rw [hw0]; simp
  have hh0 := hat.in.below hB0
  have hin0 := hin.below hB0
  replace hS := hS.below hB0
  replace hT := hT.below hB0
  obtain ⟨l3, x0, x1, x2, -, -, -⟩ := id g3
  have rM := fun W (hW : Below w0.heap.size w0 W) => lright_in (cc := cc) (mm := mm) (hh0.below hW) (hin0.below hW) hk
  cases hM : rightM h k y mm with
  | false =>
    rw [hM] at rM
    go_enter Tryd.func7, Tryd.ntmps7
    go_upto_region 1 with fail
    rw [← hw0]
    clear hw0
    go_wp2_with (first
    | (go_at_call 9; refine Calls.mono (awake11_any _ (hS.below (by go_grown)) (hT.below (by go_grown))) ?_; rintro e w' ⟨rfl, hb⟩; obtain ⟨hc, hf, hb, hz⟩ := bstep hb (w := w0) (by go_grown); try simp only [World.size_alloc, World.size_setCell, World.size_drew] at hc hf hz)
    | (go_at_call 15; refine Calls.mono (rM _ (by go_grown)) ?_; rintro e w' ⟨rfl, hb⟩; obtain ⟨hc, hf, hb, hz⟩ := bstep hb (w := w0) (by go_grown); try simp only [World.size_alloc, World.size_setCell, World.size_drew] at hc hf hz)
    )
    go_returns
    exact ⟨rfl, bjoin hb hB0⟩
  | true =>
    rw [hM] at rM
    obtain ⟨hF, hk10, hr, m0, m1⟩ := rightM_iff.1 hM
    obtain ⟨mn, rfl⟩ : ∃ mn : Nat, mm = mn := ⟨mm.toNat, by omega⟩
    have hF' : Hid (formB h = true) := hF
    have hr' : Hid (rightY h k y = true) := hr
    have hmn : Hid (mn < k) := (by omega : mn < k)
    have hL := hat.in.lower hF
    obtain ⟨bc, oc, rfl, lbc⟩ := hin.lower (by omega)
    clear hM hF hr m0 m1
    go_enter Tryd.func7, Tryd.ntmps7
    go_upto_region 1 with fail
    rw [← hw0]
    clear hw0
    go_upto_region 3 with (first
    | (go_at_call 9; refine Calls.mono (awake11_any _ (hS.below (by go_grown)) (hT.below (by go_grown))) ?_; rintro e w' ⟨rfl, hb⟩; obtain ⟨hc, hf, hb, hz⟩ := bstep hb (w := w0) (by go_grown); try simp only [World.size_alloc, World.size_setCell, World.size_drew] at hc hf hz)
    | (go_at_call 15; refine Calls.mono (rM _ (by go_grown)) ?_; rintro e w' ⟨rfl, hb⟩; obtain ⟨hc, hf, hb, hz⟩ := bstep hb (w := w0) (by go_grown); try simp only [World.size_alloc, World.size_setCell, World.size_drew] at hc hf hz)
    )
    have hbW := bjoin hb hB0
    have hh3 := hh0.below hb
    have hin3 := hin0.below hb
    replace hS := hS.below hb
    replace hT := hT.below hb
    replace g3 := g3.below hb
    have hl3 : w0.heap.size ≤ w'.heap.size := hb.size
    clear hb hc hf hz x0 x1 x2 l3 hB0 rM hh0 hin0 hat
    generalize w' = w3 at *
    obtain ⟨i0, hi, hz0, hz1, hz2⟩ := info_parts four_info
    go_upto_region 4 with (first
      | (at_builtin; refine wpList_append_own _ rfl (.tmp 31) (.tmp 32) 26 rfl w3.heap.size 51 i0 (.agg #[.int .i64 0, .int .i64 0, .int .i64 0, .int .i64 0]) 4 32 Tryd.underlying26 hi hz0 hz1 hz2 rfl (by decide) (.slice (some ⟨w3.heap.size, 0, none⟩) 0 0) 0 [] rfl (World.ownsRow_made w3 #[] 0 (Nat.le_refl _) (by simp only [maxLen]; omega) rfl) ⟨bc, oc, none⟩ k cc (vals .i64 (k * 4) y) rfl (vals_length _ _ _) (fun j u hj => by obtain ⟨ad, e, hc⟩ := (hin3.below ((Below.refl _ w3).alloc (Nat.le_refl _) (.cells #[] 51))).cells (show 0 < k * 4 by have := hmn.out; omega); injection e with e; subst e; exact hc j u hj) (vals_one _ _ _) (by simp only [maxLen]; omega) (by omega) (by simp) ?_; intro ov w4 hown hgrow hnn)
    )
    have hba : Below w3.heap.size w3 w4 := ((Below.refl _ w3).alloc (Nat.le_refl _) (.cells #[] 51)).grown hgrow (by simp) (by intro j hj; simp [Value.ownBlock] at hj; omega)
    rw [Nat.zero_add, List.nil_append] at hown
    obtain ⟨pn, co, rfl, hpn⟩ := owned_new hown
    obtain ⟨hIo, -⟩ := owned_four hown (fun i hi => (hin i hi).2)
    obtain ⟨go, oo, rfl, lgo⟩ := hIo.lower (by have := hmn.out; omega)
    have hgo0 := hpn go oo none rfl
    obtain rfl : oo = 0 := by
      rcases hown.2 with ⟨h1, -⟩ | ⟨g', cap', cur, hv, -⟩
      · cases h1
      · injection hv with h1; injection h1 with h1; injection h1
    have hh4 := hh3.below hba
    have hin4 := hin3.below hba
    replace hS := hS.below hba
    replace hT := hT.below hba
    replace g3 := g3.below hba
    replace hbW := bjoin hba hbW
    have hl4 : w3.heap.size ≤ w4.heap.size := hba.size
    have hgoW : w.heap.size < go := by omega
    clear hnn hgrow hba hh3 hin3 hpn hi hz0 hz1 hz2 hl0 hl3
    refine wp_own_copy (s := 34) (h' := 4) (d' := 10) (pos := "law.go:96") (by kernel_rfl) (by decide) (by decide) (by decide) (by simp) hF'.out hh4.at' g3 rfl ?_
    intro u0 u1 u2 u3 u4 u5 u6 u7 u8 u9 u10 B10 p' c' q' d' w5 hov g10 hl10 n1 n2 hb5
    simp only [puts, Act.put]
    obtain ⟨gw, rfl, hgw, hgw'⟩ := hov.word (by have := form_iff.1 hF'.out; omega)
    have m1 : ¬ B10 = gw := fun e => n1 (by rw [e]; rfl)
    have hx := hov.at.in
    have hw5 := hov.words
    have hh5 := hh4.below hb5
    have hin5 := hin4.below hb5
    have hI5 := hIo.below hb5
    have hown5 := owned_below hown hb5
    replace hS := hS.below hb5
    replace hT := hT.below hb5
    replace g3 := g3.below hb5
    replace hbW := bjoin hb5 hbW
    have hn512 : h.n ≤ 512 := by have := form_iff.1 hF'.out; omega
    clear n1 n2 hb5 hh4 hin4 hIo hown hov
    obtain ⟨l10, x0, x1, x2, -, -, -⟩ := id g10
    have hC := fun W (hW : Below w5.heap.size w5 W) => ttake_in (cc := co) (mm := mn) (f := f) (hS.below hW) (hT.below hW) (hx.below hW) hF'.out (hI5.below hW) (fun e => by cases e) (by omega) hmn.out hr'.out
    have hQ : ∀ W, HpIn W p h.n c q h.m d h.b h → Ints .i64 W (some ⟨bc, oc, none⟩) (k * 4) y → _ := fun W h1 h2 => rtake_in (cc := cc) (mm := mn) (f := f) h1 hF'.out h2 (fun e => by cases e) (by omega) hmn.out hr'.out
    have hsH := sameH_self (takeH h k y mn f)
    have hsY : sameY k (takeY h k y mn f) k (takeY h k y mn f) = true := sameY_of fun _ _ => rfl
    have hs0 := sameH_self h
    have hsy0 : sameY k y k y = true := sameY_of fun _ _ => rfl
    generalize takeA h k y mn f = A at *
    generalize (takeP h k y mn f).isSome = B at *
    generalize takeH h k y mn f = H at *
    generalize takeY h k y mn f = Y at *
    go_upto_region 6 with (first
    | (go_at_call 18; refine Calls.mono (hC _ (by go_grown)) ?_; rintro e w' ⟨p1, c1, q1, d1, pc1, cc1, rfl, t1, hb⟩; obtain ⟨hc, hf, hb, hz⟩ := bstep hb (w := w5) (by go_grown); try simp only [World.size_alloc, World.size_setCell, World.size_drew] at hc hf hz)
    )
    obtain ⟨w6, hw6⟩ : ∃ W, W = w'.alloc (.cells #[.slice p1 h.n c1, .slice q1 h.m d1, .bool h.b] 25) := ⟨_, rfl⟩
    have hB6 : Below w'.heap.size w' w6 := by rw [hw6]; exact (Below.refl _ _).alloc (Nat.le_refl _) _
    have g11 : Box3 w'.heap.size (.slice p1 h.n c1) (.slice q1 h.m d1) (.bool h.b) w6 := by rw [hw6]; exact Box3.new _ _ _ _ _
    have hb6 := bjoin hB6 hb
    have hh1 := t1.heap.below hB6
    have hi1 := t1.caches.below hB6
    have hl5 : w5.heap.size ≤ w'.heap.size := hb.size
    have hgo5 : go < w5.heap.size := (hown5.lt go rfl).2
    have hnew : B = true → (∀ g, g < w5.heap.size → Clear g p1 q1) ∧ ∀ g, g < w5.heap.size → ∀ b off sp, pc1 = some ⟨b, off, sp⟩ → b ≠ g := fun e => by
      refine ⟨fun g hg => ?_, fun g hg b off sp eb => ?_⟩
      · obtain ⟨a1, a2⟩ := t1.src.new e
        exact newV_clear a1 a2 (by first | omega | (simp; omega))
      · have := t1.new e b (by rw [eb]; rfl)
        first | omega | (simp at this; omega)
    replace hh5 := hh5.below hb6
    replace hx := hx.below hb6
    replace hin5 := hin5.below hb6
    replace hI5 := hI5.below hb6
    replace hown5 := owned_below hown5 hb6
    replace hw5 := owned_below hw5 hb6
    replace g3 := g3.below hb6
    replace g10 := g10.below hb6
    replace hbW := bjoin hb6 hbW
    rw [← hw6]
    clear hw6 hB6 hb hc hf hz t1 hC hS hT x0 x1 x2 l10 hb6
    generalize w'.heap.size = B11 at *
    obtain ⟨l10, x0, x1, x2, -, -, -⟩ := id g10
    obtain ⟨l3, y0, y1, y2, -, -, -⟩ := id g3
    have r1 := fun W (hW : Below w6.heap.size w6 W) => rsame11_any _ k co _ _ k cc _ W (hI5.below hW) (hin5.below hW) hk hk
    have r2 := fun W (hW : Below w6.heap.size w6 W) => rsame_in (hx.below hW) (hh5.below hW)
    rw [hsy0] at r1
    rw [hs0] at r2
    go_upto_region 8 with (first
    | (go_at_call 21; refine Calls.mono (r1 _ (by go_grown)) ?_; rintro e w' ⟨rfl, hb⟩; obtain ⟨hc, hf, hb, hz⟩ := bstep hb (w := w6) (by go_grown); try simp only [World.size_alloc, World.size_setCell, World.size_drew] at hc hf hz)
    | (go_at_call 20; refine Calls.mono (r2 _ (by go_grown)) ?_; rintro e w' ⟨rfl, hb⟩; obtain ⟨hc, hf, hb, hz⟩ := bstep hb (w := w6) (by go_grown); try simp only [World.size_alloc, World.size_setCell, World.size_drew] at hc hf hz)
    )
    replace hh5 := hh5.below hb
    replace hin5 := hin5.below hb
    replace hown5 := owned_below hown5 hb
    replace hw5 := owned_below hw5 hb
    replace g3 := g3.below hb
    replace g10 := g10.below hb
    replace g11 := g11.below hb
    replace hh1 := hh1.below hb
    replace hi1 := hi1.below hb
    replace hbW := bjoin hb hbW
    clear hb hc hf hz x0 x1 x2 l10 y0 y1 y2 l3 r1 r2 hx hI5
    generalize w' = w8 at *
    have hown0 : ∃ xs, w8.ownsRow w3.heap.size 51 4 (.slice (some ⟨go, 0, none⟩) k co) k xs := ⟨_, hown5⟩
    clear hown5
    go_wp2
    go_loopg [15] k (fun gg iv wr => ∃ i : Nat, i ≤ k ∧ gg = k - i ∧ iv = .int .i64 i ∧ (∃ xs, wr.ownsRow w3.heap.size 51 4 (.slice (some ⟨go, 0, none⟩) k co) k xs) ∧ Aside (fun g => g = go) w8 wr)
    case atStart => exact ⟨0, by omega, by omega, rfl, hown0, Aside.of (Below.refl _ _)⟩
    case round =>
      clear hown0
      obtain ⟨i, ih, rfl, rfl, ⟨xs, hsp⟩, hA⟩ := hrel
      by_cases hi : i < k
      · have hxl : xs.length = k * 4 := hsp.1
        have cell : ∀ j, j < k * 4 → ∃ u, wr.cell? ⟨go, j, none⟩ = some u := fun j hj => ⟨xs[j]'(by omega), by rw [hsp.cellAt j hj]; exact List.getElem?_eq_getElem _⟩
        obtain ⟨u0, v0⟩ := cell (i * 4) (by omega)
        obtain ⟨u1, v1⟩ := cell (i * 4 + 1) (by omega)
        obtain ⟨u2, v2⟩ := cell (i * 4 + 2) (by omega)
        obtain ⟨u3, v3⟩ := cell (i * 4 + 3) (by omega)
        have f0 := hsp.frozenAt (i * 4)
        have f1 := hsp.frozenAt (i * 4 + 1)
        have f2 := hsp.frozenAt (i * 4 + 2)
        have f3 := hsp.frozenAt (i * 4 + 3)
        have hs_ := ((((hsp.stored (i * 4) (.int .i64 9)).1.stored (i * 4 + 1) (.int .i64 9)).1.stored (i * 4 + 2) (.int .i64 9)).1.stored (i * 4 + 3) (.int .i64 9)).1
        have hA_ := (((hA.setCell (g := go) rfl (i * 4) (.int .i64 9)).setCell (g := go) rfl (i * 4 + 1) (.int .i64 9)).setCell (g := go) rfl (i * 4 + 2) (.int .i64 9)).setCell (g := go) rfl (i * 4 + 3) (.int .i64 9)
        clear cell hxl
        go_wp2
        go_roundg (k - (i + 1))
        case measure => omega
        case rel => exact ⟨i + 1, by omega, rfl, by go_num, ⟨_, hs_⟩, hA_⟩
      · obtain rfl : k = i := by omega
        have hgoB : ¬ B10 = go := by omega
        have hgw0 : ¬ gw = go := by omega
        have hin9 := hin5.aside hA (fun g hg b off sp e => by have hg : g = go := hg; injection e with e; injection e with e; omega)
        have hh9 := hh5.aside hA (fun g hg => hg ▸ hL.clear (by omega))
        have g39 := g3.aside hA (fun e => by have : w.heap.size = go := e; omega)
        have g109 := g10.aside hA hgoB
        have g119 := g11.aside hA (fun e => by have : B11 = go := e; omega)
        have hh19 : B = true → HpIn wr p1 h.n c1 q1 h.m d1 h.b H := fun e => hh1.aside hA (fun g hg => hg ▸ (hnew e).1 go (by omega))
        have hi19 : B = true → Ints .i64 wr pc1 (k * 4) Y := fun e => hi1.aside hA (fun g hg => hg ▸ (hnew e).2 go (by omega))
        have hw9 : ∃ xs, wr.ownsRow w4.heap.size 50 1 (.slice (some ⟨gw, 0, none⟩) h.n c') h.n xs := ⟨_, owned_stays hw5 hA (fun k' hk' t => by
          have t : k' = go := t
          simp [Value.ownBlock] at hk'
          omega)⟩
        have hbW9 : Below w.heap.size w wr := hbW.trans (hA.below hbW.size (fun k' t => by have t : k' = go := t; omega))
        clear hsp hA hin5 hh5 g3 g10 g11 hh1 hi1 hw5 hbW ih hi
        go_upto_region 13 with fail
        generalize wr = w9 at *
        go_loopg [16] h.n (fun gg iv wr => ∃ i : Nat, i ≤ h.n ∧ gg = h.n - i ∧ iv = .int .i64 i ∧ (∃ xs, wr.ownsRow w4.heap.size 50 1 (.slice (some ⟨gw, 0, none⟩) h.n c') h.n xs) ∧ Aside (fun g => g = gw) w9 wr)
        case atStart => exact ⟨0, by omega, by omega, rfl, hw9, Aside.of (Below.refl _ _)⟩
        case round =>
          clear hw9
          obtain ⟨i, ih, rfl, rfl, ⟨xs, hsp⟩, hA⟩ := hrel
          obtain ⟨l10, x0, x1, x2, -, -, -⟩ := g109.aside hA (fun e => m1 e)
          by_cases hi : i < h.n
          · have hxl : xs.length = h.n * 1 := hsp.1
            obtain ⟨u0, v0⟩ : ∃ u, wr.cell? ⟨gw, i, none⟩ = some u := ⟨xs[i]'(by omega), by rw [hsp.cellAt i (by omega)]; exact List.getElem?_eq_getElem _⟩
            have f0 := hsp.frozenAt i
            have hs_ := (hsp.stored i (.int .u64 9)).1
            have hA_ := hA.setCell (g := gw) rfl i (.int .u64 9)
            clear hxl
            go_wp2
            go_roundg (h.n - (i + 1))
            case measure => omega
            case rel => exact ⟨i + 1, by omega, rfl, by go_num, ⟨_, hs_⟩, hA_⟩
          · obtain rfl : i = h.n := by omega
            have hinA := hin9.aside hA (fun g hg b off sp e => by have hg : g = gw := hg; injection e with e; injection e with e; omega)
            have hhA := hh9.aside hA (fun g hg => hg ▸ hL.clear (by omega))
            have g3A := g39.aside hA (fun e => by have : w.heap.size = gw := e; omega)
            have g11A := g119.aside hA (fun e => by have : B11 = gw := e; omega)
            have hh1A : B = true → HpIn wr p1 h.n c1 q1 h.m d1 h.b H := fun e => (hh19 e).aside hA (fun g hg => hg ▸ (hnew e).1 gw (by omega))
            have hi1A : B = true → Ints .i64 wr pc1 (k * 4) Y := fun e => (hi19 e).aside hA (fun g hg => hg ▸ (hnew e).2 gw (by omega))
            have hbWA : Below w.heap.size w wr := hbW9.trans (hA.below hbW9.size (fun k' t => by have t : k' = gw := t; omega))
            clear hsp hA hin9 hh9 g39 g109 g119 hh19 hi19 hbW9 ih hi
            go_upto_region 16 with fail
            clear x0 x1 x2 l10 m1 hgoB hgw0 hnew
            generalize wr = wA at *
            obtain ⟨l3, y0, y1, y2, -, -, -⟩ := id g3A
            go_upto_region 17 with (first
    | (go_at_call 19; refine Calls.mono (hQ _ (hhA.below (by go_grown)) (hinA.below (by go_grown))) ?_; rintro e w' ⟨p2, c2, q2, d2, pc2, cc2, rfl, t2, hb⟩; obtain ⟨hc, hf, hb, hz⟩ := bstep hb (w := wA) (by go_grown); try simp only [World.size_alloc, World.size_setCell, World.size_drew] at hc hf hz)
            )
            obtain ⟨wB, hwB⟩ : ∃ W, W = w'.alloc (.cells #[.slice p2 h.n c2, .slice q2 h.m d2, .bool h.b] 25) := ⟨_, rfl⟩
            have hBB : Below w'.heap.size w' wB := by rw [hwB]; exact (Below.refl _ _).alloc (Nat.le_refl _) _
            have g17 : Box3 w'.heap.size (.slice p2 h.n c2) (.slice q2 h.m d2) (.bool h.b) wB := by rw [hwB]; exact Box3.new _ _ _ _ _
            have hbB := bjoin hBB hb
            have hh2 := t2.heap.below hBB
            have hi2 := t2.caches.below hBB
            have g11B := g11A.below hbB
            have hbWB := bjoin hbB hbWA
            have hh1B : B = true → HpIn wB p1 h.n c1 q1 h.m d1 h.b H := fun e => (hh1A e).below hbB
            have hi1B : B = true → Ints .i64 wB pc1 (k * 4) Y := fun e => (hi1A e).below hbB
            rw [← hwB]
            clear hwB hBB hb hc hf hz t2 hQ y0 y1 y2 l3 hbB hh1A hi1A hbWA g11A hinA hhA g3A
            generalize w'.heap.size = B17 at *
            obtain ⟨l11, x0, x1, x2, -, -, -⟩ := id g11B
            obtain ⟨l17, z0, z1, z2, -, -, -⟩ := id g17
            cases B with
            | false =>
              clear hh1B hi1B
              go_wp2
              go_returns
              exact ⟨rfl, hbWB⟩
            | true =>
              have hh1 := hh1B rfl
              have hi1 := hi1B rfl
              have r1 := fun W (hW : Below wB.heap.size wB W) => rsame_in (hh1.below hW) (hh2.below hW)
              have r2 := fun W (hW : Below wB.heap.size wB W) => rsame11_any pc1 k cc1 _ pc2 k cc2 _ W (hi1.below hW) (hi2.below hW) hk hk
              rw [hsH] at r1
              rw [hsY] at r2
              clear hh1B hi1B
              go_wp2_with (first
    | (go_at_call 20; refine Calls.mono (r1 _ (by go_grown)) ?_; rintro e w' ⟨rfl, hb⟩; obtain ⟨hc, hf, hb, hz⟩ := bstep hb (w := wB) (by go_grown); try simp only [World.size_alloc, World.size_setCell, World.size_drew] at hc hf hz)
    | (go_at_call 21; refine Calls.mono (r2 _ (by go_grown)) ?_; rintro e w' ⟨rfl, hb⟩; obtain ⟨hc, hf, hb, hz⟩ := bstep hb (w := wB) (by go_grown); try simp only [World.size_alloc, World.size_setCell, World.size_drew] at hc hf hz)
              )
              go_returns
              exact ⟨ret_bool (by simp), bjoin hb hbWB⟩

namespace TakeKeeps
/-- What the row lists. -/
def lists : List (String × DataW Unit) := [("flotsam/class.sizes", Rows.laid_flotsam_class_sizes), ("math/bits.deBruijn32tab", Rows.laid_math_bits_deBruijn32tab)]
set_option maxRecDepth 100000 in
theorem lifted (os : Os) (started : os.Started) (H : Type) (enc : TypeId × Value → H) :
    ReturnsInHanded {} Tryd.checked os 7 .any (fun w args => (Rows.takeKeepsSpec.pre enc Tryd.prog Tryd.f7 Rows.takeKeepsRow.domain false w args ∧ laidMetH Tryd.prog lists w) ∧ sizedMet enc Tryd.prog Tryd.f7 (OpenSpec.ofChange Rows.takeKeepsSpec) false w args) (Rows.takeKeepsSpec.post enc Tryd.prog Tryd.f7 false true false false) := by
  refine law_lifted_laid (C := Tryd.checked) seat_own started (by kernel_rfl) Tryd.func7 (by kernel_rfl) (of_decide_eq_true (by kernel_rfl)) rfl
    (fun ds hd => by have hd' : ds.length = 4 := hd; match ds, hd' with | [d0, d1, d2, d3], _ => rfl) rfl Tryd.underlying4
    (ChangeSpec.witness_shaped (enc := enc) (C := Tryd.checked) (os := os) (X := fun w _ => laidMetH Tryd.prog lists w) false (World.laidAll Tryd.prog os lists) #[.agg #[.slice none 0 0, .slice none 0 0, .bool false], .slice none 0 0, .int .i64 0, .int .i64 0] 8 (World.laidAll_os _ _ _)
      (World.shaped_of_ZipB (by kernel_rfl) (by kernel_rfl)) (by kernel_rfl) (by kernel_rfl) (by kernel_rfl)
      (by rw [MakeChecks.laidMetH_plain _ _ _ (by kernel_rfl)]; exact laidMet_laidAll _ (by kernel_rfl) (by kernel_rfl))) ?_
  intro W base args ds p hval hA hlt hL
  have hS : Sz W := sizes_of hL (by kernel_rfl) rfl
  have hT : Tab W := tab_of hL (by kernel_rfl) rfl
  rw [Tryd.params7] at hA hval
  obtain ⟨v0, v1, v2, v3, d0, d1, d2, d3, p0, p1, p2, p3, rfl, rfl, rfl, h0, h1, h2, h3⟩ := trodAll_four hA
  obtain ⟨x0, q0, c0, s0, e0, rfl, hh0⟩ := open_heap Tryd.underlying25 (by kernel_rfl) (by kernel_rfl) Tryd.underlying22 (by kernel_rfl) (by kernel_rfl) Tryd.underlying23 Tryd.underlying58 (by kernel_rfl) (by kernel_rfl) (by kernel_rfl) (by kernel_rfl) (by kernel_rfl) (by kernel_rfl) (hval 0 25 v0 rfl rfl) h0
  obtain ⟨q1, n1, cap1, z1, rfl, hn1, hz1, hq1⟩ := open_caches Tryd.underlying26 Tryd.underlying51 (by kernel_rfl) (by kernel_rfl) Tryd.underlying3 (hval 1 26 v1 rfl rfl) h1
  obtain ⟨a2, rfl, ha2⟩ := open_i64 Tryd.underlying3 (hval 2 3 v2 rfl rfl) h2
  obtain ⟨a3, rfl, ha3⟩ := open_i64 Tryd.underlying3 (hval 3 3 v3 rfl rfl) h3
  exact keeps_walk a2 a3 W hh0 hz1 hn1 hq1 hS hT

theorem row_holds : Rows.TakeKeepsSaid :=
  OpenClaim.holds_of_wide 7 Tryd.f7 rfl rfl rfl rfl rfl rfl rfl ⟨rfl, rfl, rfl, rfl, rfl⟩ rfl rfl rfl rfl rfl (by kernel_rfl) Tryd.func7 (by kernel_rfl)
    (of_decide_eq_true (by kernel_rfl)) (by unfold Func.isWrapper; first | (rw [if_pos (by decide +kernel)]; kernel_rfl) | (rw [if_neg (by decide +kernel)]; exact ⟨rfl, rfl⟩))
    (fun os started H enc _ => lifted os started H enc)
/-- The tied card. -/
theorem holds : Rows.TakeKeepsCardSaid :=
  Claim7.holds_tied_plain_at .later [] [.data, .data] true (true, "90ecb932aa180f2768b6f7eeb0d14302187bc6bdcc666950daeb3c04fa096778") true row_holds (fun _ h => by cases h) (by kernel_rfl) (fun _ h => by cases h) takeKeeps_row_tie rfl ⟨rfl, rfl⟩ (by kernel_rfl) rfl
    (fun f fn hf hfn => by
      obtain rfl : f = 7 := Option.some.inj ((show Tryd.prog.funcNamed "flotsam/flotsamlaw11.TakeKeeps" = some 7 by kernel_rfl).symm.trans hf) |>.symm
      obtain rfl : fn = Tryd.f7 := (Option.some.inj (Tryd.func7.symm.trans hfn)).symm
      exact ⟨by kernel_rfl, fun j t ht => by
        rw [Tryd.params7] at ht
        have hm : t ∈ [25, 26, 3, 3] := by simpa using Array.mem_of_getElem? ht
        have hall : ([25, 26, 3, 3].all fun u => !Tryd.prog.wantsStandIn u) = true := by kernel_rfl
        exact (show Tryd.prog.wantsStandIn t = false by simpa using List.all_eq_true.1 hall t hm)⟩)
    (by kernel_rfl)
#print axioms holds
end TakeKeeps
end Go.Proofs.YtneanbagdkeoiaaDoor
