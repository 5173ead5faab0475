/- MarkExact: begun where all is white, whatever the rooms, and whatever the mutators note of what is reached in the midst: marking is done, and just what is reached from the roots is black. No condition; the table that the code reads is tied to the program's text. -/
import Derived.Test.YtiofeebiejkajaaDoorA48
import Derived.Test.YtiofeebiejkajaaDoorA49
import Derived.Test.YtiofeebiejkajaaDoorA51
import Derived.Test.YtiofeebiejkajaaDoorA25
import Derived.Test.YtiofeebiejkajaaDoorRows
import Derived.Test.YtiofeebiejkajaaDoorCards
import Derived.Test.YtiofeebiejkajaaDoorTie
import Derived.SevenTiedAt
namespace Go.Proofs.YtiofeebiejkajaaDoor
set_option linter.unusedSimpArgs false
set_option linter.unusedVariables false
open Go.ChangeShapes Go.WideShapes Go.ChangeAt Go.RowKit Go.Joins

theorem lit17 (w : World) (t : TypeId) (L : List Int) (hw : ∀ x ∈ L, (Lit.int .i64 x).wf = true) : Ints .i64 (w.alloc (.cells (L.map (Value.int .i64)).toArray t)) (some ⟨w.heap.size, 0, none⟩) L.length fun i => L[i]?.getD 0 := fun i hi => by
  have h := heap_alloc_new w (.cells (L.map (Value.int .i64)).toArray t)
  refine ⟨⟨w.heap.size, 0, rfl, by simp, ?_⟩, hw _ (by show L[i]?.getD 0 ∈ L; rw [List.getElem?_eq_getElem hi]; exact List.getElem_mem hi)⟩
  rw [cell_of_row _ _ _ _ _ _ h, Nat.zero_add]
  simp [List.getElem?_eq_getElem hi, hi]
theorem ints_away {T : Nat → Prop} {W W' : World} {p : Option Addr} {n : Nat} {z : Nat → Int} (h : Ints .i64 W p n z) (ha : Aside T W W') (hT : ∀ g, T g → 0 < n → ∀ b off sp, p = some ⟨b, off, sp⟩ → b ≠ g) : Ints .i64 W' p n z := by
  by_cases h0 : 0 < n
  · exact h.aside ha (fun g hg b off sp e => hT g hg h0 b off sp e)
  · exact fun i hi => by omega
theorem MkI.note {h0 : Hp} {S : List Int} {h : Hp} {m : Mk} (hi : MkI h0 S h m) (hF : formB h0 = true) {i : Nat} (hb : i < m.nb) {a : Int} (ha : Rch h0 S a) : MkI h0 S (noM h m i ⟨2, a⟩).1 (noM h m i ⟨2, a⟩).2 ∧ muM (noM h m i ⟨2, a⟩).1 (noM h m i ⟨2, a⟩).2 ≤ muM h m :=
  ⟨⟨hi.u.note hF hb fun _ _ => ha, hi.l.note hF hb _, no_right (hi.u.pn.form hF) hi.r hb _⟩, no_mu (hi.u.pn.form hF) hb _⟩
set_option maxHeartbeats 16000000 in
set_option maxRecDepth 20000 in
theorem exact17_walk {p : Option Addr} {c : Nat} {q : Option Addr} {d : Nat} {h : Hp} (a1 a2 : Int) (pv : Option Addr) (n1 c1 : Nat) (z1 : Nat → Vl) (pn : Option Addr) (nn cn : Nat) (zn : Nat → Int) (w : World) (hat : HpAt w p c q d h) (b1 : 0 ≤ a1 ∧ a1 < 256) (b2 : 0 ≤ a2 ∧ a2 < 256) (hv : VAt w pv c1 n1 z1) (hno : Ints .u8 w pn nn zn) (hnm : nn ≤ maxLen) (hS : Sz w) :
    Calls Tryd.prog 4 #[.agg #[.slice p h.n c, .slice q h.m d, .bool h.b], .int .u8 a1, .int .u8 a2, .slice pv n1 c1, .slice pn nn cn] w fun e w' => e = .returned (.bool true) ∧ Below w.heap.size w w' := by
  obtain ⟨w0, hw0⟩ : ∃ w0, w0 = w.alloc (.cells #[.slice p h.n c, .slice q h.m d, .bool h.b] 25) := ⟨_, rfl⟩
  have g3 : TBox 25 w.heap.size #[.slice p h.n c, .slice q h.m d, .bool h.b] w0 := by rw [hw0]; exact TBox.new _ _ _
  have hB0 : Below w.heap.size w w0 := by rw [hw0]; exact (Below.refl _ _).alloc (Nat.le_refl _) _
  have hvr : RowE w.heap.size 38 n1 pv w := rowE_old (fun h0 b off sp e => by
    obtain ⟨⟨b1, o1, e1, hl1, -⟩, -⟩ := hv.row 0 h0
    rw [e] at e1
    injection e1 with e1
    injection e1 with e1
    omega) (Nat.le_refl _)
  have hSw := hS
  replace hat := hat.below hB0
  replace hS := hS.below hB0
  replace hv := hv.below hB0
  replace hvr := hvr.below hB0
  have m1 := hv.nle
  simp only [maxLen] at m1 hnm
  have hnr : ∀ b off sp, 0 < nn → pn = some ⟨b, off, sp⟩ → b < w.heap.size := fun b off sp h0 e => by
    obtain ⟨⟨b1, o1, e1, hl1, -⟩, -⟩ := hno 0 h0
    rw [e] at e1
    injection e1 with e1
    injection e1 with e1
    omega
  have hnw : ∀ i, i < nn → 0 ≤ zn i ∧ zn i < 256 := fun i hi => by
    have := (hno i hi).2
    simp [Lit.wf, IntKind.min, IntKind.max, IntKind.signed, IntKind.bits] at this
    omega
  have hFo := fun W (hW : Below w0.heap.size w0 W) => rform_any _ _ _ _ _ W (hat.below hW)
  obtain ⟨l0, x0, x1, x2⟩ : w.heap.size < w0.heap.size ∧ w0.cell? ⟨w.heap.size, 0, none⟩ = some (.slice p h.n c) ∧ w0.cell? ⟨w.heap.size, 1, none⟩ = some (.slice q h.m d) ∧ w0.cell? ⟨w.heap.size, 2, none⟩ = some (.bool h.b) := ⟨g3.lt, g3.cell 0, g3.cell 1, g3.cell 2⟩
  by_cases hgo : formB h = true ∧ apB h = true ∧ h.n ≤ 128 ∧ n1 ≤ 50 ∧ nn ≤ 50
  · obtain ⟨hF, hA, hn, hl, hl2⟩ := hgo
    have hAp := fun W (hW : Below w0.heap.size w0 W) => rapart_any _ _ _ _ _ W (hat.below hW) hF
    rw [hF] at hFo
    rw [hA] at hAp
    have hn32 : 32 ≤ h.n ∧ 0 < h.m := by have := form_iff.1 hF; omega
    have d1 : decide (128 < (h.n : Int)) = false := by simp; omega
    have d2 : decide (50 < (n1 : Int)) = false := by simp; omega
    have d3 : decide (50 < (nn : Int)) = false := by simp; omega
    have hF' : Hid (formB h = true) := hF
    have hA' : Hid (apB h = true) := hA
    clear hF hA
    go_enter Tryd.func4, Tryd.ntmps4
    go_upto_region 1 with fail
    rw [← hw0]
    clear hw0
    go_upto_region 3 with (first
    | (go_at_call 7; refine Calls.mono (awake17_any _ (hS.below (by go_grown))) ?_; rintro e w' ⟨rfl, hb⟩; obtain ⟨hc, hf, hb, hz⟩ := bstep hb (w := w0) (by go_grown); try simp only [World.size_alloc, World.size_setCell, World.size_drew] at hc hf hz)
    | (go_at_call 19; refine Calls.mono (hFo _ (by go_grown)) ?_; rintro e w' ⟨rfl, hb⟩; obtain ⟨hc, hf, hb, hz⟩ := bstep hb (w := w0) (by go_grown); try simp only [World.size_alloc, World.size_setCell, World.size_drew] at hc hf hz)
    | (go_at_call 9; refine Calls.mono (hAp _ (by go_grown)) ?_; rintro e w' ⟨rfl, hb⟩; obtain ⟨hc, hf, hb, hz⟩ := bstep hb (w := w0) (by go_grown); try simp only [World.size_alloc, World.size_setCell, World.size_drew] at hc hf hz)
    )
    have hbW := bjoin hb hB0
    replace g3 := g3.below hb
    have hin := (hat.below hb).in
    replace hS := hS.below hb
    replace hv := hv.below hb
    replace hvr := hvr.below hb
    clear hb hc hf hz x0 x1 x2 l0 hFo hAp hat hB0
    generalize w' = w3 at *
    obtain ⟨l0, x0, x1, x2, f2⟩ : w.heap.size < w3.heap.size ∧ w3.cell? ⟨w.heap.size, 0, none⟩ = some (.slice p h.n c) ∧ w3.cell? ⟨w.heap.size, 1, none⟩ = some (.slice q h.m d) ∧ w3.cell? ⟨w.heap.size, 2, none⟩ = some (.bool h.b) ∧ w3.frozen? ⟨w.heap.size, 2, none⟩ = false := ⟨g3.lt, g3.cell 0, g3.cell 1, g3.cell 2, g3.frozen 2⟩
    go_upto_region 4 with fail
    obtain ⟨w4, hw4⟩ : ∃ W, W = w3.setCell ⟨w.heap.size, 2, none⟩ (.bool !h.b) := ⟨_, rfl⟩
    have hvH := g3.varH
    have g4 : TBox 25 w.heap.size #[.slice p h.n c, .slice q h.m d, .bool !h.b] w4 := by rw [hw4]; exact g3.putsL [.bool !h.b] 2
    have hin4 : HpAt w4 p c q d (fliH h) := by
      rw [hw4]
      obtain ⟨-, -, -, ha⟩ := hpIn_puts (hvH.clear hin hn32.1 hn32.2) [.bool !h.b] 2 hin
      exact ha.fli
    have hv4 : VAt w4 pv c1 n1 z1 := by rw [hw4]; exact hv.setCell (fun h0 b off sp e => hvr.ne hvH (by decide) (Nat.le_refl _) h0 e) 2 (.bool !h.b)
    have hbW4 : Below w.heap.size w w4 := by rw [hw4]; exact hbW.trans (putsL_below (Nat.le_refl w.heap.size) [.bool !h.b] 2 w3)
    rw [← hw4]
    clear hw4 x0 x1 x2 l0 f2 g3 hin hv hvr hvH hbW hS
    have hBl : Calls Tryd.prog 10 #[.agg #[.slice p h.n c, .slice q h.m d, .bool !h.b]] w4 fun e w' => ∃ pl cl, e = .returned (.slice pl (bkL (fliH h)).length cl) ∧ NumRow w4.heap.size (bkL (fliH h)) w' pl cl ∧ Below w4.heap.size w4 w' := rblack15_any p c q d (fliH h) w4 hin4 hF'.out
    obtain ⟨l0, x0, x1, x2⟩ : w.heap.size < w4.heap.size ∧ w4.cell? ⟨w.heap.size, 0, none⟩ = some (.slice p h.n c) ∧ w4.cell? ⟨w.heap.size, 1, none⟩ = some (.slice q h.m d) ∧ w4.cell? ⟨w.heap.size, 2, none⟩ = some (.bool !h.b) := ⟨g4.lt, g4.cell 0, g4.cell 1, g4.cell 2⟩
    by_cases hbk : bkL (fliH h) = []
    · have hwh := white_of (h := fliH h) hF'.out hbk
      rw [hbk] at hBl
      clear hbk
      go_upto_region 6 with (first
    | (go_at_call 10; refine Calls.mono (hBl) ?_; rintro e w' ⟨pl, cl, rfl, -, hb⟩; obtain ⟨hc, hf, hb, hz⟩ := bstep hb (w := w4) (by go_grown); try simp only [World.size_alloc, World.size_setCell, World.size_drew] at hc hf hz)
      )
      have hbW5 := bjoin hb hbW4
      replace g4 := g4.below hb
      replace hin4 := hin4.below hb
      replace hv4 := hv4.below hb
      clear hb hc hf hz x0 x1 x2 l0 hBl hbW4
      generalize w' = w5 at *
      have hz5 : w.heap.size ≤ w5.heap.size := hbW5.size
      obtain ⟨l0, x0, x1, x2⟩ : w.heap.size < w5.heap.size ∧ w5.cell? ⟨w.heap.size, 0, none⟩ = some (.slice p h.n c) ∧ w5.cell? ⟨w.heap.size, 1, none⟩ = some (.slice q h.m d) ∧ w5.cell? ⟨w.heap.size, 2, none⟩ = some (.bool !h.b) := ⟨g4.lt, g4.cell 0, g4.cell 1, g4.cell 2⟩
      have hFr : Calls Tryd.prog 11 #[.agg #[.slice p h.n c, .slice q h.m d, .bool !h.b], .slice pv n1 c1] w5 fun e w' => ∃ pl cl, e = .returned (.slice pl (rcL (fliH h) (vrL z1 n1)).length cl) ∧ NumRow w5.heap.size (rcL (fliH h) (vrL z1 n1)) w' pl cl ∧ Below w5.heap.size w5 w' :=
        rfrom15_any p c q d (fliH h) pv n1 c1 z1 w5 hin4 hF'.out hv4 (by omega)
      have hwR : ∀ x ∈ rcL (fliH h) (vrL z1 n1), Rch (fliH h) (vrL z1 n1) x := fun x hx => (mem_rc (h := fliH h) hF'.out).1 hx
      have hwl : (rcL (fliH h) (vrL z1 n1)).length ≤ h.n := rc_len (h := fliH h) (vrL z1 n1)
      obtain ⟨r1, e1, r10, r11⟩ : ∃ t : Int, a1 % 17 = t ∧ 0 ≤ t ∧ t < 17 := ⟨_, rfl, Int.emod_nonneg _ (by omega), Int.emod_lt_of_pos _ (by omega)⟩
      obtain ⟨r2, e2, r20, r21⟩ : ∃ t : Int, a2 % 9 = t ∧ 0 ≤ t ∧ t < 9 := ⟨_, rfl, Int.emod_nonneg _ (by omega), Int.emod_lt_of_pos _ (by omega)⟩
      have hbr : ∀ i, i < 2 → 0 ≤ ([r2, 2] : List Int)[i]?.getD 0 ∧ ([r2, 2] : List Int)[i]?.getD 0 ≤ 16 := fun i hi => by
        match i, hi with
        | 0, _ => show 0 ≤ r2 ∧ r2 ≤ 16; omega
        | 1, _ => show (0 : Int) ≤ 2 ∧ (2 : Int) ≤ 16; decide
      have hNw : ∀ W, Below w5.heap.size w5 W → Calls Tryd.prog 20 #[.int .i64 r1, .slice (some ⟨W.heap.size, 0, none⟩) 2 2, .slice pv n1 c1] (W.alloc (.cells #[.int .i64 r2, .int .i64 2] 3)) fun e w' => ∃ pg' cg' pb' cb' pr' cr', e = .returned (.tuple #[.agg #[.int .i64 r1, .slice pg' 0 cg', .slice pb' 2 cb', .slice pr' n1 cr', .int .i64 (-1), .int .i64 0, .int .i64 (-1), .bool false], .bool true]) ∧
          MAtE w.heap.size w' (newM r1 2 (fun i => ([r2, 2] : List Int)[i]?.getD 0) n1 z1) pg' cg' pb' cb' pr' cr' ∧ Below (W.alloc (.cells #[.int .i64 r2, .int .i64 2] 3)).heap.size (W.alloc (.cells #[.int .i64 r2, .int .i64 2] 3)) w' := fun W hW => by
        have hWs := hW.size
        have hba : Below W.heap.size W (W.alloc (.cells #[.int .i64 r2, .int .i64 2] 3)) := (Below.refl _ _).alloc (Nat.le_refl _) _
        exact mnew_any w.heap.size r1 (by rw [World.size_alloc]; have := hbW5.size; omega) (lit17 W 3 [r2, 2] (fun x hx => by simp at hx; rcases hx with rfl | rfl <;> exact wf_i64_of (by omega) (by omega))) (by decide) ((hv4.below hW).below hba) (by omega) ⟨r10, by omega⟩ hbr
      have hI0 : MkI (fliH h) (vrL z1 n1) (fliH h) (newM r1 2 (fun i => ([r2, 2] : List Int)[i]?.getD 0) n1 z1) :=
        ⟨new_u (h := fliH h) hF'.out hwh fun i hi hk ho => .root (vrL_mem.2 ⟨i, hi, hk, rfl⟩) ho, new_l (h := fliH h) hF'.out hwh, new_right r10 (by omega) hbr⟩
      have hmu0 := mu_bound (h := fliH h) hF'.out hI0.r
      have hfew : fewM (newM r1 2 (fun i => ([r2, 2] : List Int)[i]?.getD 0) n1 z1) = true := by simp [fewM, newM]; omega
      generalize hWt : rcL (fliH h) (vrL z1 n1) = WT at *
      obtain ⟨kw, hkw⟩ : ∃ k, k = WT.length := ⟨_, rfl⟩
      rw [← hkw] at hFr hwl
      have hkw' : Hid (kw = WT.length) := hkw
      clear hkw
      go_upto_region 7 with (first
    | (go_at_call 11; refine Calls.mono (hFr) ?_; rintro e w' ⟨pw, cw, rfl, hNR, hb⟩; obtain ⟨hc, hf, hb, hz⟩ := bstep hb (w := w5) (by go_grown); try simp only [World.size_alloc, World.size_setCell, World.size_drew] at hc hf hz)
      )
      have hbW6 := bjoin hb hbW5
      replace g4 := g4.below hb
      replace hin4 := hin4.below hb
      have hIw := hNR.ints
      rw [← hkw'.out] at hIw
      have hwlo : ∀ b off sp, pw = some ⟨b, off, sp⟩ → w.heap.size < b := fun b off sp e => by have := hNR.new b off sp e; omega
      have hNw6 := hNw _ hb
      clear hb hc hf hz x0 x1 x2 l0 hFr hNw hbW5 hv4 hNR
      generalize w' = w6 at *
      have hs6 : w.heap.size < w6.heap.size := g4.lt
      go_upto_region 8 with (first
    | (go_at_call 20; refine Calls.mono hNw6 ?_; rintro e wN ⟨pg1, cg1, pb1, cb1, pr1, cr1, rfl, hM, hbN⟩)
      )
      obtain ⟨w7, hw7⟩ : ∃ W, W = wN.alloc (.cells #[.int .i64 r1, .slice pg1 0 cg1, .slice pb1 2 cb1, .slice pr1 n1 cr1, .int .i64 (-1), .int .i64 0, .int .i64 (-1), .bool false] 32) := ⟨_, rfl⟩
      have gM : TBox 32 wN.heap.size #[.int .i64 r1, .slice pg1 0 cg1, .slice pb1 2 cb1, .slice pr1 n1 cr1, .int .i64 (-1), .int .i64 0, .int .i64 (-1), .bool false] w7 := by rw [hw7]; exact TBox.new _ _ _
      have hb7 : Below wN.heap.size wN w7 := by rw [hw7]; exact (Below.refl _ _).alloc (Nat.le_refl _) _
      rw [← hw7]
      clear hw7 hNw6
      have hb67 : Below w6.heap.size w6 w7 := bjoin hb7 (bjoin hbN ((Below.refl _ _).alloc (Nat.le_refl _) _))
      have hbW7 := bjoin hb67 hbW6
      replace g4 := g4.below hb67
      replace hin4 := hin4.below hb67
      replace hM := hM.below hb7
      have hBM : w6.heap.size ≤ wN.heap.size := by have := hbN.size; rw [World.size_alloc] at this; omega
      have hwhi : ∀ b off sp, 0 < kw → pw = some ⟨b, off, sp⟩ → b < wN.heap.size := fun b off sp h0 e => by
        obtain ⟨⟨b1, o1, e1, hl1, -⟩, -⟩ := hIw 0 h0
        rw [e] at e1
        injection e1 with e1
        injection e1 with e1
        omega
      replace hIw := hIw.below hb67
      have hBM0 : w.heap.size < wN.heap.size := by omega
      clear hb7 hb67 hbN hbW6 hBM
      generalize wN.heap.size = BM at *
      obtain ⟨l0, x0, x1, x2⟩ : w.heap.size < w7.heap.size ∧ w7.cell? ⟨w.heap.size, 0, none⟩ = some (.slice p h.n c) ∧ w7.cell? ⟨w.heap.size, 1, none⟩ = some (.slice q h.m d) ∧ w7.cell? ⟨w.heap.size, 2, none⟩ = some (.bool !h.b) := ⟨g4.lt, g4.cell 0, g4.cell 1, g4.cell 2⟩
      obtain ⟨l8, y0, y1, y2, y3, y4, y5, y6, y7⟩ := mk_cells gM
      have hBd : ∀ W, Below w7.heap.size w7 W → Calls Tryd.prog 12 #[.agg #[.slice p h.n c, .slice q h.m d, .bool !h.b], .agg #[.int .i64 r1, .slice pg1 0 cg1, .slice pb1 2 cb1, .slice pr1 n1 cr1, .int .i64 (-1), .int .i64 0, .int .i64 (-1), .bool false]] W fun e w' => e = .returned (.int .i64 (boM (fliH h) (newM r1 2 (fun i => ([r2, 2] : List Int)[i]?.getD 0) n1 z1) : Int)) ∧ Below W.heap.size W w' := fun W hW =>
        rbound17_any p c q d (fliH h) (newM r1 2 (fun i => ([r2, 2] : List Int)[i]?.getD 0) n1 z1) pg1 cg1 pb1 cb1 pr1 cr1 W (hin4.below hW) hF'.out (hM.b.plain.below grC_below hW) hfew
      have hboB : boM (fliH h) (newM r1 2 (fun i => ([r2, 2] : List Int)[i]?.getD 0) n1 z1) ≤ 5000000 := by
        have h1 := obL_len (fliH h) (fliH h).n
        have hf5 := form_iff.1 hF'.out
        have : nOb (fliH h) ≤ 512 := by show (obL (fliH h) (fliH h).n).length ≤ 512; have : (fliH h).n = h.n := rfl; omega
        have h2 : (nOb (fliH h) + 3) * (17 * nOb (fliH h) + 8) ≤ 515 * 8712 := Nat.mul_le_mul (by omega) (by omega)
        show (nOb (fliH h) + 3) * (17 * nOb (fliH h) + 8) + n1 + 17 * (0 + (0 + 0 + 0)) + 20 ≤ 5000000
        omega
      generalize boM (fliH h) (newM r1 2 (fun i => ([r2, 2] : List Int)[i]?.getD 0) n1 z1) = BO at *
      go_upto_region 10 with fail
      have g47 := g4
      have gM7 := gM
      refine wp_late (ds := [some 73, some 74, some 75, some 76, some 77, some 78, some 79, some 80, some 81, some 14]) (ts := [73, 74, 75, 76, 77, 78, 79, 80, 81, 14]) (pv := [(fun v _ => v = .agg #[.slice p h.n c, .slice q h.m d, .bool !h.b]), (fun v _ => v = .agg #[.int .i64 r1, .slice pg1 0 cg1, .slice pb1 2 cb1, .slice pr1 n1 cr1, .int .i64 (-1), .int .i64 0, .int .i64 (-1), .bool false]), (fun v _ => v = .int .i64 (BO : Int)), (fun v _ => v = .pointer (some ⟨w.heap.size, 0, none⟩)), (fun v _ => v = .slice p h.n c), (fun v _ => v = .int .i64 (h.n : Int)), (fun v _ => v = .int .i64 ((h.n : Int) + 40)), (fun v _ => v = .int .i64 (60 * ((h.n : Int) + 40))), (fun v _ => v = .int .i64 ((BO : Int) + 60 * ((h.n : Int) + 40))), (fun v _ => v = .int .i64 ((BO : Int) + 60 * ((h.n : Int) + 40)))]) (skip := fun i => ([] : List Nat).contains i) (ia := 1000) (is := 1000) (k := 82) (Shape := (fun _ _ => True)) (Full := (fun _ _ => True)) (by kernel_rfl) (by kernel_rfl) rfl rfl (by decide) (by decide) (by simp) ?_ (by decide) (fun _ _ _ _ _ => trivial) (fun _ _ _ _ _ => trivial) ?_ ?_ ?_ ?_
      · exact .inl rfl
      · exact ⟨fun _ _ _ h _ => h, fun _ _ _ h _ => h, fun _ _ _ h _ => h, fun _ _ _ h _ => h, fun _ _ _ h _ => h, fun _ _ _ h _ => h, fun _ _ _ h _ => h, fun _ _ _ h _ => h, fun _ _ _ h _ => h, fun _ _ _ h _ => h, trivial⟩
      · exact ⟨rfl, rfl, rfl, rfl, rfl, rfl, rfl, rfl, rfl, rfl, trivial⟩
      · refine ⟨?_, ?_, ?_, ?_, ?_, ?_, ?_, ?_, ?_, ?_, trivial⟩
        · intro _ a' w' hb' hs hd hn Kc hK
          have f5 : a'.tmps[5]?.getD undef = .pointer (some ⟨w.heap.size, 0, none⟩) := (hs 5 (by decide)).trans rfl
          clear hs hd hn
          rw [if_neg (by decide), if_neg (by decide)] at hK
          have g4b := g47.below hb'
          obtain ⟨lB, k0, k1, k2⟩ : w.heap.size < w'.heap.size ∧ w'.cell? ⟨w.heap.size, 0, none⟩ = some (.slice p h.n c) ∧ w'.cell? ⟨w.heap.size, 1, none⟩ = some (.slice q h.m d) ∧ w'.cell? ⟨w.heap.size, 2, none⟩ = some (.bool !h.b) := ⟨g4b.lt, g4b.cell 0, g4b.cell 1, g4b.cell 2⟩
          obtain ⟨lM', j0, j1, j2, j3, j4, j5, j6, j7⟩ := mk_cells (gM7.below hb')
          unfold Oper.wp
          go_simp
          try go_bits
          exact hK _ _ (Below.refl _ _) (by first | rfl | (show Value.int _ _ = Value.int _ _; go_num; done) | (simp [valOf, *]; done) | (simp [valOf]; omega))
        · intro _ a' w' hb' hs hd hn Kc hK
          have f12 : a'.tmps[12]?.getD undef = .pointer (some ⟨BM, 0, none⟩) := (hs 12 (by decide)).trans rfl
          clear hs hd hn
          rw [if_neg (by decide), if_neg (by decide)] at hK
          have g4b := g47.below hb'
          obtain ⟨lB, k0, k1, k2⟩ : w.heap.size < w'.heap.size ∧ w'.cell? ⟨w.heap.size, 0, none⟩ = some (.slice p h.n c) ∧ w'.cell? ⟨w.heap.size, 1, none⟩ = some (.slice q h.m d) ∧ w'.cell? ⟨w.heap.size, 2, none⟩ = some (.bool !h.b) := ⟨g4b.lt, g4b.cell 0, g4b.cell 1, g4b.cell 2⟩
          obtain ⟨lM', j0, j1, j2, j3, j4, j5, j6, j7⟩ := mk_cells (gM7.below hb')
          unfold Oper.wp
          go_simp
          try go_bits
          exact hK _ _ (Below.refl _ _) (by first | rfl | (show Value.int _ _ = Value.int _ _; go_num; done) | (simp [valOf, *]; done) | (simp [valOf]; omega))
        · intro _ a' w' hb' hs hd hn Kc hK
          have f73 : a'.tmps[73]?.getD undef = .agg #[.slice p h.n c, .slice q h.m d, .bool !h.b] := hd 0 73 (by first | rfl | decide | simp [Region.binds]) rfl (by decide) (by decide) rfl
          have f74 : a'.tmps[74]?.getD undef = .agg #[.int .i64 r1, .slice pg1 0 cg1, .slice pb1 2 cb1, .slice pr1 n1 cr1, .int .i64 (-1), .int .i64 0, .int .i64 (-1), .bool false] := hd 1 74 (by first | rfl | decide | simp [Region.binds]) rfl (by decide) (by decide) rfl
          clear hs hd hn
          rw [if_neg (by decide), if_neg (by decide)] at hK
          have g4b := g47.below hb'
          obtain ⟨lB, k0, k1, k2⟩ : w.heap.size < w'.heap.size ∧ w'.cell? ⟨w.heap.size, 0, none⟩ = some (.slice p h.n c) ∧ w'.cell? ⟨w.heap.size, 1, none⟩ = some (.slice q h.m d) ∧ w'.cell? ⟨w.heap.size, 2, none⟩ = some (.bool !h.b) := ⟨g4b.lt, g4b.cell 0, g4b.cell 1, g4b.cell 2⟩
          obtain ⟨lM', j0, j1, j2, j3, j4, j5, j6, j7⟩ := mk_cells (gM7.below hb')
          unfold Oper.wp
          go_simp
          try go_bits
          refine Calls.mono (hBd _ hb') ?_
          rintro e w'' ⟨rfl, hb2⟩
          exact hK _ _ hb2 rfl
        · intro _ a' w' hb' hs hd hn Kc hK
          have f5 : a'.tmps[5]?.getD undef = .pointer (some ⟨w.heap.size, 0, none⟩) := (hs 5 (by decide)).trans rfl
          clear hs hd hn
          rw [if_neg (by decide), if_neg (by decide)] at hK
          have g4b := g47.below hb'
          obtain ⟨lB, k0, k1, k2⟩ : w.heap.size < w'.heap.size ∧ w'.cell? ⟨w.heap.size, 0, none⟩ = some (.slice p h.n c) ∧ w'.cell? ⟨w.heap.size, 1, none⟩ = some (.slice q h.m d) ∧ w'.cell? ⟨w.heap.size, 2, none⟩ = some (.bool !h.b) := ⟨g4b.lt, g4b.cell 0, g4b.cell 1, g4b.cell 2⟩
          obtain ⟨lM', j0, j1, j2, j3, j4, j5, j6, j7⟩ := mk_cells (gM7.below hb')
          unfold Oper.wp
          go_simp
          try go_bits
          exact hK _ _ (Below.refl _ _) (by first | rfl | (show Value.int _ _ = Value.int _ _; go_num; done) | (simp [valOf, *]; done) | (simp [valOf]; omega))
        · intro _ a' w' hb' hs hd hn Kc hK
          have f76 : a'.tmps[76]?.getD undef = .pointer (some ⟨w.heap.size, 0, none⟩) := hd 3 76 (by first | rfl | decide | simp [Region.binds]) rfl (by decide) (by decide) rfl
          clear hs hd hn
          rw [if_neg (by decide), if_neg (by decide)] at hK
          have g4b := g47.below hb'
          obtain ⟨lB, k0, k1, k2⟩ : w.heap.size < w'.heap.size ∧ w'.cell? ⟨w.heap.size, 0, none⟩ = some (.slice p h.n c) ∧ w'.cell? ⟨w.heap.size, 1, none⟩ = some (.slice q h.m d) ∧ w'.cell? ⟨w.heap.size, 2, none⟩ = some (.bool !h.b) := ⟨g4b.lt, g4b.cell 0, g4b.cell 1, g4b.cell 2⟩
          obtain ⟨lM', j0, j1, j2, j3, j4, j5, j6, j7⟩ := mk_cells (gM7.below hb')
          unfold Oper.wp
          go_simp
          try go_bits
          exact hK _ _ (Below.refl _ _) (by first | rfl | (show Value.int _ _ = Value.int _ _; go_num; done) | (simp [valOf, *]; done) | (simp [valOf]; omega))
        · intro _ a' w' hb' hs hd hn Kc hK
          have f77 : a'.tmps[77]?.getD undef = .slice p h.n c := hd 4 77 (by first | rfl | decide | simp [Region.binds]) rfl (by decide) (by decide) rfl
          clear hs hd hn
          rw [if_neg (by decide), if_neg (by decide)] at hK
          have g4b := g47.below hb'
          obtain ⟨lB, k0, k1, k2⟩ : w.heap.size < w'.heap.size ∧ w'.cell? ⟨w.heap.size, 0, none⟩ = some (.slice p h.n c) ∧ w'.cell? ⟨w.heap.size, 1, none⟩ = some (.slice q h.m d) ∧ w'.cell? ⟨w.heap.size, 2, none⟩ = some (.bool !h.b) := ⟨g4b.lt, g4b.cell 0, g4b.cell 1, g4b.cell 2⟩
          obtain ⟨lM', j0, j1, j2, j3, j4, j5, j6, j7⟩ := mk_cells (gM7.below hb')
          unfold Oper.wp
          go_simp
          try go_bits
          exact hK _ _ (Below.refl _ _) (by first | rfl | (show Value.int _ _ = Value.int _ _; go_num; done) | (simp [valOf, *]; done) | (simp [valOf]; omega))
        · intro _ a' w' hb' hs hd hn Kc hK
          have f78 : a'.tmps[78]?.getD undef = .int .i64 (h.n : Int) := hd 5 78 (by first | rfl | decide | simp [Region.binds]) rfl (by decide) (by decide) rfl
          clear hs hd hn
          rw [if_neg (by decide), if_neg (by decide)] at hK
          have g4b := g47.below hb'
          obtain ⟨lB, k0, k1, k2⟩ : w.heap.size < w'.heap.size ∧ w'.cell? ⟨w.heap.size, 0, none⟩ = some (.slice p h.n c) ∧ w'.cell? ⟨w.heap.size, 1, none⟩ = some (.slice q h.m d) ∧ w'.cell? ⟨w.heap.size, 2, none⟩ = some (.bool !h.b) := ⟨g4b.lt, g4b.cell 0, g4b.cell 1, g4b.cell 2⟩
          obtain ⟨lM', j0, j1, j2, j3, j4, j5, j6, j7⟩ := mk_cells (gM7.below hb')
          unfold Oper.wp
          go_simp
          try go_bits
          exact hK _ _ (Below.refl _ _) (by first | rfl | (show Value.int _ _ = Value.int _ _; go_num; done) | (simp [valOf, *]; done) | (simp [valOf]; omega))
        · intro _ a' w' hb' hs hd hn Kc hK
          have f79 : a'.tmps[79]?.getD undef = .int .i64 ((h.n : Int) + 40) := hd 6 79 (by first | rfl | decide | simp [Region.binds]) rfl (by decide) (by decide) rfl
          clear hs hd hn
          rw [if_neg (by decide), if_neg (by decide)] at hK
          have g4b := g47.below hb'
          obtain ⟨lB, k0, k1, k2⟩ : w.heap.size < w'.heap.size ∧ w'.cell? ⟨w.heap.size, 0, none⟩ = some (.slice p h.n c) ∧ w'.cell? ⟨w.heap.size, 1, none⟩ = some (.slice q h.m d) ∧ w'.cell? ⟨w.heap.size, 2, none⟩ = some (.bool !h.b) := ⟨g4b.lt, g4b.cell 0, g4b.cell 1, g4b.cell 2⟩
          obtain ⟨lM', j0, j1, j2, j3, j4, j5, j6, j7⟩ := mk_cells (gM7.below hb')
          unfold Oper.wp
          go_simp
          try go_bits
          exact hK _ _ (Below.refl _ _) (by first | rfl | (show Value.int _ _ = Value.int _ _; go_num; done) | (simp [valOf, *]; done) | (simp [valOf]; omega))
        · intro _ a' w' hb' hs hd hn Kc hK
          have f75 : a'.tmps[75]?.getD undef = .int .i64 (BO : Int) := hd 2 75 (by first | rfl | decide | simp [Region.binds]) rfl (by decide) (by decide) rfl
          have f80 : a'.tmps[80]?.getD undef = .int .i64 (60 * ((h.n : Int) + 40)) := hd 7 80 (by first | rfl | decide | simp [Region.binds]) rfl (by decide) (by decide) rfl
          clear hs hd hn
          rw [if_neg (by decide), if_neg (by decide)] at hK
          have g4b := g47.below hb'
          obtain ⟨lB, k0, k1, k2⟩ : w.heap.size < w'.heap.size ∧ w'.cell? ⟨w.heap.size, 0, none⟩ = some (.slice p h.n c) ∧ w'.cell? ⟨w.heap.size, 1, none⟩ = some (.slice q h.m d) ∧ w'.cell? ⟨w.heap.size, 2, none⟩ = some (.bool !h.b) := ⟨g4b.lt, g4b.cell 0, g4b.cell 1, g4b.cell 2⟩
          obtain ⟨lM', j0, j1, j2, j3, j4, j5, j6, j7⟩ := mk_cells (gM7.below hb')
          unfold Oper.wp
          go_simp
          try go_bits
          exact hK _ _ (Below.refl _ _) (by first | rfl | (show Value.int _ _ = Value.int _ _; go_num; done) | (simp [valOf, *]; done) | (simp [valOf]; omega))
        · intro _ a' w' hb' hs hd hn Kc hK
          have f81 : a'.tmps[81]?.getD undef = .int .i64 ((BO : Int) + 60 * ((h.n : Int) + 40)) := hd 8 81 (by first | rfl | decide | simp [Region.binds]) rfl (by decide) (by decide) rfl
          clear hs hd hn
          rw [if_neg (by decide), if_neg (by decide)] at hK
          have g4b := g47.below hb'
          obtain ⟨lB, k0, k1, k2⟩ : w.heap.size < w'.heap.size ∧ w'.cell? ⟨w.heap.size, 0, none⟩ = some (.slice p h.n c) ∧ w'.cell? ⟨w.heap.size, 1, none⟩ = some (.slice q h.m d) ∧ w'.cell? ⟨w.heap.size, 2, none⟩ = some (.bool !h.b) := ⟨g4b.lt, g4b.cell 0, g4b.cell 1, g4b.cell 2⟩
          obtain ⟨lM', j0, j1, j2, j3, j4, j5, j6, j7⟩ := mk_cells (gM7.below hb')
          unfold Oper.wp
          go_simp
          try go_bits
          exact hK _ _ (Below.refl _ _) (by first | rfl | (show Value.int _ _ = Value.int _ _; go_num; done) | (simp [valOf, *]; done) | (simp [valOf]; omega))
      intro Xf g w' hX hb hv
      have q14 : Xf 14 = .int .i64 ((BO : Int) + 60 * ((h.n : Int) + 40)) := hv 9 14 rfl rfl (by decide) (by decide)
      clear hX hv
      simp only [List.map_cons, List.map_nil, q14, puts, Act.put, Nat.reduceAdd, List.setIfInBounds_toArray, List.set_cons_succ, List.set_cons_zero]
      have hbW8 := bjoin hb hbW7
      replace g4 := g4.below hb
      replace gM := gM.below hb
      replace hin4 := hin4.below hb
      replace hM := hM.below hb
      replace hIw := hIw.below hb
      clear hb x0 x1 x2 l0 l8 y0 y1 y2 y3 y4 y5 y6 y7 hBd hbW7 g47 gM7
      generalize w' = w8 at *
      have hnoL := hno
      have hBN : Hid ((BO : Int) + 60 * ((h.n : Int) + 40) = ((BO + 60 * (h.n + 40) : Nat) : Int)) := by
        show (BO : Int) + 60 * ((h.n : Int) + 40) = ((BO + 60 * (h.n + 40) : Nat) : Int)
        push_cast; omega
      rw [hBN.out]
      have hBN2 : BO + 50 ≤ BO + 60 * (h.n + 40) := by omega
      have hBN3 : BO + 60 * (h.n + 40) ≤ 6000000 := by omega
      clear hBN
      generalize BO + 60 * (h.n + 40) = BN at *
      go_wp2
      go_loopg [15] (BN + 1) (fun g iv wr => ∃ (i : Nat) (H : Hp) (M : Mk) (p : Option Addr) (c : Nat) (q : Option Addr) (d : Nat) (pg : Option Addr) (cg : Nat) (pb : Option Addr) (cb : Nat) (pr : Option Addr) (cr : Nat), g = BN + 1 - i ∧ iv = .int .i64 i ∧ muM H M + ((i - nn : Nat) : Int) ≤ BO ∧ MkI (fliH h) (vrL z1 n1) H M ∧ M.nb = 2 ∧ M.nr ≤ 50 ∧
        TBox 25 w.heap.size #[.slice p h.n c, .slice q h.m d, .bool !h.b] wr ∧ TBox 32 BM #[.int .i64 M.g.r, .slice pg M.g.n cg, .slice pb M.nb cb, .slice pr M.nr cr, .int .i64 M.ob, .int .i64 M.fi, .int .i64 M.cu, .bool M.ov] wr ∧
        HpIn wr p h.n c q h.m d (!h.b) H ∧ MAtE w.heap.size wr M pg cg pb cb pr cr ∧ (Ints .i64 wr pw kw fun i => WT[i]?.getD 0) ∧ Below w.heap.size w wr)
      case atStart => exact ⟨0, fliH h, newM r1 2 (fun i => ([r2, 2] : List Int)[i]?.getD 0) n1 z1, p, c, q, d, pg1, cg1, pb1, cb1, pr1, cr1, by omega, rfl, by simpa using hmu0, hI0, rfl, hl, g4, gM, ⟨rfl, rfl, rfl, hin4⟩, hM, hIw, hbW8⟩
      case round =>
        clear g4 gM hin4 hM hIw hbW8 hI0 hmu0 hfew
        obtain ⟨i, H, M, p, c, q, d, pg, cg, pb, cb, pr, cr, rfl, rfl, hmu, hI, hnb, hmr, gH, gM, hh, hM, hIw, hbw⟩ := hrel
        have hmn := mu_nonneg hI.r
        have hle : i ≤ BN := by omega
        have hsz := hbw.size
        have hgH : w.heap.size < BM := hBM0
        rcases (show (i < nn ∧ 0 < kw) ∨ nn ≤ i ∨ (i < nn ∧ kw = 0) by omega) with ⟨hi1, hi2⟩ | hi1 | ⟨hi1, hi2⟩
        case' inl =>
          obtain ⟨⟨bn, on, rfl, hln, vn⟩, -⟩ := (hno.below hbw) i hi1
          obtain ⟨hz0, hz1⟩ := hnw i hi1
          obtain ⟨t, et, et0, et1⟩ : ∃ t : Int, zn i % (kw : Int) = t ∧ 0 ≤ t ∧ t < kw := ⟨_, rfl, Int.emod_nonneg _ (by omega), Int.emod_lt_of_pos _ (by omega)⟩
          obtain ⟨⟨bw, ow, rfl, hlw, vw⟩, hww⟩ := hIw t.toNat (by omega)
          dsimp only at vw hww
          have ha := hwR (WT[t.toNat]?.getD 0) (by rw [List.getElem?_eq_getElem (show t.toNat < WT.length by rw [← hkw'.out]; omega)]; exact List.getElem_mem _)
          have hNt : ∀ W, Below wr.heap.size wr W → Calls Tryd.prog 21 #[.agg #[.slice p h.n c, .slice q h.m d, .bool !h.b], .agg #[.int .i64 M.g.r, .slice pg M.g.n cg, .slice pb M.nb cb, .slice pr M.nr cr, .int .i64 M.ob, .int .i64 M.fi, .int .i64 M.cu, .bool M.ov], .int .i64 ((i : Int) % 2), .agg #[.int .i64 2, .int .i64 (WT[t.toNat]?.getD 0)]] W fun e w' => ∃ p' c' q' d' pg' cg' pb' cb' pr' cr', e = .returned (.tuple #[.agg #[.slice p' h.n c', .slice q' h.m d', .bool !h.b],
              .agg #[.int .i64 (noM H M (i % 2) ⟨2, WT[t.toNat]?.getD 0⟩).2.g.r, .slice pg' (noM H M (i % 2) ⟨2, WT[t.toNat]?.getD 0⟩).2.g.n cg', .slice pb' (noM H M (i % 2) ⟨2, WT[t.toNat]?.getD 0⟩).2.nb cb', .slice pr' (noM H M (i % 2) ⟨2, WT[t.toNat]?.getD 0⟩).2.nr cr', .int .i64 (noM H M (i % 2) ⟨2, WT[t.toNat]?.getD 0⟩).2.ob, .int .i64 (noM H M (i % 2) ⟨2, WT[t.toNat]?.getD 0⟩).2.fi, .int .i64 (noM H M (i % 2) ⟨2, WT[t.toNat]?.getD 0⟩).2.cu, .bool (noM H M (i % 2) ⟨2, WT[t.toNat]?.getD 0⟩).2.ov]]) ∧
              HpIn w' p' h.n c' q' h.m d' (!h.b) (noM H M (i % 2) ⟨2, WT[t.toNat]?.getD 0⟩).1 ∧ MAtE w.heap.size w' (noM H M (i % 2) ⟨2, WT[t.toNat]?.getD 0⟩).2 pg' cg' pb' cb' pr' cr' ∧ Below W.heap.size W w' := fun W hW => by
            have := mnote_in (i := i % 2) (v := ⟨2, WT[t.toNat]?.getD 0⟩) w.heap.size (hSw.below (bjoin hW hbw)) (hh.below hW) (hI.form (h0 := fliH h) hF'.out) (hM.below hW) (by have := hW.size; omega) hI.r (by omega) (show Vl.wf ⟨2, WT[t.toNat]?.getD 0⟩ from ⟨(by decide : (Lit.int .i64 2).wf = true), hww⟩) (by omega) (by omega)
            rw [show ((i % 2 : Nat) : Int) = (i : Int) % 2 by omega] at this
            exact this
          obtain ⟨hI2, hmu2⟩ := hI.note (h0 := fliH h) hF'.out (show i % 2 < M.nb by omega) ha
          have hn2 : (noM H M (i % 2) ⟨2, WT[t.toNat]?.getD 0⟩).2.nb = 2 ∧ (noM H M (i % 2) ⟨2, WT[t.toNat]?.getD 0⟩).2.nr ≤ 50 := ⟨hnb, hmr⟩
          have hnb2 : ((M.nb : Int) == 2) = true := by simp [hnb]
          have hmu3 : Hid (muM (noM H M (i % 2) ⟨2, WT[t.toNat]?.getD 0⟩).1 (noM H M (i % 2) ⟨2, WT[t.toNat]?.getD 0⟩).2 + ((i - nn : Nat) : Int) ≤ BO) := by
            show muM (noM H M (i % 2) ⟨2, WT[t.toNat]?.getD 0⟩).1 (noM H M (i % 2) ⟨2, WT[t.toNat]?.getD 0⟩).2 + ((i - nn : Nat) : Int) ≤ BO
            omega
          have hn2' : Hid ((noM H M (i % 2) ⟨2, WT[t.toNat]?.getD 0⟩).2.nb = 2) := hn2.1
          have hn3' : (noM H M (i % 2) ⟨2, WT[t.toNat]?.getD 0⟩).2.nr ≤ 50 := hn2.2
          have hwne : ∀ g, (g = w.heap.size ∨ g = BM) → ∀ b off sp, some (⟨bw, ow, none⟩ : Addr) = some ⟨b, off, sp⟩ → b ≠ g := fun g hg b off sp e => by
            have h1 := hwlo b off sp e
            have h2 := hwhi b off sp hi2 e
            omega
          clear hI hmu hmu2 hnb hn2 ha hh hM
          generalize (noM H M (i % 2) ⟨2, WT[t.toNat]?.getD 0⟩).1 = H2 at *
          generalize (noM H M (i % 2) ⟨2, WT[t.toNat]?.getD 0⟩).2 = M2 at *
          generalize WT[t.toNat]?.getD 0 = a at *
          generalize zn i = zi at *
          have hwz : IntKind.i64.wrap zi = zi := by rw [IntKind.wrap_i64]; omega
          have hwt : IntKind.i64.wrap t = t := by rw [IntKind.wrap_i64]; omega
          have htm : zi.tmod (kw : Int) = t := by rw [Int.tmod_eq_emod_of_nonneg hz0, et]
          have hWe : ¬ kw = 0 := by omega
          have hHS : HmS 25 w.heap.size 32 BM wr := ⟨gH.varH, gM.varM⟩
          have gHw := gH
          have gMw := gM
          obtain ⟨l0, x0, x1, x2⟩ : w.heap.size < wr.heap.size ∧ wr.cell? ⟨w.heap.size, 0, none⟩ = some (.slice p h.n c) ∧ wr.cell? ⟨w.heap.size, 1, none⟩ = some (.slice q h.m d) ∧ wr.cell? ⟨w.heap.size, 2, none⟩ = some (.bool !h.b) := ⟨gH.lt, gH.cell 0, gH.cell 1, gH.cell 2⟩
          obtain ⟨l8, y0, y1, y2, y3, y4, y5, y6, y7⟩ := mk_cells gM
          go_upto_region 15 with fail
          clear l0 x0 x1 x2 l8 y0 y1 y2 y3 y4 y5 y6 y7 hnb2
          refine wp_two_pv (fun k => k = (w.heap.size) ∨ k = (BM)) (HmS (25) (w.heap.size) (32) (BM)) 16 [0, 1, 2, 3, 4, 5, 6, 7, 8, 9, 10, 11, 12, 13, 14, 15] [16, 16, 3, 16, 13, 7, 7, 8, 9, 12, 11, 12, 13, 14, 15, 16, 0, 0, 0, 0, 0, 0] [17, 18, 19, 20, 21] [0, 0, 0, 0, 0, 0, 0, 0, 0, 0, 0, 0, 0, 0, 0, 0, 0, 16, 17, 17, 18, 19] [some 103, some 104, some 105, some 106, some 107, some 108, some 109, some 110, some 111, some 112, some 113, some 114, some 115, some 116, some 117, some 118, some 119, some 102, some 120, some 121, none, none] [103, 104, 105, 106, 107, 108, 109, 110, 111, 112, 113, 114, 115, 116, 117, 118, 119, 102, 120, 121] ([(fun v _ => v = .agg #[.slice p h.n c, .slice q h.m d, .bool !h.b]), (fun v _ => v = .agg #[.int .i64 M.g.r, .slice pg M.g.n cg, .slice pb M.nb cb, .slice pr M.nr cr, .int .i64 M.ob, .int .i64 M.fi, .int .i64 M.cu, .bool M.ov]), (fun v _ => v = .int .i64 (i : Int)), (fun v _ => v = .int .i64 ((i : Int) % 2)), (fun v _ => v = .slice (some ⟨bw, ow, none⟩) kw cw), (fun v _ => v = .slice (some ⟨bn, on, none⟩) nn cn), (fun v _ => v = .int .i64 (i : Int)), (fun v _ => v = .pointer (some ⟨bn, on + i, none⟩)), (fun v _ => v = .int .u8 zi), (fun v _ => v = .int .i64 zi), (fun v _ => v = .slice (some ⟨bw, ow, none⟩) kw cw), (fun v _ => v = .int .i64 (kw : Int)), (fun v _ => v = .int .i64 t), (fun v _ => v = .pointer (some ⟨bw, ow + t.toNat, none⟩)), (fun v _ => v = .int .i64 a), (fun v _ => v = .agg #[.int .i64 2, .int .i64 a]), (HmT (h.n) (h.m) (!h.b) (H2) (w.heap.size) (M2)), (HmT (h.n) (h.m) (!h.b) (H2) (w.heap.size) (M2)), (HpV (h.n) (h.m) (!h.b) (H2)), (MkV (w.heap.size) (M2)), (fun _ wQ => FullHT (25) (h.n) (h.m) (!h.b) (H2) (w.heap.size) wQ), (fun _ wQ => FullME (32) (w.heap.size) (M2) (BM) wQ)] : List (Value → World → Prop)) 122 (by kernel_rfl) (by kernel_rfl) rfl rfl (by decide) (by decide) (by simp) (by kernel_rfl) (by decide) (by kernel_rfl) ⟨fun _ _ _ h _ => h, fun _ _ _ h _ => h, fun _ _ _ h _ => h, fun _ _ _ h _ => h, fun _ _ _ h _ => h, fun _ _ _ h _ => h, fun _ _ _ h _ => h, fun _ _ _ h _ => h, fun _ _ _ h _ => h, fun _ _ _ h _ => h, fun _ _ _ h _ => h, fun _ _ _ h _ => h, fun _ _ _ h _ => h, fun _ _ _ h _ => h, fun _ _ _ h _ => h, fun _ _ _ h _ => h, fun _ _ _ h hb => h.below hb, fun _ _ _ h hb => h.below hb, fun _ _ _ h hb => h.below hb, fun _ _ _ h hb => h.below hb, fun _ _ _ h hb => h.below hb, fun _ _ _ h hb => h.below hb, trivial⟩ (hHS) (fun _ _ h hb => h.below hb) ?_ ?_
          · refine ⟨?_, ?_, ?_, ?_, ?_, ?_, ?_, ?_, ?_, ?_, ?_, ?_, ?_, ?_, ?_, ?_, ?_, ?_, ?_, ?_, ?_, ?_, trivial⟩
            · unfold twoStep
              rw [if_pos (by decide)]
              intro a' w' hb' hs hd Kc hK
              have f5 : a'.tmps[5]?.getD undef = .pointer (some ⟨w.heap.size, 0, none⟩) := (hs 5 (by decide)).trans rfl
              clear hs hd
              have vn' : w'.cell? ⟨bn, on + i, none⟩ = some (.int .u8 zi) := (hb'.cell (p := ⟨bn, on + i, none⟩) hln).trans vn
              have vw' : w'.cell? ⟨bw, ow + t.toNat, none⟩ = some (.int .i64 a) := (hb'.cell (p := ⟨bw, ow + t.toNat, none⟩) hlw).trans vw
              have gHb := gHw.below hb'
              obtain ⟨lB, k0, k1, k2⟩ : w.heap.size < w'.heap.size ∧ w'.cell? ⟨w.heap.size, 0, none⟩ = some (.slice p h.n c) ∧ w'.cell? ⟨w.heap.size, 1, none⟩ = some (.slice q h.m d) ∧ w'.cell? ⟨w.heap.size, 2, none⟩ = some (.bool !h.b) := ⟨gHb.lt, gHb.cell 0, gHb.cell 1, gHb.cell 2⟩
              obtain ⟨lM', j0, j1, j2, j3, j4, j5, j6, j7⟩ := mk_cells (gMw.below hb')
              clear gHb
              unfold Oper.wp
              go_simp
              exact hK _ _ (Below.refl _ _) (by first | rfl | (show Value.int _ _ = Value.int _ _; go_num; done) | (simp [valOf, *]; done) | (simp [valOf]; omega))
            · unfold twoStep
              rw [if_pos (by decide)]
              intro a' w' hb' hs hd Kc hK
              have f12 : a'.tmps[12]?.getD undef = .pointer (some ⟨BM, 0, none⟩) := (hs 12 (by decide)).trans rfl
              clear hs hd
              have vn' : w'.cell? ⟨bn, on + i, none⟩ = some (.int .u8 zi) := (hb'.cell (p := ⟨bn, on + i, none⟩) hln).trans vn
              have vw' : w'.cell? ⟨bw, ow + t.toNat, none⟩ = some (.int .i64 a) := (hb'.cell (p := ⟨bw, ow + t.toNat, none⟩) hlw).trans vw
              have gHb := gHw.below hb'
              obtain ⟨lB, k0, k1, k2⟩ : w.heap.size < w'.heap.size ∧ w'.cell? ⟨w.heap.size, 0, none⟩ = some (.slice p h.n c) ∧ w'.cell? ⟨w.heap.size, 1, none⟩ = some (.slice q h.m d) ∧ w'.cell? ⟨w.heap.size, 2, none⟩ = some (.bool !h.b) := ⟨gHb.lt, gHb.cell 0, gHb.cell 1, gHb.cell 2⟩
              obtain ⟨lM', j0, j1, j2, j3, j4, j5, j6, j7⟩ := mk_cells (gMw.below hb')
              clear gHb
              unfold Oper.wp
              go_simp
              exact hK _ _ (Below.refl _ _) (by first | rfl | (show Value.int _ _ = Value.int _ _; go_num; done) | (simp [valOf, *]; done) | (simp [valOf]; omega))
            · unfold twoStep
              rw [if_pos (by decide)]
              intro a' w' hb' hs hd Kc hK
              have f15 : a'.tmps[15]?.getD undef = .int .i64 (i : Int) := (hs 15 (by decide)).trans rfl
              clear hs hd
              have vn' : w'.cell? ⟨bn, on + i, none⟩ = some (.int .u8 zi) := (hb'.cell (p := ⟨bn, on + i, none⟩) hln).trans vn
              have vw' : w'.cell? ⟨bw, ow + t.toNat, none⟩ = some (.int .i64 a) := (hb'.cell (p := ⟨bw, ow + t.toNat, none⟩) hlw).trans vw
              have gHb := gHw.below hb'
              obtain ⟨lB, k0, k1, k2⟩ : w.heap.size < w'.heap.size ∧ w'.cell? ⟨w.heap.size, 0, none⟩ = some (.slice p h.n c) ∧ w'.cell? ⟨w.heap.size, 1, none⟩ = some (.slice q h.m d) ∧ w'.cell? ⟨w.heap.size, 2, none⟩ = some (.bool !h.b) := ⟨gHb.lt, gHb.cell 0, gHb.cell 1, gHb.cell 2⟩
              obtain ⟨lM', j0, j1, j2, j3, j4, j5, j6, j7⟩ := mk_cells (gMw.below hb')
              clear gHb
              unfold Oper.wp
              go_simp
              exact hK _ _ (Below.refl _ _) (by first | rfl | (show Value.int _ _ = Value.int _ _; go_num; done) | (simp [valOf, *]; done) | (simp [valOf]; omega))
            · unfold twoStep
              rw [if_pos (by decide)]
              intro a' w' hb' hs hd Kc hK
              have f105 : a'.tmps[105]?.getD undef = .int .i64 (i : Int) := hd 2 105 (by first | rfl | decide | simp [Region.binds]) rfl
              clear hs hd
              have vn' : w'.cell? ⟨bn, on + i, none⟩ = some (.int .u8 zi) := (hb'.cell (p := ⟨bn, on + i, none⟩) hln).trans vn
              have vw' : w'.cell? ⟨bw, ow + t.toNat, none⟩ = some (.int .i64 a) := (hb'.cell (p := ⟨bw, ow + t.toNat, none⟩) hlw).trans vw
              have gHb := gHw.below hb'
              obtain ⟨lB, k0, k1, k2⟩ : w.heap.size < w'.heap.size ∧ w'.cell? ⟨w.heap.size, 0, none⟩ = some (.slice p h.n c) ∧ w'.cell? ⟨w.heap.size, 1, none⟩ = some (.slice q h.m d) ∧ w'.cell? ⟨w.heap.size, 2, none⟩ = some (.bool !h.b) := ⟨gHb.lt, gHb.cell 0, gHb.cell 1, gHb.cell 2⟩
              obtain ⟨lM', j0, j1, j2, j3, j4, j5, j6, j7⟩ := mk_cells (gMw.below hb')
              clear gHb
              unfold Oper.wp
              go_simp
              exact hK _ _ (Below.refl _ _) (by first | rfl | (show Value.int _ _ = Value.int _ _; go_num; done) | (simp [valOf, *]; done) | (simp [valOf]; omega))
            · unfold twoStep
              rw [if_pos (by decide)]
              intro a' w' hb' hs hd Kc hK
              have f11 : a'.tmps[11]?.getD undef = .slice (some ⟨bw, ow, none⟩) kw cw := (hs 11 (by decide)).trans rfl
              clear hs hd
              have vn' : w'.cell? ⟨bn, on + i, none⟩ = some (.int .u8 zi) := (hb'.cell (p := ⟨bn, on + i, none⟩) hln).trans vn
              have vw' : w'.cell? ⟨bw, ow + t.toNat, none⟩ = some (.int .i64 a) := (hb'.cell (p := ⟨bw, ow + t.toNat, none⟩) hlw).trans vw
              have gHb := gHw.below hb'
              obtain ⟨lB, k0, k1, k2⟩ : w.heap.size < w'.heap.size ∧ w'.cell? ⟨w.heap.size, 0, none⟩ = some (.slice p h.n c) ∧ w'.cell? ⟨w.heap.size, 1, none⟩ = some (.slice q h.m d) ∧ w'.cell? ⟨w.heap.size, 2, none⟩ = some (.bool !h.b) := ⟨gHb.lt, gHb.cell 0, gHb.cell 1, gHb.cell 2⟩
              obtain ⟨lM', j0, j1, j2, j3, j4, j5, j6, j7⟩ := mk_cells (gMw.below hb')
              clear gHb
              unfold Oper.wp
              go_simp
              exact hK _ _ (Below.refl _ _) (by first | rfl | (show Value.int _ _ = Value.int _ _; go_num; done) | (simp [valOf, *]; done) | (simp [valOf]; omega))
            · unfold twoStep
              rw [if_pos (by decide)]
              intro a' w' hb' hs hd Kc hK
              have f4 : a'.tmps[4]?.getD undef = .slice (some ⟨bn, on, none⟩) nn cn := (hs 4 (by decide)).trans rfl
              clear hs hd
              have vn' : w'.cell? ⟨bn, on + i, none⟩ = some (.int .u8 zi) := (hb'.cell (p := ⟨bn, on + i, none⟩) hln).trans vn
              have vw' : w'.cell? ⟨bw, ow + t.toNat, none⟩ = some (.int .i64 a) := (hb'.cell (p := ⟨bw, ow + t.toNat, none⟩) hlw).trans vw
              have gHb := gHw.below hb'
              obtain ⟨lB, k0, k1, k2⟩ : w.heap.size < w'.heap.size ∧ w'.cell? ⟨w.heap.size, 0, none⟩ = some (.slice p h.n c) ∧ w'.cell? ⟨w.heap.size, 1, none⟩ = some (.slice q h.m d) ∧ w'.cell? ⟨w.heap.size, 2, none⟩ = some (.bool !h.b) := ⟨gHb.lt, gHb.cell 0, gHb.cell 1, gHb.cell 2⟩
              obtain ⟨lM', j0, j1, j2, j3, j4, j5, j6, j7⟩ := mk_cells (gMw.below hb')
              clear gHb
              unfold Oper.wp
              go_simp
              exact hK _ _ (Below.refl _ _) (by first | rfl | (show Value.int _ _ = Value.int _ _; go_num; done) | (simp [valOf, *]; done) | (simp [valOf]; omega))
            · unfold twoStep
              rw [if_pos (by decide)]
              intro a' w' hb' hs hd Kc hK
              have f15 : a'.tmps[15]?.getD undef = .int .i64 (i : Int) := (hs 15 (by decide)).trans rfl
              clear hs hd
              have vn' : w'.cell? ⟨bn, on + i, none⟩ = some (.int .u8 zi) := (hb'.cell (p := ⟨bn, on + i, none⟩) hln).trans vn
              have vw' : w'.cell? ⟨bw, ow + t.toNat, none⟩ = some (.int .i64 a) := (hb'.cell (p := ⟨bw, ow + t.toNat, none⟩) hlw).trans vw
              have gHb := gHw.below hb'
              obtain ⟨lB, k0, k1, k2⟩ : w.heap.size < w'.heap.size ∧ w'.cell? ⟨w.heap.size, 0, none⟩ = some (.slice p h.n c) ∧ w'.cell? ⟨w.heap.size, 1, none⟩ = some (.slice q h.m d) ∧ w'.cell? ⟨w.heap.size, 2, none⟩ = some (.bool !h.b) := ⟨gHb.lt, gHb.cell 0, gHb.cell 1, gHb.cell 2⟩
              obtain ⟨lM', j0, j1, j2, j3, j4, j5, j6, j7⟩ := mk_cells (gMw.below hb')
              clear gHb
              unfold Oper.wp
              go_simp
              exact hK _ _ (Below.refl _ _) (by first | rfl | (show Value.int _ _ = Value.int _ _; go_num; done) | (simp [valOf, *]; done) | (simp [valOf]; omega))
            · unfold twoStep
              rw [if_pos (by decide)]
              intro a' w' hb' hs hd Kc hK
              have f108 : a'.tmps[108]?.getD undef = .slice (some ⟨bn, on, none⟩) nn cn := hd 5 108 (by first | rfl | decide | simp [Region.binds]) rfl
              have f109 : a'.tmps[109]?.getD undef = .int .i64 (i : Int) := hd 6 109 (by first | rfl | decide | simp [Region.binds]) rfl
              clear hs hd
              have vn' : w'.cell? ⟨bn, on + i, none⟩ = some (.int .u8 zi) := (hb'.cell (p := ⟨bn, on + i, none⟩) hln).trans vn
              have vw' : w'.cell? ⟨bw, ow + t.toNat, none⟩ = some (.int .i64 a) := (hb'.cell (p := ⟨bw, ow + t.toNat, none⟩) hlw).trans vw
              have gHb := gHw.below hb'
              obtain ⟨lB, k0, k1, k2⟩ : w.heap.size < w'.heap.size ∧ w'.cell? ⟨w.heap.size, 0, none⟩ = some (.slice p h.n c) ∧ w'.cell? ⟨w.heap.size, 1, none⟩ = some (.slice q h.m d) ∧ w'.cell? ⟨w.heap.size, 2, none⟩ = some (.bool !h.b) := ⟨gHb.lt, gHb.cell 0, gHb.cell 1, gHb.cell 2⟩
              obtain ⟨lM', j0, j1, j2, j3, j4, j5, j6, j7⟩ := mk_cells (gMw.below hb')
              clear gHb
              unfold Oper.wp
              go_simp
              exact hK _ _ (Below.refl _ _) (by first | rfl | (show Value.int _ _ = Value.int _ _; go_num; done) | (simp [valOf, *]; done) | (simp [valOf]; omega))
            · unfold twoStep
              rw [if_pos (by decide)]
              intro a' w' hb' hs hd Kc hK
              have f110 : a'.tmps[110]?.getD undef = .pointer (some ⟨bn, on + i, none⟩) := hd 7 110 (by first | rfl | decide | simp [Region.binds]) rfl
              clear hs hd
              have vn' : w'.cell? ⟨bn, on + i, none⟩ = some (.int .u8 zi) := (hb'.cell (p := ⟨bn, on + i, none⟩) hln).trans vn
              have vw' : w'.cell? ⟨bw, ow + t.toNat, none⟩ = some (.int .i64 a) := (hb'.cell (p := ⟨bw, ow + t.toNat, none⟩) hlw).trans vw
              have gHb := gHw.below hb'
              obtain ⟨lB, k0, k1, k2⟩ : w.heap.size < w'.heap.size ∧ w'.cell? ⟨w.heap.size, 0, none⟩ = some (.slice p h.n c) ∧ w'.cell? ⟨w.heap.size, 1, none⟩ = some (.slice q h.m d) ∧ w'.cell? ⟨w.heap.size, 2, none⟩ = some (.bool !h.b) := ⟨gHb.lt, gHb.cell 0, gHb.cell 1, gHb.cell 2⟩
              obtain ⟨lM', j0, j1, j2, j3, j4, j5, j6, j7⟩ := mk_cells (gMw.below hb')
              clear gHb
              unfold Oper.wp
              go_simp
              exact hK _ _ (Below.refl _ _) (by first | rfl | (show Value.int _ _ = Value.int _ _; go_num; done) | (simp [valOf, *]; done) | (simp [valOf]; omega))
            · unfold twoStep
              rw [if_pos (by decide)]
              intro a' w' hb' hs hd Kc hK
              have f111 : a'.tmps[111]?.getD undef = .int .u8 zi := hd 8 111 (by first | rfl | decide | simp [Region.binds]) rfl
              clear hs hd
              have vn' : w'.cell? ⟨bn, on + i, none⟩ = some (.int .u8 zi) := (hb'.cell (p := ⟨bn, on + i, none⟩) hln).trans vn
              have vw' : w'.cell? ⟨bw, ow + t.toNat, none⟩ = some (.int .i64 a) := (hb'.cell (p := ⟨bw, ow + t.toNat, none⟩) hlw).trans vw
              have gHb := gHw.below hb'
              obtain ⟨lB, k0, k1, k2⟩ : w.heap.size < w'.heap.size ∧ w'.cell? ⟨w.heap.size, 0, none⟩ = some (.slice p h.n c) ∧ w'.cell? ⟨w.heap.size, 1, none⟩ = some (.slice q h.m d) ∧ w'.cell? ⟨w.heap.size, 2, none⟩ = some (.bool !h.b) := ⟨gHb.lt, gHb.cell 0, gHb.cell 1, gHb.cell 2⟩
              obtain ⟨lM', j0, j1, j2, j3, j4, j5, j6, j7⟩ := mk_cells (gMw.below hb')
              clear gHb
              unfold Oper.wp
              go_simp
              exact hK _ _ (Below.refl _ _) (by first | rfl | (show Value.int _ _ = Value.int _ _; go_num; done) | (simp [valOf, *]; done) | (simp [valOf]; omega))
            · unfold twoStep
              rw [if_pos (by decide)]
              intro a' w' hb' hs hd Kc hK
              have f11 : a'.tmps[11]?.getD undef = .slice (some ⟨bw, ow, none⟩) kw cw := (hs 11 (by decide)).trans rfl
              clear hs hd
              have vn' : w'.cell? ⟨bn, on + i, none⟩ = some (.int .u8 zi) := (hb'.cell (p := ⟨bn, on + i, none⟩) hln).trans vn
              have vw' : w'.cell? ⟨bw, ow + t.toNat, none⟩ = some (.int .i64 a) := (hb'.cell (p := ⟨bw, ow + t.toNat, none⟩) hlw).trans vw
              have gHb := gHw.below hb'
              obtain ⟨lB, k0, k1, k2⟩ : w.heap.size < w'.heap.size ∧ w'.cell? ⟨w.heap.size, 0, none⟩ = some (.slice p h.n c) ∧ w'.cell? ⟨w.heap.size, 1, none⟩ = some (.slice q h.m d) ∧ w'.cell? ⟨w.heap.size, 2, none⟩ = some (.bool !h.b) := ⟨gHb.lt, gHb.cell 0, gHb.cell 1, gHb.cell 2⟩
              obtain ⟨lM', j0, j1, j2, j3, j4, j5, j6, j7⟩ := mk_cells (gMw.below hb')
              clear gHb
              unfold Oper.wp
              go_simp
              exact hK _ _ (Below.refl _ _) (by first | rfl | (show Value.int _ _ = Value.int _ _; go_num; done) | (simp [valOf, *]; done) | (simp [valOf]; omega))
            · unfold twoStep
              rw [if_pos (by decide)]
              intro a' w' hb' hs hd Kc hK
              have f113 : a'.tmps[113]?.getD undef = .slice (some ⟨bw, ow, none⟩) kw cw := hd 10 113 (by first | rfl | decide | simp [Region.binds]) rfl
              clear hs hd
              have vn' : w'.cell? ⟨bn, on + i, none⟩ = some (.int .u8 zi) := (hb'.cell (p := ⟨bn, on + i, none⟩) hln).trans vn
              have vw' : w'.cell? ⟨bw, ow + t.toNat, none⟩ = some (.int .i64 a) := (hb'.cell (p := ⟨bw, ow + t.toNat, none⟩) hlw).trans vw
              have gHb := gHw.below hb'
              obtain ⟨lB, k0, k1, k2⟩ : w.heap.size < w'.heap.size ∧ w'.cell? ⟨w.heap.size, 0, none⟩ = some (.slice p h.n c) ∧ w'.cell? ⟨w.heap.size, 1, none⟩ = some (.slice q h.m d) ∧ w'.cell? ⟨w.heap.size, 2, none⟩ = some (.bool !h.b) := ⟨gHb.lt, gHb.cell 0, gHb.cell 1, gHb.cell 2⟩
              obtain ⟨lM', j0, j1, j2, j3, j4, j5, j6, j7⟩ := mk_cells (gMw.below hb')
              clear gHb
              unfold Oper.wp
              go_simp
              exact hK _ _ (Below.refl _ _) (by first | rfl | (show Value.int _ _ = Value.int _ _; go_num; done) | (simp [valOf, *]; done) | (simp [valOf]; omega))
            · unfold twoStep
              rw [if_pos (by decide)]
              intro a' w' hb' hs hd Kc hK
              have f112 : a'.tmps[112]?.getD undef = .int .i64 zi := hd 9 112 (by first | rfl | decide | simp [Region.binds]) rfl
              have f114 : a'.tmps[114]?.getD undef = .int .i64 (kw : Int) := hd 11 114 (by first | rfl | decide | simp [Region.binds]) rfl
              clear hs hd
              have vn' : w'.cell? ⟨bn, on + i, none⟩ = some (.int .u8 zi) := (hb'.cell (p := ⟨bn, on + i, none⟩) hln).trans vn
              have vw' : w'.cell? ⟨bw, ow + t.toNat, none⟩ = some (.int .i64 a) := (hb'.cell (p := ⟨bw, ow + t.toNat, none⟩) hlw).trans vw
              have gHb := gHw.below hb'
              obtain ⟨lB, k0, k1, k2⟩ : w.heap.size < w'.heap.size ∧ w'.cell? ⟨w.heap.size, 0, none⟩ = some (.slice p h.n c) ∧ w'.cell? ⟨w.heap.size, 1, none⟩ = some (.slice q h.m d) ∧ w'.cell? ⟨w.heap.size, 2, none⟩ = some (.bool !h.b) := ⟨gHb.lt, gHb.cell 0, gHb.cell 1, gHb.cell 2⟩
              obtain ⟨lM', j0, j1, j2, j3, j4, j5, j6, j7⟩ := mk_cells (gMw.below hb')
              clear gHb
              unfold Oper.wp
              go_simp
              exact hK _ _ (Below.refl _ _) (by first | rfl | (show Value.int _ _ = Value.int _ _; go_num; done) | (simp [valOf, *]; done) | (simp [valOf]; omega))
            · unfold twoStep
              rw [if_pos (by decide)]
              intro a' w' hb' hs hd Kc hK
              have f107 : a'.tmps[107]?.getD undef = .slice (some ⟨bw, ow, none⟩) kw cw := hd 4 107 (by first | rfl | decide | simp [Region.binds]) rfl
              have f115 : a'.tmps[115]?.getD undef = .int .i64 t := hd 12 115 (by first | rfl | decide | simp [Region.binds]) rfl
              clear hs hd
              have vn' : w'.cell? ⟨bn, on + i, none⟩ = some (.int .u8 zi) := (hb'.cell (p := ⟨bn, on + i, none⟩) hln).trans vn
              have vw' : w'.cell? ⟨bw, ow + t.toNat, none⟩ = some (.int .i64 a) := (hb'.cell (p := ⟨bw, ow + t.toNat, none⟩) hlw).trans vw
              have gHb := gHw.below hb'
              obtain ⟨lB, k0, k1, k2⟩ : w.heap.size < w'.heap.size ∧ w'.cell? ⟨w.heap.size, 0, none⟩ = some (.slice p h.n c) ∧ w'.cell? ⟨w.heap.size, 1, none⟩ = some (.slice q h.m d) ∧ w'.cell? ⟨w.heap.size, 2, none⟩ = some (.bool !h.b) := ⟨gHb.lt, gHb.cell 0, gHb.cell 1, gHb.cell 2⟩
              obtain ⟨lM', j0, j1, j2, j3, j4, j5, j6, j7⟩ := mk_cells (gMw.below hb')
              clear gHb
              unfold Oper.wp
              go_simp
              exact hK _ _ (Below.refl _ _) (by first | rfl | (show Value.int _ _ = Value.int _ _; go_num; done) | (simp [valOf, *]; done) | (simp [valOf]; omega))
            · unfold twoStep
              rw [if_pos (by decide)]
              intro a' w' hb' hs hd Kc hK
              have f116 : a'.tmps[116]?.getD undef = .pointer (some ⟨bw, ow + t.toNat, none⟩) := hd 13 116 (by first | rfl | decide | simp [Region.binds]) rfl
              clear hs hd
              have vn' : w'.cell? ⟨bn, on + i, none⟩ = some (.int .u8 zi) := (hb'.cell (p := ⟨bn, on + i, none⟩) hln).trans vn
              have vw' : w'.cell? ⟨bw, ow + t.toNat, none⟩ = some (.int .i64 a) := (hb'.cell (p := ⟨bw, ow + t.toNat, none⟩) hlw).trans vw
              have gHb := gHw.below hb'
              obtain ⟨lB, k0, k1, k2⟩ : w.heap.size < w'.heap.size ∧ w'.cell? ⟨w.heap.size, 0, none⟩ = some (.slice p h.n c) ∧ w'.cell? ⟨w.heap.size, 1, none⟩ = some (.slice q h.m d) ∧ w'.cell? ⟨w.heap.size, 2, none⟩ = some (.bool !h.b) := ⟨gHb.lt, gHb.cell 0, gHb.cell 1, gHb.cell 2⟩
              obtain ⟨lM', j0, j1, j2, j3, j4, j5, j6, j7⟩ := mk_cells (gMw.below hb')
              clear gHb
              unfold Oper.wp
              go_simp
              exact hK _ _ (Below.refl _ _) (by first | rfl | (show Value.int _ _ = Value.int _ _; go_num; done) | (simp [valOf, *]; done) | (simp [valOf]; omega))
            · unfold twoStep
              rw [if_pos (by decide)]
              intro a' w' hb' hs hd Kc hK
              have f117 : a'.tmps[117]?.getD undef = .int .i64 a := hd 14 117 (by first | rfl | decide | simp [Region.binds]) rfl
              clear hs hd
              have vn' : w'.cell? ⟨bn, on + i, none⟩ = some (.int .u8 zi) := (hb'.cell (p := ⟨bn, on + i, none⟩) hln).trans vn
              have vw' : w'.cell? ⟨bw, ow + t.toNat, none⟩ = some (.int .i64 a) := (hb'.cell (p := ⟨bw, ow + t.toNat, none⟩) hlw).trans vw
              have gHb := gHw.below hb'
              obtain ⟨lB, k0, k1, k2⟩ : w.heap.size < w'.heap.size ∧ w'.cell? ⟨w.heap.size, 0, none⟩ = some (.slice p h.n c) ∧ w'.cell? ⟨w.heap.size, 1, none⟩ = some (.slice q h.m d) ∧ w'.cell? ⟨w.heap.size, 2, none⟩ = some (.bool !h.b) := ⟨gHb.lt, gHb.cell 0, gHb.cell 1, gHb.cell 2⟩
              obtain ⟨lM', j0, j1, j2, j3, j4, j5, j6, j7⟩ := mk_cells (gMw.below hb')
              clear gHb
              unfold Oper.wp
              go_simp
              exact hK _ _ (Below.refl _ _) (by first | rfl | (show Value.int _ _ = Value.int _ _; go_num; done) | (simp [valOf, *]; done) | (simp [valOf]; omega))
            · unfold twoStep
              rw [if_pos (by decide)]
              intro a' w' hb' hs hd Kc hK
              have f103 : a'.tmps[103]?.getD undef = .agg #[.slice p h.n c, .slice q h.m d, .bool !h.b] := hd 0 103 (by first | rfl | decide | simp [Region.binds]) rfl
              have f104 : a'.tmps[104]?.getD undef = .agg #[.int .i64 M.g.r, .slice pg M.g.n cg, .slice pb M.nb cb, .slice pr M.nr cr, .int .i64 M.ob, .int .i64 M.fi, .int .i64 M.cu, .bool M.ov] := hd 1 104 (by first | rfl | decide | simp [Region.binds]) rfl
              have f106 : a'.tmps[106]?.getD undef = .int .i64 ((i : Int) % 2) := hd 3 106 (by first | rfl | decide | simp [Region.binds]) rfl
              have f118 : a'.tmps[118]?.getD undef = .agg #[.int .i64 2, .int .i64 a] := hd 15 118 (by first | rfl | decide | simp [Region.binds]) rfl
              clear hs hd
              have vn' : w'.cell? ⟨bn, on + i, none⟩ = some (.int .u8 zi) := (hb'.cell (p := ⟨bn, on + i, none⟩) hln).trans vn
              have vw' : w'.cell? ⟨bw, ow + t.toNat, none⟩ = some (.int .i64 a) := (hb'.cell (p := ⟨bw, ow + t.toNat, none⟩) hlw).trans vw
              have gHb := gHw.below hb'
              obtain ⟨lB, k0, k1, k2⟩ : w.heap.size < w'.heap.size ∧ w'.cell? ⟨w.heap.size, 0, none⟩ = some (.slice p h.n c) ∧ w'.cell? ⟨w.heap.size, 1, none⟩ = some (.slice q h.m d) ∧ w'.cell? ⟨w.heap.size, 2, none⟩ = some (.bool !h.b) := ⟨gHb.lt, gHb.cell 0, gHb.cell 1, gHb.cell 2⟩
              obtain ⟨lM', j0, j1, j2, j3, j4, j5, j6, j7⟩ := mk_cells (gMw.below hb')
              clear gHb
              unfold Oper.wp
              go_simp
              refine Calls.mono (hNt _ hb') ?_
              rintro e w'' ⟨_, _, _, _, _, _, _, _, _, _, rfl, hA, hB, hb2⟩
              exact hK _ _ hb2 ⟨_, _, _, _, _, _, _, _, _, _, rfl, hA, hB⟩
            · unfold twoStep
              rw [if_neg (by decide), if_pos (by decide)]
              intro a' w' hA' hSh hs hd Kc hK
              have f119 : HmT (h.n) (h.m) (!h.b) (H2) (w.heap.size) (M2) (a'.tmps[119]?.getD undef) w' := hd 16 119 (by first | rfl | decide | simp [Region.binds]) rfl
              clear hs hd
              obtain ⟨_, _, _, _, _, _, _, _, _, _, f119, hA, hB⟩ := f119
              unfold Oper.wp
              go_simp
              exact hK _ _ (Aside.of (Below.refl _ _)) hSh ⟨fun _ h => h, fun _ h => h, fun _ h => h, fun _ h => h, fun _ h => h, fun _ h => h, fun _ h => h, fun _ h => h, fun _ h => h, fun _ h => h, fun _ h => h, fun _ h => h, fun _ h => h, fun _ h => h, fun _ h => h, fun _ h => h, fun _ h => h, fun _ h => h, fun _ h => h, fun _ h => h, fun _ h => h, fun _ h => h, trivial⟩ ⟨_, _, _, _, _, _, _, _, _, _, rfl, hA, hB⟩
            · unfold twoStep
              rw [if_neg (by decide), if_pos (by decide)]
              intro a' w' hA' hSh hs hd Kc hK
              have f102 : HmT (h.n) (h.m) (!h.b) (H2) (w.heap.size) (M2) (a'.tmps[102]?.getD undef) w' := hd 17 102 (by first | rfl | decide | simp [Region.binds]) rfl
              clear hs hd
              obtain ⟨_, _, _, _, _, _, _, _, _, _, f102, hA, hB⟩ := f102
              unfold Oper.wp
              go_simp
              exact hK _ _ (Aside.of (Below.refl _ _)) hSh ⟨fun _ h => h, fun _ h => h, fun _ h => h, fun _ h => h, fun _ h => h, fun _ h => h, fun _ h => h, fun _ h => h, fun _ h => h, fun _ h => h, fun _ h => h, fun _ h => h, fun _ h => h, fun _ h => h, fun _ h => h, fun _ h => h, fun _ h => h, fun _ h => h, fun _ h => h, fun _ h => h, fun _ h => h, fun _ h => h, trivial⟩ ⟨_, _, _, _, rfl, hA⟩
            · unfold twoStep
              rw [if_neg (by decide), if_pos (by decide)]
              intro a' w' hA' hSh hs hd Kc hK
              have f102 : HmT (h.n) (h.m) (!h.b) (H2) (w.heap.size) (M2) (a'.tmps[102]?.getD undef) w' := hd 17 102 (by first | rfl | decide | simp [Region.binds]) rfl
              clear hs hd
              obtain ⟨_, _, _, _, _, _, _, _, _, _, f102, hA, hB⟩ := f102
              unfold Oper.wp
              go_simp
              exact hK _ _ (Aside.of (Below.refl _ _)) hSh ⟨fun _ h => h, fun _ h => h, fun _ h => h, fun _ h => h, fun _ h => h, fun _ h => h, fun _ h => h, fun _ h => h, fun _ h => h, fun _ h => h, fun _ h => h, fun _ h => h, fun _ h => h, fun _ h => h, fun _ h => h, fun _ h => h, fun _ h => h, fun _ h => h, fun _ h => h, fun _ h => h, fun _ h => h, fun _ h => h, trivial⟩ ⟨_, _, _, _, _, _, rfl, hB⟩
            · unfold twoStep
              rw [if_neg (by decide), if_pos (by decide)]
              intro a' w' hA' hSh hs hd Kc hK
              have f5 : a'.tmps[5]?.getD undef = .pointer (some ⟨w.heap.size, 0, none⟩) := (hs 5 (by decide)).trans rfl
              have f120 : HpV (h.n) (h.m) (!h.b) (H2) (a'.tmps[120]?.getD undef) w' := hd 18 120 (by first | rfl | decide | simp [Region.binds]) rfl
              clear hs hd
              obtain ⟨p', c', q', d', f120, hA⟩ := f120
              obtain ⟨_, _, _, h0, c0, c1, c2, g0, g1, g2⟩ := hSh.1.three
              have hFull : Hid (FullHT (25) (h.n) (h.m) (!h.b) (H2) (w.heap.size) (putsL (w.heap.size) 0 [.slice p' (h.n) c', .slice q' (h.m) d', .bool (!h.b)] w')) := (⟨p', c', q', d', hSh.1.full3 _ _ _, hpIn_puts (hSh.1.clear hA (hn32.1) (hn32.2)) [.slice p' (h.n) c', .slice q' (h.m) d', .bool (!h.b)] 0 hA⟩)
              have vV := hSh.1
              have hSh2 : Hid (HmS (25) (w.heap.size) (32) (BM) (putsL (w.heap.size) 0 [.slice p' (h.n) c', .slice q' (h.m) d', .bool (!h.b)] w')) := hSh.puts (plainL_heap _ _ _ _ _ _ _)
              have hAs : Hid (Aside (fun k => k = (w.heap.size) ∨ k = (BM)) w' (putsL (w.heap.size) 0 [.slice p' (h.n) c', .slice q' (h.m) d', .bool (!h.b)] w')) := aside_putsL (.inl rfl) _ 0 w'
              have hst : Hid (allP (fun p => ∀ v, p v w' → p v (putsL (w.heap.size) 0 [.slice p' (h.n) c', .slice q' (h.m) d', .bool (!h.b)] w')) ([(fun v _ => v = .agg #[.slice p h.n c, .slice q h.m d, .bool !h.b]), (fun v _ => v = .agg #[.int .i64 M.g.r, .slice pg M.g.n cg, .slice pb M.nb cb, .slice pr M.nr cr, .int .i64 M.ob, .int .i64 M.fi, .int .i64 M.cu, .bool M.ov]), (fun v _ => v = .int .i64 (i : Int)), (fun v _ => v = .int .i64 ((i : Int) % 2)), (fun v _ => v = .slice (some ⟨bw, ow, none⟩) kw cw), (fun v _ => v = .slice (some ⟨bn, on, none⟩) nn cn), (fun v _ => v = .int .i64 (i : Int)), (fun v _ => v = .pointer (some ⟨bn, on + i, none⟩)), (fun v _ => v = .int .u8 zi), (fun v _ => v = .int .i64 zi), (fun v _ => v = .slice (some ⟨bw, ow, none⟩) kw cw), (fun v _ => v = .int .i64 (kw : Int)), (fun v _ => v = .int .i64 t), (fun v _ => v = .pointer (some ⟨bw, ow + t.toNat, none⟩)), (fun v _ => v = .int .i64 a), (fun v _ => v = .agg #[.int .i64 2, .int .i64 a]), (HmT (h.n) (h.m) (!h.b) (H2) (w.heap.size) (M2)), (HmT (h.n) (h.m) (!h.b) (H2) (w.heap.size) (M2)), (HpV (h.n) (h.m) (!h.b) (H2)), (MkV (w.heap.size) (M2)), (fun _ wQ => FullHT (25) (h.n) (h.m) (!h.b) (H2) (w.heap.size) wQ), (fun _ wQ => FullME (32) (w.heap.size) (M2) (BM) wQ)] : List (Value → World → Prop))) := ⟨fun _ h => h, fun _ h => h, fun _ h => h, fun _ h => h, fun _ h => h, fun _ h => h, fun _ h => h, fun _ h => h, fun _ h => h, fun _ h => h, fun _ h => h, fun _ h => h, fun _ h => h, fun _ h => h, fun _ h => h, fun _ h => h, fun _ hQ => hQ.putsV vV (by decide) (by decide) (by decide) (Nat.le_refl _) (hn32.1) (hn32.2) [.slice p' (h.n) c', .slice q' (h.m) d', .bool (!h.b)], fun _ hQ => hQ.putsV vV (by decide) (by decide) (by decide) (Nat.le_refl _) (hn32.1) (hn32.2) [.slice p' (h.n) c', .slice q' (h.m) d', .bool (!h.b)], fun _ hQ => hQ.putsV vV (hn32.1) (hn32.2) [.slice p' (h.n) c', .slice q' (h.m) d', .bool (!h.b)], fun _ hQ => hQ.putsV vV (by decide) (by decide) (by decide) (Nat.le_refl _) [.slice p' (h.n) c', .slice q' (h.m) d', .bool (!h.b)], fun _ _ => hFull.out, fun _ hQ => FullME.putsV hQ vV (by decide) (by decide) (by decide) (by decide) (Nat.le_refl _) [.slice p' (h.n) c', .slice q' (h.m) d', .bool (!h.b)], trivial⟩
              clear hSh hA' vV hA
              unfold Oper.wp
              go_simp
              exact hK (.tuple #[]) _ hAs.out hSh2.out hst.out hFull.out
            · unfold twoStep
              rw [if_neg (by decide), if_pos (by decide)]
              intro a' w' hA' hSh hs hd Kc hK
              have f12 : a'.tmps[12]?.getD undef = .pointer (some ⟨BM, 0, none⟩) := (hs 12 (by decide)).trans rfl
              have f121 : MkV (w.heap.size) (M2) (a'.tmps[121]?.getD undef) w' := hd 19 121 (by first | rfl | decide | simp [Region.binds]) rfl
              clear hs hd
              obtain ⟨pg', cg', pb', cb', pr', cr', f121, hB⟩ := f121
              obtain ⟨_, _, _, _, _, _, _, _, hX⟩ := hSh.2.eight
              obtain ⟨h0, c0, c1, c2, c3, c4, c5, c6, c7⟩ := mk_cells hX
              obtain ⟨g0, g1, g2, g3, g4, g5, g6, g7⟩ := mk_frozen hX
              clear hX
              have hFull : Hid (FullME (32) (w.heap.size) (M2) (BM) (putsL (BM) 0 [.int .i64 (M2).g.r, .slice pg' (M2).g.n cg', .slice pb' (M2).nb cb', .slice pr' (M2).nr cr', .int .i64 (M2).ob, .int .i64 (M2).fi, .int .i64 (M2).cu, .bool (M2).ov] w')) := (⟨pg', cg', pb', cb', pr', cr', hSh.2.full8, hB.puts hSh.2 (by decide) (by decide) (by decide) (Nat.le_of_lt hgH) [.int .i64 (M2).g.r, .slice pg' (M2).g.n cg', .slice pb' (M2).nb cb', .slice pr' (M2).nr cr', .int .i64 (M2).ob, .int .i64 (M2).fi, .int .i64 (M2).cu, .bool (M2).ov]⟩)
              have vV := hSh.2
              have hSh2 : Hid (HmS (25) (w.heap.size) (32) (BM) (putsL (BM) 0 [.int .i64 (M2).g.r, .slice pg' (M2).g.n cg', .slice pb' (M2).nb cb', .slice pr' (M2).nr cr', .int .i64 (M2).ob, .int .i64 (M2).fi, .int .i64 (M2).cu, .bool (M2).ov] w')) := hSh.puts (plainL_marker _ _ _ _ _ _ _)
              have hAs : Hid (Aside (fun k => k = (w.heap.size) ∨ k = (BM)) w' (putsL (BM) 0 [.int .i64 (M2).g.r, .slice pg' (M2).g.n cg', .slice pb' (M2).nb cb', .slice pr' (M2).nr cr', .int .i64 (M2).ob, .int .i64 (M2).fi, .int .i64 (M2).cu, .bool (M2).ov] w')) := aside_putsL (.inr rfl) _ 0 w'
              have hst : Hid (allP (fun p => ∀ v, p v w' → p v (putsL (BM) 0 [.int .i64 (M2).g.r, .slice pg' (M2).g.n cg', .slice pb' (M2).nb cb', .slice pr' (M2).nr cr', .int .i64 (M2).ob, .int .i64 (M2).fi, .int .i64 (M2).cu, .bool (M2).ov] w')) ([(fun v _ => v = .agg #[.slice p h.n c, .slice q h.m d, .bool !h.b]), (fun v _ => v = .agg #[.int .i64 M.g.r, .slice pg M.g.n cg, .slice pb M.nb cb, .slice pr M.nr cr, .int .i64 M.ob, .int .i64 M.fi, .int .i64 M.cu, .bool M.ov]), (fun v _ => v = .int .i64 (i : Int)), (fun v _ => v = .int .i64 ((i : Int) % 2)), (fun v _ => v = .slice (some ⟨bw, ow, none⟩) kw cw), (fun v _ => v = .slice (some ⟨bn, on, none⟩) nn cn), (fun v _ => v = .int .i64 (i : Int)), (fun v _ => v = .pointer (some ⟨bn, on + i, none⟩)), (fun v _ => v = .int .u8 zi), (fun v _ => v = .int .i64 zi), (fun v _ => v = .slice (some ⟨bw, ow, none⟩) kw cw), (fun v _ => v = .int .i64 (kw : Int)), (fun v _ => v = .int .i64 t), (fun v _ => v = .pointer (some ⟨bw, ow + t.toNat, none⟩)), (fun v _ => v = .int .i64 a), (fun v _ => v = .agg #[.int .i64 2, .int .i64 a]), (HmT (h.n) (h.m) (!h.b) (H2) (w.heap.size) (M2)), (HmT (h.n) (h.m) (!h.b) (H2) (w.heap.size) (M2)), (HpV (h.n) (h.m) (!h.b) (H2)), (MkV (w.heap.size) (M2)), (fun _ wQ => FullHT (25) (h.n) (h.m) (!h.b) (H2) (w.heap.size) wQ), (fun _ wQ => FullME (32) (w.heap.size) (M2) (BM) wQ)] : List (Value → World → Prop))) := ⟨fun _ h => h, fun _ h => h, fun _ h => h, fun _ h => h, fun _ h => h, fun _ h => h, fun _ h => h, fun _ h => h, fun _ h => h, fun _ h => h, fun _ h => h, fun _ h => h, fun _ h => h, fun _ h => h, fun _ h => h, fun _ h => h, fun _ hQ => hQ.putsV vV (by decide) (by decide) (by decide) (Nat.le_of_lt hgH) (hn32.1) (hn32.2) [.int .i64 (M2).g.r, .slice pg' (M2).g.n cg', .slice pb' (M2).nb cb', .slice pr' (M2).nr cr', .int .i64 (M2).ob, .int .i64 (M2).fi, .int .i64 (M2).cu, .bool (M2).ov], fun _ hQ => hQ.putsV vV (by decide) (by decide) (by decide) (Nat.le_of_lt hgH) (hn32.1) (hn32.2) [.int .i64 (M2).g.r, .slice pg' (M2).g.n cg', .slice pb' (M2).nb cb', .slice pr' (M2).nr cr', .int .i64 (M2).ob, .int .i64 (M2).fi, .int .i64 (M2).cu, .bool (M2).ov], fun _ hQ => hQ.putsV vV (hn32.1) (hn32.2) [.int .i64 (M2).g.r, .slice pg' (M2).g.n cg', .slice pb' (M2).nb cb', .slice pr' (M2).nr cr', .int .i64 (M2).ob, .int .i64 (M2).fi, .int .i64 (M2).cu, .bool (M2).ov], fun _ hQ => hQ.putsV vV (by decide) (by decide) (by decide) (Nat.le_of_lt hgH) [.int .i64 (M2).g.r, .slice pg' (M2).g.n cg', .slice pb' (M2).nb cb', .slice pr' (M2).nr cr', .int .i64 (M2).ob, .int .i64 (M2).fi, .int .i64 (M2).cu, .bool (M2).ov], fun _ hQ => FullHT.putsV hQ vV (by decide) (hn32.1) (hn32.2) [.int .i64 (M2).g.r, .slice pg' (M2).g.n cg', .slice pb' (M2).nb cb', .slice pr' (M2).nr cr', .int .i64 (M2).ob, .int .i64 (M2).fi, .int .i64 (M2).cu, .bool (M2).ov], fun _ _ => hFull.out, trivial⟩
              clear hSh hA' vV hB
              unfold Oper.wp
              go_simp
              exact hK (.tuple #[]) _ hAs.out hSh2.out hst.out hFull.out
          intro Xf w' hA0 hSh hv hn
          have oH : FullHT (25) (h.n) (h.m) (!h.b) (H2) (w.heap.size) w' := hn 20 rfl
          have oM : FullME (32) (w.heap.size) (M2) (BM) w' := hn 21 rfl
          clear hv hn
          simp only [List.map_cons, List.map_nil, puts, Act.put, Nat.reduceAdd, List.setIfInBounds_toArray, List.set_cons_succ, List.set_cons_zero]
          have hIw2 := hIw.aside hA0 hwne
          have hbw2 := hbw.trans (hA0.below hsz (fun k hk => by rcases hk with rfl | rfl <;> omega))
          have hI2' := hI2
          clear hA0 hSh hIw hbw gH gM hNt hHS gHw gMw hwne hwz hwt htm hWe vn vw hln hlw hsz hI2
          obtain ⟨p, c, q, d, gH, hh⟩ := oH
          obtain ⟨pg, cg, pb, cb, pr, cr, gM, hM⟩ := oM
          generalize H2 = H at *
          generalize M2 = M at *
          generalize w' = wr at *
          have hbw := hbw2
          have hIw := hIw2
          have hI := hI2'
          have hmu := hmu3.out
          have hnb := hn2'.out
          have hmr := hn3'
          clear hbw2 hIw2 hI2' hmu3 hn2' hn3' hi2
        case' inr.inl =>
          have hd0 : decide ((i : Int) < nn) = false := by simp; omega
          go_upto_region 16 with fail
        case' inr.inr =>
          have hd0 : decide ((i : Int) < nn) = true := by simp; omega
          have hd1 : decide ((0 : Int) < kw) = false := by rw [decide_eq_false_iff_not]; omega
          have hd2 : decide (0 < kw) = false := by rw [decide_eq_false_iff_not]; omega
          have hd3 : ¬ 0 < kw := by omega
          have hi2' : Hid (kw = 0) := hi2
          clear hi2
          go_upto_region 16 with fail
          clear hd1 hd2 hd3 hi2'
        all_goals
          have hmn := mu_nonneg hI.r
          have hsz := hbw.size
          obtain ⟨l0, x0, x1, x2⟩ : w.heap.size < wr.heap.size ∧ wr.cell? ⟨w.heap.size, 0, none⟩ = some (.slice p h.n c) ∧ wr.cell? ⟨w.heap.size, 1, none⟩ = some (.slice q h.m d) ∧ wr.cell? ⟨w.heap.size, 2, none⟩ = some (.bool !h.b) := ⟨gH.lt, gH.cell 0, gH.cell 1, gH.cell 2⟩
          obtain ⟨l8, y0, y1, y2, y3, y4, y5, y6, y7⟩ := mk_cells gM
          have hSt := mstep_in w.heap.size (hSw.below hbw) hh (hI.form (h0 := fliH h) hF'.out) hM hsz hI.r (by omega) (by omega)
          have hnx := st_nb H M
          rw [hnb] at hnx
          obtain ⟨hnx1, hnx2⟩ := hnx
          have hnx1' : Hid ((stM H M).2.1.nb = 2) := hnx1
          have hnx2' : (stM H M).2.1.nr ≤ 50 := by omega
          have hcont : Hid (¬ ((stM H M).2.2 = true ∧ nn ≤ i) → MkI (fliH h) (vrL z1 n1) (stM H M).1 (stM H M).2.1 ∧ muM (stM H M).1 (stM H M).2.1 + ((i + 1 - nn : Nat) : Int) ≤ BO) := fun hc => by
            cases hd : (stM H M).2.2 with
            | true =>
              have hlt : i < nn := by
                rcases Nat.lt_or_ge i nn with h1 | h1
                · exact h1
                · exact absurd ⟨hd, h1⟩ hc
              rw [st_done hd]
              refine ⟨hI, ?_⟩
              show muM H M + ((i + 1 - nn : Nat) : Int) ≤ BO
              omega
            | false =>
              obtain ⟨h1, h2⟩ := hI.step (h0 := fliH h) hF'.out (by rw [fli_apart]; exact hA'.out) hd
              refine ⟨h1, ?_⟩
              omega
          have hblk : Hid ((stM H M).2.2 = true → bkL H = WT) := fun hd => by rw [← hWt]; exact mark_black (h0 := fliH h) hF'.out hI.u hI.l hd
          have hFH : Hid (formB H = true) := hI.form (h0 := fliH h) hF'.out
          clear hI hmn hmu hnb hnx1 hnx2 hM
          generalize (stM H M).1 = H1 at *
          generalize (stM H M).2.1 = M1 at *
          generalize (stM H M).2.2 = D at *
          go_upto_region 17 with (first
    | (go_at_call 13; refine Calls.mono (hSt) ?_; rintro e w' ⟨p1, c1', q1, d1', pg1, cg1, pb1, cb1, pr1, cr1, rfl, hH1, hM1, hb⟩; obtain ⟨hc, hf, hb, hz⟩ := bstep hb (w := wr) (by go_grown); try simp only [World.size_alloc, World.size_setCell, World.size_drew] at hc hf hz)
          )
          obtain ⟨w5b, hw5⟩ : ∃ W, W = (w'.alloc (.cells #[.slice p1 h.n c1', .slice q1 h.m d1', .bool !h.b] 25)).alloc (.cells #[.int .i64 M1.g.r, .slice pg1 M1.g.n cg1, .slice pb1 M1.nb cb1, .slice pr1 M1.nr cr1, .int .i64 M1.ob, .int .i64 M1.fi, .int .i64 M1.cu, .bool M1.ov] 32) := ⟨_, rfl⟩
          obtain ⟨gK, gX, hbn⟩ := tbox_two hw5
          rw [← hw5]
          clear hw5
          have hb5 := bjoin hbn hb
          have gH5 := gH.below hb5
          have gM5 := gM.below hb5
          have hh5 := hh.below hb5
          replace hH1 := hH1.below hbn
          replace hM1 := hM1.below hbn
          replace hIw := hIw.below hb5
          have hbw5 := bjoin hb5 hbw
          have hKm : BM < w'.heap.size := Nat.lt_of_lt_of_le l8 hb.size
          clear hb5 hb hc hf hz hbn x0 x1 x2 l0 l8 y0 y1 y2 y3 y4 y5 y6 y7 hSt gH gM hh hbw hsz
          generalize w'.heap.size = BK at *
          have hsz5 := hbw5.size
          by_cases hret : D = true ∧ nn ≤ i
          · obtain ⟨rfl, hge⟩ := hret
            have hbk2 := hblk.out rfl
            clear hcont hblk hH1 hM1 gM5 gK gX
            obtain ⟨l0, x0, x1, x2⟩ : w.heap.size < w5b.heap.size ∧ w5b.cell? ⟨w.heap.size, 0, none⟩ = some (.slice p h.n c) ∧ w5b.cell? ⟨w.heap.size, 1, none⟩ = some (.slice q h.m d) ∧ w5b.cell? ⟨w.heap.size, 2, none⟩ = some (.bool !h.b) := ⟨gH5.lt, gH5.cell 0, gH5.cell 1, gH5.cell 2⟩
            have hBk : Calls Tryd.prog 10 #[.agg #[.slice p h.n c, .slice q h.m d, .bool !h.b]] w5b fun e w' => ∃ pl cl, e = .returned (.slice pl kw cl) ∧ (Ints .i64 w' pl kw fun i => WT[i]?.getD 0) ∧ Below w5b.heap.size w5b w' := by
              obtain ⟨en, em, eb, hat5⟩ := hh5
              have := rblack15_any p c q d H w5b hat5 hFH.out
              rw [hbk2, ← en, ← em, ← eb, ← hkw'.out] at this
              refine Calls.mono this ?_
              rintro e w' ⟨pl, cl, rfl, hR, hb⟩
              have hRi := hR.ints
              rw [← hkw'.out] at hRi
              exact ⟨pl, cl, rfl, hRi, hb⟩
            have hIs : ∀ (W : World) (pl pr : Option Addr) (cl cr : Nat), Ints .i64 W pl kw (fun i => WT[i]?.getD 0) → Ints .i64 W pr kw (fun i => WT[i]?.getD 0) → Calls Tryd.prog 15 #[.slice pl kw cl, .slice pr kw cr] W fun e w' => e = .returned (.bool true) ∧ Below W.heap.size W w' := fun W pl pr cl cr h1 h2 => by
              have := rintsG_any pl pr kw cl kw cr _ _ W h1 h2 (by simp only [maxLen]; omega) (by simp only [maxLen]; omega)
              rwa [sameI_self] at this
            have hge' : decide ((nn : Int) ≤ (i : Int)) = true := by simp; omega
            clear hh5 hbk2
            go_wp2_with (first
    | (go_at_call 10; refine Calls.mono (hBk) ?_; rintro e w' ⟨pk, ck, rfl, hRk, hb⟩; obtain ⟨hc, hf, hb, hz⟩ := bstep hb (w := w5b) (by go_grown); try simp only [World.size_alloc, World.size_setCell, World.size_drew] at hc hf hz)
    | (go_at_call 15; refine Calls.mono (hIs _ _ _ _ _ hRk (hIw.below (by go_grown))) ?_; rintro e w' ⟨rfl, hb⟩; obtain ⟨hc, hf, hb, hz⟩ := bstep hb (w := w5b) (by go_grown); try simp only [World.size_alloc, World.size_setCell, World.size_drew] at hc hf hz)
            )
            go_returns
            exact ⟨rfl, bjoin hb hbw5⟩
          · obtain ⟨hI1, hmu1⟩ := hcont.out hret
            have hge' : ¬ ((nn : Int) ≤ (i : Int)) ∨ D = false := by
              cases D with
              | false => exact .inr rfl
              | true => exact .inl (fun hc => hret ⟨rfl, by omega⟩)
            have hmu2 : Hid (muM H1 M1 + ((i + 1 - nn : Nat) : Int) ≤ BO) := hmu1
            obtain ⟨l0, x0, x1, x2, f0, f1, f2⟩ : w.heap.size < w5b.heap.size ∧ w5b.cell? ⟨w.heap.size, 0, none⟩ = some (.slice p h.n c) ∧ w5b.cell? ⟨w.heap.size, 1, none⟩ = some (.slice q h.m d) ∧ w5b.cell? ⟨w.heap.size, 2, none⟩ = some (.bool !h.b) ∧ w5b.frozen? ⟨w.heap.size, 0, none⟩ = false ∧ w5b.frozen? ⟨w.heap.size, 1, none⟩ = false ∧ w5b.frozen? ⟨w.heap.size, 2, none⟩ = false := ⟨gH5.lt, gH5.cell 0, gH5.cell 1, gH5.cell 2, gH5.frozen 0, gH5.frozen 1, gH5.frozen 2⟩
            obtain ⟨lK, k0, k1, k2⟩ : BK < w5b.heap.size ∧ w5b.cell? ⟨BK, 0, none⟩ = some (.slice p1 h.n c1') ∧ w5b.cell? ⟨BK, 1, none⟩ = some (.slice q1 h.m d1') ∧ w5b.cell? ⟨BK, 2, none⟩ = some (.bool !h.b) := ⟨gK.lt, gK.cell 0, gK.cell 1, gK.cell 2⟩
            clear hcont hblk hmu1 hh5 hFH hret
            rcases hge' with hge' | rfl
            case' inl =>
              cases D
              case' false => first | (exfalso; omega) | go_upto_region 20 with fail
              case' true => first | (exfalso; omega) | go_upto_region 20 with fail
            case' inr => go_upto_region 20 with fail
            all_goals
              have hvH := gH5.varH
              have hgX : w.heap.size ≤ BM := by omega
              have hIw6 := ints_away hIw (aside_putsL (T := fun g => g = w.heap.size) rfl [.slice p1 h.n c1', .slice q1 h.m d1', .bool !h.b] 0 w5b) (fun g hg _ b off sp e => by rw [hg]; have := hwlo b off sp e; omega)
              obtain ⟨w6b, hw6⟩ : ∃ W, W = ((w5b.setCell ⟨w.heap.size, 0, none⟩ (.slice p1 h.n c1')).setCell ⟨w.heap.size, 1, none⟩ (.slice q1 h.m d1')).setCell ⟨w.heap.size, 2, none⟩ (.bool !h.b) := ⟨_, rfl⟩
              have hp6 : putsL w.heap.size 0 [.slice p1 h.n c1', .slice q1 h.m d1', .bool !h.b] w5b = w6b := hw6.symm
              rw [← hw6]
              clear hw6 x0 x1 x2 f0 f1 f2 l0 k0 k1 k2 lK
              have gH6 : TBox 25 w.heap.size #[.slice p1 h.n c1', .slice q1 h.m d1', .bool !h.b] w6b := by rw [← hp6]; exact gH5.putsL [.slice p1 h.n c1', .slice q1 h.m d1', .bool !h.b] 0
              have gM6 := tbox_stays gM5 hvH (by decide) [.slice p1 h.n c1', .slice q1 h.m d1', .bool !h.b]
              have gX6 := tbox_stays gX hvH (by decide) [.slice p1 h.n c1', .slice q1 h.m d1', .bool !h.b]
              have hH6 := hpIn_puts (hvH.clear hH1 hn32.1 hn32.2) [.slice p1 h.n c1', .slice q1 h.m d1', .bool !h.b] 0 hH1
              have hM6 := hM1.puts hvH (by decide) (by decide) (by decide) (Nat.le_refl _) [.slice p1 h.n c1', .slice q1 h.m d1', .bool !h.b]
              have hbw6 := hbw5.trans (putsL_below (Nat.le_refl w.heap.size) [.slice p1 h.n c1', .slice q1 h.m d1', .bool !h.b] 0 w5b)
              rw [hp6] at gM6 gX6 hH6 hM6 hbw6 hIw6
              clear hp6 hbw5 hvH gK gH5 gM5 gX hH1 hM1 hIw
              obtain ⟨lX, k0, k1, k2, k3, k4, k5, k6, k7⟩ := mk_cells gX6
              obtain ⟨l8, y0, y1, y2, y3, y4, y5, y6, y7⟩ := mk_cells gM6
              obtain ⟨f0, f1, f2, f3, f4, f5, f6, f7⟩ := mk_frozen gM6
              go_upto_region 13 with fail
              have hvM := gM6.varM
              have hIw7 := ints_away hIw6 (aside_putsL (T := fun g => g = BM) rfl [.int .i64 M1.g.r, .slice pg1 M1.g.n cg1, .slice pb1 M1.nb cb1, .slice pr1 M1.nr cr1, .int .i64 M1.ob, .int .i64 M1.fi, .int .i64 M1.cu, .bool M1.ov] 0 w6b) (fun g hg h0 b off sp e => by rw [hg]; have := hwhi b off sp h0 e; omega)
              obtain ⟨w7b, hw7⟩ : ∃ W, W = (((((((w6b.setCell ⟨BM, 0, none⟩ (.int .i64 M1.g.r)).setCell ⟨BM, 1, none⟩ (.slice pg1 M1.g.n cg1)).setCell ⟨BM, 2, none⟩ (.slice pb1 M1.nb cb1)).setCell ⟨BM, 3, none⟩ (.slice pr1 M1.nr cr1)).setCell ⟨BM, 4, none⟩ (.int .i64 M1.ob)).setCell ⟨BM, 5, none⟩ (.int .i64 M1.fi)).setCell ⟨BM, 6, none⟩ (.int .i64 M1.cu)).setCell ⟨BM, 7, none⟩ (.bool M1.ov) := ⟨_, rfl⟩
              have hp7 : putsL BM 0 [.int .i64 M1.g.r, .slice pg1 M1.g.n cg1, .slice pb1 M1.nb cb1, .slice pr1 M1.nr cr1, .int .i64 M1.ob, .int .i64 M1.fi, .int .i64 M1.cu, .bool M1.ov] w6b = w7b := hw7.symm
              rw [← hw7]
              clear hw7 k0 k1 k2 k3 k4 k5 k6 k7 y0 y1 y2 y3 y4 y5 y6 y7 f0 f1 f2 f3 f4 f5 f6 f7 lX l8
              have gM7b := gM6.putsL [.int .i64 M1.g.r, .slice pg1 M1.g.n cg1, .slice pb1 M1.nb cb1, .slice pr1 M1.nr cr1, .int .i64 M1.ob, .int .i64 M1.fi, .int .i64 M1.cu, .bool M1.ov] 0
              rw [set_eight] at gM7b
              have gH7 := tbox_stays gH6 hvM (by decide) [.int .i64 M1.g.r, .slice pg1 M1.g.n cg1, .slice pb1 M1.nb cb1, .slice pr1 M1.nr cr1, .int .i64 M1.ob, .int .i64 M1.fi, .int .i64 M1.cu, .bool M1.ov]
              have hH7 := hpIn_puts (hvM.clear hH6 hn32.1 hn32.2) [.int .i64 M1.g.r, .slice pg1 M1.g.n cg1, .slice pb1 M1.nb cb1, .slice pr1 M1.nr cr1, .int .i64 M1.ob, .int .i64 M1.fi, .int .i64 M1.cu, .bool M1.ov] 0 hH6
              have hM7 := hM6.puts hvM (by decide) (by decide) (by decide) hgX [.int .i64 M1.g.r, .slice pg1 M1.g.n cg1, .slice pb1 M1.nb cb1, .slice pr1 M1.nr cr1, .int .i64 M1.ob, .int .i64 M1.fi, .int .i64 M1.cu, .bool M1.ov]
              have hbw7 := hbw6.trans (putsL_below hgX [.int .i64 M1.g.r, .slice pg1 M1.g.n cg1, .slice pb1 M1.nb cb1, .slice pr1 M1.nr cr1, .int .i64 M1.ob, .int .i64 M1.fi, .int .i64 M1.cu, .bool M1.ov] 0 w6b)
              rw [hp7] at gM7b gH7 hH7 hM7 hbw7 hIw7
              clear hp7 hbw6 hvM gX6 gM6 gH6 hH6 hM6 hIw6
              go_wp2
              go_roundg (BN + 1 - (i + 1))
              case measure => omega
              case rel => exact ⟨i + 1, H1, M1, p1, c1', q1, d1', pg1, cg1, pb1, cb1, pr1, cr1, rfl, by go_num, hmu2.out, hI1, hnx1'.out, hnx2', gH7, gM7b, hH7, hM7, hIw7, hbw7⟩
    · have hlen : 0 < (bkL (fliH h)).length := List.length_pos_iff.2 hbk
      generalize bkL (fliH h) = BK at *
      clear hbk
      go_wp2_with (first
    | (go_at_call 10; refine Calls.mono (hBl) ?_; rintro e w' ⟨pl, cl, rfl, -, hb⟩; obtain ⟨hc, hf, hb, hz⟩ := bstep hb (w := w4) (by go_grown); try simp only [World.size_alloc, World.size_setCell, World.size_drew] at hc hf hz)
      )
      go_returns
      exact ⟨rfl, bjoin hb hbW4⟩
  · rcases (show (formB h = false) ∨ (formB h = true ∧ apB h = false) ∨ (formB h = true ∧ apB h = true ∧ ¬ h.n ≤ 128) ∨ (formB h = true ∧ apB h = true ∧ h.n ≤ 128 ∧ ¬ n1 ≤ 50) ∨ (formB h = true ∧ apB h = true ∧ h.n ≤ 128 ∧ n1 ≤ 50 ∧ ¬ nn ≤ 50) by
      cases e : formB h with
      | false => exact .inl rfl
      | true =>
        cases e2 : apB h with
        | false => exact .inr (.inl ⟨rfl, rfl⟩)
        | true =>
          by_cases e3 : h.n ≤ 128
          · by_cases e4 : n1 ≤ 50
            · by_cases e5 : nn ≤ 50
              · exact absurd ⟨e, e2, e3, e4, e5⟩ hgo
              · exact .inr (.inr (.inr (.inr ⟨rfl, rfl, e3, e4, e5⟩)))
            · exact .inr (.inr (.inr (.inl ⟨rfl, rfl, e3, e4⟩)))
          · exact .inr (.inr (.inl ⟨rfl, rfl, e3⟩))) with e | ⟨e, e2⟩ | ⟨e, e2, e3⟩ | ⟨e, e2, e3, e4⟩ | ⟨e, e2, e3, e4, e5⟩
    all_goals
      try have hAp := fun W (hW : Below w0.heap.size w0 W) => rapart_any _ _ _ _ _ W (hat.below hW) e
      rw [e] at hFo
      try rw [e2] at hAp
      clear hgo
      try have d1 : decide (128 < (h.n : Int)) = true := by simp; omega
      try have d1 : decide (128 < (h.n : Int)) = false := by simp; omega
      try have d2 : decide (50 < (n1 : Int)) = true := by simp; omega
      try have d2 : decide (50 < (n1 : Int)) = false := by simp; omega
      try have d3 : decide (50 < (nn : Int)) = true := by simp; omega
      go_enter Tryd.func4, Tryd.ntmps4
      go_upto_region 1 with fail
      rw [← hw0]
      clear hw0
      go_wp2_with (first
    | (go_at_call 7; refine Calls.mono (awake17_any _ (hS.below (by go_grown))) ?_; rintro e w' ⟨rfl, hb⟩; obtain ⟨hc, hf, hb, hz⟩ := bstep hb (w := w0) (by go_grown); try simp only [World.size_alloc, World.size_setCell, World.size_drew] at hc hf hz)
    | (go_at_call 19; refine Calls.mono (hFo _ (by go_grown)) ?_; rintro e w' ⟨rfl, hb⟩; obtain ⟨hc, hf, hb, hz⟩ := bstep hb (w := w0) (by go_grown); try simp only [World.size_alloc, World.size_setCell, World.size_drew] at hc hf hz)
    | (go_at_call 9; refine Calls.mono (hAp _ (by go_grown)) ?_; rintro e w' ⟨rfl, hb⟩; obtain ⟨hc, hf, hb, hz⟩ := bstep hb (w := w0) (by go_grown); try simp only [World.size_alloc, World.size_setCell, World.size_drew] at hc hf hz)
      )
      go_returns
      exact ⟨rfl, bjoin hb hB0⟩
namespace MarkExact
/-- What the row lists. -/
def lists : List (String × DataW Unit) := [("flotsam/class.sizes", Rows.laid_flotsam_class_sizes)]
set_option maxRecDepth 100000 in
theorem lifted (os : Os) (started : os.Started) (H : Type) (enc : TypeId × Value → H) :
    ReturnsInHanded {} Tryd.checked os 4 .any (fun w args => (Rows.markExactSpec.pre enc Tryd.prog Tryd.f4 Rows.markExactRow.domain false w args ∧ laidMetH Tryd.prog lists w) ∧ sizedMet enc Tryd.prog Tryd.f4 (OpenSpec.ofChange Rows.markExactSpec) false w args) (Rows.markExactSpec.post enc Tryd.prog Tryd.f4 false true false false) := by
  refine law_lifted_laid (C := Tryd.checked) seat_own started (by kernel_rfl) Tryd.func4 (by kernel_rfl) (of_decide_eq_true (by kernel_rfl)) rfl
    (fun ds hd => by have hd' : ds.length = 5 := hd; match ds, hd' with | [d0, d1, d2, d3, d4], _ => rfl) rfl Tryd.underlying4
    (ChangeSpec.witness_shaped (enc := enc) (C := Tryd.checked) (os := os) (X := fun w _ => laidMetH Tryd.prog lists w) false (World.laidAll Tryd.prog os lists) #[.agg #[.slice none 0 0, .slice none 0 0, .bool false], .int .u8 0, .int .u8 0, .slice none 0 0, .slice none 0 0] 8 (World.laidAll_os _ _ _)
      (World.shaped_of_ZipB (by kernel_rfl) (by kernel_rfl)) (by kernel_rfl) (by kernel_rfl) (by kernel_rfl)
      (by rw [MakeChecks.laidMetH_plain _ _ _ (by kernel_rfl)]; exact laidMet_laidAll _ (by kernel_rfl) (by kernel_rfl))) ?_
  intro W base args ds p hval hA hlt hL
  have hS : Sz W := sizes_of hL (by kernel_rfl) rfl
  rw [Tryd.params4] at hA hval
  obtain ⟨rest⟩ := args
  dsimp only at hA
  obtain ⟨v0, vs0, d0, ds0, p0, q0, rfl, rfl, rfl, h0, hA0⟩ := trodAll_cons hA
  obtain ⟨v1, vs1, d1, ds1, p1, q1, rfl, rfl, rfl, h1, hA1⟩ := trodAll_cons hA0
  obtain ⟨v2, vs2, d2, ds2, p2, q2, rfl, rfl, rfl, h2, hA2⟩ := trodAll_cons hA1
  obtain ⟨v3, vs3, d3, ds3, p3, q3, rfl, rfl, rfl, h3, hA3⟩ := trodAll_cons hA2
  obtain ⟨v4, vs4, d4, ds4, p4, q4, rfl, rfl, rfl, h4, hA4⟩ := trodAll_cons hA3
  obtain ⟨rfl, rfl, rfl⟩ := trodAll_nil hA4
  obtain ⟨x0, q0, c0, s0, e0, rfl, hh0⟩ := open_heap Tryd.underlying25 (by kernel_rfl) (by kernel_rfl) Tryd.underlying22 (by kernel_rfl) (by kernel_rfl) Tryd.underlying23 Tryd.underlying67 (by kernel_rfl) (by kernel_rfl) (by kernel_rfl) (by kernel_rfl) (by kernel_rfl) (by kernel_rfl) (hval 0 25 v0 rfl rfl) h0
  obtain ⟨a1, rfl, ha1⟩ := open_u8 Tryd.underlying5 (hval 1 5 v1 rfl rfl) h1
  obtain ⟨a2, rfl, ha2⟩ := open_u8 Tryd.underlying5 (hval 2 5 v2 rfl rfl) h2
  obtain ⟨q3, n3, cap3, z3, rfl, hv3⟩ := open_vals Tryd.underlying30 Tryd.underlying38 (by kernel_rfl) (by kernel_rfl) (by kernel_rfl) (by kernel_rfl) (hval 3 30 v3 rfl rfl) h3
  obtain ⟨q4, n4, cap4, z4, rfl, hn4, hz4, hq4⟩ := open_slice_ints Tryd.underlying46 Tryd.underlying5 (by kernel_rfl) (hval 4 46 v4 rfl rfl) h4
  exact exact17_walk a1 a2 q3 n3 cap3 z3 q4 n4 cap4 z4 W hh0 ha1 ha2 hv3 hz4 hn4 hS

theorem row_holds : Rows.MarkExactSaid :=
  OpenClaim.holds_of_wide 4 Tryd.f4 rfl rfl rfl rfl rfl rfl rfl ⟨rfl, rfl, rfl, rfl, rfl⟩ rfl rfl rfl rfl rfl (by kernel_rfl) Tryd.func4 (by kernel_rfl)
    (of_decide_eq_true (by kernel_rfl)) (by unfold Func.isWrapper; first | (rw [if_pos (by decide +kernel)]; kernel_rfl) | (rw [if_neg (by decide +kernel)]; exact ⟨rfl, rfl⟩))
    (fun os started H enc _ => lifted os started H enc)
/-- The tied card. -/
theorem holds : Rows.MarkExactCardSaid :=
  Claim7.holds_tied_plain_at .later [] [.data] true (true, "762cbfbcb450865e30f4fdf303f4bfd6aa778faf4866a8b4f1a3cf6ef04837f3") false row_holds (fun _ h => by cases h) (by kernel_rfl) (fun _ h => by cases h) markExact_row_tie rfl ⟨rfl, rfl⟩ (by kernel_rfl) rfl
    (fun f fn hf hfn => by
      obtain rfl : f = 4 := Option.some.inj ((show Tryd.prog.funcNamed "flotsam/flotsamlaw17.MarkExact" = some 4 by kernel_rfl).symm.trans hf) |>.symm
      obtain rfl : fn = Tryd.f4 := (Option.some.inj (Tryd.func4.symm.trans hfn)).symm
      exact ⟨by kernel_rfl, fun j t ht => by
        rw [Tryd.params4] at ht
        have hm : t ∈ [25, 5, 5, 30, 46] := by simpa using Array.mem_of_getElem? ht
        have hall : ([25, 5, 5, 30, 46].all fun u => !Tryd.prog.wantsStandIn u) = true := by kernel_rfl
        exact (show Tryd.prog.wantsStandIn t = false by simpa using List.all_eq_true.1 hall t hm)⟩)
    (by kernel_rfl)
#print axioms holds
end MarkExact
end Go.Proofs.YtiofeebiejkajaaDoor
