/- MarkRooms: begun where all is white, what is black in the end hangs neither on the rooms nor on the order of the roots. No condition; the table that the code reads is tied to the program's text. -/
import Derived.Test.YtiofeebiejkajaaDoorA48
import Derived.Test.YtiofeebiejkajaaDoorA49
import Derived.Test.YtiofeebiejkajaaDoorA51
import Derived.Test.YtiofeebiejkajaaDoorA25
import Derived.Test.YtiofeebiejkajaaDoorRows
import Derived.Test.YtiofeebiejkajaaDoorCards
import Derived.Test.YtiofeebiejkajaaDoorTie
import Derived.SevenTiedAt
namespace Go.Proofs.YtiofeebiejkajaaDoor
set_option linter.unusedSimpArgs false
set_option linter.unusedVariables false
open Go.ChangeShapes Go.WideShapes Go.ChangeAt Go.RowKit Go.Joins

/-- The values in the other order. -/
def turV (z : Nat → Vl) (k : Nat) : Nat → Vl := fun i => z (k - 1 - i)
theorem tur_reach {h : Hp} {z : Nat → Vl} {k : Nat} (a : Int) : Rch h (vrL (turV z k) k) a ↔ Rch h (vrL z k) a := by
  have key : ∀ x, x ∈ vrL (turV z k) k ↔ x ∈ vrL z k := fun x => by
    rw [vrL_mem, vrL_mem]
    constructor
    · rintro ⟨i, hi, h1, h2⟩; exact ⟨k - 1 - i, by omega, h1, h2⟩
    · rintro ⟨i, hi, h1, h2⟩
      refine ⟨k - 1 - i, by omega, ?_, ?_⟩
      · show (z (k - 1 - (k - 1 - i))).k = 2; rw [show k - 1 - (k - 1 - i) = i by omega]; exact h1
      · show (z (k - 1 - (k - 1 - i))).n = x; rw [show k - 1 - (k - 1 - i) = i by omega]; exact h2
  exact ⟨fun hr => hr.mono fun x hx => (key x).1 hx, fun hr => hr.mono fun x hx => (key x).2 hx⟩
set_option maxHeartbeats 16000000 in
set_option maxRecDepth 20000 in
theorem rooms17_walk {p : Option Addr} {c : Nat} {q : Option Addr} {d : Nat} {h : Hp} (a1 : Int) (pv : Option Addr) (n1 c1 : Nat) (z1 : Nat → Vl) (w : World) (hat : HpAt w p c q d h) (b1 : 0 ≤ a1 ∧ a1 < 256) (hv : VAt w pv c1 n1 z1) (hS : Sz w) :
    Calls Tryd.prog 6 #[.agg #[.slice p h.n c, .slice q h.m d, .bool h.b], .int .u8 a1, .slice pv n1 c1] w fun e w' => e = .returned (.bool true) ∧ Below w.heap.size w w' := by
  obtain ⟨w0, hw0⟩ : ∃ w0, w0 = w.alloc (.cells #[.slice p h.n c, .slice q h.m d, .bool h.b] 25) := ⟨_, rfl⟩
  have g3 : TBox 25 w.heap.size #[.slice p h.n c, .slice q h.m d, .bool h.b] w0 := by rw [hw0]; exact TBox.new _ _ _
  have hB0 : Below w.heap.size w w0 := by rw [hw0]; exact (Below.refl _ _).alloc (Nat.le_refl _) _
  have hvr : RowE w.heap.size 38 n1 pv w := rowE_old (fun h0 b off sp e => by
    obtain ⟨⟨b1, o1, e1, hl1, -⟩, -⟩ := hv.row 0 h0
    rw [e] at e1
    injection e1 with e1
    injection e1 with e1
    omega) (Nat.le_refl _)
  have hSw := hS
  replace hat := hat.below hB0
  replace hS := hS.below hB0
  replace hv := hv.below hB0
  replace hvr := hvr.below hB0
  have m1 := hv.nle
  simp only [maxLen] at m1
  have hFo := fun W (hW : Below w0.heap.size w0 W) => rform_any _ _ _ _ _ W (hat.below hW)
  obtain ⟨l0, x0, x1, x2⟩ : w.heap.size < w0.heap.size ∧ w0.cell? ⟨w.heap.size, 0, none⟩ = some (.slice p h.n c) ∧ w0.cell? ⟨w.heap.size, 1, none⟩ = some (.slice q h.m d) ∧ w0.cell? ⟨w.heap.size, 2, none⟩ = some (.bool h.b) := ⟨g3.lt, g3.cell 0, g3.cell 1, g3.cell 2⟩
  by_cases hgo : formB h = true ∧ apB h = true ∧ h.n ≤ 128 ∧ n1 ≤ 50
  · obtain ⟨hF, hA, hn, hl⟩ := hgo
    have hAp := fun W (hW : Below w0.heap.size w0 W) => rapart_any _ _ _ _ _ W (hat.below hW) hF
    rw [hF] at hFo
    rw [hA] at hAp
    have hn32 : 32 ≤ h.n ∧ 0 < h.m := by have := form_iff.1 hF; omega
    have d1 : decide (128 < (h.n : Int)) = false := by simp; omega
    have d2 : decide (50 < (n1 : Int)) = false := by simp; omega
    have hF' : Hid (formB h = true) := hF
    have hA' : Hid (apB h = true) := hA
    clear hF hA
    go_enter Tryd.func6, Tryd.ntmps6
    go_upto_region 1 with fail
    rw [← hw0]
    clear hw0
    go_upto_region 3 with (first
    | (go_at_call 7; refine Calls.mono (awake17_any _ (hS.below (by go_grown))) ?_; rintro e w' ⟨rfl, hb⟩; obtain ⟨hc, hf, hb, hz⟩ := bstep hb (w := w0) (by go_grown); try simp only [World.size_alloc, World.size_setCell, World.size_drew] at hc hf hz)
    | (go_at_call 19; refine Calls.mono (hFo _ (by go_grown)) ?_; rintro e w' ⟨rfl, hb⟩; obtain ⟨hc, hf, hb, hz⟩ := bstep hb (w := w0) (by go_grown); try simp only [World.size_alloc, World.size_setCell, World.size_drew] at hc hf hz)
    | (go_at_call 9; refine Calls.mono (hAp _ (by go_grown)) ?_; rintro e w' ⟨rfl, hb⟩; obtain ⟨hc, hf, hb, hz⟩ := bstep hb (w := w0) (by go_grown); try simp only [World.size_alloc, World.size_setCell, World.size_drew] at hc hf hz)
    )
    have hbW := bjoin hb hB0
    replace g3 := g3.below hb
    have hin := (hat.below hb).in
    replace hS := hS.below hb
    replace hv := hv.below hb
    replace hvr := hvr.below hb
    clear hb hc hf hz x0 x1 x2 l0 hFo hAp hat hB0
    generalize w' = w3 at *
    obtain ⟨l0, x0, x1, x2, f2⟩ : w.heap.size < w3.heap.size ∧ w3.cell? ⟨w.heap.size, 0, none⟩ = some (.slice p h.n c) ∧ w3.cell? ⟨w.heap.size, 1, none⟩ = some (.slice q h.m d) ∧ w3.cell? ⟨w.heap.size, 2, none⟩ = some (.bool h.b) ∧ w3.frozen? ⟨w.heap.size, 2, none⟩ = false := ⟨g3.lt, g3.cell 0, g3.cell 1, g3.cell 2, g3.frozen 2⟩
    go_upto_region 4 with fail
    obtain ⟨w4, hw4⟩ : ∃ W, W = w3.setCell ⟨w.heap.size, 2, none⟩ (.bool !h.b) := ⟨_, rfl⟩
    have hvH := g3.varH
    have g4 : TBox 25 w.heap.size #[.slice p h.n c, .slice q h.m d, .bool !h.b] w4 := by rw [hw4]; exact g3.putsL [.bool !h.b] 2
    have hin4 : HpAt w4 p c q d (fliH h) := by
      rw [hw4]
      obtain ⟨-, -, -, ha⟩ := hpIn_puts (hvH.clear hin hn32.1 hn32.2) [.bool !h.b] 2 hin
      exact ha.fli
    have hv4 : VAt w4 pv c1 n1 z1 := by rw [hw4]; exact hv.setCell (fun h0 b off sp e => hvr.ne hvH (by decide) (Nat.le_refl _) h0 e) 2 (.bool !h.b)
    have hbW4 : Below w.heap.size w w4 := by rw [hw4]; exact hbW.trans (putsL_below (Nat.le_refl w.heap.size) [.bool !h.b] 2 w3)
    rw [← hw4]
    clear hw4 x0 x1 x2 l0 f2 g3 hin hv hvr hvH hbW hS
    have hBl : Calls Tryd.prog 10 #[.agg #[.slice p h.n c, .slice q h.m d, .bool !h.b]] w4 fun e w' => ∃ pl cl, e = .returned (.slice pl (bkL (fliH h)).length cl) ∧ NumRow w4.heap.size (bkL (fliH h)) w' pl cl ∧ Below w4.heap.size w4 w' := rblack15_any p c q d (fliH h) w4 hin4 hF'.out
    obtain ⟨l0, x0, x1, x2⟩ : w.heap.size < w4.heap.size ∧ w4.cell? ⟨w.heap.size, 0, none⟩ = some (.slice p h.n c) ∧ w4.cell? ⟨w.heap.size, 1, none⟩ = some (.slice q h.m d) ∧ w4.cell? ⟨w.heap.size, 2, none⟩ = some (.bool !h.b) := ⟨g4.lt, g4.cell 0, g4.cell 1, g4.cell 2⟩
    by_cases hbk : bkL (fliH h) = []
    · have hwh := white_of (h := fliH h) hF'.out hbk
      rw [hbk] at hBl
      clear hbk
      go_upto_region 6 with (first
    | (go_at_call 10; refine Calls.mono (hBl) ?_; rintro e w' ⟨pl, cl, rfl, -, hb⟩; obtain ⟨hc, hf, hb, hz⟩ := bstep hb (w := w4) (by go_grown); try simp only [World.size_alloc, World.size_setCell, World.size_drew] at hc hf hz)
      )
      have hbW5 := bjoin hb hbW4
      replace g4 := g4.below hb
      replace hin4 := hin4.below hb
      replace hv4 := hv4.below hb
      clear hb hc hf hz x0 x1 x2 l0 hBl hbW4
      generalize w' = w5 at *
      obtain ⟨t0, hq0, hq1, hq2, hq3⟩ := info_parts val_info
      have hrow := hv4.row
      have hz5 : w.heap.size ≤ w5.heap.size := hbW5.size
      go_wp2
      go_loopg [7, 8] n1 (fun g ov iv wr => ∃ j : Nat, j ≤ n1 ∧ g = n1 - j ∧ iv = .int .i64 ((n1 : Int) - 1 - j) ∧ wr.ownsRow w5.heap.size 38 2 ov j (vlVals j (turV z1 n1)) ∧ Below w5.heap.size w5 wr)
      case atStart => exact ⟨0, by omega, by omega, by simp, World.ownsRow_nil _ _ _ _, Below.refl _ _⟩
      case round =>
        obtain ⟨j, jh, rfl, rfl, hown, hbr⟩ := hrel
        have hsz : w5.heap.size ≤ wr.heap.size := hbr.size
        by_cases hj : j < n1
        · obtain ⟨⟨b1, o1, rfl, hl1, v0, v1⟩, -⟩ := (hrow.below hbr) (n1 - 1 - j) (by omega)
          have ei : ((n1 : Int) - 1 - j) = ((n1 - 1 - j : Nat) : Int) := by omega
          have hsn := vlVals_snoc j (turV z1 n1)
          have hvs : (turV z1 n1 j).vals = [.int .i64 (z1 (n1 - 1 - j)).k, .int .i64 (z1 (n1 - 1 - j)).n] := rfl
          rw [hvs] at hsn
          have en : ((n1 : Int) - 1 - j) - 1 = (n1 : Int) - 1 - ((j + 1 : Nat) : Int) := by push_cast; omega
          have ei0 : 0 ≤ ((n1 : Int) - 1 - j) := by omega
          have ei1 : ((n1 : Int) - 1 - j).toNat = n1 - 1 - j := by omega
          generalize (z1 (n1 - 1 - j)).k = kk at *
          generalize (z1 (n1 - 1 - j)).n = nn at *
          rw [← ei1] at v0 v1
          clear hvs ei ei1
          generalize hX1 : vlVals j (turV z1 n1) = X1 at *
          generalize hX2 : vlVals (j + 1) (turV z1 n1) = X2 at *
          generalize hii : (n1 : Int) - 1 - j = ii at *
          go_wp2_with (first
    | (at_builtin; refine wpList_append_own _ rfl (.tmp 52) (.tmp 57) 30 rfl w5.heap.size 38 t0 (.agg #[.int .i64 0, .int .i64 0]) 2 16 Tryd.underlying30 hq0 hq1 hq2 hq3 rfl (by decide) _ _ _ rfl (hown.alloc _) ⟨wr.heap.size, 0, none⟩ 1 1 [.int .i64 kk, .int .i64 nn] rfl rfl (two_new _ _ _ _) (by simp [Value.oneCell']) (by simp only [maxLen]; omega) (by omega) (by simp; omega) ?_; intro ov w8 hown' hgrow _)
          )
          have hb2 := (hbr.alloc hsz (.cells #[.int .i64 kk, .int .i64 nn] 38)).grown hgrow (by simp; omega) (fun k hk => (hown.lt k hk).1)
          rw [hsn] at hown'
          go_roundg (n1 - (j + 1))
          case measure => omega
          case rel => exact ⟨j + 1, by omega, rfl, by rw [← en]; go_num, by rw [hX2]; exact hown', hb2⟩
        · obtain rfl : j = n1 := by omega
          obtain ⟨pt, ct, rfl, -⟩ := owned_new hown
          have hvT := va_owned hown (by simp only [maxLen]; omega) (fun i hi => (hv4.row (j - 1 - i) (by omega)).2)
          have hv6 := hv4.below hbr
          have hin6 := hin4.below hbr
          replace g4 := g4.below hbr
          have hbW6 := bjoin hbr hbW5
          obtain ⟨t, et, t0', t1'⟩ : ∃ t : Int, a1 % 17 = t ∧ 0 ≤ t ∧ t < 17 := ⟨_, rfl, Int.emod_nonneg _ (by omega), Int.emod_lt_of_pos _ (by omega)⟩
          have hE1 : ∀ W, Below wr.heap.size wr W → Calls Tryd.prog 24 #[.agg #[.slice p h.n c, .slice q h.m d, .bool !h.b], .int .i64 t, .slice pv j c1] W fun e w' => ∃ p' c' q' d' h', e = .returned (.tuple #[.agg #[.slice p' h.n c', .slice q' h.m d', .bool !h.b], .bool true]) ∧ HpIn w' p' h.n c' q' h.m d' (!h.b) h' ∧ Pnt (fliH h) h' ∧ (∀ a, blB h' a = true ↔ Rch (fliH h) (vrL z1 j) a) ∧ Below W.heap.size W w' := fun W hW =>
            ended_any (h := fliH h) (hSw.below (bjoin hW hbW6)) (hin6.below hW) hF'.out (by rw [fli_apart]; exact hA'.out) hwh ⟨t0', by omega⟩ (hv6.below hW) hl
          have hE2 : ∀ W, Below wr.heap.size wr W → Calls Tryd.prog 24 #[.agg #[.slice p h.n c, .slice q h.m d, .bool !h.b], .int .i64 16, .slice pt j ct] W fun e w' => ∃ p' c' q' d' h', e = .returned (.tuple #[.agg #[.slice p' h.n c', .slice q' h.m d', .bool !h.b], .bool true]) ∧ HpIn w' p' h.n c' q' h.m d' (!h.b) h' ∧ Pnt (fliH h) h' ∧ (∀ a, blB h' a = true ↔ Rch (fliH h) (vrL (turV z1 j) j) a) ∧ Below W.heap.size W w' := fun W hW =>
            ended_any (h := fliH h) (hSw.below (bjoin hW hbW6)) (hin6.below hW) hF'.out (by rw [fli_apart]; exact hA'.out) hwh ⟨by decide, by decide⟩ (hvT.below hW) hl
          obtain ⟨l0, x0, x1, x2⟩ : w.heap.size < wr.heap.size ∧ wr.cell? ⟨w.heap.size, 0, none⟩ = some (.slice p h.n c) ∧ wr.cell? ⟨w.heap.size, 1, none⟩ = some (.slice q h.m d) ∧ wr.cell? ⟨w.heap.size, 2, none⟩ = some (.bool !h.b) := ⟨g4.lt, g4.cell 0, g4.cell 1, g4.cell 2⟩
          clear hown hv4 hin4 hrow hvT hv6 hin6 hbr hbW5 hwh
          go_upto_region 12 with (first
    | (go_at_call 24; refine Calls.mono (hE1 _ (by go_grown)) ?_; rintro e w' ⟨p1, c1', q1, d1', h1, rfl, hH1, hP1, hX1, hb⟩; obtain ⟨hc, hf, hb, hz⟩ := bstep hb (w := wr) (by go_grown); try simp only [World.size_alloc, World.size_setCell, World.size_drew] at hc hf hz)
          )
          obtain ⟨w7, hw7⟩ : ∃ W, W = w'.alloc (.cells #[.slice p1 h.n c1', .slice q1 h.m d1', .bool !h.b] 25) := ⟨_, rfl⟩
          have gA : TBox 25 w'.heap.size #[.slice p1 h.n c1', .slice q1 h.m d1', .bool !h.b] w7 := by rw [hw7]; exact TBox.new _ _ _
          have hb7 : Below w'.heap.size w' w7 := by rw [hw7]; exact (Below.refl _ _).alloc (Nat.le_refl _) _
          rw [← hw7]
          clear hw7
          have hbr7 := bjoin hb7 hb
          replace hH1 := hH1.below hb7
          have g47 := g4.below hbr7
          clear hE1 hb hc hf hz x0 x1 x2 l0 hb7 g4
          generalize w'.heap.size = BA at *
          obtain ⟨l0, x0, x1, x2⟩ : w.heap.size < w7.heap.size ∧ w7.cell? ⟨w.heap.size, 0, none⟩ = some (.slice p h.n c) ∧ w7.cell? ⟨w.heap.size, 1, none⟩ = some (.slice q h.m d) ∧ w7.cell? ⟨w.heap.size, 2, none⟩ = some (.bool !h.b) := ⟨g47.lt, g47.cell 0, g47.cell 1, g47.cell 2⟩
          have hE2' := hE2 _ hbr7
          clear hE2
          go_upto_region 13 with (first
    | (go_at_call 24; refine Calls.mono (hE2') ?_; rintro e w' ⟨p2, c2', q2, d2', h2, rfl, hH2, hP2, hX2, hb⟩; obtain ⟨hc, hf, hb, hz⟩ := bstep hb (w := w7) (by go_grown); try simp only [World.size_alloc, World.size_setCell, World.size_drew] at hc hf hz)
          )
          obtain ⟨w8, hw8⟩ : ∃ W, W = w'.alloc (.cells #[.slice p2 h.n c2', .slice q2 h.m d2', .bool !h.b] 25) := ⟨_, rfl⟩
          have gB : TBox 25 w'.heap.size #[.slice p2 h.n c2', .slice q2 h.m d2', .bool !h.b] w8 := by rw [hw8]; exact TBox.new _ _ _
          have hb8 : Below w'.heap.size w' w8 := by rw [hw8]; exact (Below.refl _ _).alloc (Nat.le_refl _) _
          rw [← hw8]
          clear hw8
          have hbr8 := bjoin hb8 hb
          replace hH2 := hH2.below hb8
          replace hH1 := hH1.below hbr8
          replace gA := gA.below hbr8
          clear hE2' hb hc hf hz x0 x1 x2 l0 hb8 g47
          generalize w'.heap.size = BB at *
          have hsame : h1 = h2 := pnt_same (h0 := fliH h) hF'.out hP1 hP2 fun a => by rw [Bool.eq_iff_iff, hX1, hX2]; exact (tur_reach a).symm
          subst hsame
          have hSm := rsame_in hH1 hH2
          rw [sameH_self] at hSm
          obtain ⟨lA, k0, k1, k2⟩ : BA < w8.heap.size ∧ w8.cell? ⟨BA, 0, none⟩ = some (.slice p1 h.n c1') ∧ w8.cell? ⟨BA, 1, none⟩ = some (.slice q1 h.m d1') ∧ w8.cell? ⟨BA, 2, none⟩ = some (.bool !h.b) := ⟨gA.lt, gA.cell 0, gA.cell 1, gA.cell 2⟩
          obtain ⟨lB, j0, j1, j2⟩ : BB < w8.heap.size ∧ w8.cell? ⟨BB, 0, none⟩ = some (.slice p2 h.n c2') ∧ w8.cell? ⟨BB, 1, none⟩ = some (.slice q2 h.m d2') ∧ w8.cell? ⟨BB, 2, none⟩ = some (.bool !h.b) := ⟨gB.lt, gB.cell 0, gB.cell 1, gB.cell 2⟩
          clear hP1 hP2 hX1 hX2 hH1 hH2 gA gB
          go_wp2_with (first
    | (go_at_call 22; refine Calls.mono (hSm) ?_; rintro e w' ⟨rfl, hb⟩; obtain ⟨hc, hf, hb, hz⟩ := bstep hb (w := w8) (by go_grown); try simp only [World.size_alloc, World.size_setCell, World.size_drew] at hc hf hz)
          )
          go_returns
          exact ⟨rfl, bjoin (bjoin hb hbr8) (bjoin hbr7 hbW6)⟩
    · have hlen : 0 < (bkL (fliH h)).length := List.length_pos_iff.2 hbk
      generalize bkL (fliH h) = BK at *
      clear hbk
      go_wp2_with (first
    | (go_at_call 10; refine Calls.mono (hBl) ?_; rintro e w' ⟨pl, cl, rfl, -, hb⟩; obtain ⟨hc, hf, hb, hz⟩ := bstep hb (w := w4) (by go_grown); try simp only [World.size_alloc, World.size_setCell, World.size_drew] at hc hf hz)
      )
      go_returns
      exact ⟨rfl, bjoin hb hbW4⟩
  · rcases (show (formB h = false) ∨ (formB h = true ∧ apB h = false) ∨ (formB h = true ∧ apB h = true ∧ ¬ h.n ≤ 128) ∨ (formB h = true ∧ apB h = true ∧ h.n ≤ 128 ∧ ¬ n1 ≤ 50) by
      cases e : formB h with
      | false => exact .inl rfl
      | true =>
        cases e2 : apB h with
        | false => exact .inr (.inl ⟨rfl, rfl⟩)
        | true =>
          by_cases e3 : h.n ≤ 128
          · by_cases e4 : n1 ≤ 50
            · exact absurd ⟨e, e2, e3, e4⟩ hgo
            · exact .inr (.inr (.inr ⟨rfl, rfl, e3, e4⟩))
          · exact .inr (.inr (.inl ⟨rfl, rfl, e3⟩))) with e | ⟨e, e2⟩ | ⟨e, e2, e3⟩ | ⟨e, e2, e3, e4⟩
    all_goals
      try have hAp := fun W (hW : Below w0.heap.size w0 W) => rapart_any _ _ _ _ _ W (hat.below hW) e
      rw [e] at hFo
      try rw [e2] at hAp
      clear hgo
      try have d1 : decide (128 < (h.n : Int)) = true := by simp; omega
      try have d1 : decide (128 < (h.n : Int)) = false := by simp; omega
      try have d2 : decide (50 < (n1 : Int)) = true := by simp; omega
      go_enter Tryd.func6, Tryd.ntmps6
      go_upto_region 1 with fail
      rw [← hw0]
      clear hw0
      go_wp2_with (first
    | (go_at_call 7; refine Calls.mono (awake17_any _ (hS.below (by go_grown))) ?_; rintro e w' ⟨rfl, hb⟩; obtain ⟨hc, hf, hb, hz⟩ := bstep hb (w := w0) (by go_grown); try simp only [World.size_alloc, World.size_setCell, World.size_drew] at hc hf hz)
    | (go_at_call 19; refine Calls.mono (hFo _ (by go_grown)) ?_; rintro e w' ⟨rfl, hb⟩; obtain ⟨hc, hf, hb, hz⟩ := bstep hb (w := w0) (by go_grown); try simp only [World.size_alloc, World.size_setCell, World.size_drew] at hc hf hz)
    | (go_at_call 9; refine Calls.mono (hAp _ (by go_grown)) ?_; rintro e w' ⟨rfl, hb⟩; obtain ⟨hc, hf, hb, hz⟩ := bstep hb (w := w0) (by go_grown); try simp only [World.size_alloc, World.size_setCell, World.size_drew] at hc hf hz)
      )
      go_returns
      exact ⟨rfl, bjoin hb hB0⟩
namespace MarkRooms
/-- What the row lists. -/
def lists : List (String × DataW Unit) := [("flotsam/class.sizes", Rows.laid_flotsam_class_sizes)]
set_option maxRecDepth 100000 in
theorem lifted (os : Os) (started : os.Started) (H : Type) (enc : TypeId × Value → H) :
    ReturnsInHanded {} Tryd.checked os 6 .any (fun w args => (Rows.markRoomsSpec.pre enc Tryd.prog Tryd.f6 Rows.markRoomsRow.domain false w args ∧ laidMetH Tryd.prog lists w) ∧ sizedMet enc Tryd.prog Tryd.f6 (OpenSpec.ofChange Rows.markRoomsSpec) false w args) (Rows.markRoomsSpec.post enc Tryd.prog Tryd.f6 false true false false) := by
  refine law_lifted_laid (C := Tryd.checked) seat_own started (by kernel_rfl) Tryd.func6 (by kernel_rfl) (of_decide_eq_true (by kernel_rfl)) rfl
    (fun ds hd => by have hd' : ds.length = 3 := hd; match ds, hd' with | [d0, d1, d2], _ => rfl) rfl Tryd.underlying4
    (ChangeSpec.witness_shaped (enc := enc) (C := Tryd.checked) (os := os) (X := fun w _ => laidMetH Tryd.prog lists w) false (World.laidAll Tryd.prog os lists) #[.agg #[.slice none 0 0, .slice none 0 0, .bool false], .int .u8 0, .slice none 0 0] 8 (World.laidAll_os _ _ _)
      (World.shaped_of_ZipB (by kernel_rfl) (by kernel_rfl)) (by kernel_rfl) (by kernel_rfl) (by kernel_rfl)
      (by rw [MakeChecks.laidMetH_plain _ _ _ (by kernel_rfl)]; exact laidMet_laidAll _ (by kernel_rfl) (by kernel_rfl))) ?_
  intro W base args ds p hval hA hlt hL
  have hS : Sz W := sizes_of hL (by kernel_rfl) rfl
  rw [Tryd.params6] at hA hval
  obtain ⟨v0, v1, v2, d0, d1, d2, p0, p1, p2, rfl, rfl, rfl, h0, h1, h2⟩ := trodAll_three hA
  obtain ⟨x0, q0, c0, s0, e0, rfl, hh0⟩ := open_heap Tryd.underlying25 (by kernel_rfl) (by kernel_rfl) Tryd.underlying22 (by kernel_rfl) (by kernel_rfl) Tryd.underlying23 Tryd.underlying67 (by kernel_rfl) (by kernel_rfl) (by kernel_rfl) (by kernel_rfl) (by kernel_rfl) (by kernel_rfl) (hval 0 25 v0 rfl rfl) h0
  obtain ⟨a1, rfl, ha1⟩ := open_u8 Tryd.underlying5 (hval 1 5 v1 rfl rfl) h1
  obtain ⟨q2, n2, cap2, z2, rfl, hv2⟩ := open_vals Tryd.underlying30 Tryd.underlying38 (by kernel_rfl) (by kernel_rfl) (by kernel_rfl) (by kernel_rfl) (hval 2 30 v2 rfl rfl) h2
  exact rooms17_walk a1 q2 n2 cap2 z2 W hh0 ha1 hv2 hS

theorem row_holds : Rows.MarkRoomsSaid :=
  OpenClaim.holds_of_wide 6 Tryd.f6 rfl rfl rfl rfl rfl rfl rfl ⟨rfl, rfl, rfl, rfl, rfl⟩ rfl rfl rfl rfl rfl (by kernel_rfl) Tryd.func6 (by kernel_rfl)
    (of_decide_eq_true (by kernel_rfl)) (by unfold Func.isWrapper; first | (rw [if_pos (by decide +kernel)]; kernel_rfl) | (rw [if_neg (by decide +kernel)]; exact ⟨rfl, rfl⟩))
    (fun os started H enc _ => lifted os started H enc)
/-- The tied card. -/
theorem holds : Rows.MarkRoomsCardSaid :=
  Claim7.holds_tied_plain_at .later [] [.data] true (true, "762cbfbcb450865e30f4fdf303f4bfd6aa778faf4866a8b4f1a3cf6ef04837f3") false row_holds (fun _ h => by cases h) (by kernel_rfl) (fun _ h => by cases h) markRooms_row_tie rfl ⟨rfl, rfl⟩ (by kernel_rfl) rfl
    (fun f fn hf hfn => by
      obtain rfl : f = 6 := Option.some.inj ((show Tryd.prog.funcNamed "flotsam/flotsamlaw17.MarkRooms" = some 6 by kernel_rfl).symm.trans hf) |>.symm
      obtain rfl : fn = Tryd.f6 := (Option.some.inj (Tryd.func6.symm.trans hfn)).symm
      exact ⟨by kernel_rfl, fun j t ht => by
        rw [Tryd.params6] at ht
        have hm : t ∈ [25, 5, 30] := by simpa using Array.mem_of_getElem? ht
        have hall : ([25, 5, 30].all fun u => !Tryd.prog.wantsStandIn u) = true := by kernel_rfl
        exact (show Tryd.prog.wantsStandIn t = false by simpa using List.all_eq_true.1 hall t hm)⟩)
    (by kernel_rfl)
#print axioms holds
end MarkRooms
end Go.Proofs.YtiofeebiejkajaaDoor
