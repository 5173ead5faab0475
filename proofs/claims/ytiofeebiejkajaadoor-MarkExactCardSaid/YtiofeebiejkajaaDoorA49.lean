/- The laws' 'ended' (chapter 17): from roots marked to its end, where all is white. -/
import Derived.Test.YtiofeebiejkajaaDoorA46
import Derived.Test.YtiofeebiejkajaaDoorA47
import Derived.Test.YtiofeebiejkajaaDoorA42
namespace Go.Proofs.YtiofeebiejkajaaDoor
set_option linter.unusedSimpArgs false
set_option linter.unusedVariables false
open Go.ChangeShapes Go.WideShapes Go.ChangeAt Go.RowKit Go.Joins

/-- The heap of the other sense. -/
def fliH (h : Hp) : Hp := { h with b := !h.b }
theorem fli_list (h : Hp) : ∀ k, obL (fliH h) k = obL h k
  | 0 => rfl
  | k + 1 => by
    have ih := fli_list h k
    cases e : obB h k with
    | true => rw [obL_yes e, obL_yes (h := fliH h) e, ih]
    | false => rw [obL_no e, obL_no (h := fliH h) e, ih]
theorem fli_apart (h : Hp) : apB (fliH h) = apB h := by
  unfold apB
  rw [show obL (fliH h) (fliH h).n = obL h h.n from fli_list h h.n]
  rfl
theorem HpAt.fli {w : World} {p : Option Addr} {c : Nat} {q : Option Addr} {d : Nat} {h : Hp} (hh : HpAt w p c q d h) : HpAt w p c q d (fliH h) := ⟨hh.ints, hh.spans, hh.nle, hh.mle, hh.pnil, hh.qnil, hh.ncap, hh.mcap⟩
theorem white_of {h : Hp} (hF : formB h = true) (e : bkL h = []) (a : Int) : blB h a = false := by
  cases hb : blB h a with
  | false => rfl
  | true =>
    have ho := black_ob hb
    have : a ∈ bkL h := List.mem_filter.2 ⟨(mem_obL hF).2 ho, hb⟩
    rw [e] at this
    cases this
theorem ha_nb (h : Hp) (m : Mk) (a : Int) : (haM h m a).nb = m.nb ∧ (haM h m a).nr = m.nr := by
  rcases ha_cases h m a with e | ⟨-, -, e⟩ <;> rw [e] <;> exact ⟨rfl, rfl⟩
theorem st_nb (h : Hp) (m : Mk) : (stM h m).2.1.nb = m.nb ∧ (stM h m).2.1.nr ≤ m.nr := by
  unfold stM
  by_cases h1 : ¬ m.ob = -1
  · rw [if_pos h1]
    dsimp only
    by_cases e : m.fi + 1 = obN h m.ob
    · rw [if_pos e]; exact ⟨rfl, Nat.le_refl _⟩
    · rw [if_neg e]; exact ⟨rfl, Nat.le_refl _⟩
  · rw [if_neg h1]
    by_cases h2 : 0 < m.g.n
    · rw [if_pos h2]
      obtain ⟨e1, e2⟩ := ha_nb h { m with g := ⟨m.g.r, m.g.n - 1, m.g.z⟩ } (m.g.z (m.g.n - 1))
      exact ⟨e1, Nat.le_of_eq e2⟩
    · rw [if_neg h2]
      cases hf : fsB m with
      | some i =>
        simp only
        obtain ⟨e1, e2⟩ := ha_nb h { m with b := setB m.b i ⟨(m.b i).r, (m.b i).n - 1, (m.b i).z⟩ } ((m.b i).z ((m.b i).n - 1))
        exact ⟨e1, Nat.le_of_eq e2⟩
      | none =>
        simp only
        by_cases h3 : 0 < m.nr
        · rw [if_pos h3]; exact ⟨rfl, Nat.sub_le _ _⟩
        · rw [if_neg h3]
          by_cases h4 : ¬ m.cu = -1
          · rw [if_pos h4]
            cases hl : lbA h m.cu with
            | some a =>
              simp only
              obtain ⟨e1, e2⟩ := ha_nb h { m with cu := a + 1 } a
              exact ⟨e1, Nat.le_of_eq e2⟩
            | none => exact ⟨rfl, Nat.le_refl _⟩
          · rw [if_neg h4]
            by_cases h5 : m.ov = true
            · rw [if_pos h5]; exact ⟨rfl, Nat.le_refl _⟩
            · rw [if_neg h5]; exact ⟨rfl, Nat.le_refl _⟩
/-- What holds while marking goes on from a beginning where all was white. -/
structure MkI (h0 : Hp) (S : List Int) (h : Hp) (m : Mk) : Prop where
  u : MkU h0 (Rch h0 S) h m
  l : MkL h0 (fun x => x ∈ S) h m
  r : rightM h m
theorem MkI.step {h0 : Hp} {S : List Int} {h : Hp} {m : Mk} (hi : MkI h0 S h m) (hF : formB h0 = true) (hA : apB h0 = true) (hd : (stM h m).2.2 = false) : MkI h0 S (stM h m).1 (stM h m).2.1 ∧ muM (stM h m).1 (stM h m).2.1 + 1 ≤ muM h m := by
  obtain ⟨h1, h2⟩ := st_step (hi.u.pn.form hF) hi.r hd
  exact ⟨⟨hi.u.step hF hA hi.r rch_closed, hi.l.step hF hA hi.r, h2⟩, h1⟩
theorem MkI.exact {h0 : Hp} {S : List Int} {h : Hp} {m : Mk} (hi : MkI h0 S h m) (hF : formB h0 = true) (hd : (stM h m).2.2 = true) (a : Int) : blB h a = true ↔ Rch h0 S a := mark_exact hF hi.u hi.l hd a
theorem MkI.form {h0 : Hp} {S : List Int} {h : Hp} {m : Mk} (hi : MkI h0 S h m) (hF : formB h0 = true) : formB h = true := hi.u.pn.form hF
set_option maxHeartbeats 8000000 in
set_option maxRecDepth 20000 in
theorem ended_any {p : Option Addr} {c : Nat} {q : Option Addr} {d : Nat} {h : Hp} {pv : Option Addr} {K cv : Nat} {z : Nat → Vl} {r : Int} {w : World} (hS : Sz w) (hat : HpAt w p c q d h) (hF : formB h = true) (hA : apB h = true) (hW : ∀ a, blB h a = false) (h0 : 0 ≤ r ∧ r ≤ 16) (hv : VAt w pv cv K z) (hK : K ≤ 50) :
    Calls Tryd.prog 24 #[.agg #[.slice p h.n c, .slice q h.m d, .bool h.b], .int .i64 r, .slice pv K cv] w fun e w' => ∃ p' c' q' d' h', e = .returned (.tuple #[.agg #[.slice p' h.n c', .slice q' h.m d', .bool h.b], .bool true]) ∧ HpIn w' p' h.n c' q' h.m d' h.b h' ∧ Pnt h h' ∧ (∀ a, blB h' a = true ↔ Rch h (vrL z K) a) ∧ Below w.heap.size w w' := by
  have hn32 : 32 ≤ h.n ∧ 0 < h.m ∧ h.n ≤ 512 := by have := form_iff.1 hF; omega
  obtain ⟨w0, hw0⟩ : ∃ w0, w0 = (w.alloc (.cells #[.slice p h.n c, .slice q h.m d, .bool h.b] 25)).alloc (.cells #[.slice none 0 0, .slice none 0 0, .bool false] 25) := ⟨_, rfl⟩
  obtain ⟨gH, gR, hst⟩ := tbox_two hw0
  have hh := (hat.below hst).in
  have hF' : Hid (formB h = true) := hF
  replace hv := hv.below hst
  have hsz0 := hst.size
  have hsz1 : w0.heap.size = w.heap.size + 1 + 1 := by rw [hw0]; simp
  have hI0 : MkI h (vrL z K) h (newM r 0 (fun _ => 0) K z) :=
    ⟨new_u hF hW fun i hi hk ho => .root (vrL_mem.2 ⟨i, hi, hk, rfl⟩) ho, new_l hF hW, new_right h0.1 h0.2 fun i hi => absurd hi (Nat.not_lt_zero i)⟩
  have hmu0 := mu_bound hF hI0.r
  have hfew : fewM (newM r 0 (fun _ => 0) K z) = true := by simp [fewM, newM]; omega
  have hN := fun W (hW : Below w0.heap.size w0 W) => mnew_any (cb := 0) w.heap.size r (w := W) (nb := 0) (br := fun _ => 0) (pb := none) (by have := hW.size; omega) (fun i hi => absurd hi (Nat.not_lt_zero i)) (by omega) (hv.below hW) (by omega) h0 (fun i hi => absurd hi (Nat.not_lt_zero i))
  obtain ⟨l0, x0, x1, x2⟩ : w.heap.size < w0.heap.size ∧ w0.cell? ⟨w.heap.size, 0, none⟩ = some (.slice p h.n c) ∧ w0.cell? ⟨w.heap.size, 1, none⟩ = some (.slice q h.m d) ∧ w0.cell? ⟨w.heap.size, 2, none⟩ = some (.bool h.b) := ⟨gH.lt, gH.cell 0, gH.cell 1, gH.cell 2⟩
  go_enter Tryd.func24, Tryd.ntmps24
  go_upto_region 1 with fail
  rw [← hw0]
  clear hw0
  go_upto_region 2 with (first
    | (go_at_call 20; refine Calls.mono (hN _ (Below.refl _ _)) ?_; rintro e w1 ⟨pg1, cg1, pb1, cb1, pr1, cr1, rfl, hM, hb1⟩)
  )
  obtain ⟨w2, hw2⟩ : ∃ W, W = w1.alloc (.cells #[.int .i64 r, .slice pg1 0 cg1, .slice pb1 0 cb1, .slice pr1 K cr1, .int .i64 (-1), .int .i64 0, .int .i64 (-1), .bool false] 32) := ⟨_, rfl⟩
  have gM : TBox 32 w1.heap.size #[.int .i64 r, .slice pg1 0 cg1, .slice pb1 0 cb1, .slice pr1 K cr1, .int .i64 (-1), .int .i64 0, .int .i64 (-1), .bool false] w2 := by rw [hw2]; exact TBox.new _ _ _
  have hb2 : Below w1.heap.size w1 w2 := by rw [hw2]; exact (Below.refl _ _).alloc (Nat.le_refl _) _
  rw [← hw2]
  clear hw2 hN x0 x1 x2 l0
  have hb02 := bjoin hb2 hb1
  replace gH := gH.below hb02
  replace gR := gR.below hb02
  replace hh := hh.below hb02
  replace hM := hM.below hb2
  have hbw2 := bjoin hb02 hst
  have hBM : w.heap.size + 1 < w1.heap.size := by have := hb1.size; omega
  clear hb1 hb2 hb02 hv
  generalize w1.heap.size = BM at *
  obtain ⟨l0, x0, x1, x2⟩ : w.heap.size < w2.heap.size ∧ w2.cell? ⟨w.heap.size, 0, none⟩ = some (.slice p h.n c) ∧ w2.cell? ⟨w.heap.size, 1, none⟩ = some (.slice q h.m d) ∧ w2.cell? ⟨w.heap.size, 2, none⟩ = some (.bool h.b) := ⟨gH.lt, gH.cell 0, gH.cell 1, gH.cell 2⟩
  obtain ⟨l8, y0, y1, y2, y3, y4, y5, y6, y7⟩ := mk_cells gM
  have hBd : Calls Tryd.prog 12 #[.agg #[.slice p h.n c, .slice q h.m d, .bool h.b], .agg #[.int .i64 r, .slice pg1 0 cg1, .slice pb1 0 cb1, .slice pr1 K cr1, .int .i64 (-1), .int .i64 0, .int .i64 (-1), .bool false]] w2 fun e w' => e = .returned (.int .i64 (boM h (newM r 0 (fun _ => 0) K z) : Int)) ∧ Below w2.heap.size w2 w' :=
    rbound17_any p c q d h (newM r 0 (fun _ => 0) K z) pg1 cg1 pb1 cb1 pr1 cr1 w2 (hat.below hbw2) hF'.out hM.b.plain hfew
  have hboB : boM h (newM r 0 (fun _ => 0) K z) ≤ 5000000 := by
    have h1 := obL_len h h.n
    have : nOb h ≤ 512 := by show (obL h h.n).length ≤ 512; omega
    have h2 : (nOb h + 3) * (17 * nOb h + 8) ≤ 515 * 8712 := Nat.mul_le_mul (by omega) (by omega)
    show (nOb h + 3) * (17 * nOb h + 8) + K + 17 * (0 + 0) + 20 ≤ 5000000
    omega
  go_upto_region 5 with (first
    | (go_at_call 12; refine Calls.mono (hBd) ?_; rintro e w' ⟨rfl, hb⟩; obtain ⟨hc, hf, hb, hz⟩ := bstep hb (w := w2) (by go_grown); try simp only [World.size_alloc, World.size_setCell, World.size_drew] at hc hf hz)
  )
  replace gH := gH.below hb
  replace gR := gR.below hb
  replace gM := gM.below hb
  replace hh := hh.below hb
  replace hM := hM.below hb
  have hbw3 := bjoin hb hbw2
  clear hb hc hf hz x0 x1 x2 l0 l8 y0 y1 y2 y3 y4 y5 y6 y7 hBd hbw2
  generalize w' = w3 at *
  generalize boM h (newM r 0 (fun _ => 0) K z) = BO at *
  go_wp2
  go_loopg [11] (BO + 1) (fun g iv wr => ∃ (i : Nat) (H : Hp) (M : Mk) (p : Option Addr) (c : Nat) (q : Option Addr) (d : Nat) (pg : Option Addr) (cg : Nat) (pb : Option Addr) (cb : Nat) (pr : Option Addr) (cr : Nat), g = BO + 1 - i ∧ iv = .int .i64 i ∧ muM H M ≤ BO - i ∧ MkI h (vrL z K) H M ∧ M.nb = 0 ∧ M.nr ≤ 50 ∧
    TBox 25 w.heap.size #[.slice p h.n c, .slice q h.m d, .bool h.b] wr ∧ TBox 32 BM #[.int .i64 M.g.r, .slice pg M.g.n cg, .slice pb M.nb cb, .slice pr M.nr cr, .int .i64 M.ob, .int .i64 M.fi, .int .i64 M.cu, .bool M.ov] wr ∧ TBox 25 (w.heap.size + 1) #[.slice none 0 0, .slice none 0 0, .bool false] wr ∧
    HpIn wr p h.n c q h.m d h.b H ∧ MAtE w.heap.size wr M pg cg pb cb pr cr ∧ Below w.heap.size w wr)
  case atStart => exact ⟨0, h, newM r 0 (fun _ => 0) K z, p, c, q, d, pg1, cg1, pb1, cb1, pr1, cr1, by omega, rfl, by omega, hI0, rfl, hK, gH, gM, gR, hh, hM, hbw3⟩
  case round =>
    clear gH gM gR hh hM hbw3 hI0 hmu0 hfew hat
    obtain ⟨i, H, M, p, c, q, d, pg, cg, pb, cb, pr, cr, rfl, rfl, hmu, hI, hnb, hnr, gH, gM, gR, hh, hM, hbw⟩ := hrel
    have hmn := mu_nonneg hI.r
    have hle : i ≤ BO := by omega
    have hsz := hbw.size
    have hSt := mstep_in w.heap.size (hS.below hbw) hh (hI.form hF'.out) hM hsz hI.r (by omega) (by omega)
    obtain ⟨l0, x0, x1, x2⟩ : w.heap.size < wr.heap.size ∧ wr.cell? ⟨w.heap.size, 0, none⟩ = some (.slice p h.n c) ∧ wr.cell? ⟨w.heap.size, 1, none⟩ = some (.slice q h.m d) ∧ wr.cell? ⟨w.heap.size, 2, none⟩ = some (.bool h.b) := ⟨gH.lt, gH.cell 0, gH.cell 1, gH.cell 2⟩
    obtain ⟨l8, y0, y1, y2, y3, y4, y5, y6, y7⟩ := mk_cells gM
    have hnx := st_nb H M
    have hnb' : Hid (M.nb = 0) := hnb
    rw [hnb] at hnx
    have hnx' : Hid ((stM H M).2.1.nb = 0 ∧ (stM H M).2.1.nr ≤ M.nr) := hnx
    clear hnb hnx
    have hstep : Hid ((stM H M).2.2 = false → MkI h (vrL z K) (stM H M).1 (stM H M).2.1 ∧ muM (stM H M).1 (stM H M).2.1 + 1 ≤ muM H M) := fun hd => hI.step hF'.out hA hd
    have hex : Hid ((stM H M).2.2 = true → ∀ a, blB H a = true ↔ Rch h (vrL z K) a) := fun hd => hI.exact hF'.out hd
    have hpn := hI.u.pn
    have hmu' : Hid (muM H M ≤ BO - i) := hmu
    clear hI hmn hmu
    generalize (stM H M).1 = H1 at *
    generalize (stM H M).2.1 = M1 at *
    generalize (stM H M).2.2 = D at *
    go_upto_region 9 with (first
    | (go_at_call 13; refine Calls.mono (hSt) ?_; rintro e w' ⟨p1, c1, q1, d1, pg1, cg1, pb1, cb1, pr1, cr1, rfl, hH1, hM1, hb⟩; obtain ⟨hc, hf, hb, hz⟩ := bstep hb (w := wr) (by go_grown); try simp only [World.size_alloc, World.size_setCell, World.size_drew] at hc hf hz)
    )
    obtain ⟨w5, hw5⟩ : ∃ W, W = (w'.alloc (.cells #[.slice p1 h.n c1, .slice q1 h.m d1, .bool h.b] 25)).alloc (.cells #[.int .i64 M1.g.r, .slice pg1 M1.g.n cg1, .slice pb1 M1.nb cb1, .slice pr1 M1.nr cr1, .int .i64 M1.ob, .int .i64 M1.fi, .int .i64 M1.cu, .bool M1.ov] 32) := ⟨_, rfl⟩
    obtain ⟨gK, gX, hbn⟩ := tbox_two hw5
    rw [← hw5]
    clear hw5
    have hb5 := bjoin hbn hb
    replace gH := gH.below hb5
    replace gR := gR.below hb5
    replace gM := gM.below hb5
    replace hh := hh.below hb5
    replace hH1 := hH1.below hbn
    replace hM1 := hM1.below hbn
    replace hbw := bjoin hb5 hbw
    have hKm : BM < w'.heap.size := by have := gM.lt; have := l8; omega
    clear hb5 hb hc hf hz hbn x0 x1 x2 l0 l8 y0 y1 y2 y3 y4 y5 y6 y7 hSt hM
    generalize w'.heap.size = BK at *
    have hsz := hbw.size
    cases D with
    | true =>
      obtain ⟨l0, x0, x1, x2⟩ : w.heap.size < w5.heap.size ∧ w5.cell? ⟨w.heap.size, 0, none⟩ = some (.slice p h.n c) ∧ w5.cell? ⟨w.heap.size, 1, none⟩ = some (.slice q h.m d) ∧ w5.cell? ⟨w.heap.size, 2, none⟩ = some (.bool h.b) := ⟨gH.lt, gH.cell 0, gH.cell 1, gH.cell 2⟩
      obtain ⟨lR, z0, z1, z2, f0, f1, f2⟩ : w.heap.size + 1 < w5.heap.size ∧ w5.cell? ⟨w.heap.size + 1, 0, none⟩ = some (.slice none 0 0) ∧ w5.cell? ⟨w.heap.size + 1, 1, none⟩ = some (.slice none 0 0) ∧ w5.cell? ⟨w.heap.size + 1, 2, none⟩ = some (.bool false) ∧ w5.frozen? ⟨w.heap.size + 1, 0, none⟩ = false ∧ w5.frozen? ⟨w.heap.size + 1, 1, none⟩ = false ∧ w5.frozen? ⟨w.heap.size + 1, 2, none⟩ = false := ⟨gR.lt, gR.cell 0, gR.cell 1, gR.cell 2, gR.frozen 0, gR.frozen 1, gR.frozen 2⟩
      have hex' := hex.out rfl
      clear hex hstep hH1 hM1 gM gK gX gH hmu'
      go_wp2
      refine bodyPost_ret (by simp [results, Tryd.results24, go_sem, *]; try rfl) rfl ?_
      exact ⟨p, c, q, d, H, rfl, hpIn_puts (gR.varH.clear hh hn32.1 hn32.2.1) [.slice p h.n c, .slice q h.m d, .bool h.b] 0 hh, hpn, hex', below_stores hbw (by omega) _ _ _⟩
    | false =>
      obtain ⟨hI1, hmu1⟩ := hstep.out rfl
      have hmu2 : Hid (muM H1 M1 ≤ BO - ((i + 1 : Nat) : Int)) := by
        have := hmu'.out
        show muM H1 M1 ≤ BO - ((i + 1 : Nat) : Int)
        push_cast
        omega
      obtain ⟨l0, x0, x1, x2, f0, f1, f2⟩ : w.heap.size < w5.heap.size ∧ w5.cell? ⟨w.heap.size, 0, none⟩ = some (.slice p h.n c) ∧ w5.cell? ⟨w.heap.size, 1, none⟩ = some (.slice q h.m d) ∧ w5.cell? ⟨w.heap.size, 2, none⟩ = some (.bool h.b) ∧ w5.frozen? ⟨w.heap.size, 0, none⟩ = false ∧ w5.frozen? ⟨w.heap.size, 1, none⟩ = false ∧ w5.frozen? ⟨w.heap.size, 2, none⟩ = false := ⟨gH.lt, gH.cell 0, gH.cell 1, gH.cell 2, gH.frozen 0, gH.frozen 1, gH.frozen 2⟩
      obtain ⟨lK, k0, k1, k2⟩ : BK < w5.heap.size ∧ w5.cell? ⟨BK, 0, none⟩ = some (.slice p1 h.n c1) ∧ w5.cell? ⟨BK, 1, none⟩ = some (.slice q1 h.m d1) ∧ w5.cell? ⟨BK, 2, none⟩ = some (.bool h.b) := ⟨gK.lt, gK.cell 0, gK.cell 1, gK.cell 2⟩
      clear hex hmu' hmu1 hstep hh hpn
      go_upto_region 12 with fail
      obtain ⟨w6, hw6⟩ : ∃ W, W = ((w5.setCell ⟨w.heap.size, 0, none⟩ (.slice p1 h.n c1)).setCell ⟨w.heap.size, 1, none⟩ (.slice q1 h.m d1)).setCell ⟨w.heap.size, 2, none⟩ (.bool h.b) := ⟨_, rfl⟩
      have hp6 : putsL w.heap.size 0 [.slice p1 h.n c1, .slice q1 h.m d1, .bool h.b] w5 = w6 := hw6.symm
      rw [← hw6]
      clear hw6 x0 x1 x2 f0 f1 f2 l0 k0 k1 k2 lK
      have hvH := gH.varH
      replace gH := gH.putsL [.slice p1 h.n c1, .slice q1 h.m d1, .bool h.b] 0
      replace gM := tbox_stays gM hvH (by decide) [.slice p1 h.n c1, .slice q1 h.m d1, .bool h.b]
      replace gX := tbox_stays gX hvH (by decide) [.slice p1 h.n c1, .slice q1 h.m d1, .bool h.b]
      replace gR := gR.of_block (putsL_other (show ¬ w.heap.size + 1 = w.heap.size by omega) [.slice p1 h.n c1, .slice q1 h.m d1, .bool h.b] 0 w5)
      replace hH1 := hpIn_puts (hvH.clear hH1 hn32.1 hn32.2.1) [.slice p1 h.n c1, .slice q1 h.m d1, .bool h.b] 0 hH1
      replace hM1 := hM1.puts hvH (by decide) (by decide) (by decide) (Nat.le_refl _) [.slice p1 h.n c1, .slice q1 h.m d1, .bool h.b]
      have hbw6 := hbw.trans (putsL_below (Nat.le_refl w.heap.size) [.slice p1 h.n c1, .slice q1 h.m d1, .bool h.b] 0 w5)
      rw [hp6] at gH gM gX gR hH1 hM1 hbw6
      clear hp6 hbw hvH gK
      have hX := gX.cell
      obtain ⟨lX, k0, k1, k2, k3, k4, k5, k6, k7⟩ := mk_cells gX
      obtain ⟨l8, y0, y1, y2, y3, y4, y5, y6, y7⟩ := mk_cells gM
      obtain ⟨f0, f1, f2, f3, f4, f5, f6, f7⟩ : w6.frozen? ⟨BM, 0, none⟩ = false ∧ w6.frozen? ⟨BM, 1, none⟩ = false ∧ w6.frozen? ⟨BM, 2, none⟩ = false ∧ w6.frozen? ⟨BM, 3, none⟩ = false ∧ w6.frozen? ⟨BM, 4, none⟩ = false ∧ w6.frozen? ⟨BM, 5, none⟩ = false ∧ w6.frozen? ⟨BM, 6, none⟩ = false ∧ w6.frozen? ⟨BM, 7, none⟩ = false := ⟨gM.frozen 0, gM.frozen 1, gM.frozen 2, gM.frozen 3, gM.frozen 4, gM.frozen 5, gM.frozen 6, gM.frozen 7⟩
      clear hX
      go_upto_region 7 with fail
      obtain ⟨w7, hw7⟩ : ∃ W, W = (((((((w6.setCell ⟨BM, 0, none⟩ (.int .i64 M1.g.r)).setCell ⟨BM, 1, none⟩ (.slice pg1 M1.g.n cg1)).setCell ⟨BM, 2, none⟩ (.slice pb1 M1.nb cb1)).setCell ⟨BM, 3, none⟩ (.slice pr1 M1.nr cr1)).setCell ⟨BM, 4, none⟩ (.int .i64 M1.ob)).setCell ⟨BM, 5, none⟩ (.int .i64 M1.fi)).setCell ⟨BM, 6, none⟩ (.int .i64 M1.cu)).setCell ⟨BM, 7, none⟩ (.bool M1.ov) := ⟨_, rfl⟩
      have hp7 : putsL BM 0 [.int .i64 M1.g.r, .slice pg1 M1.g.n cg1, .slice pb1 M1.nb cb1, .slice pr1 M1.nr cr1, .int .i64 M1.ob, .int .i64 M1.fi, .int .i64 M1.cu, .bool M1.ov] w6 = w7 := hw7.symm
      rw [← hw7]
      clear hw7 k0 k1 k2 k3 k4 k5 k6 k7 y0 y1 y2 y3 y4 y5 y6 y7 f0 f1 f2 f3 f4 f5 f6 f7 lX l8
      have hvM := gM.varM
      have hn0 : w.heap.size ≤ BM := by omega
      have gM' := gM.putsL [.int .i64 M1.g.r, .slice pg1 M1.g.n cg1, .slice pb1 M1.nb cb1, .slice pr1 M1.nr cr1, .int .i64 M1.ob, .int .i64 M1.fi, .int .i64 M1.cu, .bool M1.ov] 0
      rw [set_eight] at gM'
      replace gM := gM'
      clear gM'
      replace gH := tbox_stays gH hvM (by decide) [.int .i64 M1.g.r, .slice pg1 M1.g.n cg1, .slice pb1 M1.nb cb1, .slice pr1 M1.nr cr1, .int .i64 M1.ob, .int .i64 M1.fi, .int .i64 M1.cu, .bool M1.ov]
      replace gR := tbox_stays gR hvM (by decide) [.int .i64 M1.g.r, .slice pg1 M1.g.n cg1, .slice pb1 M1.nb cb1, .slice pr1 M1.nr cr1, .int .i64 M1.ob, .int .i64 M1.fi, .int .i64 M1.cu, .bool M1.ov]
      replace hH1 := hpIn_puts (hvM.clear hH1 hn32.1 hn32.2.1) [.int .i64 M1.g.r, .slice pg1 M1.g.n cg1, .slice pb1 M1.nb cb1, .slice pr1 M1.nr cr1, .int .i64 M1.ob, .int .i64 M1.fi, .int .i64 M1.cu, .bool M1.ov] 0 hH1
      replace hM1 := hM1.puts hvM (by decide) (by decide) (by decide) hn0 [.int .i64 M1.g.r, .slice pg1 M1.g.n cg1, .slice pb1 M1.nb cb1, .slice pr1 M1.nr cr1, .int .i64 M1.ob, .int .i64 M1.fi, .int .i64 M1.cu, .bool M1.ov]
      have hbw7 := hbw6.trans (putsL_below hn0 [.int .i64 M1.g.r, .slice pg1 M1.g.n cg1, .slice pb1 M1.nb cb1, .slice pr1 M1.nr cr1, .int .i64 M1.ob, .int .i64 M1.fi, .int .i64 M1.cu, .bool M1.ov] 0 w6)
      rw [hp7] at gH gM gR hH1 hM1 hbw7
      clear hp7 hbw6 hvM gX
      obtain ⟨hn1, hr1⟩ := hnx'.out
      have hnb1 : Hid (M1.nb = 0) := hn1
      have hnr1 : M1.nr ≤ 50 := by omega
      clear hn1 hr1
      go_wp2
      go_roundg (BO + 1 - (i + 1))
      case measure => omega
      case rel => exact ⟨i + 1, H1, M1, p1, c1, q1, d1, pg1, cg1, pb1, cb1, pr1, cr1, rfl, by go_num, hmu2.out, hI1, hnb1.out, hnr1, gH, gM, gR, hH1, hM1, hbw7⟩
end Go.Proofs.YtiofeebiejkajaaDoor
