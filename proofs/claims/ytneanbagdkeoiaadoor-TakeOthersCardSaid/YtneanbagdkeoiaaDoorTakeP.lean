/- Contracts of the code's least and Page (chapter 11). -/
import Derived.Test.YtneanbagdkeoiaaDoorTakeK
import Derived.Test.YtneanbagdkeoiaaDoorHeap
import Derived.Laws.EntriesVeiled
namespace Go.Proofs.YtneanbagdkeoiaaDoor
set_option linter.unusedSimpArgs false
set_option linter.unusedVariables false
open Go.ChangeShapes Go.WideShapes Go.ChangeAt Go.RowKit Go.Joins

set_option maxHeartbeats 4000000 in
theorem tleast_any {K : FuncId} {caps : Array Value} {P : Nat → Bool} (hent : ∀ args w, (callFunc K args).run Tryd.prog w = .ok (.enter K args) w) (p : Option Addr) (c : Nat) (q : Option Addr) (d : Nat) (h : Hp) (w : World) (hm : h.m ≤ 16)
    (hcl : ∀ g : Nat, g < h.m → ∀ W1, Below w.heap.size w W1 → Calls Tryd.prog K (#[.int .i64 g] ++ caps) W1 fun e W2 => e = .returned (.bool (P g)) ∧ Below W1.heap.size W1 W2) :
    Calls Tryd.prog 30 #[.agg #[.slice p h.n c, .slice q h.m d, .bool h.b], .func (.func K) #[] caps] w fun e w' => e = .returned (pageV ((List.range h.m).find? P)) ∧ Below w.heap.size w w' := by
  obtain ⟨w0, hw0⟩ : ∃ w0, w0 = w.alloc (.cells #[.slice p h.n c, .slice q h.m d, .bool h.b] 25) := ⟨_, rfl⟩
  have g3 : Box3 w.heap.size (.slice p h.n c) (.slice q h.m d) (.bool h.b) w0 := by rw [hw0]; exact Box3.new _ _ _ _ _
  have hbA : Below w.heap.size w w0 := by rw [hw0]; exact (Below.refl _ _).alloc (Nat.le_refl _) _
  have hN := qnew_any none 0 0 (fun _ => 0) w0 (fun i hi => by omega) (fun _ => ⟨rfl, rfl⟩) (by omega)
  go_enter Tryd.func30, Tryd.ntmps30
  go_upto_region 1 with fail
  rw [← hw0]
  clear hw0
  go_upto_region 2 with (first
    | (go_at_call 52; refine Calls.mono hN ?_; rintro e w1 ⟨b, v, R, rfl, hrw, hp0, hh0, hb1⟩)
  )
  have hR0 : R = [] := by simpa [listZ] using hp0
  subst hR0
  have hq0 : Qu w0.heap.size b [] v w1 := ⟨hrw, hh0⟩
  obtain ⟨l3, x0, x1, x2, -, -, -⟩ := g3.below hb1
  clear hN hp0 hrw hh0
  go_wp2
  clear x0 x1 x2
  go_loopg [12] h.m (fun g iv wr => ∃ (i : Nat) (R : List Int) (v : Value), i ≤ h.m ∧ g = h.m - i ∧ iv = .int .i64 i ∧ Qu w0.heap.size b R v wr ∧ R.Perm (filP P i) ∧ Below w0.heap.size w0 wr)
  case atStart => exact ⟨0, [], v, by omega, by omega, rfl, hq0, List.Perm.refl _, hb1⟩
  case round =>
    clear hq0 hb1
    obtain ⟨i, R, v, ih, rfl, rfl, hq, hp, hbw⟩ := hrel
    by_cases hi : i < h.m
    · have hC := hcl i hi wr (bjoin hbw hbA)
      have hlen : R.length < 1000000 := by
        have h1 := hp.length_eq
        have h2 := filP_len P i
        omega
      cases hP : P i
      case' false =>
        have hp2 : Hid (R.Perm (filP P (i + 1))) := by show R.Perm (filP P (i + 1)); rw [filP_no hP]; exact hp
        rw [hP] at hC
        clear hP hp hcl
        go_wp2_with (first
          | (go_at_fn K; refine Calls.mono hC ?_; rintro e w2 ⟨rfl, hb2⟩)
        )
        go_roundg (h.m - (i + 1))
        case measure => omega
        case rel => exact ⟨i + 1, R, v, by omega, rfl, by go_num, hq.below hb2, hp2.out, bjoin hb2 hbw⟩
      case' true =>
        have hp2 : Hid (∀ R' : List Int, R'.Perm ((i : Int) :: R) → R'.Perm (filP P (i + 1))) := fun R' h' => by
          rw [filP_yes hP]
          exact h'.trans ((List.Perm.cons _ hp).trans (List.perm_append_singleton _ _).symm)
        rw [hP] at hC
        clear hP hp hcl
        go_wp2_with (first
          | (go_at_fn K; refine Calls.mono hC ?_; rintro e w2 ⟨rfl, hb2⟩)
          | (go_at_call 53; refine Calls.mono (qpushQ_any (i : Int) _ (hq.below hb2) hlen) ?_; rintro e w3 ⟨rfl, R', v', hq', hp', -, hA⟩)
        )
        go_roundg (h.m - (i + 1))
        case measure => omega
        case rel => exact ⟨i + 1, R', v', by omega, rfl, by go_num, hq', hp2.out R' hp', (bjoin hb2 hbw).trans ((hq.below hb2).stays hA)⟩
    · obtain rfl : i = h.m := by omega
      cases R with
      | nil =>
        have hfn : Hid ((List.range h.m).find? P = none) := fil_none hp
        have hL := qleast_none wr hq
        clear hp hcl
        go_wp2_with (first
    | (go_at_call 54; refine Calls.mono (hL) ?_; rintro e w' ⟨rfl, hb⟩; obtain ⟨hc, hf, hb, hz⟩ := bstep hb (w := wr) (by go_grown); try simp only [World.size_alloc, World.size_setCell, World.size_drew] at hc hf hz)
        )
        go_returns
        exact ⟨by rw [hfn.out]; rfl, bjoin hb (bjoin hbw hbA)⟩
      | cons x R =>
        obtain ⟨g, -, hfd, ha⟩ := fil_some hp hq.heap (by simp)
        have hfn : Hid ((List.range h.m).find? P = some g) := hfd
        have hL := qleast_some R.length wr hq (by simp)
        rw [ha] at hL
        clear hp hcl ha
        go_wp2_with (first
    | (go_at_call 54; refine Calls.mono (hL) ?_; rintro e w' ⟨rfl, hb⟩; obtain ⟨hc, hf, hb, hz⟩ := bstep hb (w := wr) (by go_grown); try simp only [World.size_alloc, World.size_setCell, World.size_drew] at hc hf hz)
        )
        go_returns
        exact ⟨by rw [hfn.out]; rfl, bjoin hb (bjoin hbw hbA)⟩
set_option maxHeartbeats 4000000 in
theorem page1_any {p : Option Addr} {c : Nat} {q : Option Addr} {d : Nat} {h : Hp} {B4 B7 : Nat} {cl : Int} (g : Int) (w : World) (hh : HpAt w p c q d h) (hF : formB h = true) (g3 : Box3 B4 (.slice p h.n c) (.slice q h.m d) (.bool h.b) w) (g1 : Box1 B7 (.int .i64 cl) w) :
    Calls Tryd.prog 28 #[.int .i64 g, .pointer (some ⟨B4, 0, none⟩), .pointer (some ⟨B7, 0, none⟩)] w fun e w' => e = .returned (.bool (roB h g cl)) ∧ Below w.heap.size w w' := by
  have hO := tisof_any p c q d h g cl w hh
  obtain ⟨l3, x0, x1, x2, -, -, -⟩ := g3
  obtain ⟨l1, z0, -⟩ := g1
  cases ho : isO h g cl with
  | false =>
    have e : roB h g cl = false := by simp [roB, ho]
    rw [e]
    rw [ho] at hO
    clear e ho
    go_enter Tryd.func28, Tryd.ntmps28
    go_wp2_with (first
    | (go_at_call 26; refine Calls.mono (hO) ?_; rintro e w' ⟨rfl, hb⟩; obtain ⟨hc, hf, hb, hz⟩ := bstep hb (w := w) (by go_grown); try simp only [World.size_alloc, World.size_setCell, World.size_drew] at hc hf hz)
    )
    go_returns
    exact ⟨rfl, by go_grown⟩
  | true =>
    obtain ⟨g0, g1, -⟩ := isO_iff.1 ho
    have hok := right_ok (form_at hF g0 g1)
    obtain ⟨⟨bs, os, rfl, hls, s0, s1, s2⟩, -⟩ := hh.spans g.toNat (by omega)
    have e : roB h g cl = ((h.s g.toNat).st == 1 && !fullB (h.s g.toNat).st (h.s g.toNat).fr) := by simp [roB, ho, spH]
    rw [e]
    rw [ho] at hO
    have hok : OkS (h.s g.toNat).st := hok
    have hmm := (form_iff.1 hF).2.1
    clear e ho hF
    generalize (h.s g.toNat).st = st at *
    generalize (h.s g.toNat).cl = cl' at *
    generalize (h.s g.toNat).fr = fr at *
    by_cases h1 : st = 1
    · have hU := fun W => sfull_any st cl' fr W hok
      generalize fullB st fr = F at *
      subst h1
      go_enter Tryd.func28, Tryd.ntmps28
      go_wp2_with (first
    | (go_at_call 26; refine Calls.mono (hO) ?_; rintro e w' ⟨rfl, hb⟩; obtain ⟨hc, hf, hb, hz⟩ := bstep hb (w := w) (by go_grown); try simp only [World.size_alloc, World.size_setCell, World.size_drew] at hc hf hz)
    | (go_at_call 29; refine Calls.mono (hU _) ?_; rintro e w' ⟨rfl, hb⟩; obtain ⟨hc, hf, hb, hz⟩ := bstep hb (w := w) (by go_grown); try simp only [World.size_alloc, World.size_setCell, World.size_drew] at hc hf hz)
      )
      go_returns
      exact ⟨ret_bool (by simp), by go_grown⟩
    · have d0 : (st == 1) = false := by simp [h1]
      rw [d0]
      go_enter Tryd.func28, Tryd.ntmps28
      go_wp2_with (first
    | (go_at_call 26; refine Calls.mono (hO) ?_; rintro e w' ⟨rfl, hb⟩; obtain ⟨hc, hf, hb, hz⟩ := bstep hb (w := w) (by go_grown); try simp only [World.size_alloc, World.size_setCell, World.size_drew] at hc hf hz)
      )
      go_returns
      exact ⟨rfl, by go_grown⟩
theorem enters_page1 : ∀ args w, (callFunc 28 args).run Tryd.prog w = .ok (.enter 28 args) w := enters_of Tryd.func28 (by kernel_rfl) rfl
theorem enters_page2 : ∀ args w, (callFunc 31 args).run Tryd.prog w = .ok (.enter 31 args) w := enters_of Tryd.func31 (by kernel_rfl) rfl
theorem enters_page3 : ∀ args w, (callFunc 32 args).run Tryd.prog w = .ok (.enter 32 args) w := enters_of Tryd.func32 (by kernel_rfl) rfl
set_option maxHeartbeats 4000000 in
theorem page2_any {B4 B7 B10 B5 : Nat} {pc : Option Addr} {n cc : Nat} {y : Nat → Int} {R : Bool} (g : Int) (w : World) (gf : Box1 B10 (.func (.func 28) #[] #[.pointer (some ⟨B4, 0, none⟩), .pointer (some ⟨B7, 0, none⟩)]) w) (gc : Box1 B5 (.slice pc n cc) w) (hin : Ints .i64 w pc (n * 4) y) (hn : n ≤ 1000)
    (h1 : Calls Tryd.prog 28 #[.int .i64 g, .pointer (some ⟨B4, 0, none⟩), .pointer (some ⟨B7, 0, none⟩)] w fun e w' => e = .returned (.bool R) ∧ Below w.heap.size w w') :
    Calls Tryd.prog 31 #[.int .i64 g, .pointer (some ⟨B10, 0, none⟩), .pointer (some ⟨B5, 0, none⟩)] w fun e w' => e = .returned (.bool (R && !keptY n y g)) ∧ Below w.heap.size w w' := by
  have hK := fun W (hW : Below w.heap.size w W) => tkept_any pc n cc y g W (hin.below hW) hn
  generalize keptY n y g = kb at *
  obtain ⟨lf, f0, -⟩ := gf
  obtain ⟨lc, c0, -⟩ := gc
  cases R with
  | false =>
    go_enter Tryd.func31, Tryd.ntmps31
    go_wp2_with (first
      | (go_at_call 28; refine Calls.mono h1 ?_; rintro e w1 ⟨rfl, hb1⟩; obtain ⟨hc, hf, hb, hz⟩ := bstep hb1 (w := w) (Below.refl _ _))
    )
    go_returns
    exact ⟨rfl, by go_grown⟩
  | true =>
    go_enter Tryd.func31, Tryd.ntmps31
    go_wp2_with (first
      | (go_at_call 28; refine Calls.mono h1 ?_; rintro e w1 ⟨rfl, hb1⟩; obtain ⟨hc, hf, hb, hz⟩ := bstep hb1 (w := w) (Below.refl _ _))
      | (go_at_call 13; refine Calls.mono (hK _ hb1) ?_; rintro e w2 ⟨rfl, hb2⟩; replace hb2 := bjoin hb2 hb1; obtain ⟨hc, hf, hb, hz⟩ := bstep hb2 (w := w) (Below.refl _ _))
    )
    go_returns
    exact ⟨ret_bool (by simp), by go_grown⟩
set_option maxHeartbeats 2000000 in
theorem page3_any {p : Option Addr} {c : Nat} {q : Option Addr} {d : Nat} {h : Hp} {B4 : Nat} (g : Nat) (hg : g < h.m) (w : World) (hh : HpAt w p c q d h) (g3 : Box3 B4 (.slice p h.n c) (.slice q h.m d) (.bool h.b) w) :
    Calls Tryd.prog 32 #[.int .i64 g, .pointer (some ⟨B4, 0, none⟩)] w fun e w' => e = .returned (.bool ((spH h (g : Int)).st == 0)) ∧ Below w.heap.size w w' := by
  have hmm := hh.mle
  simp only [maxLen] at hmm
  obtain ⟨l3, x0, x1, x2, -, -, -⟩ := g3
  obtain ⟨⟨bs, os, rfl, hls, s0, s1, s2⟩, -⟩ := hh.spans g hg
  have e : (spH h (g : Int)).st = (h.s g).st := by simp [spH]
  rw [e]
  generalize (h.s g).st = st at *
  clear hh
  go_enter Tryd.func32, Tryd.ntmps32
  go_wp2
  go_returns
  exact ⟨ret_bool (by simp), by go_grown⟩
theorem pageV_two (x : Option Nat) : ∃ i b, pageV x = .tuple #[.int .i64 i, .bool b] := by
  cases x with
  | none => exact ⟨_, _, rfl⟩
  | some i => exact ⟨_, _, rfl⟩
set_option maxRecDepth 20000 in
set_option maxHeartbeats 8000000 in
theorem tpage_any (p : Option Addr) (c : Nat) (q : Option Addr) (d : Nat) (h : Hp) (pc : Option Addr) (n cc : Nat) (y : Nat → Int) (m cl : Nat) (w : World) (hh : HpAt w p c q d h) (hF : formB h = true) (hin : Ints .i64 w pc (n * 4) y) (hn : n ≤ 1000) (hm : m < n) (hc : cl < 4) (hr : rightY h n y = true) :
    Calls Tryd.prog 16 #[.agg #[.slice p h.n c, .slice q h.m d, .bool h.b], .slice pc n cc, .int .i64 m, .int .i64 cl] w fun e w' => e = .returned (pageV (pageY h n y m cl)) ∧ Below w.heap.size w w' := by
  have hpc := page_code hh.wf hr hm hc
  have hm16 := (form_iff.1 hF).2.1
  obtain ⟨w0, hw0⟩ : ∃ w0, w0 = ((w.alloc (.cells #[.slice p h.n c, .slice q h.m d, .bool h.b] 25)).alloc (.cells #[.slice pc n cc] 26)).alloc (.cells #[.int .i64 cl] 3) := ⟨_, rfl⟩
  obtain ⟨wa, hwa⟩ : ∃ wa, wa = w.alloc (.cells #[.slice p h.n c, .slice q h.m d, .bool h.b] 25) := ⟨_, rfl⟩
  obtain ⟨wb, hwb⟩ : ∃ wb, wb = wa.alloc (.cells #[.slice pc n cc] 26) := ⟨_, rfl⟩
  have hw0' : w0 = wb.alloc (.cells #[.int .i64 cl] 3) := by rw [hw0, hwb, hwa]
  have za : wa.heap.size = w.heap.size + 1 := by rw [hwa]; simp
  have zb : wb.heap.size = w.heap.size + 2 := by rw [hwb]; simp [za]
  have z0 : w0.heap.size = w.heap.size + 3 := by rw [hw0']; simp [zb]
  have ba : Below w.heap.size w wa := by rw [hwa]; exact (Below.refl _ _).alloc (Nat.le_refl _) _
  have bb : Below wa.heap.size wa wb := by rw [hwb]; exact (Below.refl _ _).alloc (Nat.le_refl _) _
  have b0 : Below wb.heap.size wb w0 := by rw [hw0']; exact (Below.refl _ _).alloc (Nat.le_refl _) _
  have g4 : Box3 w.heap.size (.slice p h.n c) (.slice q h.m d) (.bool h.b) w0 := by
    have : Box3 w.heap.size (.slice p h.n c) (.slice q h.m d) (.bool h.b) wa := by rw [hwa]; exact Box3.new _ _ _ _ _
    exact (this.below bb).below b0
  have g5 : Box1 (w.heap.size + 1) (.slice pc n cc) w0 := by
    have : Box1 wa.heap.size (.slice pc n cc) wb := by rw [hwb]; exact Box1.new _ _ _
    rw [za] at this
    exact this.below b0
  have g7 : Box1 (w.heap.size + 1 + 1) (.int .i64 cl) w0 := by
    have : Box1 wb.heap.size (.int .i64 cl) w0 := by rw [hw0']; exact Box1.new _ _ _
    rw [zb] at this
    exact this
  have hbA : Below w.heap.size w w0 := bjoin b0 (bjoin bb ba)
  have hat := hh.below hbA
  have hY := hin.below hbA
  clear hw0' hwa hwb za zb z0 ba bb b0 hh hin wa wb
  obtain ⟨l4, x0, x1, x2, -, -, -⟩ := id g4
  obtain ⟨l5, k5, -⟩ := id g5
  obtain ⟨l7, k7, -⟩ := id g7
  have hF' : Hid (formB h = true) := hF
  obtain ⟨⟨b, off, rfl, hlt, hv⟩, -⟩ := hY (m * 4 + cl) (by omega)
  rw [← Nat.add_assoc] at hv
  go_enter Tryd.func16, Tryd.ntmps16
  go_upto_region 1 with fail
  rw [← hw0]
  clear hw0 hF
  go_upto_region 4 with fail
  obtain ⟨w1, hw1⟩ : ∃ w1, w1 = w0.alloc (.cells #[.func (.func 28) #[] #[.pointer (some ⟨w.heap.size, 0, none⟩), .pointer (some ⟨w.heap.size + 1 + 1, 0, none⟩)]] 62) := ⟨_, rfl⟩
  have hB1 : Below w0.heap.size w0 w1 := by rw [hw1]; exact (Below.refl _ _).alloc (Nat.le_refl _) _
  have gf : Box1 w0.heap.size (.func (.func 28) #[] #[.pointer (some ⟨w.heap.size, 0, none⟩), .pointer (some ⟨w.heap.size + 1 + 1, 0, none⟩)]) w1 := by rw [hw1]; exact Box1.new _ _ _
  have g4 := g4.below hB1
  have g5 := g5.below hB1
  have g7 := g7.below hB1
  have hat := hat.below hB1
  have hY := hY.below hB1
  have hv := (hB1.cell (p := ⟨b, off + m * 4 + cl, none⟩) hlt).trans hv
  have hlt := Nat.lt_of_lt_of_le hlt hB1.size
  have hbA := bjoin hB1 hbA
  rw [← hw1]
  clear hw1 x0 x1 x2 l4 l5 l7 k5 k7 hB1
  generalize w0.heap.size = B10 at *
  obtain ⟨l4, x0, x1, x2, -, -, -⟩ := id g4
  obtain ⟨l5, k5, -⟩ := id g5
  obtain ⟨l7, k7, -⟩ := id g7
  go_region
  obtain ⟨w2, hw2⟩ : ∃ W, W = w1.drew := ⟨_, rfl⟩
  have hB2 : Below w1.heap.size w1 w2 := by rw [hw2]; exact (Below.refl _ _).drew
  have gf := gf.below hB2
  have g4 := g4.below hB2
  have g5 := g5.below hB2
  have g7 := g7.below hB2
  have hat := hat.below hB2
  have hY := hY.below hB2
  have hbA := bjoin hB2 hbA
  rw [← hw2]
  clear hw2 x0 x1 x2 l4 l5 l7 k5 k7 hv hB2
  obtain ⟨l4, x0, x1, x2, -, -, -⟩ := id g4
  obtain ⟨l9, k9, -⟩ := id gf
  have hP1 := fun (g : Int) (W : World) (hW : Below w2.heap.size w2 W) => page1_any g W (hat.below hW) hF'.out (g4.below hW) (g7.below hW)
  have hown := hP1 (y (m * 4 + cl)) w2 (Below.refl _ _)
  cases hro : roB h (y (m * 4 + cl)) cl with
  | true =>
    have h0 : 0 ≤ y (m * 4 + cl) := by
      have h1 : isO h (y (m * 4 + cl)) cl = true := by unfold roB at hro; simp only [Bool.and_eq_true] at hro; exact hro.1
      exact (isO_iff.1 h1).1
    have hV : Hid (pageV (pageY h n y m cl) = .tuple #[.int .i64 (y (m * 4 + cl)), .bool true]) := by
      show pageV (pageY h n y m cl) = _
      rw [hpc, if_pos hro]
      simp only [pageV]; rw [Int.toNat_of_nonneg h0]
    rw [hro] at hown
    clear hro hP1 h0 hpc
    generalize y (m * 4 + cl) = x at *
    go_wp2_with (first
      | (go_at_call 28; refine Calls.mono hown ?_; rintro e w3 ⟨rfl, hb3⟩)
    )
    go_returns
    exact ⟨by rw [hV.out]; rfl, bjoin hb3 hbA⟩
  | false =>
    rw [if_neg (by rw [hro]; simp)] at hpc
    rw [hro] at hown
    have hL2 := fun (W : World) (hW : Below w2.heap.size w2 W) => tleast_any (K := 31) (caps := #[.pointer (some ⟨B10, 0, none⟩), .pointer (some ⟨w.heap.size + 1, 0, none⟩)]) (P := fun (p : Nat) => roB h (p : Int) cl && !keptY n y p) enters_page2 p c q d h W hm16
      (fun g hg W1 hb1 => page2_any (g : Int) W1 (gf.below (bjoin hb1 hW)) (g5.below (bjoin hb1 hW)) (hY.below (bjoin hb1 hW)) hn (hP1 g W1 (bjoin hb1 hW)))
    have hL3 := fun (W : World) (hW : Below w2.heap.size w2 W) => tleast_any (K := 32) (caps := #[.pointer (some ⟨w.heap.size, 0, none⟩)]) (P := fun (p : Nat) => (spH h (p : Int)).st == 0) enters_page3 p c q d h W hm16
      (fun g hg W1 hb1 => page3_any g hg W1 (hat.below (bjoin hb1 hW)) (g4.below (bjoin hb1 hW)))
    clear hro hP1
    generalize y (m * 4 + cl) = x at *
    cases e2 : (List.range h.m).find? (fun (p : Nat) => roB h (p : Int) cl && !keptY n y p) with
    | some g =>
      rw [e2] at hL2 hpc
      rw [Option.some_or] at hpc
      have hV : Hid (pageV (pageY h n y m cl) = .tuple #[.int .i64 (g : Int), .bool true]) := by
        show pageV (pageY h n y m cl) = _
        rw [hpc]; rfl
      simp only [pageV] at hL2
      clear e2 hL3 hpc
      go_wp2_with (first
        | (go_at_call 28; refine Calls.mono hown ?_; rintro e w3 ⟨rfl, hb3⟩; obtain ⟨hc, hf, hb, hz⟩ := bstep hb3 (w := w2) (Below.refl _ _))
        | (go_at_call 30; refine Calls.mono (hL2 _ hb3) ?_; rintro e w4 ⟨rfl, hb4⟩; replace hb4 := bjoin hb4 hb3)
      )
      go_returns
      exact ⟨by rw [hV.out]; rfl, bjoin hb4 hbA⟩
    | none =>
      rw [e2] at hL2 hpc
      rw [Option.none_or] at hpc
      generalize (List.range h.m).find? (fun (p : Nat) => (spH h (p : Int)).st == 0) = r at *
      obtain ⟨i, bb, hV2⟩ := pageV_two r
      have hV : Hid (pageV (pageY h n y m cl) = .tuple #[.int .i64 i, .bool bb]) := by
        show pageV (pageY h n y m cl) = _
        rw [hpc, hV2]
      rw [hV2] at hL3
      simp only [pageV] at hL2
      clear e2 hV2 hpc
      go_upto_region 7 with (first
        | (go_at_call 28; refine Calls.mono hown ?_; rintro e w3 ⟨rfl, hb3⟩)
      )
      have r4 := g4.below hb3
      obtain ⟨l4, x0, x1, x2, -, -, -⟩ := id r4
      go_upto_region 8 with (first
        | (go_at_call 30; refine Calls.mono (hL2 _ hb3) ?_; rintro e w4 ⟨rfl, hb4⟩; replace hb4 := bjoin hb4 hb3)
      )
      have r4 := g4.below hb4
      clear l4 x0 x1 x2 hL2
      obtain ⟨l4, x0, x1, x2, -, -, -⟩ := id r4
      go_wp2_with (first
        | (go_at_call 30; refine Calls.mono (hL3 _ hb4) ?_; rintro e w5 ⟨rfl, hb5⟩; replace hb5 := bjoin hb5 hb4)
      )
      go_returns
      exact ⟨by rw [hV.out]; rfl, bjoin hb5 hbA⟩
end Go.Proofs.YtneanbagdkeoiaaDoor
