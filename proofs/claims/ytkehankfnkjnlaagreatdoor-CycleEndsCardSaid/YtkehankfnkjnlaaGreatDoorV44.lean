import Derived.Test.YtkehankfnkjnlaaGreatDoorV41
namespace Go.Proofs.YtkehankfnkjnlaaGreatDoor
set_option linter.unusedSimpArgs false
set_option linter.unusedVariables false
set_option maxHeartbeats 16000000
set_option maxRecDepth 20000
open Go.ChangeAt Go.ChangeShapes Go.Joins Go.RowKit Go.WideShapes
variable {h : Hp} {w w' W W' : World} {p q : Option Addr} {n g : Nat} {a : Int} {v : Value}
def haB (h : Hp) (o f : Int) : Bool := if o = -1 then decide (f = 0) else decide (fdE h o f = 0)
theorem zpp {n c : Nat} {k d : Nat} {b : Bool} {o f : Int} (hS : Sz w) (hh : HpIn w p n c q k d b h) (hF : formB h = true) :
  Calls Tryz.prog 124 #[.agg #[.slice p n c, .slice q k d, .bool b], .int .i64 o, .int .i64 f] w fun e w' => e = .returned (.bool (haB h o f)) ∧ Below w.heap.size w w' := by
 obtain ⟨w0, hw0⟩ : ∃ w0, w0 = w.alloc (.cells #[.slice p n c, .slice q k d, .bool b] 27) := ⟨_, rfl⟩
 have gH : TBox 27 w.heap.size #[.slice p n c, .slice q k d, .bool b] w0 := by rw [hw0]; exact TBox.new _ _ _
 have hb0 : Below w.heap.size w w0 := by rw [hw0]; exact zr.alloc (Nat.le_refl _) _
 have y0 := gH.cell 0
 have y1 := gH.cell 1
 have y2 := gH.cell 2
 simp only [List.getElem?_toArray, List.getElem?_cons_zero, List.getElem?_cons_succ] at y0 y1 y2
 have lH := gH.lt
 by_cases ho : o = -1
 ·have e : haB h o f = decide (f = 0) := by unfold haB; rw [if_pos ho]
  subst ho
  rw [e]
  clear e gH
  go_enter Tryz.func124, Tryz.ntmps124
  go_upto_region 1 with fail
  rw [← hw0]
  clear hw0
  go_wp2
  go_returns
  exact ⟨by congr 2, hb0⟩
 ·have e : haB h o f = decide (fdE h o f = 0) := by unfold haB; rw [if_neg ho]
  have hob : (o == -1) = false := by simpa using ho
  have hC := zkf (a := o) (i := f) (hS.below hb0) (hh.below hb0) hF
  rw [e]
  generalize fdE h o f = E at *
  generalize getK (fdX h o f) = VK at hC
  generalize getN (fdX h o f) = VN at hC
  clear e gH ho
  go_enter Tryz.func124, Tryz.ntmps124
  go_upto_region 1 with fail
  rw [← hw0]
  clear hw0
  go_wp2_with (first
  | (go_at_call 157; refine zm (hC) ?_; rintro e w' ⟨rfl, hb⟩; obtain ⟨hc, hf, hb, hz⟩ := bstep hb (w := w0) (by go_grown); try simp only [za, zb, zd] at hc hf hz)
  )
  go_returns
  exact ⟨by congr 2, (bjoin hb hb0).alloc (by have := hb.size; have := hb0.size; omega) _⟩
theorem zw3 {o f : Int} : haB h o f = true ↔ (o = -1 ∧ f = 0) ∨ (¬ o = -1 ∧ fdE h o f = 0) := by
 unfold haB
 by_cases e : o = -1
 ·rw [if_pos e]; simp [e]
 ·rw [if_neg e]; simp [e]
theorem zsc {n c : Nat} {k d : Nat} {b : Bool} {m : Mk} {pg : Option Addr} {cg : Nat} {pb : Option Addr} {cb : Nat} {pr : Option Addr} {cr : Nat} {N : Nat} 
  (hS : Sz w) (hh : HpIn w p n c q k d b h) (hF : formB h = true) (hM : MAtE N w m pg cg pb cb pr cr) (hb : m.nb ≤ 1000) (hw : In64 m.g.r ∧ In64 m.ob ∧ In64 m.fi ∧ In64 m.cu) {B : Bool} (hB : B = true ↔ rightM h m) :
  Calls Tryz.prog 90 #[.agg #[.slice p n c, .slice q k d, .bool b], .agg #[.int .i64 m.g.r, .slice pg m.g.n cg, .slice pb m.nb cb, .slice pr m.nr cr, .int .i64 m.ob, .int .i64 m.fi, .int .i64 m.cu, .bool m.ov]] w fun e w' => e = .returned (.bool B) ∧ Below w.heap.size w w' := by
 have hno : ¬ rightM h m → B = false := fun hn => by
  cases hb : B with
  | false => rfl
  | true => exact absurd (hB.1 hb) hn
 have hyes : rightM h m → B = true := fun hn => hB.2 hn
 obtain ⟨w0, hw0⟩ : ∃ w0, w0 = (w.alloc (.cells #[.slice p n c, .slice q k d, .bool b] 27)).alloc (.cells #[.int .i64 m.g.r, .slice pg m.g.n cg, .slice pb m.nb cb, .slice pr m.nr cr, .int .i64 m.ob, .int .i64 m.fi, .int .i64 m.cu, .bool m.ov] 35) := ⟨_, rfl⟩
 obtain ⟨gH, gM, hb0⟩ := zbw hw0
 have y0 := gH.cell 0
 have y1 := gH.cell 1
 have y2 := gH.cell 2
 have z0 := gM.cell 0
 have z1 := gM.cell 1
 have z2 := gM.cell 2
 have z4 := gM.cell 4
 have z5 := gM.cell 5
 have z6 := gM.cell 6
 simp only [List.getElem?_toArray, List.getElem?_cons_zero, List.getElem?_cons_succ] at y0 y1 y2 z0 z1 z2 z4 z5 z6
 have lH := gH.lt
 have lM := gM.lt
 have hn := hh.n_eq
 have hnH : Hid (n = h.n) := hn
 have hCg := zhv m.g.r pg m.g.n cg m.g.z w0 (hM.g.below hb0)
 have hHd := fun W (hW : Below w0.heap.size w0 W) => zpp (o := m.ob) (f := m.fi) (hS.below (bjoin hW hb0)) (hh.below (bjoin hW hb0)) hF
 have hrows := hM.b.below zbr hb0
 have hbnd : n ≤ maxLen := by rw [hn]; exact hh.at'.nle
 simp only [maxLen] at hbnd
 clear hn hS hh hM gH gM hB
 rw [show rightG m.g.r m.g.n m.g.z = m.g.right from rfl] at hCg
 cases hg : m.g.right with
 | false =>
  have hBf := hno (fun hr => by rw [hr.1] at hg; cases hg)
  rw [hg] at hCg
  clear hg
  go_enter Tryz.func90, Tryz.ntmps90
  go_upto_region 1 with fail
  rw [← hw0]
  clear hw0
  go_wp2_with (first
  | (go_at_call 123; refine zm (hCg) ?_; rintro e w' ⟨rfl, hb⟩; obtain ⟨hc, hf, hb, hz⟩ := bstep hb (w := w0) (by go_grown); try simp only [za, zb, zd] at hc hf hz)
  )
  go_returns
  exact ⟨by first | rfl | (rw [hBf]; rfl), bjoin hb hb0⟩
 | true =>
  rw [hg] at hCg
  have hgH : Hid (m.g.right = true) := hg
  clear hg
  go_enter Tryz.func90, Tryz.ntmps90
  go_upto_region 1 with fail
  rw [← hw0]
  clear hw0
  go_upto_region 4 with (first
  | (go_at_call 123; refine zm (hCg) ?_; rintro e w' ⟨rfl, hb⟩; obtain ⟨hc, hf, hb, hz⟩ := bstep hb (w := w0) (by go_grown); try simp only [za, zb, zd] at hc hf hz)
  )
  clear hCg
  have hbw1 := hb
  clear hc hf hb hz
  generalize w' = w1 at *
  go_loopg [14] m.nb (fun gh iv wr => ∃ j : Nat, j ≤ m.nb ∧ gh = m.nb - j ∧ iv = .int .i64 j ∧ Hid (∀ t, t < j → (m.b t).right = true) ∧ Below w0.heap.size w0 wr)
  case atStart => exact ⟨0, by omega, by omega, rfl, (fun t ht => by omega : ∀ t, t < 0 → (m.b t).right = true), hbw1⟩
  case round =>
   obtain ⟨j, hj, rfl, rfl, hR, hbr⟩ := hrel
   by_cases hlt : j < m.nb
   ·obtain ⟨bb, off, L, rfl, hl, hL, hc, pj, cj, rfl, hgj, hej, h64⟩ := (hrows.below zbr hbr).row j hlt
    have x0 := hc 0 _ rfl
    have x1 := hc 1 _ rfl
    simp only [Nat.add_zero] at x0 x1
    have hCj := fun W (hW : Below wr.heap.size wr W) => zhv (m.b j).r pj (m.b j).n cj (m.b j).z W (hgj.below hW)
    rw [show rightG (m.b j).r (m.b j).n (m.b j).z = (m.b j).right from rfl] at hCj
    cases hg : (m.b j).right with
    | true =>
     have hR' : Hid (∀ t, t < j + 1 → (m.b t).right = true) := (fun t ht => by
      by_cases e : t = j
      ·rw [e]; exact hg
      ·exact hR.out t (by omega) : ∀ t, t < j + 1 → (m.b t).right = true)
     rw [hg] at hCj
     clear hg hc hgj hej h64 hL hHd hrows
     generalize (m.b j).n = K at *
     generalize (m.b j).r = R at *
     go_wp2_with (first
  | (go_at_call 123; refine zm (hCj _ (by go_grown)) ?_; rintro e w' ⟨rfl, hb⟩; obtain ⟨hc, hf, hb, hz⟩ := bstep hb (w := wr) (by go_grown); try simp only [za, zb, zd] at hc hf hz)
     )
     go_roundg (m.nb - (j + 1))
     case measure => omega
     case rel => exact ⟨j + 1, by omega, rfl, by go_num, hR', bjoin hb hbr⟩
    | false =>
     have hBf := hno (fun hr => by rw [hr.2.1 j hlt] at hg; cases hg)
     rw [hg] at hCj
     clear hg hc hgj hej h64 hL hHd hrows
     generalize (m.b j).n = K at *
     generalize (m.b j).r = R at *
     go_wp2_with (first
  | (go_at_call 123; refine zm (hCj _ (by go_grown)) ?_; rintro e w' ⟨rfl, hb⟩; obtain ⟨hc, hf, hb, hz⟩ := bstep hb (w := wr) (by go_grown); try simp only [za, zb, zd] at hc hf hz)
     )
     go_returns
     exact ⟨by first | rfl | (rw [hBf]; rfl), bjoin hb (bjoin hbr hb0)⟩
   ·obtain rfl : j = m.nb := by omega
    replace hHd := hHd wr hbr
    have hRiff : rightM h m ↔ haB h m.ob m.fi = true ∧ -1 ≤ m.cu ∧ m.cu ≤ n := by
     rw [zw3, hnH.out]
     exact ⟨fun hr => ⟨hr.2.2.2, hr.2.2.1⟩, fun hr => ⟨hgH.out, hR.out, hr.2, hr.1⟩⟩
    replace y0 := zcl hbr lH y0
    replace y1 := zcl hbr lH y1
    replace y2 := zcl hbr lH y2
    replace z4 := zcl hbr lM z4
    replace z5 := zcl hbr lM z5
    replace z6 := zcl hbr lM z6
    have lH' := Nat.lt_of_lt_of_le lH hbr.size
    have lM' := Nat.lt_of_lt_of_le lM hbr.size
    have hbr0 := bjoin hbr hb0
    clear z0 z1 z2 hbr hrows lH lM
    cases hhd : haB h m.ob m.fi with
    | false =>
     have hBf := hno (fun hr => by rw [(hRiff.1 hr).1] at hhd; cases hhd)
     rw [hhd] at hHd
     clear hRiff hhd
     go_wp2_with (first
  | (go_at_call 124; refine zm (hHd) ?_; rintro e w' ⟨rfl, hb⟩; obtain ⟨hc, hf, hb, hz⟩ := bstep hb (w := wr) (by go_grown); try simp only [za, zb, zd] at hc hf hz)
     )
     go_returns
     exact ⟨by first | rfl | (rw [hBf]; rfl), bjoin hb hbr0⟩
    | true =>
     rw [hhd] at hHd
     by_cases c1 : -1 ≤ m.cu
     ·by_cases c2 : m.cu ≤ n
      ·have hBt := hyes (hRiff.2 ⟨hhd, c1, c2⟩)
       clear hRiff hhd
       go_wp2_with (first
  | (go_at_call 124; refine zm (hHd) ?_; rintro e w' ⟨rfl, hb⟩; obtain ⟨hc, hf, hb, hz⟩ := bstep hb (w := wr) (by go_grown); try simp only [za, zb, zd] at hc hf hz)
       )
       go_returns
       exact ⟨by rw [hBt]; first | rfl | (show Ending.returned (.bool (decide (m.cu ≤ (n : Int)))) = _; rw [decide_eq_true (by omega)]), bjoin hb hbr0⟩
      ·have hBf := hno (fun hr => c2 (hRiff.1 hr).2.2)
       clear hRiff hhd
       go_wp2_with (first
  | (go_at_call 124; refine zm (hHd) ?_; rintro e w' ⟨rfl, hb⟩; obtain ⟨hc, hf, hb, hz⟩ := bstep hb (w := wr) (by go_grown); try simp only [za, zb, zd] at hc hf hz)
       )
       go_returns
       exact ⟨by rw [hBf]; first | rfl | (show Ending.returned (.bool (decide (m.cu ≤ (n : Int)))) = _; rw [decide_eq_false (by omega)]), bjoin hb hbr0⟩
     ·have hBf := hno (fun hr => c1 (hRiff.1 hr).2.1)
      clear hRiff hhd
      go_wp2_with (first
  | (go_at_call 124; refine zm (hHd) ?_; rintro e w' ⟨rfl, hb⟩; obtain ⟨hc, hf, hb, hz⟩ := bstep hb (w := wr) (by go_grown); try simp only [za, zb, zd] at hc hf hz)
      )
      go_returns
      exact ⟨by first | rfl | (rw [hBf]; rfl), bjoin hb hbr0⟩
def isO (h : Hp) (g c : Int) : Bool := inI h.m g && (!((spH h g).st == 0) && (spH h g).cl == c)
theorem zl8 {g c : Int} : isO h g c = true ↔ 0 ≤ g ∧ g < h.m ∧ ¬ (spH h g).st = 0 ∧ (spH h g).cl = c := by
 simp [isO, inI, and_assoc]
theorem zh9 {y : Nat → Int} {x : Int} : ∀ {j : Nat}, hasY y x j = false → cntY y x j = 0
 | 0, _ => rfl
 | j + 1, h => by
  unfold hasY at h
  simp only [Bool.or_eq_false_iff, decide_eq_false_iff_not] at h
  unfold cntY
  rw [zh9 h.1, if_neg h.2]; rfl
theorem zvk (y : Nat → Int) (x : Int) (j : Nat) : cntY y x j ≤ cntY y x (j + 1) := by
 show cntY y x j ≤ cntY y x j + (if y j = x then 1 else 0)
 split <;> omega
theorem znu {y : Nat → Int} {x : Int} {i : Nat} : ∀ {j : Nat}, i ≤ j → cntY y x i ≤ cntY y x j
 | 0, h => by obtain rfl : i = 0 := by omega
              exact Int.le_refl _
 | j + 1, h => by
  by_cases e : i = j + 1
  ·subst e; exact Int.le_refl _
  ·exact Int.le_trans (znu (by omega : i ≤ j)) (zvk y x j)
theorem zm3 {y : Nat → Int} {x : Int} : ∀ {j : Nat}, hasY y x j = true → 1 ≤ cntY y x j
 | 0, h => by cases h
 | j + 1, h => by
  unfold hasY at h
  simp only [Bool.or_eq_true, decide_eq_true_eq] at h
  unfold cntY
  have := (zfg y x j).1
  rcases h with h | h
  ·have := zm3 h
   split <;> omega
  ·rw [if_pos h]; omega
theorem zse {y : Nat → Int} {j n : Nat} (h : hasY y (y j) j = true) (hj : j < n) : 2 ≤ cntY y (y j) n := by
 have h1 := zm3 h
 have h2 := zjo (x := y j) (rfl : y j = y j)
 have h3 := znu (y := y) (x := y j) (show j + 1 ≤ n by omega)
 omega
theorem zqm {y : Nat → Int} : ∀ {n : Nat}, (∀ i, i < n → ¬ y i = -1 → hasY y (y i) i = false) → ∀ {i}, i < n → ¬ y i = -1 → cntY y (y i) n = 1
 | 0, _, i, hi, _ => by omega
 | n + 1, h, i, hi, hne => by
  by_cases e : i = n
  ·subst e
   rw [zjo rfl, zh9 (h i hi hne)]; rfl
  ·have ih := zqm (fun k hk => h k (by omega)) (show i < n by omega) hne
   by_cases e2 : y n = y i
   ·have := h n (by omega) (by rw [e2]; exact hne)
    rw [e2, zf7 rfl (by omega)] at this
    cases this
   ·rw [zk5 e2, ih]
def metOk (h : Hp) (y : Nat → Int) (j : Nat) : Prop := y j = -1 ∨ (isO h (y j) (j % 4 : Nat) = true ∧ hasY y (y j) j = false)
theorem zti {y : Nat → Int} (hall : ∀ j, j < n * 4 → metOk h y j) : rightY h n y = true := by
 refine zc3.2 fun j hj => ?_
 rcases hall j hj with e | ⟨e, -⟩
 ·exact .inl e
 ·obtain ⟨a, b, c, d⟩ := zl8.1 e
  refine .inr ⟨a, b, c, d, zqm (fun i hi hne => ?_) hj (by omega)⟩
  rcases hall i hi with e' | ⟨-, e'⟩
  ·exact absurd e' hne
  ·exact e'
theorem zsb {y : Nat → Int} {j : Nat} (hj : j < n * 4) (hne : ¬ y j = -1) (hb : isO h (y j) (j % 4 : Nat) = false ∨ hasY y (y j) j = true) : rightY h n y = false := by
 refine zhz hj fun ho => ?_
 rcases ho with e | ⟨a, b, c, d, e⟩
 ·exact hne e
 ·rcases hb with hb | hb
  ·rw [zl8.2 ⟨a, b, c, d⟩] at hb; cases hb
  ·have := zse hb hj; omega
def metV (m : Nat) (y : Nat → Int) (j : Nat) : List Value := (List.range m).map fun (g : Nat) => .bool (hasY y (g : Int) j)
theorem zvj {m : Nat} {y : Nat → Int} {j g : Nat} (hg : g < m) : (metV m y j)[g]? = some (.bool (hasY y g j)) := by simp [metV, hg]
theorem zlv (m : Nat) (y : Nat → Int) : List.replicate m (Value.bool false) = metV m y 0 := by
 refine List.ext_getElem (by simp [metV]) fun i h1 h2 => ?_
 simp [metV, hasY]
theorem zrh {m : Nat} {y : Nat → Int} {j : Nat} (h : y j = -1) : metV m y (j + 1) = metV m y j := by
 unfold metV
 refine List.map_congr_left fun g _ => ?_
 have : ¬ (-1 : Int) = g := by omega
 simp [hasY, h, this]
theorem znb {m : Nat} {y : Nat → Int} {j : Nat} (h0 : 0 ≤ y j) (h1 : y j < m) : (metV m y j).set (y j).toNat (.bool true) = metV m y (j + 1) := by
 refine List.ext_getElem (by simp [metV]) fun i h2 h3 => ?_
 rw [List.getElem_set]
 by_cases e : (y j).toNat = i
 ·rw [if_pos e]
  have : y j = i := by omega
  simp [metV, hasY, this]
 ·rw [if_neg e]
  have : ¬ y j = i := by omega
  simp [metV, hasY, this]
theorem zqk (p : Option Addr) (c : Nat) (q : Option Addr) (d : Nat) (h : Hp) (g k : Int) (w : World) (hh : HpAt w p c q d h) :
  Calls Tryz.prog 122 #[.agg #[.slice p h.n c, .slice q h.m d, .bool h.b], .int .i64 g, .int .i64 k] w fun e w' => e = .returned (.bool (isO h g k)) ∧ Below w.heap.size w w' := by
 have hmm := hh.mle
 simp only [maxLen] at hmm
 obtain ⟨w0, hw0⟩ : ∃ w0, w0 = w.alloc (.cells #[.slice p h.n c, .slice q h.m d, .bool h.b] 27) := ⟨_, rfl⟩
 have hbx : Box3 w.heap.size (.slice p h.n c) (.slice q h.m d) (.bool h.b) w0 := by rw [hw0]; exact Box3.new _ _ _ _ _
 have hbA : Below w.heap.size w w0 := by rw [hw0]; exact zr.alloc (Nat.le_refl _) _
 have hsp := hh.spans.below hbA
 obtain ⟨hl, k0, k1, k2, -, -, -⟩ := hbx
 clear hh
 by_cases hneg : g < 0
 ·have e : isO h g k = false := by simp [isO, inI]; omega
  rw [e]
  clear e
  go_enter Tryz.func122, Tryz.ntmps122
  go_upto_region 1 with fail
  rw [← hw0]
  clear hw0
  go_wp2
  go_returns
  exact ⟨rfl, hbA⟩
 ·by_cases hbig : (h.m : Int) ≤ g
  ·have e : isO h g k = false := by simp [isO, inI]; omega
   rw [e]
   clear e
   go_enter Tryz.func122, Tryz.ntmps122
   go_upto_region 1 with fail
   rw [← hw0]
   clear hw0
   go_wp2
   go_returns
   exact ⟨rfl, hbA⟩
  ·obtain ⟨⟨bs, os, rfl, hls, s0, s1, -⟩, -⟩ := hsp g.toNat (by omega)
   have e : isO h g k = (!((h.s g.toNat).st == 0) && (h.s g.toNat).cl == k) := by
    have : inI h.m g = true := by simp [inI]; omega
    simp [isO, this, spH]
   rw [e]
   clear e
   generalize (h.s g.toNat).st = st at *
   generalize (h.s g.toNat).cl = cl at *
   by_cases h0 : st = 0
   ·subst h0
    go_enter Tryz.func122, Tryz.ntmps122
    go_upto_region 1 with fail
    rw [← hw0]
    clear hw0
    go_wp2
    go_returns
    exact ⟨rfl, hbA⟩
   ·have d0 : (st == 0) = false := by simp [h0]
    have d1 : (st != 0) = true := by simp [h0]
    go_enter Tryz.func122, Tryz.ntmps122
    go_upto_region 1 with fail
    rw [← hw0]
    clear hw0
    go_wp2
    go_returns
    exact ⟨zab (by simp [d0]), hbA⟩
theorem zrb : (Tryz.prog.info? 4).map (fun i => (i.zero, i.size, i.bytes)) = some (some (.bool false), 1, 1) := by kernel_rfl
theorem zp4 (xs : Array Value) (k : Nat) (v : Int) (hk : k < 4) (hx : xs[k]? = some (.int .i64 v)) : ∀ W, (Instr.index 71 (.agg xs) (.int .i64 (k : Int))).run Tryz.prog W = .ok (.int .i64 v) W := by
 intro W
 have hP : Tryz.prog.plainKey 3 = true := by kernel_rfl
 have hC : Tryz.prog.cellsOf 3 = 1 := by kernel_rfl
 obtain ⟨i0, hi, -⟩ := info_parts zpq
 have hS := run_sizeOf (w := W) hi
 rw [hC] at hS
 have hU : (underlying 71).run Tryz.prog W = .ok (.array 4 3) W := run_underlying Tryz.underlying71 W
 have hA : (asIntOf (.int .i64 (k : Int))).run Tryz.prog W = .ok (.i64, (k : Int)) W := rfl
 have h4 : (0 : Int) ≤ k ∧ (k : Int) < (4 : Nat) := by omega
 unfold Instr.index
 rw [Sem.run_bind, hA, Result.andThen_ok]
 simp only []
 rw [Sem.run_bind, hU, Result.andThen_ok]
 simp only [if_pos h4]
 rw [Sem.run_bind, hS, Result.andThen_ok, Nat.mul_one, Int.toNat_natCast]
 exact run_part_plain W hP hx
theorem zon (p : Option Addr) (c : Nat) (q : Option Addr) (d : Nat) (h : Hp) (pc : Option Addr) (n cc : Nat) (y : Nat → Int) (w : World) (hh : HpAt w p c q d h) (hm16 : h.m ≤ 16) (hin : Ints .i64 w pc (n * 4) y) (hn : n ≤ 1000) :
  Calls Tryz.prog 89 #[.agg #[.slice p h.n c, .slice q h.m d, .bool h.b], .slice pc n cc] w fun e w' => e = .returned (.bool (rightY h n y)) ∧ Below w.heap.size w w' := by
 obtain ⟨i0, hi0, hz0, hz1, hz2⟩ := info_parts zrb
 obtain ⟨w0, hw0⟩ : ∃ w0, w0 = w.alloc (.cells #[.slice p h.n c, .slice q h.m d, .bool h.b] 27) := ⟨_, rfl⟩
 have g3 : Box3 w.heap.size (.slice p h.n c) (.slice q h.m d) (.bool h.b) w0 := by rw [hw0]; exact Box3.new _ _ _ _ _
 have hbA : Below w.heap.size w w0 := by rw [hw0]; exact zr.alloc (Nat.le_refl _) _
 have hat := hh.below hbA
 have hy := hin.below hbA
 have hsz := hbA.size
 clear hh hin
 obtain ⟨l3, x0, x1, x2, -, -, -⟩ := id g3
 have hl3 := l3
 go_enter Tryz.func89, Tryz.ntmps89
 go_upto_region 1 with fail
 rw [← hw0]
 clear hw0
 go_upto_region 2 with (first
  | (at_make; refine wpList_make_full _ rfl (.tmp 12) (.tmp 12) 152 rfl w0.heap.size 4 i0 (.bool false) 1 Tryz.underlying152 hi0 hz0 hz1 _ _ _ _ h.m rfl rfl rfl rfl (by rw [hz2]; omega) (by simp only [maxLen]; omega) (Nat.le_refl _) ?_; intro w1 hown hgrow)
 )
 have hmk : (madeCells (Value.bool false).cells (h.m * 1)).toList = metV h.m y 0 := by rw [Nat.mul_one, ← zlv]; exact toList_madeCells_one _ _
 rw [hmk] at hown
 have hB1 : Below w0.heap.size w0 w1 := zr.grown hgrow (Nat.le_refl _) (by simp)
 clear hmk hgrow x0 x1 x2 l3
 go_wp2
 go_loopg [16] n (fun g iv wr => ∃ i : Nat, i ≤ n ∧ g = n - i ∧ iv = .int .i64 i ∧ (∀ j, j < i * 4 → metOk h y j) ∧ wr.ownsRow w0.heap.size 4 1 (.slice (some ⟨w0.heap.size, 0, none⟩) h.m h.m) h.m (metV h.m y (i * 4)) ∧ Below w0.heap.size w0 wr)
 case atStart => exact ⟨0, by omega, by omega, rfl, fun j hj => by omega, by rw [Nat.zero_mul]; exact hown, hB1⟩
 case round =>
  clear hown hB1
  obtain ⟨i, ih, rfl, rfl, hall, hown, hbw⟩ := hrel
  by_cases hi : i < n
  ·have A : ∀ k, k < 4 → ∃ b off, pc = some ⟨b, off, none⟩ ∧ b < wr.heap.size ∧ wr.cell? ⟨b, off + i * 4 + k, none⟩ = some (.int .i64 (y (i * 4 + k))) := fun k hk => by
    obtain ⟨⟨b', off', e, hlt', hv⟩, -⟩ := (hy.below hbw) (i * 4 + k) (by omega)
    exact ⟨b', off', e, hlt', by rw [Nat.add_assoc]; exact hv⟩
   obtain ⟨b, off, rfl, hlt, a0⟩ := A 0 (by omega)
   simp only [Nat.add_zero] at a0
   have A' : ∀ k, k < 4 → wr.cell? ⟨b, off + i * 4 + k, none⟩ = some (.int .i64 (y (i * 4 + k))) := fun k hk => by
    obtain ⟨b', off', e, -, hv⟩ := A k hk
    injection e with e
    injection e with e1 e2
    subst e1 e2
    exact hv
   have a1 := A' 1 (by omega)
   have a2 := A' 2 (by omega)
   have a3 := A' 3 (by omega)
   clear A A'
   go_upto_region 5 with fail
   obtain ⟨wx, hwx⟩ : ∃ wx, wx = wr.alloc (.cells #[.int .i64 (y (i * 4)), .int .i64 (y (i * 4 + 1)), .int .i64 (y (i * 4 + 2)), .int .i64 (y (i * 4 + 3))] 71) := ⟨_, rfl⟩
   have gX : Box4 wr.heap.size (.int .i64 (y (i * 4))) (.int .i64 (y (i * 4 + 1))) (.int .i64 (y (i * 4 + 2))) (.int .i64 (y (i * 4 + 3))) wx := by rw [hwx]; exact Box4.new _ _ _ _ _ _
   have hbx : Below wr.heap.size wr wx := by rw [hwx]; exact zr.alloc (Nat.le_refl _) _
   have hbX := bjoin hbx hbw
   replace hown := zaa hown hbx
   rw [← hwx]
   clear hwx a0 a1 a2 a3 hlt hbx hbw
   generalize wr.heap.size = X at *
   obtain ⟨lX, r0, r1, r2, r3, -⟩ := gX
   go_upto_region 6 with fail
   clear r0 r1 r2 r3 lX
   obtain ⟨xs, hxs, hk4⟩ : ∃ xs : Array Value, xs = #[.int .i64 (y (i * 4)), .int .i64 (y (i * 4 + 1)), .int .i64 (y (i * 4 + 2)), .int .i64 (y (i * 4 + 3))] ∧ ∀ k, k < 4 → xs[k]? = some (.int .i64 (y (i * 4 + k))) := ⟨_, rfl, fun k hk => by
    have : k = 0 ∨ k = 1 ∨ k = 2 ∨ k = 3 := by omega
    rcases this with rfl | rfl | rfl | rfl <;> rfl⟩
   have hxz : xs.size = 4 := by rw [hxs]; rfl
   rw [← hxs]
   clear hxs
   go_loopg [21] 4 (fun g kv wr => ∃ k : Nat, k ≤ 4 ∧ g = 4 - k ∧ kv = .int .i64 k ∧ (∀ j, j < i * 4 + k → metOk h y j) ∧ wr.ownsRow w0.heap.size 4 1 (.slice (some ⟨w0.heap.size, 0, none⟩) h.m h.m) h.m (metV h.m y (i * 4 + k)) ∧ Below w0.heap.size w0 wr)
   case atStart => exact ⟨0, by omega, by omega, rfl, hall, hown, hbX⟩
   case round =>
    clear hall hown hbX
    obtain ⟨k, kh, rfl, rfl, hall, hown, hbw⟩ := hrel
    by_cases hk : k < 4
    ·have hx := zp4 xs k _ hk (hk4 k hk)
     have hj : i * 4 + k < n * 4 := by omega
     have hnext : metOk h y (i * 4 + k) → ∀ j, j < i * 4 + (k + 1) → metOk h y j := fun ho j hj => by
      by_cases e : j = i * 4 + k
      ·exact e ▸ ho
      ·exact hall j (by omega)
     have hmod : ((((i * 4 + k) % 4 : Nat)) : Int) = (k : Int) := by omega
     clear hall
     by_cases hm1 : y (i * 4 + k) = -1
     ·have hn1 := hnext (.inl hm1)
      have hsk := zrh (m := h.m) hm1
      have hown2 : wr.ownsRow w0.heap.size 4 1 (.slice (some ⟨w0.heap.size, 0, none⟩) h.m h.m) h.m (metV h.m y (i * 4 + (k + 1))) := by rw [← Nat.add_assoc, hsk]; exact hown
      rw [hm1] at hx
      clear hnext hsk hown hm1 hk4
      go_wp2
      go_roundg (4 - (k + 1))
      case measure => omega
      case rel => exact ⟨k + 1, by omega, rfl, by go_num, hn1, hown2, hbw⟩
     ·have hO := fun W (hW : Below wr.heap.size wr W) => zqk p c q d h (y (i * 4 + k)) k W (hat.below (bjoin hW hbw))
      obtain ⟨l3, x0, x1, x2, -, -, -⟩ := g3.below hbw
      cases ho : isO h (y (i * 4 + k)) k
      case' false =>
       have hf0 : Hid (rightY h n y = false) := zsb hj hm1 (.inl (by rw [hmod]; exact ho))
       have d1 : (y (i * 4 + k) == -1) = false := by simp [hm1]
       rw [ho] at hO
       clear hnext hmod hown ho hm1 hk4
       generalize y (i * 4 + k) = x at *
       go_wp2_with (first
        | (go_at_call 122; refine zm (hO _ (by go_grown)) ?_; rintro e w7 ⟨rfl, hb7⟩)
       )
       go_returns
       exact ⟨by rw [hf0.out]; rfl, bjoin hb7 (bjoin hbw hbA)⟩
      case' true =>
       obtain ⟨g0, g1, -⟩ := zl8.1 ho
       have hcell := (hown.cellAt (y (i * 4 + k)).toNat (by omega)).trans (zvj (y := y) (j := i * 4 + k) (show (y (i * 4 + k)).toNat < h.m by omega))
       rw [Int.toNat_of_nonneg g0] at hcell
       have hfz := hown.frozenAt (y (i * 4 + k)).toNat
       have hst := (hown.stored (y (i * 4 + k)).toNat (.bool true)).1
       rw [znb g0 g1] at hst
       have hlt0 := (hown.lt w0.heap.size rfl).2
       rw [ho] at hO
       cases hM : hasY y (y (i * 4 + k)) (i * 4 + k)
       case' true =>
        have hf0 : Hid (rightY h n y = false) := zsb hj hm1 (.inr hM)
        have d1 : (y (i * 4 + k) == -1) = false := by simp [hm1]
        rw [hM] at hcell
        clear hnext hmod ho hm1 hk4 hM hst hown
        generalize y (i * 4 + k) = x at *
        go_wp2_with (first
         | (go_at_call 122; refine zm (hO _ (by go_grown)) ?_; rintro e w7 ⟨rfl, hb7⟩; obtain ⟨hc, hf, hb, hz⟩ := bstep hb7 (w := wr) zr)
        )
        go_returns
        exact ⟨by rw [hf0.out]; rfl, bjoin hb7 (bjoin hbw hbA)⟩
       case' false =>
        have hn1 := hnext (.inr ⟨by rw [hmod]; exact ho, hM⟩)
        have d1 : (y (i * 4 + k) == -1) = false := by simp [hm1]
        rw [hM] at hcell
        have hown2 := hown
        clear hnext hmod ho hm1 hk4 hM hown hst
        go_upto_region 11 with (first
         | (go_at_call 122; refine zm (hO _ (by go_grown)) ?_; rintro e w7 ⟨rfl, hb7⟩; obtain ⟨hc, hf, hb, hz⟩ := bstep hb7 (w := wr) zr)
        )
        have hown3 := zaa hown2 hb7
        have hst := (hown3.stored (y (i * 4 + k)).toNat (.bool true)).1
        rw [znb g0 g1, Nat.add_assoc] at hst
        have hbS := (bjoin hb7 hbw).setCell (p := ⟨w0.heap.size, (y (i * 4 + k)).toNat, none⟩) (Nat.le_refl w0.heap.size) (.bool true)
        clear hown2 hown3
        generalize y (i * 4 + k) = x at *
        go_wp2
        go_roundg (4 - (k + 1))
        case measure => omega
        case rel => exact ⟨k + 1, by omega, rfl, by go_num, hn1, hst, hbS⟩
    ·obtain rfl : k = 4 := by omega
     clear hk4
     go_wp2
     go_roundg (n - (i + 1))
     case measure => omega
     case rel => exact ⟨i + 1, by omega, rfl, by go_num, by rw [show (i + 1) * 4 = i * 4 + 4 by omega]; exact hall, by rw [show (i + 1) * 4 = i * 4 + 4 by omega]; exact hown, hbw⟩
  ·obtain rfl : n = i := by omega
   have hf0 : Hid (rightY h n y = true) := zti hall
   clear hall hown
   go_wp2
   go_returns
   exact ⟨by rw [hf0.out]; rfl, bjoin hbw hbA⟩
section
variable {w : World} {p : Option Addr} {n c : Nat} {q : Option Addr} {m d : Nat} {b : Bool} {h : Hp} {pc : Option Addr} {k cc : Nat} {y : Nat → Int}
end
end Go.Proofs.YtkehankfnkjnlaaGreatDoor
