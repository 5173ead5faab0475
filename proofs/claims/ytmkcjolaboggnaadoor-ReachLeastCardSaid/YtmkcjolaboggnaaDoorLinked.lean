/- Heaps in which fields are set (flotsamref08.Linked). -/
import Derived.Test.YtmkcjolaboggnaaDoorObjIn
import Derived.Test.YtmkcjolaboggnaaDoorRef09
import Derived.Test.YtmkcjolaboggnaaDoorTBox
import Derived.Test.YtmkcjolaboggnaaDoorLateH
import Derived.Test.YtmkcjolaboggnaaDoorSwap
namespace Go.Proofs.YtmkcjolaboggnaaDoor
set_option linter.unusedSimpArgs false
set_option linter.unusedVariables false
open Go.ChangeShapes Go.WideShapes Go.ChangeAt Go.RowKit Go.Joins

/-- A field that is set: of the object of a place in the list, which field, a value. -/
structure Lk where
  o : Int
  f : Int
  k : Int
  n : Int
instance : Inhabited Lk := ⟨⟨0, 0, 0, 0⟩⟩
def Lk.wf (s : Lk) : Prop := In64 s.o ∧ In64 s.f ∧ In64 s.k ∧ In64 s.n
def Links (W : World) (p : Option Addr) (n : Nat) (s : Nat → Lk) : Prop :=
  ∀ i, i < n → (∃ b off, p = some ⟨b, off, none⟩ ∧ b < W.heap.size ∧ W.cell? ⟨b, off + i * 4, none⟩ = some (.int .i64 (s i).o) ∧ W.cell? ⟨b, off + i * 4 + 1, none⟩ = some (.int .i64 (s i).f) ∧ W.cell? ⟨b, off + i * 4 + 2, none⟩ = some (.int .i64 (s i).k) ∧ W.cell? ⟨b, off + i * 4 + 3, none⟩ = some (.int .i64 (s i).n)) ∧ (s i).wf
theorem Links.of_block {w w' : World} {p : Option Addr} {n : Nat} {s : Nat → Lk} (h : Links w p n s) (hl : w.heap.size ≤ w'.heap.size) (e : 0 < n → ∀ b off sp, p = some ⟨b, off, sp⟩ → w'.heap[b]? = w.heap[b]?) : Links w' p n s := fun i hi => by
  obtain ⟨⟨b, off, ep, hlt, h0, h1, h2, h3⟩, hw⟩ := h i hi
  have hb := e (by omega) b off none ep
  exact ⟨⟨b, off, ep, Nat.lt_of_lt_of_le hlt hl, by rw [World.cell?_of_block (w := w) (a := ⟨b, _, none⟩) hb]; exact h0, by rw [World.cell?_of_block (w := w) (a := ⟨b, _, none⟩) hb]; exact h1, by rw [World.cell?_of_block (w := w) (a := ⟨b, _, none⟩) hb]; exact h2, by rw [World.cell?_of_block (w := w) (a := ⟨b, _, none⟩) hb]; exact h3⟩, hw⟩
theorem Links.below {W W' : World} {p : Option Addr} {n : Nat} {s : Nat → Lk} (h : Links W p n s) (hb : Below W.heap.size W W') : Links W' p n s := fun i hi => by
  obtain ⟨⟨b, off, e, hlt, h0, h1, h2, h3⟩, hw⟩ := h i hi
  exact ⟨⟨b, off, e, Nat.lt_of_lt_of_le hlt hb.size, by rw [hb.cell (p := ⟨b, _, none⟩) hlt]; exact h0, by rw [hb.cell (p := ⟨b, _, none⟩) hlt]; exact h1, by rw [hb.cell (p := ⟨b, _, none⟩) hlt]; exact h2, by rw [hb.cell (p := ⟨b, _, none⟩) hlt]; exact h3⟩, hw⟩
/-- What the value refers to. -/
def lkN (L : List Int) (x : Lk) : Int := if x.k = 2 ∧ 0 ≤ x.n then L[(x.n % L.length).toNat]?.getD 0 else x.n
def lkA (L : List Int) (x : Lk) : Int := L[((if 0 ≤ x.o then x.o else 0) % L.length).toNat]?.getD 0
def lkF (L : List Int) (h : Hp) (f : Nat → Lk) : Nat → Hp
  | 0 => h
  | j + 1 => seH (lkF L h f j) (lkA L (f j)) (f j).f (f j).k (lkN L (f j))
def lkH (h : Hp) (f : Nat → Lk) (n : Nat) : Hp := if obL h h.n = [] then h else lkF (obL h h.n) h f n
theorem lkF_n (L : List Int) (h : Hp) (f : Nat → Lk) : ∀ j, (lkF L h f j).n = h.n ∧ (lkF L h f j).m = h.m ∧ (lkF L h f j).b = h.b
  | 0 => ⟨rfl, rfl, rfl⟩
  | j + 1 => by
    have ih := lkF_n L h f j
    obtain ⟨a, b, c⟩ := se_n (lkF L h f j) (lkA L (f j)) (f j).f (f j).k (lkN L (f j))
    exact ⟨a.trans ih.1, b.trans ih.2.1, c.trans ih.2.2⟩
theorem lkF_form {L : List Int} {h : Hp} (hF : formB h = true) (f : Nat → Lk) : ∀ j, formB (lkF L h f j) = true
  | 0 => hF
  | j + 1 => se_form (lkF_form hF f j) _ _ _ _
/-- A variable of a heap, whole. -/
theorem shapeH_tbox {T : TypeId} {g : Nat} {p : Option Addr} {n c : Nat} {q : Option Addr} {m d : Nat} {b : Bool} {w : World} (h : TBox T g #[.slice p n c, .slice q m d, .bool b] w) : ShapeH g w :=
  ⟨⟨p, n, c, q, m, d, b, h.lt, h.cell 0, h.cell 1, h.cell 2, h.frozen 0, h.frozen 1, h.frozen 2⟩, fun k hk => by rw [h.cell]; exact Array.getElem?_eq_none (by simpa using hk)⟩
theorem TBox.stores3 {T : TypeId} {g : Nat} {x y z : Value} {w : World} (h : TBox T g #[x, y, z] w) (a b c : Value) : TBox T g #[a, b, c] (((w.setCell ⟨g, 0, none⟩ a).setCell ⟨g, 1, none⟩ b).setCell ⟨g, 2, none⟩ c) := ((h.set 0 a).set 1 b).set 2 c
theorem shapeH_lt {g : Nat} {w : World} (h : ShapeH g w) : g < w.heap.size := by
  obtain ⟨⟨_, _, _, _, _, _, _, h⟩, -⟩ := h
  exact h.1
/-- A variable of a heap, and the heap, as data. -/
def FullHV (n m : Nat) (b : Bool) (H : Hp) (g : Nat) (_ : Value) (w : World) : Prop := FullH n m b H g w ∧ ShapeH g w
theorem FullHV.below {n m : Nat} {b : Bool} {H : Hp} {g : Nat} {v : Value} {w w' : World} (h : FullHV n m b H g v w) (hb : Below w.heap.size w w') : FullHV n m b H g v w' := ⟨fullH_below g w w' h.1 hb, shapeH_below g w w' h.2 hb⟩
theorem TBox.stores4 {T : TypeId} {g : Nat} {x y z u : Value} {w : World} (h : TBox T g #[x, y, z, u] w) (a : Value) : TBox T g #[x, y, z, a] (w.setCell ⟨g, 3, none⟩ a) := h.set 3 a
set_option maxHeartbeats 16000000 in
set_option maxRecDepth 20000 in
theorem rlinked_any (p : Option Addr) (c : Nat) (q : Option Addr) (d : Nat) (h : Hp) (pl : Option Addr) (n cl : Nat) (f : Nat → Lk) (w : World) (hh : HpAt w p c q d h) (hF : formB h = true) (hl : Links w pl n f) (hn : n ≤ 1000000) :
    Calls Tryd.prog 21 #[.agg #[.slice p h.n c, .slice q h.m d, .bool h.b], .slice pl n cl] w fun e w' => ∃ p' c' q' d', e = .returned (.agg #[.slice p' h.n c', .slice q' h.m d', .bool h.b]) ∧ HpIn w' p' h.n c' q' h.m d' h.b (lkH h f n) ∧ Below w.heap.size w w' := by
  obtain ⟨w0, hw0⟩ : ∃ w0, w0 = (w.alloc (.cells #[.slice p h.n c, .slice q h.m d, .bool h.b] 25)).alloc (.cells #[.slice none 0 0, .slice none 0 0, .bool false] 25) := ⟨_, rfl⟩
  have hb0 : Below w.heap.size w w0 := by rw [hw0]; exact ((Below.refl _ _).alloc (Nat.le_refl _) _).alloc (by simp) _
  have gH : TBox 25 w.heap.size #[.slice p h.n c, .slice q h.m d, .bool h.b] w0 := by rw [hw0]; exact (TBox.new _ w _).below ((Below.refl _ _).alloc (Nat.le_refl _) _)
  have gR : TBox 25 (w.heap.size + 1) #[.slice none 0 0, .slice none 0 0, .bool false] w0 := by
    have := TBox.new 25 (w.alloc (.cells #[.slice p h.n c, .slice q h.m d, .bool h.b] 25)) #[.slice none 0 0, .slice none 0 0, .bool false]
    rw [World.size_alloc] at this
    rw [hw0]; exact this
  have hlw : 0 < n → ∀ b off sp, pl = some ⟨b, off, sp⟩ → b < w.heap.size := fun h0 b off sp e => by
    obtain ⟨⟨b1, o1, e1, hl1, -⟩, -⟩ := hl 0 h0
    rw [e] at e1
    injection e1 with e1
    injection e1 with e1
    omega
  replace hl := hl.below hb0
  have hat := hh.below hb0
  have hLi := rlist8_any p c q d h w0 hat hF
  have l0 := gH.lt
  have x0 : w0.cell? ⟨w.heap.size, 0, none⟩ = some (.slice p h.n c) := gH.cell 0
  have x1 : w0.cell? ⟨w.heap.size, 1, none⟩ = some (.slice q h.m d) := gH.cell 1
  have x2 : w0.cell? ⟨w.heap.size, 2, none⟩ = some (.bool h.b) := gH.cell 2
  go_enter Tryd.func21, Tryd.ntmps21
  go_upto_region 1 with fail
  rw [← hw0]
  clear hw0
  go_upto_region 2 with (first
    | (go_at_call 38; refine Calls.mono hLi ?_; rintro e w1 ⟨v, rfl, hown, hb1⟩)
  )
  obtain ⟨pa, ca, rfl, hR⟩ := row_owned hown (obL_wf h (by have := form_iff.1 hF; omega))
  have hm0 : 0 < h.m ∧ 0 < h.n := by have := form_iff.1 hF; omega
  have hI := hR.ints
  have hpa : ∀ b off sp, pa = some ⟨b, off, sp⟩ → b ≠ w.heap.size := fun b off sp e => by have := hR.new b off sp e; omega
  have hLk : lkH h f n = if obL h h.n = [] then h else lkF (obL h h.n) h f n := rfl
  have hln := obL_len h h.n
  have hln2 : h.n ≤ 512 := by have := form_iff.1 hF; omega
  generalize obL h h.n = L at *
  have hFj := fun j => lkF_form (L := L) hF f j
  have hNj := fun j => lkF_n L h f j
  have hin0 : HpIn w1 p h.n c q h.m d h.b (lkF L h f 0) := ⟨rfl, rfl, rfl, hat.below hb1⟩
  replace gH := gH.below hb1
  replace gR := gR.below hb1
  replace hl := hl.below hb1
  replace hb0 := bjoin hb1 hb0
  clear hown hR hLi hb1 x0 x1 x2 l0 hat hh
  have hF' : Hid (formB h = true) := hF
  clear hF
  obtain ⟨hm0, hn0⟩ := hm0
  have hLk' : Hid (lkH h f n = if L = [] then h else lkF L h f n) := hLk
  clear hLk
  go_wp2
  go_loopg [6] n (fun g iv wr => ∃ (j : Nat) (p' : Option Addr) (c' : Nat) (q' : Option Addr) (d' : Nat), j ≤ n ∧ (L.length = 0 → j = 0) ∧ g = n - j ∧ iv = .int .i64 j ∧ Box3 w.heap.size (.slice p' h.n c') (.slice q' h.m d') (.bool h.b) wr ∧ ShapeH w.heap.size wr ∧ HpIn wr p' h.n c' q' h.m d' h.b (lkF L h f j) ∧ TBox 25 (w.heap.size + 1) #[.slice none 0 0, .slice none 0 0, .bool false] wr ∧ (Ints .i64 wr pa L.length fun i => L[i]?.getD 0) ∧ Links wr pl n f ∧ Below w.heap.size w wr)
  case atStart => exact ⟨0, p, c, q, d, by omega, fun _ => rfl, by omega, rfl, ⟨gH.lt, gH.cell 0, gH.cell 1, gH.cell 2, gH.frozen 0, gH.frozen 1, gH.frozen 2⟩, shapeH_tbox gH, hin0, gR, hI, hl, hb0⟩
  case round =>
    clear gH hin0 gR hI hl hb0
    obtain ⟨j, p', c', q', d', jh, jz, rfl, rfl, gH, sH, hin, gR, hI, hl, hbr⟩ := hrel
    obtain ⟨l0, x0, x1, x2, -, -, -⟩ := id gH
    by_cases hgo : j < n ∧ 0 < L.length
    · obtain ⟨hj, hL⟩ := hgo
      obtain ⟨⟨bl, ol, rfl, hll, v0, v1, v2, v3⟩, ww⟩ := hl j hj
      have hLn : (0 : Int) < L.length := by omega
      have hjn : (j : Int) < n := by omega
      obtain ⟨wo, wf, wk, wn⟩ := ww
      have hLb : ∀ t : Int, 0 ≤ t → t < L.length → ∃ b o, pa = some ⟨b, o, none⟩ ∧ b < wr.heap.size ∧ wr.cell? ⟨b, o + t.toNat, none⟩ = some (.int .i64 (L[t.toNat]?.getD 0)) ∧ L[t.toNat]?.getD 0 ≤ 9223372036854775807 := fun t t0 t1 => by
        obtain ⟨⟨b, o, e, hl, hc⟩, hw⟩ := hI t.toNat (by omega)
        exact ⟨b, o, e, hl, hc, (wf_i64 hw).2⟩
      have hNb : lkN L (f j) ≤ 9223372036854775807 := by
        unfold lkN
        split
        · obtain ⟨b, o, -, -, -, h5⟩ := hLb ((f j).n % L.length) (Int.emod_nonneg _ (by omega)) (Int.emod_lt_of_pos _ hLn)
          exact h5
        · exact wn.2
      have hS := fun W (hW : Below wr.heap.size wr W) => rset8_in (a := lkA L (f j)) (i := (f j).f) (k := (f j).k) (x := lkN L (f j)) (hin.below hW) (hFj j) hNb
      have hnx : lkF L h f (j + 1) = seH (lkF L h f j) (lkA L (f j)) (f j).f (f j).k (lkN L (f j)) := rfl
      have hNd : lkN L (f j) = if (f j).k = 2 ∧ 0 ≤ (f j).n then L[((f j).n % L.length).toNat]?.getD 0 else (f j).n := rfl
      have hAd : lkA L (f j) = L[((if 0 ≤ (f j).o then (f j).o else 0) % L.length).toNat]?.getD 0 := rfl
      rw [← hnx] at hS
      generalize hNN : lkN L (f j) = NN at *
      generalize hAA : lkA L (f j) = AA at *
      generalize seE (lkF L h f j) AA (f j).f (f j).k NN = EE at hS
      generalize hHN : lkF L h f (j + 1) = HN at *
      clear hNb hnx hin hNN hAA
      generalize f j = x at *
      obtain ⟨xo, xf, xk, xn⟩ := x
      dsimp only at *
      obtain ⟨to, eo, o0, o1⟩ : ∃ t : Int, (if 0 ≤ xo then xo else 0) % (L.length : Int) = t ∧ 0 ≤ t ∧ t < L.length := ⟨_, rfl, Int.emod_nonneg _ (by omega), Int.emod_lt_of_pos _ hLn⟩
      rw [eo] at hAd
      obtain ⟨ba, oa, rfl, hla, va, -⟩ := hLb to o0 o1
      rw [← hAd] at va
      clear hAd
      go_upto_region 6 with fail
      obtain ⟨w2, hw2⟩ : ∃ W, W = wr.alloc (.cells #[.int .i64 xo, .int .i64 xf, .int .i64 xk, .int .i64 xn] 62) := ⟨_, rfl⟩
      have g7 : TBox 62 wr.heap.size #[.int .i64 xo, .int .i64 xf, .int .i64 xk, .int .i64 xn] w2 := by rw [hw2]; exact TBox.new _ _ _
      have hb2 : Below wr.heap.size wr w2 := by rw [hw2]; exact (Below.refl _ _).alloc (Nat.le_refl _) _
      rw [← hw2]
      clear hw2 v0 v1 v2 v3 hll
      have hl7 := g7.lt
      have y0 : w2.cell? ⟨wr.heap.size, 0, none⟩ = some (.int .i64 xo) := g7.cell 0
      have y1 : w2.cell? ⟨wr.heap.size, 1, none⟩ = some (.int .i64 xf) := g7.cell 1
      have y2 : w2.cell? ⟨wr.heap.size, 2, none⟩ = some (.int .i64 xk) := g7.cell 2
      have y3 : w2.cell? ⟨wr.heap.size, 3, none⟩ = some (.int .i64 xn) := g7.cell 3
      have z3 := g7.frozen 3
      generalize hB7 : wr.heap.size = B7 at *
      by_cases hk2 : xk = 2 ∧ 0 ≤ xn
      case' pos =>
        rw [if_pos hk2] at hNd
        obtain ⟨hk, hx0⟩ := hk2
        have hkb : (xk == 2) = true := by rw [hk]; rfl
        clear hk
        obtain ⟨tn, en, n0, n1⟩ : ∃ t : Int, xn % (L.length : Int) = t ∧ 0 ≤ t ∧ t < L.length := ⟨_, rfl, Int.emod_nonneg _ (by omega), Int.emod_lt_of_pos _ hLn⟩
        rw [en] at hNd
        obtain ⟨bb, ob, eb, hlb, vb, -⟩ := hLb tn n0 n1
        injection eb with eb
        injection eb with eb1 eb2
        subst eb1 eb2
        rw [← hNd] at vb
        have en' : xn.tmod (L.length : Int) = tn := by rw [Int.tmod_eq_emod_of_nonneg hx0]; exact en
        have vb2 := (hb2.cell (p := ⟨ba, oa + tn.toNat, none⟩) hlb).trans vb
        clear hNd hLb vb
        go_upto_region 8 with fail
        obtain ⟨w3, hw3⟩ : ∃ W, W = w2.setCell ⟨B7, 3, none⟩ (.int .i64 NN) := ⟨_, rfl⟩
        have g8 : TBox 62 B7 #[.int .i64 xo, .int .i64 xf, .int .i64 xk, .int .i64 NN] w3 := by rw [hw3]; exact g7.stores4 _
        have hb3 : Below B7 wr w3 := by rw [hw3]; exact hb2.setCell (Nat.le_refl _) _
        rw [← hw3]
        clear hw3 en en' n0 n1 vb2 hlb
      case' neg =>
        rw [if_neg hk2] at hNd
        subst hNd
        by_cases hk : xk = 2
        case' pos =>
          have hx0 : ¬ 0 ≤ NN := fun h => hk2 ⟨hk, h⟩
          have hx1 : NN < 0 := by omega
          have hkb : (xk == 2) = true := by rw [hk]; rfl
        case' neg =>
          have hkb : (xk == 2) = false := by simp [hk]
        all_goals clear hk
        clear hk2
        all_goals
          go_upto_region 8 with fail
          have g8 := g7
          have hb3 := hb2
          generalize w2 = w3 at g8 hb3 ⊢
      all_goals
        have hb3' : Below wr.heap.size wr w3 := by rw [hB7]; exact hb3
        replace gH := gH.below hb3'
        replace sH := shapeH_below _ _ _ sH hb3'
        replace gR := gR.below hb3'
        replace hI := hI.below hb3'
        replace hl := hl.below hb3'
        replace hbr := bjoin hb3' hbr
        replace va := (hb3.cell (p := ⟨ba, oa + to.toNat, none⟩) hla).trans va
        have hB73 : B7 ≤ w3.heap.size := by rw [← hB7]; exact hb3'.size
        have hS3 := fun W (hW : Below w3.heap.size w3 W) => hS W (hb3.trans (hW.mono hB73))
        have hla3 : ba < w3.heap.size := by have := hb3.size; omega
        clear g7 hb2 y0 y1 y2 y3 z3 hl7 hS hb3' hB7 x0 x1 x2 l0 hla hb3
        obtain ⟨l0, x0, x1, x2, f0, f1, f2⟩ := id gH
        have l8 := g8.lt
        have y0 := g8.cell 0
        have y1 := g8.cell 1
        have y2 := g8.cell 2
        have y3 := g8.cell 3
        simp only [List.getElem?_toArray, List.getElem?_cons_zero, List.getElem?_cons_succ] at y0 y1 y2 y3
        clear g8
        have hL0 : ((L.length : Int) == 0) = false := by rw [beq_eq_false_iff_ne]; omega
        have hLz : ¬ (L.length : Int) = 0 := by omega
        have eo' : Int.tmod (if 0 > xo then 0 else xo) (L.length : Int) = to := by
          by_cases hxo : 0 ≤ xo
          · rw [if_pos hxo] at eo
            rw [if_neg (by omega), Int.tmod_eq_emod_of_nonneg hxo]; exact eo
          · rw [if_neg hxo, Int.zero_emod] at eo
            rw [if_pos (by omega), Int.zero_tmod]; exact eo
        have hLe : ¬ L = [] := fun e => by rw [e] at hL; cases hL
        clear eo
        refine wp_swap_pv (w.heap.size) 18 [0, 1, 2, 3, 4, 5, 6, 7, 8, 9, 10, 11, 12, 13, 14, 15, 16] [14, 8, 3, 4, 7, 6, 7, 8, 9, 14, 11, 14, 13, 14, 15, 16, 18, 0, 0] [some 47, some 48, some 49, some 50, some 51, some 52, some 53, some 54, some 55, some 56, some 57, some 58, some 59, some 60, some 61, some 46, some 62, some 63, none] [47, 48, 49, 50, 51, 52, 53, 54, 55, 56, 57, 58, 59, 60, 61, 46, 62, 63] ([(fun v _ => v = .agg #[.slice p' h.n c', .slice q' h.m d', .bool h.b]), (fun v _ => v = .slice (some ⟨ba, oa, none⟩) L.length ca), (fun v _ => v = .pointer (some ⟨B7, 0, none⟩)), (fun v _ => v = .int .i64 xo), (fun v _ => v = .int .i64 (if 0 > xo then 0 else xo)), (fun v _ => v = .slice (some ⟨ba, oa, none⟩) L.length ca), (fun v _ => v = .int .i64 L.length), (fun v _ => v = .int .i64 to), (fun v _ => v = .pointer (some ⟨ba, oa + to.toNat, none⟩)), (fun v _ => v = .int .i64 AA), (fun v _ => v = .pointer (some ⟨B7, 1, none⟩)), (fun v _ => v = .int .i64 xf), (fun v _ => v = .pointer (some ⟨B7, 2, none⟩)), (fun v _ => v = .agg #[.int .i64 xk, .int .i64 NN]), (HpT (h.n) (h.m) (h.b) (HN) (.int .i64 EE)), (HpT (h.n) (h.m) (h.b) (HN) (.int .i64 EE)), (HpV (h.n) (h.m) (h.b) (HN)), (fun v _ => v = .int .i64 EE), (FullHV (h.n) (h.m) (h.b) (HN) (w.heap.size))] : List (Value → World → Prop)) 64 (by kernel_rfl) (by kernel_rfl) rfl rfl (by decide) (by decide) (by simp) (by kernel_rfl) (by decide) ⟨fun _ _ _ h _ => h, fun _ _ _ h _ => h, fun _ _ _ h _ => h, fun _ _ _ h _ => h, fun _ _ _ h _ => h, fun _ _ _ h _ => h, fun _ _ _ h _ => h, fun _ _ _ h _ => h, fun _ _ _ h _ => h, fun _ _ _ h _ => h, fun _ _ _ h _ => h, fun _ _ _ h _ => h, fun _ _ _ h _ => h, fun _ _ _ h _ => h, fun _ _ _ h hb => h.below hb, fun _ _ _ h hb => h.below hb, fun _ _ _ h hb => h.below hb, fun _ _ _ h _ => h, fun _ _ _ h hb => h.below hb, trivial⟩ ?_ ?_
        · refine ⟨?_, ?_, ?_, ?_, ?_, ?_, ?_, ?_, ?_, ?_, ?_, ?_, ?_, ?_, ?_, ?_, ?_, ?_, ?_, trivial⟩
          · unfold swapStep
            rw [if_neg (by decide), if_pos (by decide)]
            intro a' w' hb' hs hd Kc hK
            have f2 : a'.tmps[2]?.getD undef = .pointer (some ⟨w.heap.size, 0, none⟩) := (hs 2 (by decide)).trans rfl
            clear hs hd
            have x0' := (hb'.cell (p := ⟨w.heap.size, 0, none⟩) l0).trans x0
            have x1' := (hb'.cell (p := ⟨w.heap.size, 1, none⟩) l0).trans x1
            have x2' := (hb'.cell (p := ⟨w.heap.size, 2, none⟩) l0).trans x2
            have y0' := (hb'.cell (p := ⟨B7, 0, none⟩) l8).trans y0
            have y1' := (hb'.cell (p := ⟨B7, 1, none⟩) l8).trans y1
            have y2' := (hb'.cell (p := ⟨B7, 2, none⟩) l8).trans y2
            have y3' := (hb'.cell (p := ⟨B7, 3, none⟩) l8).trans y3
            have va' := (hb'.cell (p := ⟨ba, oa + to.toNat, none⟩) hla3).trans va
            unfold Oper.wp
            go_simp
            exact hK _ _ (Below.refl _ _) (by first | rfl | (show Value.int _ _ = Value.int _ _; go_num; done) | (simp [valOf, *]; done) | (simp [valOf]; omega))
          · unfold swapStep
            rw [if_neg (by decide), if_pos (by decide)]
            intro a' w' hb' hs hd Kc hK
            have f5 : a'.tmps[5]?.getD undef = .slice (some ⟨ba, oa, none⟩) L.length ca := (hs 5 (by decide)).trans rfl
            clear hs hd
            have x0' := (hb'.cell (p := ⟨w.heap.size, 0, none⟩) l0).trans x0
            have x1' := (hb'.cell (p := ⟨w.heap.size, 1, none⟩) l0).trans x1
            have x2' := (hb'.cell (p := ⟨w.heap.size, 2, none⟩) l0).trans x2
            have y0' := (hb'.cell (p := ⟨B7, 0, none⟩) l8).trans y0
            have y1' := (hb'.cell (p := ⟨B7, 1, none⟩) l8).trans y1
            have y2' := (hb'.cell (p := ⟨B7, 2, none⟩) l8).trans y2
            have y3' := (hb'.cell (p := ⟨B7, 3, none⟩) l8).trans y3
            have va' := (hb'.cell (p := ⟨ba, oa + to.toNat, none⟩) hla3).trans va
            unfold Oper.wp
            go_simp
            exact hK _ _ (Below.refl _ _) (by first | rfl | (show Value.int _ _ = Value.int _ _; go_num; done) | (simp [valOf, *]; done) | (simp [valOf]; omega))
          · unfold swapStep
            rw [if_neg (by decide), if_pos (by decide)]
            intro a' w' hb' hs hd Kc hK
            have f7 : a'.tmps[7]?.getD undef = .pointer (some ⟨B7, 0, none⟩) := (hs 7 (by decide)).trans rfl
            clear hs hd
            have x0' := (hb'.cell (p := ⟨w.heap.size, 0, none⟩) l0).trans x0
            have x1' := (hb'.cell (p := ⟨w.heap.size, 1, none⟩) l0).trans x1
            have x2' := (hb'.cell (p := ⟨w.heap.size, 2, none⟩) l0).trans x2
            have y0' := (hb'.cell (p := ⟨B7, 0, none⟩) l8).trans y0
            have y1' := (hb'.cell (p := ⟨B7, 1, none⟩) l8).trans y1
            have y2' := (hb'.cell (p := ⟨B7, 2, none⟩) l8).trans y2
            have y3' := (hb'.cell (p := ⟨B7, 3, none⟩) l8).trans y3
            have va' := (hb'.cell (p := ⟨ba, oa + to.toNat, none⟩) hla3).trans va
            unfold Oper.wp
            go_simp
            exact hK _ _ (Below.refl _ _) (by first | rfl | (show Value.int _ _ = Value.int _ _; go_num; done) | (simp [valOf, *]; done) | (simp [valOf]; omega))
          · unfold swapStep
            rw [if_neg (by decide), if_pos (by decide)]
            intro a' w' hb' hs hd Kc hK
            have f49 : a'.tmps[49]?.getD undef = .pointer (some ⟨B7, 0, none⟩) := hd 2 49 (by first | rfl | decide | simp [Region.binds]) rfl
            clear hs hd
            have x0' := (hb'.cell (p := ⟨w.heap.size, 0, none⟩) l0).trans x0
            have x1' := (hb'.cell (p := ⟨w.heap.size, 1, none⟩) l0).trans x1
            have x2' := (hb'.cell (p := ⟨w.heap.size, 2, none⟩) l0).trans x2
            have y0' := (hb'.cell (p := ⟨B7, 0, none⟩) l8).trans y0
            have y1' := (hb'.cell (p := ⟨B7, 1, none⟩) l8).trans y1
            have y2' := (hb'.cell (p := ⟨B7, 2, none⟩) l8).trans y2
            have y3' := (hb'.cell (p := ⟨B7, 3, none⟩) l8).trans y3
            have va' := (hb'.cell (p := ⟨ba, oa + to.toNat, none⟩) hla3).trans va
            unfold Oper.wp
            go_simp
            exact hK _ _ (Below.refl _ _) (by first | rfl | (show Value.int _ _ = Value.int _ _; go_num; done) | (simp [valOf, *]; done) | (simp [valOf]; omega))
          · unfold swapStep
            rw [if_neg (by decide), if_pos (by decide)]
            intro a' w' hb' hs hd Kc hK
            have f50 : a'.tmps[50]?.getD undef = .int .i64 xo := hd 3 50 (by first | rfl | decide | simp [Region.binds]) rfl
            clear hs hd
            have x0' := (hb'.cell (p := ⟨w.heap.size, 0, none⟩) l0).trans x0
            have x1' := (hb'.cell (p := ⟨w.heap.size, 1, none⟩) l0).trans x1
            have x2' := (hb'.cell (p := ⟨w.heap.size, 2, none⟩) l0).trans x2
            have y0' := (hb'.cell (p := ⟨B7, 0, none⟩) l8).trans y0
            have y1' := (hb'.cell (p := ⟨B7, 1, none⟩) l8).trans y1
            have y2' := (hb'.cell (p := ⟨B7, 2, none⟩) l8).trans y2
            have y3' := (hb'.cell (p := ⟨B7, 3, none⟩) l8).trans y3
            have va' := (hb'.cell (p := ⟨ba, oa + to.toNat, none⟩) hla3).trans va
            unfold Oper.wp
            go_simp
            exact hK _ _ (Below.refl _ _) (by first | rfl | (show Value.int _ _ = Value.int _ _; go_num; done) | (simp [valOf, *]; done) | (simp [valOf]; omega))
          · unfold swapStep
            rw [if_neg (by decide), if_pos (by decide)]
            intro a' w' hb' hs hd Kc hK
            have f5 : a'.tmps[5]?.getD undef = .slice (some ⟨ba, oa, none⟩) L.length ca := (hs 5 (by decide)).trans rfl
            clear hs hd
            have x0' := (hb'.cell (p := ⟨w.heap.size, 0, none⟩) l0).trans x0
            have x1' := (hb'.cell (p := ⟨w.heap.size, 1, none⟩) l0).trans x1
            have x2' := (hb'.cell (p := ⟨w.heap.size, 2, none⟩) l0).trans x2
            have y0' := (hb'.cell (p := ⟨B7, 0, none⟩) l8).trans y0
            have y1' := (hb'.cell (p := ⟨B7, 1, none⟩) l8).trans y1
            have y2' := (hb'.cell (p := ⟨B7, 2, none⟩) l8).trans y2
            have y3' := (hb'.cell (p := ⟨B7, 3, none⟩) l8).trans y3
            have va' := (hb'.cell (p := ⟨ba, oa + to.toNat, none⟩) hla3).trans va
            unfold Oper.wp
            go_simp
            exact hK _ _ (Below.refl _ _) (by first | rfl | (show Value.int _ _ = Value.int _ _; go_num; done) | (simp [valOf, *]; done) | (simp [valOf]; omega))
          · unfold swapStep
            rw [if_neg (by decide), if_pos (by decide)]
            intro a' w' hb' hs hd Kc hK
            have f52 : a'.tmps[52]?.getD undef = .slice (some ⟨ba, oa, none⟩) L.length ca := hd 5 52 (by first | rfl | decide | simp [Region.binds]) rfl
            clear hs hd
            have x0' := (hb'.cell (p := ⟨w.heap.size, 0, none⟩) l0).trans x0
            have x1' := (hb'.cell (p := ⟨w.heap.size, 1, none⟩) l0).trans x1
            have x2' := (hb'.cell (p := ⟨w.heap.size, 2, none⟩) l0).trans x2
            have y0' := (hb'.cell (p := ⟨B7, 0, none⟩) l8).trans y0
            have y1' := (hb'.cell (p := ⟨B7, 1, none⟩) l8).trans y1
            have y2' := (hb'.cell (p := ⟨B7, 2, none⟩) l8).trans y2
            have y3' := (hb'.cell (p := ⟨B7, 3, none⟩) l8).trans y3
            have va' := (hb'.cell (p := ⟨ba, oa + to.toNat, none⟩) hla3).trans va
            unfold Oper.wp
            go_simp
            exact hK _ _ (Below.refl _ _) (by first | rfl | (show Value.int _ _ = Value.int _ _; go_num; done) | (simp [valOf, *]; done) | (simp [valOf]; omega))
          · unfold swapStep
            rw [if_neg (by decide), if_pos (by decide)]
            intro a' w' hb' hs hd Kc hK
            have f51 : a'.tmps[51]?.getD undef = .int .i64 (if 0 > xo then 0 else xo) := hd 4 51 (by first | rfl | decide | simp [Region.binds]) rfl
            have f53 : a'.tmps[53]?.getD undef = .int .i64 L.length := hd 6 53 (by first | rfl | decide | simp [Region.binds]) rfl
            clear hs hd
            have x0' := (hb'.cell (p := ⟨w.heap.size, 0, none⟩) l0).trans x0
            have x1' := (hb'.cell (p := ⟨w.heap.size, 1, none⟩) l0).trans x1
            have x2' := (hb'.cell (p := ⟨w.heap.size, 2, none⟩) l0).trans x2
            have y0' := (hb'.cell (p := ⟨B7, 0, none⟩) l8).trans y0
            have y1' := (hb'.cell (p := ⟨B7, 1, none⟩) l8).trans y1
            have y2' := (hb'.cell (p := ⟨B7, 2, none⟩) l8).trans y2
            have y3' := (hb'.cell (p := ⟨B7, 3, none⟩) l8).trans y3
            have va' := (hb'.cell (p := ⟨ba, oa + to.toNat, none⟩) hla3).trans va
            unfold Oper.wp
            go_simp
            exact hK _ _ (Below.refl _ _) (by first | rfl | (show Value.int _ _ = Value.int _ _; go_num; done) | (simp [valOf, *]; done) | (simp [valOf]; omega))
          · unfold swapStep
            rw [if_neg (by decide), if_pos (by decide)]
            intro a' w' hb' hs hd Kc hK
            have f48 : a'.tmps[48]?.getD undef = .slice (some ⟨ba, oa, none⟩) L.length ca := hd 1 48 (by first | rfl | decide | simp [Region.binds]) rfl
            have f54 : a'.tmps[54]?.getD undef = .int .i64 to := hd 7 54 (by first | rfl | decide | simp [Region.binds]) rfl
            clear hs hd
            have x0' := (hb'.cell (p := ⟨w.heap.size, 0, none⟩) l0).trans x0
            have x1' := (hb'.cell (p := ⟨w.heap.size, 1, none⟩) l0).trans x1
            have x2' := (hb'.cell (p := ⟨w.heap.size, 2, none⟩) l0).trans x2
            have y0' := (hb'.cell (p := ⟨B7, 0, none⟩) l8).trans y0
            have y1' := (hb'.cell (p := ⟨B7, 1, none⟩) l8).trans y1
            have y2' := (hb'.cell (p := ⟨B7, 2, none⟩) l8).trans y2
            have y3' := (hb'.cell (p := ⟨B7, 3, none⟩) l8).trans y3
            have va' := (hb'.cell (p := ⟨ba, oa + to.toNat, none⟩) hla3).trans va
            unfold Oper.wp
            go_simp
            exact hK _ _ (Below.refl _ _) (by first | rfl | (show Value.int _ _ = Value.int _ _; go_num; done) | (simp [valOf, *]; done) | (simp [valOf]; omega))
          · unfold swapStep
            rw [if_neg (by decide), if_pos (by decide)]
            intro a' w' hb' hs hd Kc hK
            have f55 : a'.tmps[55]?.getD undef = .pointer (some ⟨ba, oa + to.toNat, none⟩) := hd 8 55 (by first | rfl | decide | simp [Region.binds]) rfl
            clear hs hd
            have x0' := (hb'.cell (p := ⟨w.heap.size, 0, none⟩) l0).trans x0
            have x1' := (hb'.cell (p := ⟨w.heap.size, 1, none⟩) l0).trans x1
            have x2' := (hb'.cell (p := ⟨w.heap.size, 2, none⟩) l0).trans x2
            have y0' := (hb'.cell (p := ⟨B7, 0, none⟩) l8).trans y0
            have y1' := (hb'.cell (p := ⟨B7, 1, none⟩) l8).trans y1
            have y2' := (hb'.cell (p := ⟨B7, 2, none⟩) l8).trans y2
            have y3' := (hb'.cell (p := ⟨B7, 3, none⟩) l8).trans y3
            have va' := (hb'.cell (p := ⟨ba, oa + to.toNat, none⟩) hla3).trans va
            unfold Oper.wp
            go_simp
            exact hK _ _ (Below.refl _ _) (by first | rfl | (show Value.int _ _ = Value.int _ _; go_num; done) | (simp [valOf, *]; done) | (simp [valOf]; omega))
          · unfold swapStep
            rw [if_neg (by decide), if_pos (by decide)]
            intro a' w' hb' hs hd Kc hK
            have f7 : a'.tmps[7]?.getD undef = .pointer (some ⟨B7, 0, none⟩) := (hs 7 (by decide)).trans rfl
            clear hs hd
            have x0' := (hb'.cell (p := ⟨w.heap.size, 0, none⟩) l0).trans x0
            have x1' := (hb'.cell (p := ⟨w.heap.size, 1, none⟩) l0).trans x1
            have x2' := (hb'.cell (p := ⟨w.heap.size, 2, none⟩) l0).trans x2
            have y0' := (hb'.cell (p := ⟨B7, 0, none⟩) l8).trans y0
            have y1' := (hb'.cell (p := ⟨B7, 1, none⟩) l8).trans y1
            have y2' := (hb'.cell (p := ⟨B7, 2, none⟩) l8).trans y2
            have y3' := (hb'.cell (p := ⟨B7, 3, none⟩) l8).trans y3
            have va' := (hb'.cell (p := ⟨ba, oa + to.toNat, none⟩) hla3).trans va
            unfold Oper.wp
            go_simp
            exact hK _ _ (Below.refl _ _) (by first | rfl | (show Value.int _ _ = Value.int _ _; go_num; done) | (simp [valOf, *]; done) | (simp [valOf]; omega))
          · unfold swapStep
            rw [if_neg (by decide), if_pos (by decide)]
            intro a' w' hb' hs hd Kc hK
            have f57 : a'.tmps[57]?.getD undef = .pointer (some ⟨B7, 1, none⟩) := hd 10 57 (by first | rfl | decide | simp [Region.binds]) rfl
            clear hs hd
            have x0' := (hb'.cell (p := ⟨w.heap.size, 0, none⟩) l0).trans x0
            have x1' := (hb'.cell (p := ⟨w.heap.size, 1, none⟩) l0).trans x1
            have x2' := (hb'.cell (p := ⟨w.heap.size, 2, none⟩) l0).trans x2
            have y0' := (hb'.cell (p := ⟨B7, 0, none⟩) l8).trans y0
            have y1' := (hb'.cell (p := ⟨B7, 1, none⟩) l8).trans y1
            have y2' := (hb'.cell (p := ⟨B7, 2, none⟩) l8).trans y2
            have y3' := (hb'.cell (p := ⟨B7, 3, none⟩) l8).trans y3
            have va' := (hb'.cell (p := ⟨ba, oa + to.toNat, none⟩) hla3).trans va
            unfold Oper.wp
            go_simp
            exact hK _ _ (Below.refl _ _) (by first | rfl | (show Value.int _ _ = Value.int _ _; go_num; done) | (simp [valOf, *]; done) | (simp [valOf]; omega))
          · unfold swapStep
            rw [if_neg (by decide), if_pos (by decide)]
            intro a' w' hb' hs hd Kc hK
            have f7 : a'.tmps[7]?.getD undef = .pointer (some ⟨B7, 0, none⟩) := (hs 7 (by decide)).trans rfl
            clear hs hd
            have x0' := (hb'.cell (p := ⟨w.heap.size, 0, none⟩) l0).trans x0
            have x1' := (hb'.cell (p := ⟨w.heap.size, 1, none⟩) l0).trans x1
            have x2' := (hb'.cell (p := ⟨w.heap.size, 2, none⟩) l0).trans x2
            have y0' := (hb'.cell (p := ⟨B7, 0, none⟩) l8).trans y0
            have y1' := (hb'.cell (p := ⟨B7, 1, none⟩) l8).trans y1
            have y2' := (hb'.cell (p := ⟨B7, 2, none⟩) l8).trans y2
            have y3' := (hb'.cell (p := ⟨B7, 3, none⟩) l8).trans y3
            have va' := (hb'.cell (p := ⟨ba, oa + to.toNat, none⟩) hla3).trans va
            unfold Oper.wp
            go_simp
            exact hK _ _ (Below.refl _ _) (by first | rfl | (show Value.int _ _ = Value.int _ _; go_num; done) | (simp [valOf, *]; done) | (simp [valOf]; omega))
          · unfold swapStep
            rw [if_neg (by decide), if_pos (by decide)]
            intro a' w' hb' hs hd Kc hK
            have f59 : a'.tmps[59]?.getD undef = .pointer (some ⟨B7, 2, none⟩) := hd 12 59 (by first | rfl | decide | simp [Region.binds]) rfl
            clear hs hd
            have x0' := (hb'.cell (p := ⟨w.heap.size, 0, none⟩) l0).trans x0
            have x1' := (hb'.cell (p := ⟨w.heap.size, 1, none⟩) l0).trans x1
            have x2' := (hb'.cell (p := ⟨w.heap.size, 2, none⟩) l0).trans x2
            have y0' := (hb'.cell (p := ⟨B7, 0, none⟩) l8).trans y0
            have y1' := (hb'.cell (p := ⟨B7, 1, none⟩) l8).trans y1
            have y2' := (hb'.cell (p := ⟨B7, 2, none⟩) l8).trans y2
            have y3' := (hb'.cell (p := ⟨B7, 3, none⟩) l8).trans y3
            have va' := (hb'.cell (p := ⟨ba, oa + to.toNat, none⟩) hla3).trans va
            unfold Oper.wp
            go_simp
            exact hK _ _ (Below.refl _ _) (by first | rfl | (show Value.int _ _ = Value.int _ _; go_num; done) | (simp [valOf, *]; done) | (simp [valOf]; omega))
          · unfold swapStep
            rw [if_neg (by decide), if_pos (by decide)]
            intro a' w' hb' hs hd Kc hK
            have f47 : a'.tmps[47]?.getD undef = .agg #[.slice p' h.n c', .slice q' h.m d', .bool h.b] := hd 0 47 (by first | rfl | decide | simp [Region.binds]) rfl
            have f56 : a'.tmps[56]?.getD undef = .int .i64 AA := hd 9 56 (by first | rfl | decide | simp [Region.binds]) rfl
            have f58 : a'.tmps[58]?.getD undef = .int .i64 xf := hd 11 58 (by first | rfl | decide | simp [Region.binds]) rfl
            have f60 : a'.tmps[60]?.getD undef = .agg #[.int .i64 xk, .int .i64 NN] := hd 13 60 (by first | rfl | decide | simp [Region.binds]) rfl
            clear hs hd
            have x0' := (hb'.cell (p := ⟨w.heap.size, 0, none⟩) l0).trans x0
            have x1' := (hb'.cell (p := ⟨w.heap.size, 1, none⟩) l0).trans x1
            have x2' := (hb'.cell (p := ⟨w.heap.size, 2, none⟩) l0).trans x2
            have y0' := (hb'.cell (p := ⟨B7, 0, none⟩) l8).trans y0
            have y1' := (hb'.cell (p := ⟨B7, 1, none⟩) l8).trans y1
            have y2' := (hb'.cell (p := ⟨B7, 2, none⟩) l8).trans y2
            have y3' := (hb'.cell (p := ⟨B7, 3, none⟩) l8).trans y3
            have va' := (hb'.cell (p := ⟨ba, oa + to.toNat, none⟩) hla3).trans va
            unfold Oper.wp
            go_simp
            refine Calls.mono (hS3 _ hb') ?_
            rintro e w'' ⟨p2, c2, q2, d2, rfl, hA, hSr, hb2⟩
            exact hK _ _ hb2 ⟨_, _, _, _, rfl, hA⟩
          · unfold swapStep
            rw [if_neg (by decide), if_pos (by decide)]
            intro a' w' hb' hs hd Kc hK
            have f61 : HpT (h.n) (h.m) (h.b) (HN) (.int .i64 EE) (a'.tmps[61]?.getD undef) w' := hd 14 61 (by first | rfl | decide | simp [Region.binds]) rfl
            clear hs hd
            have x0' := (hb'.cell (p := ⟨w.heap.size, 0, none⟩) l0).trans x0
            have x1' := (hb'.cell (p := ⟨w.heap.size, 1, none⟩) l0).trans x1
            have x2' := (hb'.cell (p := ⟨w.heap.size, 2, none⟩) l0).trans x2
            have y0' := (hb'.cell (p := ⟨B7, 0, none⟩) l8).trans y0
            have y1' := (hb'.cell (p := ⟨B7, 1, none⟩) l8).trans y1
            have y2' := (hb'.cell (p := ⟨B7, 2, none⟩) l8).trans y2
            have y3' := (hb'.cell (p := ⟨B7, 3, none⟩) l8).trans y3
            have va' := (hb'.cell (p := ⟨ba, oa + to.toNat, none⟩) hla3).trans va
            obtain ⟨_, _, _, _, f61, hA⟩ := f61
            unfold Oper.wp
            go_simp
            exact hK _ _ (Below.refl _ _) ⟨_, _, _, _, rfl, hA⟩
          · unfold swapStep
            rw [if_neg (by decide), if_pos (by decide)]
            intro a' w' hb' hs hd Kc hK
            have f46 : HpT (h.n) (h.m) (h.b) (HN) (.int .i64 EE) (a'.tmps[46]?.getD undef) w' := hd 15 46 (by first | rfl | decide | simp [Region.binds]) rfl
            clear hs hd
            have x0' := (hb'.cell (p := ⟨w.heap.size, 0, none⟩) l0).trans x0
            have x1' := (hb'.cell (p := ⟨w.heap.size, 1, none⟩) l0).trans x1
            have x2' := (hb'.cell (p := ⟨w.heap.size, 2, none⟩) l0).trans x2
            have y0' := (hb'.cell (p := ⟨B7, 0, none⟩) l8).trans y0
            have y1' := (hb'.cell (p := ⟨B7, 1, none⟩) l8).trans y1
            have y2' := (hb'.cell (p := ⟨B7, 2, none⟩) l8).trans y2
            have y3' := (hb'.cell (p := ⟨B7, 3, none⟩) l8).trans y3
            have va' := (hb'.cell (p := ⟨ba, oa + to.toNat, none⟩) hla3).trans va
            obtain ⟨_, _, _, _, f46, hA⟩ := f46
            unfold Oper.wp
            go_simp
            exact hK _ _ (Below.refl _ _) ⟨_, _, _, _, rfl, hA⟩
          · unfold swapStep
            rw [if_neg (by decide), if_neg (by decide)]
            intro a' w' hs hd Kc hK
            have f46 : HpT (h.n) (h.m) (h.b) (HN) (.int .i64 EE) (a'.tmps[46]?.getD undef) w' := hd 15 46 (by first | rfl | decide | simp [Region.binds]) rfl
            clear hs hd
            obtain ⟨_, _, _, _, f46, hA⟩ := f46
            unfold Oper.wp
            go_simp
            exact hK _ (by first | rfl | (show Value.int _ _ = Value.int _ _; go_num; done) | (simp [valOf, *]; done) | (simp [valOf]; omega))
          · unfold swapStep
            rw [if_pos (by decide)]
            intro a' w' hb' hs hd Kc hK
            have f2 : a'.tmps[2]?.getD undef = .pointer (some ⟨w.heap.size, 0, none⟩) := (hs 2 (by decide)).trans rfl
            have f62 : HpV (h.n) (h.m) (h.b) (HN) (a'.tmps[62]?.getD undef) w' := hd 16 62 (by first | rfl | decide | simp [Region.binds]) rfl
            clear hs hd
            have x0' := (hb'.cell (p := ⟨w.heap.size, 0, none⟩) l0).trans x0
            have x1' := (hb'.cell (p := ⟨w.heap.size, 1, none⟩) l0).trans x1
            have x2' := (hb'.cell (p := ⟨w.heap.size, 2, none⟩) l0).trans x2
            have y0' := (hb'.cell (p := ⟨B7, 0, none⟩) l8).trans y0
            have y1' := (hb'.cell (p := ⟨B7, 1, none⟩) l8).trans y1
            have y2' := (hb'.cell (p := ⟨B7, 2, none⟩) l8).trans y2
            have y3' := (hb'.cell (p := ⟨B7, 3, none⟩) l8).trans y3
            have va' := (hb'.cell (p := ⟨ba, oa + to.toNat, none⟩) hla3).trans va
            have hsh := shapeH_below _ _ _ (sH) hb'
            obtain ⟨p', c', q', d', f62, hA⟩ := f62
            obtain ⟨⟨_, _, _, _, _, _, _, h3⟩, hk3⟩ := id hsh
            obtain ⟨h0, c0, c1, c2, g0, g1, g2⟩ := id h3
            unfold Oper.wp
            go_simp
            exact hK (.tuple #[]) _ ((((Aside.of (T := fun k => k = w.heap.size) (Below.refl _ _)).setCell (g := w.heap.size) rfl 0 _).setCell (g := w.heap.size) rfl 1 _).setCell (g := w.heap.size) rfl 2 _) ⟨fun _ h => h, fun _ h => h, fun _ h => h, fun _ h => h, fun _ h => h, fun _ h => h, fun _ h => h, fun _ h => h, fun _ h => h, fun _ h => h, fun _ h => h, fun _ h => h, fun _ h => h, fun _ h => h, fun _ h => h.puts hsh (hn0) (hm0) _ _ _, fun _ h => h.puts hsh (hn0) (hm0) _ _ _, fun _ h => h.puts hsh (hn0) (hm0) _ _ _, fun _ h => h, fun _ _ => ⟨⟨p', c', q', d', h3.puts _ _ _, hA.stores (shapeH_clear hsh hA (hn0) (hm0)) _ _ _⟩, shapeH_puts h3 hk3 _ _ _ _ _ _ _ _ hsh⟩, trivial⟩ ⟨⟨p', c', q', d', h3.puts _ _ _, hA.stores (shapeH_clear hsh hA (hn0) (hm0)) _ _ _⟩, shapeH_puts h3 hk3 _ _ _ _ _ _ _ _ hsh⟩
        intro Xf w' hA0 hv hn
        have o18 : FullHV (h.n) (h.m) (h.b) (HN) (w.heap.size) undef w' := hn 18 rfl
        clear hv hn
        simp only [List.map_cons, List.map_nil, puts, Act.put, Nat.reduceAdd, List.setIfInBounds_toArray, List.set_cons_succ, List.set_cons_zero]
        obtain ⟨⟨p2, c2, q2, d2, gH2, hin2⟩, sH2⟩ := o18
        have hlt3 : w.heap.size < w3.heap.size := l0
        have gR2 : TBox 25 (w.heap.size + 1) #[.slice none 0 0, .slice none 0 0, .bool false] w' := gR.of_block (hA0.block _ gR.lt (by omega))
        have hI2 := hI.aside hA0 (fun g e b off sp ep => by rw [e]; exact hpa b off sp ep)
        have hl2 : Links w' (some ⟨bl, ol, none⟩) n f := hl.of_block hA0.size fun h0 b off sp ep => hA0.block b (by have := hlw h0 b off sp ep; omega) (by have := hlw h0 b off sp ep; omega)
        have hbr2 : Below w.heap.size w w' := hbr.trans (hA0.below (Nat.le_of_lt hlt3) (fun k hk => by omega))
        clear gH sH gR hI hl hbr hS3 x0 x1 x2 f0 f1 f2 y0 y1 y2 y3 va l0 l8 hA0 eo' hla3
        go_wp2
        go_roundg (n - (j + 1))
        case measure => omega
        case rel => exact ⟨j + 1, p2, c2, q2, d2, by omega, fun h => by omega, rfl, by go_num, gH2, sH2, by rw [hHN]; exact hin2, gR2, hI2, hl2, hbr2⟩
    · have hHj : lkH h f n = lkF L h f j := by
        have := hLk'.out
        rw [this]
        by_cases hL : L = []
        · rw [if_pos hL]
          obtain rfl : j = 0 := jz (by rw [hL]; rfl)
          rfl
        · rw [if_neg hL]
          have : 0 < L.length := List.length_pos_iff.2 hL
          obtain rfl : j = n := by omega
          rfl
      rw [← hHj] at hin
      clear hHj
      have hgo' : Hid (¬ (j < n ∧ 0 < L.length)) := hgo
      have hfin := hin.stores (shapeH_clear (shapeH_tbox gR) hin hn0 hm0) (.slice p' h.n c') (.slice q' h.m d') (.bool h.b)
      have hbf := below_stores hbr (g := w.heap.size + 1) (Nat.le_succ _) (.slice p' h.n c') (.slice q' h.m d') (.bool h.b)
      have lR := gR.lt
      have r0 := gR.frozen 0
      have r1 := gR.frozen 1
      have r2 := gR.frozen 2
      have z0 := gR.cell 0
      have z1 := gR.cell 1
      have z2 := gR.cell 2
      simp only [List.getElem?_toArray, List.getElem?_cons_zero, List.getElem?_cons_succ] at z0 z1 z2
      clear gR gH sH hI hl hbr hin hFj hNj hLk' hgo
      by_cases hj : j < n
      case' pos =>
        have hL : ¬ 0 < L.length := fun h => hgo'.out ⟨hj, h⟩
        obtain rfl : L = [] := List.length_eq_zero_iff.1 (by omega)
      case' neg =>
        obtain rfl : j = n := by omega
      all_goals
        go_wp2
        refine bodyPost_ret (by simp [results, Tryd.results21, go_sem, *]; try rfl) rfl ?_
        exact ⟨p', c', q', d', rfl, hfin, hbf⟩
end Go.Proofs.YtmkcjolaboggnaaDoor
