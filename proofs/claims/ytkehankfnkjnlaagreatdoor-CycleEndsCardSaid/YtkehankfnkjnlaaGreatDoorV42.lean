import Derived.Test.YtkehankfnkjnlaaGreatDoorV41
namespace Go.Proofs.YtkehankfnkjnlaaGreatDoor
set_option linter.unusedSimpArgs false
set_option linter.unusedVariables false
set_option maxHeartbeats 16000000
set_option maxRecDepth 20000
open Go.ChangeAt Go.ChangeShapes Go.Joins Go.RowKit Go.WideShapes
variable {h : Hp} {w w' W W' : World} {p q : Option Addr} {n g : Nat} {a : Int} {v : Value}
theorem VAt.rest {b off : Nat} {c n : Nat} {z : Nat → Vl} (h : VAt W (some ⟨b, off, none⟩) c n z) (h0 : 0 < n) : VAt W (some ⟨b, off + 2, none⟩) (c - 1) (n - 1) (fun i => z (i + 1)) :=
 ⟨fun i hi => by
  obtain ⟨⟨b1, o1, e, hl, h1, h2⟩, hw⟩ := h.row (i + 1) (by omega)
  injection e with e
  injection e with e1 e2
  subst e1 e2
  exact ⟨⟨b, off + 2, rfl, hl, by rw [show off + 2 + i * 2 = off + (i + 1) * 2 by omega]; exact h1, by rw [show off + 2 + i * 2 = off + (i + 1) * 2 by omega]; exact h2⟩, hw⟩, by have := h.nle; omega, (fun e => by cases e), (by have := h.ncap; omega)⟩
theorem zug (N B n k : Nat) (b : Bool) (h : Hp) (m : Mk) (w : World) (hst : StV N B n k b h m w) (h0 : m.nr = 0) :
  Calls Tryz.prog 134 #[.pointer (some ⟨B, 0, none⟩)] w fun e w' => e = .returned (.bool false) ∧ Below w.heap.size w w' := by
 obtain ⟨p, c, q, d, pg, cg, pb, cb, pr, cr, g0, hh, hM⟩ := hst
 obtain ⟨hlB, -, -, -, x3, -, -, -, -, -, -, -⟩ := zal g0
 rw [h0] at x3
 clear g0 hh hM h0
 go_enter Tryz.func134, Tryz.ntmps134
 go_wp2
 go_returns
 exact ⟨rfl, zr⟩
theorem ztx (N B n k : Nat) (b : Bool) (h : Hp) (m : Mk) (w : World) (hS : Sz w) (hSB : ¬ 0 = B) (hN : N ≤ B) (hst : StV N B n k b h m w) (hF : formB h = true) (h0 : 0 < m.nr) (hnr : m.nr ≤ 1000000) (hr : m.g.r ≤ 1000000) (h1 : m.g.n ≤ 1000000) :
  Calls Tryz.prog 134 #[.pointer (some ⟨B, 0, none⟩)] w fun e w' => e = .returned (.bool true) ∧ StV N B n k b (shM h m.g (m.ro 0)).h
   { m with g := (shM h m.g (m.ro 0)).gy m.g.r, ov := m.ov || (shM h m.g (m.ro 0)).o, nr := m.nr - 1, ro := fun i => m.ro (i + 1) } w' ∧ Aside (fun k => k = B) w w' := by
 obtain ⟨hn32, hk0⟩ := hst.room hF
 obtain ⟨p, c, q, d, pg, cg, pb, cb, pr, cr, g0, hh, hM⟩ := id hst
 obtain ⟨hlB, -, -, -, x3, -, -, -, -, -, -, -⟩ := zal g0
 obtain ⟨⟨bb, off, rfl, hlr, v0, v1⟩, hv⟩ := hM.r.row 0 h0
 simp only [Nat.zero_mul, Nat.add_zero] at v0 v1
 have hrest := hM.r.rest h0
 have hcr := hM.r.ncap
 simp only [maxLen] at hcr
 generalize hV : m.ro 0 = V at *
 obtain ⟨VK, VN⟩ := V
 dsimp only at v0 v1
 have hI := fun (W : World) (m' : Mk) (cg : Nat) (pg : Option Addr) (hW : Sz W) (h2 : StV N B n k b h m' W) (h3 : GrAt W pg cg m.g.n m.g.z) (h4 : RowE N 3 m.g.n pg W) => zh6 N B n k b h m' m.g.r pg m.g.n cg m.g.z ⟨VK, VN⟩ W hW hN h2 hF h3 h4 hr h1 hv
 unfold shM
 generalize sdS m.g.r ⟨h, m.g.n, m.g.z, false⟩ ⟨VK, VN⟩ = T at *
 unfold Vl.agg at hI
 dsimp only at hI
 have hnr0 : ((m.nr : Int) == 0) = false := by simp; omega
 have hnr1 : (1 : Int) ≤ m.nr := by omega
 have hnr2 : (m.nr : Int) ≤ cr := by omega
 have hCl : ∀ W (hW : Below w.heap.size w W), ∀ oo cc K, (cr = 1 ∧ oo = off ∧ cc = 0 ∧ K = 0) ∨ (¬ cr = 1 ∧ oo = off + 2 ∧ cc = cr - 1 ∧ K = m.nr - 1) → Calls Tryz.prog 163 #[.slice (some ⟨bb, oo, none⟩) K cc] W fun e w' => ∃ p' c', e = .returned (.slice p' K c') ∧ VAt w' p' c' K (fun i => m.ro (i + 1)) ∧ (∀ b off sp, p' = some ⟨b, off, sp⟩ → W.heap.size ≤ b ∧ ∃ cs, w'.heap[b]? = some (.cells cs 70 (0, 0))) ∧ Below W.heap.size W w' := fun W hW oo cc K hc => by
  rcases hc with ⟨e1, rfl, rfl, rfl⟩ | ⟨e1, rfl, rfl, rfl⟩
  ·refine zfi (some ⟨bb, oo, none⟩) 0 0 (fun i => m.ro (i + 1)) W ⟨fun i hi => by omega, by decide, (fun e => by cases e), Nat.le_refl _, by decide⟩ (by omega)
  ·exact zfi (some ⟨bb, off + 2, none⟩) (m.nr - 1) (cr - 1) (fun i => m.ro (i + 1)) W (hrest.below hW) (by omega)
 clear hM hh g0 hrest
 go_enter Tryz.func134, Tryz.ntmps134
 go_upto_region 4 with fail
 obtain ⟨w1, hw1⟩ : ∃ W, W = w.alloc (.cells #[.int .i64 VK, .int .i64 VN] 70) := ⟨_, rfl⟩
 have hb1 : Below w.heap.size w w1 := by rw [hw1]; exact zr.alloc (Nat.le_refl _) _
 have gX : TBox 70 w.heap.size #[.int .i64 VK, .int .i64 VN] w1 := by rw [hw1]; exact TBox.new _ _ _
 rw [← hw1]
 replace hCl := hCl w1 hb1
 replace x3 := zcl hb1 hlB x3
 have hlB1 := Nat.lt_of_lt_of_le hlB hb1.size
 have hlBw := hlB
 clear hw1 v0 v1 hlr hlB
 have fin : ∀ (w2 : World) (p9 : Option Addr) (c9 K : Nat), K = m.nr - 1 → VAt w2 p9 c9 K (fun i => m.ro (i + 1)) → (∀ b off sp, p9 = some ⟨b, off, sp⟩ → w1.heap.size ≤ b ∧ ∃ cs, w2.heap[b]? = some (.cells cs 70 (0, 0))) → Below w1.heap.size w1 w2 →
   StV N B n k b h { m with nr := m.nr - 1, ro := fun i => m.ro (i + 1) } (w2.setCell ⟨B, 3, none⟩ (.slice p9 K c9)) ∧ Aside (fun k => k = B) w (w2.setCell ⟨B, 3, none⟩ (.slice p9 K c9)) ∧ TBox 70 w.heap.size #[.int .i64 VK, .int .i64 VN] (w2.setCell ⟨B, 3, none⟩ (.slice p9 K c9)) := fun w2 p9 c9 K eK hV9 ht9 hb9 => by
  subst eK
  have hR9 : RowE N 70 (m.nr - 1) p9 w2 := fun _ b1 off sp e => by
   obtain ⟨-, cs, h1⟩ := ht9 b1 off sp e
   exact ⟨(Array.getElem?_eq_some_iff.1 h1).1, .inr ⟨cs, h1⟩⟩
  exact ⟨(hst.below (bjoin hb9 hb1)).setR hN hn32 hk0 hV9 hR9, zax (Aside.of (T := fun k => k = B) (bjoin hb9 hb1)) 3 _, (gX.below hb9).of_block (Below.heap_setCell _ _ _ _ (by show ¬ w.heap.size = B; omega))⟩
 have hcell : ∀ w2, Below w1.heap.size w1 w2 → B < w2.heap.size ∧ (∃ x, w2.cell? ⟨B, 3, none⟩ = some x) ∧ w2.frozen? ⟨B, 3, none⟩ = false := fun w2 hb9 => by
  obtain ⟨_, _, _, _, _, _, _, _, _, _, g02, _, _⟩ := hst.below (bjoin hb9 hb1)
  exact ⟨g02.lt, ⟨_, g02.cell 3⟩, g02.frozen 3⟩
 go_cut [] from 18 to 28 (fun wx => StV N B n k b h { m with nr := m.nr - 1, ro := fun i => m.ro (i + 1) } wx ∧ Aside (fun k => k = B) w wx ∧ TBox 70 w.heap.size #[.int .i64 VK, .int .i64 VN] wx)
 case first =>
  by_cases hc1 : cr = 1
  case' pos =>
   have hK : 0 = m.nr - 1 := by omega
   have hK' : Hid (0 = m.nr - 1) := hK
   clear hK
   subst hc1
   replace hCl := hCl off 0 0 (.inl ⟨rfl, rfl, rfl, rfl⟩)
  case' neg =>
   have hK' : Hid (m.nr - 1 = m.nr - 1) := rfl
   replace hCl := hCl (off + 2) (cr - 1) (m.nr - 1) (.inr ⟨hc1, rfl, rfl, rfl⟩)
  all_goals
   go_wp2_with (first
    | (go_at_call 163; refine zm hCl ?_; rintro e w2 ⟨p9, c9, rfl, hV9, ht9, hb9⟩; obtain ⟨hlB2, ⟨_, y3⟩, f3⟩ := hcell w2 hb9)
   )
   go_meet
   exact fin _ _ _ _ (by first | exact hK'.out | rfl) hV9 ht9 hb9
 obtain ⟨s3, hA3, gX3⟩ := hcut
 clear hst x3 hCl hlB1 gX fin hcell
 generalize wc = w3 at *
 have hS3 := hS.aside hA3 hSB
 obtain ⟨p, c, q, d, pg, cg, pb, cb, pr, cr2, g0, hh, hM⟩ := id s3
 obtain ⟨hlB, x0, x1, -, -, -, -, -, -, -, -, -⟩ := zal g0
 dsimp only at x0 x1
 have u0 := gX3.cell 0
 have u1 := gX3.cell 1
 simp only [List.getElem?_toArray, List.getElem?_cons_zero, List.getElem?_cons_succ] at u0 u1
 have lg := gX3.lt
 have hdr : ∀ W : World, Below W.heap.size W W.drew := fun W => zr.drew
 replace hI := hI w3.drew { m with nr := m.nr - 1, ro := fun i => m.ro (i + 1) } cg pg (hS3.below (hdr _)) (s3.below (hdr _)) (hM.g.below (hdr _)) (hM.ge.below (hdr _))
 dsimp only at hI
 clear g0 hh hM gX3
 go_upto_region 5 with fail
 go_cut [] from 29 to 40 (fun wx => StV N B n k b T.h { m with g := ⟨m.g.r, T.n, T.z⟩, ov := m.ov || T.o, nr := m.nr - 1, ro := fun i => m.ro (i + 1) } wx ∧ Aside (fun k => k = B) w wx)
 case first =>
  go_region_with (first
   | (go_at_call 165; refine zm hI ?_; rintro e w2 ⟨pr', cr', rfl, hZ2, hR2, hs2, hA2⟩; obtain ⟨_, _, _, _, _, _, _, _, _, _, g02, _, _⟩ := id hs2; obtain ⟨hlB2, y0, y1, -, -, -, -, -, -, -, -, -⟩ := zal g02; obtain ⟨f0, f1, -⟩ := zbm g02)
  )
  all_goals
   have s4 := hs2.setG hN hn32 hk0 hZ2 hR2
   have hA4 := zax (zax ((hA3.trans (Aside.of (hdr _))).trans hA2) 0 (.int .i64 m.g.r)) 1 (.slice pr' T.n cr')
   go_wp2_with fail
   go_meet
   exact ⟨s4, hA4⟩
 obtain ⟨s5, hA5⟩ := hcut
 go_wp2
 go_returns
 exact ⟨rfl, s5, hA5⟩
theorem zoe {m : Mk} {j : Nat} (hj : j < m.nb) (h0 : 0 < (m.b j).n) (hno : ∀ t, t < j → (m.b t).n = 0) : fsB m = some j := by
 unfold fsB
 rw [List.find?_range_eq_some]
 exact ⟨by simpa using h0, by simpa using hj, fun t ht => by simp [hno t ht]⟩
theorem zps {m : Mk} (hno : ∀ t, t < m.nb → (m.b t).n = 0) : fsB m = none := by
 unfold fsB
 rw [List.find?_eq_none]
 intro t ht
 simp [hno t (by simpa using ht)]
theorem zp9 {c a : Int} (hF : formB h = true) (ha : blB h a = true) (hc : c ≤ a) (hno : ∀ x, c ≤ x → x < a → blB h x = false) : lbA h c = some a := by
 cases e : lbA h c with
 | none => exact absurd hc (zx8 hF e ha)
 | some a' =>
  obtain ⟨-, h2, h3, h4⟩ := zl6 hF e
  have := h4 a ha hc
  by_cases hlt : a' < a
  ·have := hno a' h3 hlt
   rw [h2] at this
   cases this
  ·rw [show a' = a by omega]
theorem zok {c : Int} (hF : formB h = true) (hno : ∀ x, c ≤ x → blB h x = false) : lbA h c = none := by
 cases e : lbA h c with
 | none => rfl
 | some a' =>
  obtain ⟨-, h2, h3, -⟩ := zl6 hF e
  rw [hno a' h3] at h2
  cases h2
theorem ha_cu (h : Hp) (m : Mk) (a c : Int) : { haM h m a with cu := c } = haM h { m with cu := c } a := by
 unfold haM; split <;> rfl
def cuM (h : Hp) (m : Mk) : Mk := match lbA h m.cu with
 | some a => haM h { m with cu := a + 1 } a
 | none => { m with cu := -1 }
theorem zv1 {m : Mk} (e : lbA h m.cu = some a) : cuM h m = { haM h { m with cu := -1 } a with cu := a + 1 } := by
 rw [ha_cu]
 unfold cuM
 rw [e]
theorem zuy {m : Mk} (e : lbA h m.cu = none) : cuM h m = { m with cu := -1 } := by
 unfold cuM
 rw [e]
theorem zu8 (hF : formB h = true) (hb : blB h a = true) : 0 ≤ a ∧ a < h.n := by
 have : obB h a = true := by simp only [blB, Bool.and_eq_true] at hb; exact hb.1
 exact zda hF this
theorem zxm (N B n k : Nat) (b : Bool) (h : Hp) (m : Mk) (w : World) (hst : StV N B n k b h m w) (h0 : m.cu = -1) :
  Calls Tryz.prog 135 #[.pointer (some ⟨B, 0, none⟩)] w fun e w' => e = .returned (.bool false) ∧ Below w.heap.size w w' := by
 obtain ⟨p, c, q, d, pg, cg, pb, cb, pr, cr, g0, hh, hM⟩ := hst
 obtain ⟨hlB, -, -, -, -, -, -, x6, -, -, -, -⟩ := zal g0
 rw [h0] at x6
 clear g0 hh hM h0
 go_enter Tryz.func135, Tryz.ntmps135
 go_wp2
 go_returns
 exact ⟨rfl, zr⟩
theorem zvv (N B n k : Nat) (b : Bool) (h : Hp) (m : Mk) (w : World) (hS : Sz w) (hSB : ¬ 0 = B) (hN : N ≤ B) (hst : StV N B n k b h m w) (hF : formB h = true) (h0 : ¬ m.cu = -1) (h1 : -1 ≤ m.cu ∧ m.cu ≤ h.n) :
  Calls Tryz.prog 135 #[.pointer (some ⟨B, 0, none⟩)] w fun e w' => e = .returned (.bool true) ∧ StV N B n k b h (cuM h m) w' ∧ Aside (fun k => k = B) w w' := by
 obtain ⟨hn32, hk0⟩ := hst.room hF
 obtain ⟨p, c, q, d, pg, cg, pb, cb, pr, cr, g0, hh, hM⟩ := id hst
 obtain ⟨hlB, -, -, -, -, -, -, x6, -, x8, x9, x10⟩ := zal g0
 obtain ⟨-, -, -, -, -, -, f6, -⟩ := zbm g0
 have hcu0 : (m.cu == -1) = false := by simpa using h0
 have hcu1 : ¬ m.cu < 0 := by omega
 have hcuH : Hid (m.cu ≤ h.n) := h1.2
 have hnn : n ≤ 512 ∧ n = h.n := by
  have := zcf hF
  have := hh.n_eq
  constructor <;> omega
 obtain ⟨hn512, hnh⟩ := hnn
 have hnH : Hid (n = h.n) := hnh
 have s1 := hst.setC hN hn32 hk0 (-1)
 have hA1 := zax (Aside.of (T := fun k => k = B) (Below.refl w.heap.size w)) 6 (.int .i64 (-1))
 clear g0 hh hM h0 h1 hnh
 go_enter Tryz.func135, Tryz.ntmps135
 go_upto_region 6 with fail
 have hS1 := hS.aside hA1 hSB
 clear x6 x8 x9 x10 f6 hlB hst
 generalize w.setCell ⟨B, 6, none⟩ (.int .i64 (-1)) = w1 at *
 obtain ⟨p, c, q, d, pg, cg, pb, cb, pr, cr, g0, hh, hM⟩ := id s1
 have hin := hnH.out
 have hle : m.cu ≤ n := by have := hcuH.out; omega
 clear hin
 go_loopg [4] ((n : Int) - m.cu).toNat (fun gh iv wr => ∃ a : Int, m.cu ≤ a ∧ a ≤ n ∧ gh = (n - a).toNat ∧ iv = .int .i64 a ∧ (∀ x, m.cu ≤ x → x < a → blB h x = false) ∧ Below w1.heap.size w1 wr)
 case atStart => exact ⟨m.cu, Int.le_refl _, hle, rfl, rfl, fun x h1 h2 => by omega, zr⟩
 case round =>
  obtain ⟨a, ha0, han, rfl, rfl, hno, hbr⟩ := hrel
  replace g0 := g0.below hbr
  replace hh := hh.below hbr
  have hSr := hS1.below hbr
  have s2 := s1.below hbr
  have hA2 := hA1.trans (Aside.of hbr)
  have hBl := zdo (a := a) hSr hh hF
  obtain ⟨hlB, -, -, -, -, -, -, x6, -, x8, x9, x10⟩ := zal g0
  dsimp only at x6 x8 x9 x10
  by_cases hlt : a < n
  ·cases hbl : blB h a with
   | false =>
    rw [hbl] at hBl
    clear hh hM g0
    go_wp2_with (first
  | (go_at_call 68; refine zm (hBl) ?_; rintro e w' ⟨rfl, hb⟩; obtain ⟨hc, hf, hb, hz⟩ := bstep hb (w := wr) (by go_grown); try simp only [za, zb, zd] at hc hf hz)
    )
    go_roundg (n - (a + 1)).toNat
    case measure => omega
    case rel => exact ⟨a + 1, by omega, by omega, rfl, by go_num, fun x h1 h2 => by
     by_cases e : x = a
     ·rw [e]; exact hbl
     ·exact hno x h1 (by omega), bjoin hb hbr⟩
   | true =>
    rw [hbl] at hBl
    have hlb := zp9 hF hbl ha0 hno
    have hlbH : Hid (lbA h m.cu = some a) := hlb
    have hH := fun W (hW : Below wr.heap.size wr W) => zhg N B n k b h { m with cu := -1 } a W (hSr.below hW) hN (s2.below hW) hF
    generalize hM3 : haM h { m with cu := -1 } a = M3 at hH
    clear hh hM g0 hlb hbl
    go_wp2_with (first
  | (go_at_call 68; refine zm (hBl) ?_; rintro e w' ⟨rfl, hb⟩; obtain ⟨hc, hf, hb, hz⟩ := bstep hb (w := wr) (by go_grown); try simp only [za, zb, zd] at hc hf hz)
     | (go_at_call 167; refine zm (hH _ (by go_grown)) ?_; rintro e w3 ⟨rfl, hs3, hA3⟩; obtain ⟨_, _, _, _, _, _, _, _, _, _, g03, _, _⟩ := id hs3; obtain ⟨hlB3, -, -, -, -, -, -, y6, -, -, -, -⟩ := zal g03; obtain ⟨-, -, -, -, -, -, f6, -⟩ := zbm g03)
    )
    have s4 := hs3.setC hN hn32 hk0 (a + 1)
    have hA4 := zax ((hA2.trans (Aside.of hb)).trans hA3) 6 (.int .i64 (a + 1))
    go_returns
    exact ⟨rfl, by rw [zv1 hlbH.out, hM3]; exact s4, hA4⟩
  ·have hlb := zok (c := m.cu) hF fun x hx => by
    cases e : blB h x with
    | false => rfl
    | true =>
     have h1 := (zu8 hF e).2
     have h2 := hnH.out
     rw [hno x hx (by omega)] at e
     cases e
   have hlbH : Hid (lbA h m.cu = none) := hlb
   clear hh hM g0 hlb
   go_wp2
   go_returns
   exact ⟨rfl, by rw [zuy hlbH.out]; exact s2, hA2⟩
def baM (h : Hp) (m : Mk) : Mk := match fsB m with
 | some i => haM h { m with b := setB m.b i ⟨(m.b i).r, (m.b i).n - 1, (m.b i).z⟩ } ((m.b i).z ((m.b i).n - 1))
 | none => m
theorem zm7 {m : Mk} {i : Nat} (e : fsB m = some i) : baM h m = haM h { m with b := setB m.b i ⟨(m.b i).r, (m.b i).n - 1, (m.b i).z⟩ } ((m.b i).z ((m.b i).n - 1)) := by
 unfold baM
 rw [e]
theorem znz {m : Mk} (e : fsB m = none) : baM h m = m := by
 unfold baM
 rw [e]
theorem zt3 (N B n k : Nat) (b : Bool) (h : Hp) (m : Mk) (w : World) (hS : Sz w) (hSB : ¬ 0 = B) (hN : N ≤ B) (hst : StV N B n k b h m w) (hF : formB h = true) (hnb : m.nb ≤ 1000000) (hrows : ∀ t, t < m.nb → (m.b t).n ≤ 1000000) :
  Calls Tryz.prog 133 #[.pointer (some ⟨B, 0, none⟩)] w fun e w' => e = .returned (.bool (fsB m).isSome) ∧ StV N B n k b h (baM h m) w' ∧ Aside (fun k => k = B) w w' := by
 obtain ⟨p, c, q, d, pg, cg, pb, cb, pr, cr, g0, hh, hM⟩ := id hst
 obtain ⟨hlB, -, -, x2, -, -, -, -, -, -, -, -⟩ := zal g0
 have hbr0 := hM.b
 clear g0 hh hM
 go_enter Tryz.func133, Tryz.ntmps133
 go_upto_region 2 with fail
 go_loopg [14] m.nb (fun gh iv wr => ∃ j : Nat, j ≤ m.nb ∧ gh = m.nb - j ∧ iv = .int .i64 j ∧ (∀ t, t < j → (m.b t).n = 0) ∧ Below w.heap.size w wr)
 case atStart => exact ⟨0, by omega, by omega, rfl, fun t ht => by omega, zr⟩
 case round =>
  obtain ⟨j, hj, rfl, rfl, hno, hbr⟩ := hrel
  by_cases hlt : j < m.nb
  ·obtain ⟨bb, off, L, rfl, hl, hL, hc, pj, cj, rfl, hgj, hej, h64⟩ := (hbr0.below zbr hbr).row j hlt
   have y0 := hc 0 _ rfl
   have y1 := hc 1 _ rfl
   simp only [Nat.add_zero] at y0 y1
   have hP := fun W (hW : Below wr.heap.size wr W) => zjl (m.b j).r pj (m.b j).n cj (m.b j).z W (hgj.below hW) (hrows j hlt)
   have hst2 := fun W (hW : Below wr.heap.size wr W) => hst.below (bjoin hW hbr)
   by_cases h0 : (m.b j).n = 0
   ·have hno' : ∀ t, t < j + 1 → (m.b t).n = 0 := fun t ht => by
     by_cases e : t = j
     ·rw [e]; exact h0
     ·exact hno t (by omega)
    rw [show decide (0 < (m.b j).n) = false by simp [h0]] at hP
    generalize gqX (m.b j).n (m.b j).z = X at hP
    generalize (m.b j).n - 1 = K1 at hP
    generalize (m.b j).n = K at hP y1
    generalize (m.b j).r = R at hP y0
    clear hst2 hgj hej h64 hc hL h0
    go_wp2_with (first
  | (go_at_call 166; refine zm (hP _ (by go_grown)) ?_; rintro e w' ⟨p', c', rfl, -, -, hb, -⟩; obtain ⟨hc, hf, hb, hz⟩ := bstep hb (w := wr) (by go_grown); try simp only [za, zb, zd] at hc hf hz)
    )
    have hbE : Below w.heap.size w (w'.alloc (.cells #[.int .i64 R, .slice p' K1 c'] 31)) := (bjoin hb hbr).alloc (by have := hb.size; have := hbr.size; omega) _
    go_roundg (m.nb - (j + 1))
    case measure => omega
    case rel => exact ⟨j + 1, by omega, rfl, by go_num, hno', hbE⟩
   ·have hfs := zoe hlt (by omega : 0 < (m.b j).n) hno
    have hfsH : Hid (fsB m = some j) := hfs
    rw [show decide (0 < (m.b j).n) = true by simp; omega, show gqX (m.b j).n (m.b j).z = (m.b j).z ((m.b j).n - 1) by unfold gqX; rw [if_neg h0]] at hP
    have hkk := hrows j hlt
    have hSB2 := fun W p' c' (hW : Below wr.heap.size wr W) (h3 : GrAt W p' c' ((m.b j).n - 1) (m.b j).z) (h4 : RowE N 3 ((m.b j).n - 1) p' W) => ztv N B n k b h m j (m.b j).r p' ((m.b j).n - 1) c' (m.b j).z W hN (hst2 W hW) hF hlt hnb hrows h3 h4 h64 (by omega)
    have hH := fun (W : World) (a : Int) (h1 : Sz W) (h3 : StV N B n k b h { m with b := setB m.b j ⟨(m.b j).r, (m.b j).n - 1, (m.b j).z⟩ } W) => zhg N B n k b h { m with b := setB m.b j ⟨(m.b j).r, (m.b j).n - 1, (m.b j).z⟩ } a W h1 hN h3 hF
    generalize hM2 : ({ m with b := setB m.b j ⟨(m.b j).r, (m.b j).n - 1, (m.b j).z⟩ } : Mk) = M2 at hH hSB2
    have hTT : 0 < (m.b j).n := by omega
    have hej' : ∀ W p', Below wr.heap.size wr W → (0 < (m.b j).n → ∀ b off sp, p' = some ⟨b, off, sp⟩ → ∃ cs, W.heap[b]? = some (.cells cs 3 (0, 0))) → RowE N 3 ((m.b j).n - 1) p' W := fun W p' hW hT => znl hej hTT hT
    clear h0 hTT hfs hkk hgj hej hc hL hno
    generalize hX : (m.b j).z ((m.b j).n - 1) = X at *
    generalize hZZ : (m.b j).z = ZZ at *
    generalize hK1 : (m.b j).n - 1 = K1 at *
    generalize (m.b j).n = K at hP y1 hej'
    generalize hRR : (m.b j).r = R at *
    go_upto_region 5 with (first
  | (go_at_call 166; refine zm (hP _ (by go_grown)) ?_; rintro e w' ⟨p', c', rfl, hZ, -, hb, hT⟩; obtain ⟨hc, hf, hb, hz⟩ := bstep hb (w := wr) (by go_grown); try simp only [za, zb, zd] at hc hf hz)
    )
    obtain ⟨w1, hw1⟩ : ∃ W, W = w'.alloc (.cells #[.int .i64 R, .slice p' K1 c'] 31) := ⟨_, rfl⟩
    have hb1 : Below w'.heap.size w' w1 := by rw [hw1]; exact zr.alloc (Nat.le_refl _) _
    have gX : TBox 31 w'.heap.size #[.int .i64 R, .slice p' K1 c'] w1 := by rw [hw1]; exact TBox.new _ _ _
    rw [← hw1]
    have hR1 := (hej' _ _ hb hT).below hb1
    have hZ1 := hZ.below hb1
    have hbw := bjoin hb1 hb
    have v0 := gX.cell 0
    have v1 := gX.cell 1
    simp only [List.getElem?_toArray, List.getElem?_cons_zero, List.getElem?_cons_succ] at v0 v1
    have lX := gX.lt
    replace hSB2 := hSB2 w1 p' c' hbw hZ1 hR1
    have hS1 := (hS.below hbr).below hbw
    clear hw1 hc hf hb hz hb1 gX hP hT hZ hZ1 hR1 y0 y1 hej' hst2 h64
    generalize w'.heap.size = XX at *
    go_upto_region 7 with (first
     | (go_at_call 168; refine zm hSB2 ?_; rintro e w2 ⟨rfl, hs2, hA2⟩)
    )
    have hA2' := (Aside.of (T := fun k => k = B) (bjoin hbw hbr)).trans hA2
    replace hH := hH w2 X (hS.aside hA2' hSB) hs2
    clear v0 v1 lX hSB2
    go_wp2_with (first
     | (go_at_call 167; refine zm hH ?_; rintro e w3 ⟨rfl, hs3, hA3⟩)
    )
    go_returns
    exact ⟨by rw [hfsH.out]; rfl, by rw [zm7 hfsH.out, hRR, hZZ, hK1, hX, hM2]; exact hs3, hA2'.trans hA3⟩
  ·obtain rfl : j = m.nb := by omega
   have hfs := zps hno
   have hfsH : Hid (fsB m = none) := hfs
   clear hfs
   go_wp2
   go_returns
   exact ⟨by rw [hfsH.out]; rfl, by rw [znz hfsH.out]; exact hst.below hbr, Aside.of hbr⟩
def cS (m : Mk) : Nat → Bool
 | 0 => decide (¬ m.ob = -1)
 | 1 => decide (0 < m.g.n)
 | 2 => (fsB m).isSome
 | 3 => decide (0 < m.nr)
 | 4 => decide (¬ m.cu = -1)
 | 5 => m.ov
 | _ => false
def StepL (N B n k : Nat) (b : Bool) (h : Hp) (m : Mk) (j : Nat) (w : World) (e : Ending) (w' : World) : Prop :=
 e = .returned (.bool (cS m j)) ∧ Aside (fun k => k = B) w w' ∧ (cS m j = true → StV N B n k b (stM h m).1 (stM h m).2.1 w' ∧ (stM h m).2.2 = false) ∧ (cS m j = false → StV N B n k b h m w')
section
variable {N B n k : Nat} {b : Bool} {h : Hp} {m : Mk} {w : World}
theorem zuw {g : Gy} (h : g.right = true) : g.r ≤ 16 ∧ g.n ≤ 16 := by
 unfold Gy.right rightG at h
 simp only [Bool.and_eq_true, decide_eq_true_eq] at h
 omega
theorem step0 (hS : Sz w) (hSB : ¬ 0 = B) (hN : N ≤ B) (hst : StV N B n k b h m w) (hF : formB h = true) (hR : rightM h m) :
  Calls Tryz.prog 131 #[.pointer (some ⟨B, 0, none⟩)] w (StepL N B n k b h m 0 w) := by
 by_cases h0 : m.ob = -1
 ·have e : cS m 0 = false := by simp [cS, h0]
  refine (zt1 N B n k b h m w hst h0).mono ?_
  rintro e1 w' ⟨rfl, hb⟩
  exact ⟨by rw [e], Aside.of hb, (fun h => by rw [e] at h; cases h), fun _ => hst.below hb⟩
 ·have e : cS m 0 = true := by simp [cS, h0]
  obtain ⟨r1, r2⟩ := zuw hR.1
  have hfd : fdE h m.ob m.fi = 0 := by
   rcases hR.2.2.2 with ⟨h1, -⟩ | ⟨-, h1⟩
   ·exact absurd h1 h0
   ·exact h1
  refine (zoj N B n k b h m w hS hSB hN hst hF h0 hfd (by omega) (by omega)).mono ?_
  rintro e1 w' ⟨rfl, hs, hA⟩
  have es : stM h m = ((shM h m.g (fvV h m.ob m.fi)).h, (if m.fi + 1 = obN h m.ob then { m with g := (shM h m.g (fvV h m.ob m.fi)).gy m.g.r, ov := m.ov || (shM h m.g (fvV h m.ob m.fi)).o, ob := -1, fi := 0 }
   else { m with g := (shM h m.g (fvV h m.ob m.fi)).gy m.g.r, ov := m.ov || (shM h m.g (fvV h m.ob m.fi)).o, fi := m.fi + 1 }), false) := by unfold stM; rw [if_pos h0]
  exact ⟨by rw [e], hA, (fun _ => by rw [es]; exact ⟨hs, rfl⟩), fun h => by rw [e] at h; cases h⟩
theorem step1 (hS : Sz w) (hSB : ¬ 0 = B) (hN : N ≤ B) (hst : StV N B n k b h m w) (hF : formB h = true) (hR : rightM h m) (c0 : cS m 0 = false) :
  Calls Tryz.prog 132 #[.pointer (some ⟨B, 0, none⟩)] w (StepL N B n k b h m 1 w) := by
 have h0 : ¬ ¬ m.ob = -1 := by simpa [cS] using c0
 by_cases h1 : 0 < m.g.n
 ·have e : cS m 1 = true := by simp [cS, h1]
  obtain ⟨r1, r2⟩ := zuw hR.1
  refine (zq2 N B n k b h m w hS hSB hN hst hF h1 (by omega)).mono ?_
  rintro e1 w' ⟨rfl, hs, hA⟩
  have es : stM h m = (h, haM h { m with g := ⟨m.g.r, m.g.n - 1, m.g.z⟩ } (m.g.z (m.g.n - 1)), false) := by unfold stM; rw [if_neg h0, if_pos h1]
  exact ⟨by rw [e], hA, (fun _ => by rw [es]; exact ⟨hs, rfl⟩), fun h => by rw [e] at h; cases h⟩
 ·have e : cS m 1 = false := by simp [cS, h1]
  refine (zu5 N B n k b h m w hst (by omega)).mono ?_
  rintro e1 w' ⟨rfl, hb⟩
  exact ⟨by rw [e], Aside.of hb, (fun h => by rw [e] at h; cases h), fun _ => hst.below hb⟩
theorem step2 (hS : Sz w) (hSB : ¬ 0 = B) (hN : N ≤ B) (hst : StV N B n k b h m w) (hF : formB h = true) (hR : rightM h m) (hnb : m.nb ≤ 1000) (c0 : cS m 0 = false) (c1 : cS m 1 = false) :
  Calls Tryz.prog 133 #[.pointer (some ⟨B, 0, none⟩)] w (StepL N B n k b h m 2 w) := by
 have h0 : ¬ ¬ m.ob = -1 := by simpa [cS] using c0
 have h1 : ¬ 0 < m.g.n := by simpa [cS] using c1
 refine (zt3 N B n k b h m w hS hSB hN hst hF (by omega) fun t ht => by have := (zuw (hR.2.1 t ht)).2; omega).mono ?_
 rintro e1 w' ⟨rfl, hs, hA⟩
 refine ⟨rfl, hA, fun hc => ?_, fun hc => ?_⟩
 ·obtain ⟨i, hi⟩ := Option.isSome_iff_exists.1 hc
  have es : stM h m = (h, haM h { m with b := setB m.b i ⟨(m.b i).r, (m.b i).n - 1, (m.b i).z⟩ } ((m.b i).z ((m.b i).n - 1)), false) := by unfold stM; rw [if_neg h0, if_neg h1, hi]
  rw [zm7 hi] at hs
  rw [es]
  exact ⟨hs, rfl⟩
 ·have hi : fsB m = none := by simpa [cS] using hc
  rw [znz hi] at hs
  exact hs
theorem step3 (hS : Sz w) (hSB : ¬ 0 = B) (hN : N ≤ B) (hst : StV N B n k b h m w) (hF : formB h = true) (hR : rightM h m) (hnr : m.nr ≤ 1000000) (c0 : cS m 0 = false) (c1 : cS m 1 = false) (c2 : cS m 2 = false) :
  Calls Tryz.prog 134 #[.pointer (some ⟨B, 0, none⟩)] w (StepL N B n k b h m 3 w) := by
 have h0 : ¬ ¬ m.ob = -1 := by simpa [cS] using c0
 have h1 : ¬ 0 < m.g.n := by simpa [cS] using c1
 have h2 : fsB m = none := by simpa [cS] using c2
 by_cases h3 : 0 < m.nr
 ·have e : cS m 3 = true := by simp [cS, h3]
  obtain ⟨r1, r2⟩ := zuw hR.1
  refine (ztx N B n k b h m w hS hSB hN hst hF h3 hnr (by omega) (by omega)).mono ?_
  rintro e1 w' ⟨rfl, hs, hA⟩
  have es : stM h m = ((shM h m.g (m.ro 0)).h, { m with g := (shM h m.g (m.ro 0)).gy m.g.r, ov := m.ov || (shM h m.g (m.ro 0)).o, nr := m.nr - 1, ro := fun i => m.ro (i + 1) }, false) := by unfold stM; rw [if_neg h0, if_neg h1, h2]; dsimp only; rw [if_pos h3]
  exact ⟨by rw [e], hA, (fun _ => by rw [es]; exact ⟨hs, rfl⟩), fun h => by rw [e] at h; cases h⟩
 ·have e : cS m 3 = false := by simp [cS, h3]
  refine (zug N B n k b h m w hst (by omega)).mono ?_
  rintro e1 w' ⟨rfl, hb⟩
  exact ⟨by rw [e], Aside.of hb, (fun h => by rw [e] at h; cases h), fun _ => hst.below hb⟩
theorem step4 (hS : Sz w) (hSB : ¬ 0 = B) (hN : N ≤ B) (hst : StV N B n k b h m w) (hF : formB h = true) (hR : rightM h m) (c0 : cS m 0 = false) (c1 : cS m 1 = false) (c2 : cS m 2 = false) (c3 : cS m 3 = false) :
  Calls Tryz.prog 135 #[.pointer (some ⟨B, 0, none⟩)] w (StepL N B n k b h m 4 w) := by
 have h0 : ¬ ¬ m.ob = -1 := by simpa [cS] using c0
 have h1 : ¬ 0 < m.g.n := by simpa [cS] using c1
 have h2 : fsB m = none := by simpa [cS] using c2
 have h3 : ¬ 0 < m.nr := by simpa [cS] using c3
 by_cases h4 : m.cu = -1
 ·have e : cS m 4 = false := by simp [cS, h4]
  refine (zxm N B n k b h m w hst h4).mono ?_
  rintro e1 w' ⟨rfl, hb⟩
  exact ⟨by rw [e], Aside.of hb, (fun h => by rw [e] at h; cases h), fun _ => hst.below hb⟩
 ·have e : cS m 4 = true := by simp [cS, h4]
  refine (zvv N B n k b h m w hS hSB hN hst hF h4 hR.2.2.1).mono ?_
  rintro e1 w' ⟨rfl, hs, hA⟩
  have es : stM h m = (h, cuM h m, false) := by
   unfold stM cuM; rw [if_neg h0, if_neg h1, h2]; dsimp only; rw [if_neg h3, if_pos h4]
   cases lbA h m.cu <;> rfl
  exact ⟨by rw [e], hA, (fun _ => by rw [es]; exact ⟨hs, rfl⟩), fun h => by rw [e] at h; cases h⟩
theorem step5 (hN : N ≤ B) (hst : StV N B n k b h m w) (hF : formB h = true) (c0 : cS m 0 = false) (c1 : cS m 1 = false) (c2 : cS m 2 = false) (c3 : cS m 3 = false) (c4 : cS m 4 = false) :
  Calls Tryz.prog 136 #[.pointer (some ⟨B, 0, none⟩)] w (StepL N B n k b h m 5 w) := by
 have h0 : ¬ ¬ m.ob = -1 := by simpa [cS] using c0
 have h1 : ¬ 0 < m.g.n := by simpa [cS] using c1
 have h2 : fsB m = none := by simpa [cS] using c2
 have h3 : ¬ 0 < m.nr := by simpa [cS] using c3
 have h4 : ¬ ¬ m.cu = -1 := by simpa [cS] using c4
 refine (ztf N B n k b h m w hN hst hF).mono ?_
 rintro e1 w' ⟨rfl, hs, hA⟩
 refine ⟨rfl, hA, fun hc => ?_, fun hc => ?_⟩
 ·have hc' : m.ov = true := hc
  have es : stM h m = (h, { m with ov := false, cu := 0 }, false) := by unfold stM; rw [if_neg h0, if_neg h1, h2]; dsimp only; rw [if_neg h3, if_neg h4, if_pos hc']
  rw [if_pos hc'] at hs
  rw [es]
  exact ⟨hs, rfl⟩
 ·have hc' : ¬ m.ov = true := by have : m.ov = false := hc; simp [this]
  rw [if_neg hc'] at hs
  exact hs
theorem zt4 (hc : ∀ j, j < 6 → cS m j = false) : stM h m = (h, m, true) := by
 have h0 : ¬ ¬ m.ob = -1 := by simpa [cS] using hc 0 (by omega)
 have h1 : ¬ 0 < m.g.n := by simpa [cS] using hc 1 (by omega)
 have h2 : fsB m = none := by simpa [cS] using hc 2 (by omega)
 have h3 : ¬ 0 < m.nr := by simpa [cS] using hc 3 (by omega)
 have h4 : ¬ ¬ m.cu = -1 := by simpa [cS] using hc 4 (by omega)
 have h5 : ¬ m.ov = true := by have : m.ov = false := hc 5 (by omega); simp [this]
 unfold stM; rw [if_neg h0, if_neg h1, h2]; dsimp only; rw [if_neg h3, if_neg h4, if_neg h5]
end
end Go.Proofs.YtkehankfnkjnlaaGreatDoor
