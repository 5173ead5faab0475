import Derived.Test.YtkehankfnkjnlaaGreatDoorV26
namespace Go.Proofs.YtkehankfnkjnlaaGreatDoor
set_option linter.unusedSimpArgs false
set_option linter.unusedVariables false
set_option maxHeartbeats 16000000
set_option maxRecDepth 20000
open Go.ChangeAt Go.ChangeShapes Go.Joins Go.RowKit Go.WideShapes
variable {h : Hp} {w w' W W' : World} {p q : Option Addr} {n g : Nat} {a : Int} {v : Value}
theorem zmy (p : Option Addr) (c : Nat) (q : Option Addr) (d : Nat) (h : Hp) (w : World) (hh : HpAt w p c q d h) (hF : formB h = true) :
  Calls Tryz.prog 138 #[.agg #[.slice p h.n c, .slice q h.m d, .bool h.b]] w fun e w' => ∃ p' c' q' d', e = .returned (.agg #[.slice p' h.n c', .slice q' h.m d', .bool h.b]) ∧ HpOwn w' w.heap.size p' c' q' d' { h with s := bgTo h.s h.m } ∧ Below w.heap.size w w' := by
 have hb0 : 0 < h.n ∧ h.n ≤ 512 ∧ 0 < h.m ∧ h.m ≤ 16 := by have := zad.1 hF; omega
 obtain ⟨n0, n1, m0, m1⟩ := hb0
 obtain ⟨w0, hw0, hB0, hB1, hst0⟩ := boxed2 (w := w) (v0 := .slice p h.n c) (v1 := .slice q h.m d) (v2 := .bool h.b) (u0 := .slice none 0 0) (u1 := .slice none 0 0) (u2 := .bool false) (t := 27)
 have hl0 : w.heap.size + 1 < w0.heap.size := hB1.1
 have hC := zke p c q d h w0 (hh.below hst0) hF
 have hF' : Hid (formB h = true) := hF
 clear hF
 go_enter Tryz.func138, Tryz.ntmps138
 go_upto_region 1 with fail
 rw [← hw0]
 clear hw0
 obtain ⟨l0, x0, x1, x2, -, -, -⟩ := id hB0
 go_upto_region 2 with (first
  | (go_at_call 147; refine zm hC ?_; rintro e w1 ⟨p1, c1, q1, d1, rfl, hO, hb⟩)
 )
 obtain ⟨w2, hw2⟩ : ∃ W, W = w1.alloc (.cells #[.slice p1 h.n c1, .slice q1 h.m d1, .bool h.b] 27) := ⟨_, rfl⟩
 have hB2 : Below w1.heap.size w1 w2 := by rw [hw2]; exact zr.alloc (Nat.le_refl _) _
 have gG : Box3 w1.heap.size (.slice p1 h.n c1) (.slice q1 h.m d1) (.bool h.b) w2 := by rw [hw2]; exact Box3.new _ _ _ _ _
 obtain ⟨gs, rfl, lgs, lgs'⟩ := hO.span m0
 have hO2 := hO.below hB2
 have hR2 := hB1.below (bjoin hB2 hb)
 have hbW := bjoin (bjoin hB2 hb) hst0
 rw [← hw2]
 clear hw2 hB2 hb hst0 hB0 x0 x1 x2 l0 hC hO
 have hz0 : bgTo h.s 0 = h.s := by funext j; unfold bgTo; rw [if_neg (by omega)]
 have hst : HpOwn w2 w0.heap.size p1 c1 (some ⟨gs, 0, none⟩) d1 { h with s := bgTo h.s 0 } := by rw [hz0]; exact hO2
 have hG1 : w.heap.size + 1 < w1.heap.size := by omega
 clear hO2 hz0
 generalize w1.heap.size = G at *
 obtain ⟨lG, z0, z1, z2, -, -, -⟩ := id gG
 go_upto_region 3 with fail
 clear z0 z1 z2 lG
 go_loopg [11] h.m (fun gg iv wr => ∃ i : Nat, i ≤ h.m ∧ gg = h.m - i ∧ iv = .int .i64 i ∧ HpOwn wr w0.heap.size p1 c1 (some ⟨gs, 0, none⟩) d1 { h with s := bgTo h.s i } ∧ Box3 G (.slice p1 h.n c1) (.slice (some ⟨gs, 0, none⟩) h.m d1) (.bool h.b) wr ∧ Box3 (w.heap.size + 1) (.slice none 0 0) (.slice none 0 0) (.bool false) wr ∧ Below w.heap.size w wr)
 case atStart => exact ⟨0, by omega, by omega, rfl, hst, gG, hR2, hbW⟩
 case round =>
  clear hst gG hR2 hbW
  obtain ⟨i, ih, rfl, rfl, hO, gG, hR, hbw⟩ := hrel
  by_cases hi : i < h.m
  ·obtain ⟨⟨b', off, eq, hlt, s0, s1, s2⟩, -⟩ := hO.at.spans i hi
   injection eq with eq
   injection eq with e1 e2
   subst e1 e2
   rw [show ({ h with s := bgTo h.s i } : Hp).s i = h.s i from zw7 h.s i, Nat.zero_add] at s0 s1 s2
   go_upto_region 5 with fail
   obtain ⟨wx, hwx⟩ : ∃ W, W = wr.alloc (.cells #[.int .i64 (h.s i).st, .int .i64 (h.s i).cl, .int .u32 (h.s i).fr] 51) := ⟨_, rfl⟩
   have gS : Box3 wr.heap.size (.int .i64 (h.s i).st) (.int .i64 (h.s i).cl) (.int .u32 (h.s i).fr) wx := by rw [hwx]; exact Box3.new _ _ _ _ _
   have hbx : Below wr.heap.size wr wx := by rw [hwx]; exact zr.alloc (Nat.le_refl _) _
   replace hO := hO.below hbx
   replace gG := gG.below hbx
   replace hR := hR.below hbx
   replace hbw := bjoin hbx hbw
   rw [← hwx]
   clear hwx s0 s1 s2 hlt hbx
   generalize wr.heap.size = S at *
   obtain ⟨u0, v0, hO'⟩ := hO.state hi (x := 2) (by decide)
   rw [show ({ h with s := bgTo h.s i } : Hp).s i = h.s i from zw7 h.s i] at u0 hO'
   obtain ⟨lS, k0, k1, k2, -, -, -⟩ := id gS
   obtain ⟨lG, z0, z1, z2, -, -, -⟩ := id gG
   by_cases e : (h.s i).st = 1
   ·have d0 : ((h.s i).st == 1) = true := by simp [e]
    have hnx : bgTo h.s (i + 1) = setS (bgTo h.s i) i ⟨2, (h.s i).cl, (h.s i).fr⟩ := by rw [zr1]; unfold bgS'; rw [if_pos e]
    generalize (h.s i).st = st at *
    go_wp2
    go_roundg (h.m - (i + 1))
    case measure => omega
    case rel => exact ⟨i + 1, by omega, rfl, by go_num, by rw [hnx]; exact hO', gG.other (by omega) _ _, hR.other (by omega) _ _, hbw.setCell (by show w.heap.size ≤ gs; omega) _⟩
   ·have d0 : ((h.s i).st == 1) = false := by simp [e]
    have hnx : bgTo h.s (i + 1) = bgTo h.s i := by
     rw [zr1]; unfold bgS'; rw [if_neg e]
     have := ztl (bgTo h.s i) i
     rwa [zw7] at this
    generalize (h.s i).st = st at *
    go_wp2
    go_roundg (h.m - (i + 1))
    case measure => omega
    case rel => exact ⟨i + 1, by omega, rfl, by go_num, by rw [hnx]; exact hO, gG, hR, hbw⟩
  ·obtain rfl : i = h.m := by omega
   obtain ⟨lG, z0, z1, z2, -, -, -⟩ := id gG
   obtain ⟨lR, y0, y1, y2, f0, f1, f2⟩ := id hR
   go_wp2
   refine bodyPost_ret (by simp [results, Tryz.results138, go_sem, *]; try rfl) rfl ?_
   have hz := (((hO.under (g := w.heap.size + 1) (by omega) 0 (.slice p1 h.n c1)).under (g := w.heap.size + 1) (by omega) 1 (.slice (some ⟨gs, 0, none⟩) h.m d1)).under (g := w.heap.size + 1) (by omega) 2 (.bool h.b)).lower (show w.heap.size ≤ w0.heap.size by omega)
   exact ⟨p1, c1, _, d1, rfl, hz, zav hbw (by omega) _ _ _⟩
theorem zrv (hF : formB h = true) (hw : h.wf) {p : Nat} (hp : p < h.m) {a : Nat} : ∀ j, a + j ≤ 32 → (∀ i, i < j → fiB h (32 * p + (a + i : Nat)) = false) → swA h p (a + j) = swA h p a
 | 0, _, _ => rfl
 | j + 1, h1, h2 => by
  have ih := zrv hF hw hp (a := a) j (by omega) fun i hi => h2 i (by omega)
  have S := swp hF hw hp (a + j) (by omega)
  have hno : whB (swA h p (a + j)).1 (32 * p + (a + j : Nat)) = false := by
   unfold whB obB
   rw [S.fi, h2 j (by omega)]
   rfl
  have e1 : swA h p (a + (j + 1)) = if whB (swA h p (a + j)).1 (32 * p + (a + j : Nat)) = true ∧ frB (swA h p (a + j)).1 (32 * p + (a + j : Nat)) = true then (frH (swA h p (a + j)).1 (32 * p + (a + j : Nat)), (swA h p (a + j)).2 + szW (h.s p).cl) else swA h p (a + j) := rfl
  rw [e1, if_neg, ih]
  rintro ⟨h3, -⟩
  rw [hno] at h3
  cases h3
theorem zve (hF : formB h = true) (hw : h.wf) {p : Nat} (hp : p < h.m) {i k k' : Nat} (hi : (i : Int) < blW (h.s p).cl) (hk : (k : Int) = i * szW (h.s p).cl) (hk' : (k' : Int) = (i + 1 : Nat) * szW (h.s p).cl) :
  swA h p k' = if whB (swA h p k).1 (32 * p + k) = true ∧ frB (swA h p k).1 (32 * p + k) = true then (frH (swA h p k).1 (32 * p + k), (swA h p k).2 + szW (h.s p).cl) else swA h p k := by
 have hsz : 0 < szW (h.s p).cl ∧ (k' : Int) = k + szW (h.s p).cl ∧ (k' : Int) ≤ 32 := by
  rcases zaq (h.s p).cl with ⟨-, h0, h1, -⟩ | ⟨-, h0, h1, -⟩ | ⟨-, h0, h1, -⟩ | ⟨-, h0, h1, -⟩ | ⟨-, h0, h1, -⟩
  all_goals
   rw [h1] at hi
   rw [h0] at hk hk' ⊢
   omega
 obtain ⟨z0, e1, z1⟩ := hsz
 obtain ⟨j, rfl⟩ : ∃ j, k' = k + 1 + j := ⟨k' - (k + 1), by omega⟩
 rw [zrv hF hw hp j (by omega) fun x hx => ?_]
 ·rfl
 ·cases ef : fiB h (32 * p + (k + 1 + x : Nat)) with
  | false => rfl
  | true =>
   obtain ⟨-, -, -, -, -, i0, -, e2⟩ := zbd hF ef
   have hd : (32 * (p : Int) + (k + 1 + x : Nat)) / 32 = p := by omega
   rw [hd, zez] at e2 i0
   generalize plI (h.s p).cl (32 * p + (k + 1 + x : Nat)) = y at *
   rcases zaq (h.s p).cl with ⟨-, h0, h1, -⟩ | ⟨-, h0, h1, -⟩ | ⟨-, h0, h1, -⟩ | ⟨-, h0, h1, -⟩ | ⟨-, h0, h1, -⟩
   all_goals
    rw [h0] at hk e1 e2
    omega
theorem bl_szs {c : Int} (h0 : 0 ≤ c) (h1 : c < 4) : blW c * szW c = 32 ∧ 2 ≤ szW c ∧ szW c ≤ 16 := by
 rcases zaq c with ⟨-, e0, e1, -⟩ | ⟨-, e0, e1, -⟩ | ⟨-, e0, e1, -⟩ | ⟨-, e0, e1, -⟩ | ⟨e, -⟩
 all_goals first | (rw [e0, e1]; decide) | exact absurd ⟨h0, h1⟩ e
theorem zky {n c : Nat} {m d : Nat} {b : Bool} (hS : Sz w) (hh : HpIn w p n c q m d b h) (hF : formB h = true) :
  Calls Tryz.prog 148 #[.agg #[.slice p n c, .slice q m d, .bool b], .int .i64 a] w fun e w' => ∃ p' c' q' d', e = .returned (.tuple #[.agg #[.slice p' n c', .slice q' m d', .bool b], .bool (frB h a)]) ∧
   (frB h a = true → OwnIn w' w.heap.size p' n c' q' m d' b (frH h a)) ∧ Below w.heap.size w w' := by
 obtain ⟨rfl, rfl, rfl, hh⟩ := hh
 refine zm (zrm _ _ _ _ _ a _ hS hh hF) ?_
 rintro e w' ⟨p', c', q', d', rfl, h1, h2, h3, h4⟩
 obtain ⟨a1, a2, a3⟩ := fr_n h a
 exact ⟨p', c', q', d', rfl, fun e => ⟨a1.symm, a2.symm, a3.symm, h3 e⟩, h4⟩
theorem zph (p : Option Addr) (c : Nat) (q : Option Addr) (d : Nat) (h : Hp) (g : Nat) (w : World) (hS : Sz w) (hh : HpAt w p c q d h) (hF : formB h = true) (hg : g < h.m) (hst : (h.s g).st = 2) (R : Hp × Int) (eR : swA h g 32 = R) :
  Calls Tryz.prog 111 #[.agg #[.slice p h.n c, .slice q h.m d, .bool h.b], .int .i64 g] w fun e w' => ∃ p' c' q' d', e = .returned (.tuple #[.agg #[.slice p' h.n c', .slice q' h.m d', .bool h.b], .int .i64 R.2]) ∧ OwnIn w' w.heap.size p' h.n c' q' h.m d' h.b R.1 ∧ Below w.heap.size w w' := by
 have hwf := hh.wf
 have hb0 : 0 < h.n ∧ h.n ≤ 512 ∧ 0 < h.m ∧ h.m ≤ 16 := by have := zad.1 hF; omega
 obtain ⟨n0, n1, m0, m1⟩ := hb0
 obtain ⟨w0, hw0, hB0, hB1, hst0⟩ := boxed2 (w := w) (v0 := .slice p h.n c) (v1 := .slice q h.m d) (v2 := .bool h.b) (u0 := .slice none 0 0) (u1 := .slice none 0 0) (u2 := .bool false) (t := 27)
 have hl0 : w.heap.size + 1 < w0.heap.size := hB1.1
 have hat := hh.below hst0
 have hS0 := hS.below hst0
 have hC := zke p c q d h w0 hat hF
 -- the data: what a round does
 have hcl : 0 ≤ (h.s g).cl ∧ (h.s g).cl < 4 := by
  rcases zaz.1 ((zad.1 hF).2.2.2 g hg) with ⟨h1, -⟩ | ⟨-, c0, c1, -⟩
  ·omega
  ·exact ⟨c0, c1⟩
 obtain ⟨hsz, z0, z1⟩ := bl_szs hcl.1 hcl.2
 obtain ⟨Z, eZ⟩ : ∃ Z : Nat, (Z : Int) = szW (h.s g).cl := ⟨(szW (h.s g).cl).toNat, by omega⟩
 obtain ⟨L, eL⟩ : ∃ L : Nat, (L : Int) = blW (h.s g).cl := ⟨(blW (h.s g).cl).toNat, by have := zbc (h.s g).cl; omega⟩
 have hL : L * Z = 32 := by
  have : (L : Int) * (Z : Int) = 32 := by rw [eL, eZ]; exact hsz
  exact_mod_cast this
 have hL16 : L ≤ 16 := by have := zbc (h.s g).cl; omega
 have hstep : Hid (∀ i : Nat, i < L → swA h g ((i + 1) * Z) = if whB (swA h g (i * Z)).1 ((g : Int) * 32 + (i : Int) * szW (h.s g).cl) = true ∧ frB (swA h g (i * Z)).1 ((g : Int) * 32 + (i : Int) * szW (h.s g).cl) = true then (frH (swA h g (i * Z)).1 ((g : Int) * 32 + (i : Int) * szW (h.s g).cl), (swA h g (i * Z)).2 + szW (h.s g).cl) else swA h g (i * Z)) := fun i hi => by
  have e1 : ((i * Z : Nat) : Int) = (i : Int) * szW (h.s g).cl := by rw [Int.natCast_mul, eZ]
  have := zve hF hwf hg (i := i) (k := i * Z) (k' := (i + 1) * Z) (by omega) e1 (by rw [Int.natCast_mul, eZ])
  rw [this, e1, Int.mul_comm 32 (g : Int)]
 have hfact : Hid (∀ i : Nat, i ≤ L → formB (swA h g (i * Z)).1 = true ∧ 0 ≤ (swA h g (i * Z)).2 ∧ (swA h g (i * Z)).2 ≤ 512 ∧ 0 ≤ (i : Int) * szW (h.s g).cl ∧ (i : Int) * szW (h.s g).cl ≤ 32) := fun i hi => by
  have h1 : i * Z ≤ 32 := by rw [← hL]; exact Nat.mul_le_mul_right _ hi
  have S := swp hF hwf hg (i * Z) h1
  have b1 := zd7 hF hwf
  have b2 := zd7 S.form S.wf
  have b3 := S.sum
  have e1 : ((i * Z : Nat) : Int) = (i : Int) * szW (h.s g).cl := by rw [Int.natCast_mul, eZ]
  exact ⟨S.form, S.pos, by omega, by omega, by omega⟩
 have hend : Hid (swA h g (L * Z) = R) := by show swA h g (L * Z) = R; rw [hL]; exact eR
 clear eR
 have hF' : Hid (formB h = true) := hF
 have eL' : Hid ((L : Int) = blW (h.s g).cl) := eL
 clear hF hsz eZ hL hcl hwf eL
 go_enter Tryz.func111, Tryz.ntmps111
 go_upto_region 1 with fail
 go_step3
 rw [← hw0]
 clear hw0
 obtain ⟨l0, x0, x1, x2, -, -, -⟩ := id hB0
 go_upto_region 2 with (first
  | (go_at_call 147; refine zm hC ?_; rintro e w1 ⟨p1, c1, q1, d1, rfl, hO, hb⟩)
 )
 obtain ⟨w2, hw2⟩ : ∃ W, W = w1.alloc (.cells #[.slice p1 h.n c1, .slice q1 h.m d1, .bool h.b] 27) := ⟨_, rfl⟩
 have hB2 : Below w1.heap.size w1 w2 := by rw [hw2]; exact zr.alloc (Nat.le_refl _) _
 have gG : Box3 w1.heap.size (.slice p1 h.n c1) (.slice q1 h.m d1) (.bool h.b) w2 := by rw [hw2]; exact Box3.new _ _ _ _ _
 have hO1 : OwnIn w1 w0.heap.size p1 h.n c1 q1 h.m d1 h.b h := ⟨rfl, rfl, rfl, hO⟩
 have hoff := hO1.offNew ⟨n0, m0⟩ (g := w1.heap.size) (Nat.le_refl _)
 have hO2 := hO1.below hB2
 have hb2 := bjoin hB2 hb
 have hR2 := hB1.below hb2
 have hat2 := hat.below hb2
 have hS2 := hS0.below hb2
 replace hB0 := hB0.below hb2
 have hbW := bjoin hb2 hst0
 have hG0 : w0.heap.size ≤ w1.heap.size := hb.size
 rw [← hw2]
 clear hw2 hB2 hb hst0 x0 x1 x2 l0 hC hO hO1 hb2 hat hh hB1 hS0
 generalize w1.heap.size = G at *
 obtain ⟨l0, x0, x1, x2, -, -, -⟩ := id hB0
 obtain ⟨⟨b, off, rfl, hlt, s0, s1, s2⟩, -⟩ := hat2.spans g hg
 have hst2 : HpIn w2 p1 h.n c1 q1 h.m d1 h.b (swA h g (0 * Z)).1 := by rw [Nat.zero_mul]; exact hO2.in
 have hs0 : OwnIn w2 w0.heap.size p1 h.n c1 q1 h.m d1 h.b (swA h g (0 * Z)).1 := by rw [Nat.zero_mul]; exact hO2
 have hz0 : (swA h g (0 * Z)).2 = 0 := by rw [Nat.zero_mul]; rfl
 have hBl := fun W (hW : Below w2.heap.size w2 W) => zc7 (h.s g).cl W (hS2.below hW)
 rw [← eL'.out] at hBl
 generalize (h.s g).cl = cl at *
 go_upto_region 3 with fail
 go_step3
 go_upto_region 4 with (first
  | (go_at_call 99; refine zm (hBl _ zr) ?_; rintro e w3 ⟨rfl, hb3⟩)
 )
 replace hs0 := hs0.below hb3
 replace gG := gG.below hb3
 replace hR2 := hR2.below hb3
 replace hbW := bjoin hb3 hbW
 clear hb3 hBl s0 s1 s2 hlt x0 x1 x2 l0 hB0 hat2 hO2 hst2 hS2
 have hg16 : g < 16 := by omega
 go_loopg [7, 25] L (fun gg fv iv wr => ∃ (i : Nat) (p' : Option Addr) (c' : Nat) (q' : Option Addr) (d' : Nat), i ≤ L ∧ gg = L - i ∧ iv = .int .i64 i ∧ fv = .int .i64 (swA h g (i * Z)).2 ∧ OwnIn wr w0.heap.size p' h.n c' q' h.m d' h.b (swA h g (i * Z)).1 ∧ Off G p' h.n c' q' h.m d' ∧ Box3 G (.slice p' h.n c') (.slice q' h.m d') (.bool h.b) wr ∧ Box3 (w.heap.size + 1) (.slice none 0 0) (.slice none 0 0) (.bool false) wr ∧ Below w.heap.size w wr)
 case atStart => exact ⟨0, p1, c1, q1, d1, by omega, by omega, rfl, by rw [hz0], hs0, hoff, gG, hR2, hbW⟩
 case round =>
  clear hs0 gG hR2 hbW hz0 hoff
  obtain ⟨i, p', c', q', d', ih, rfl, rfl, rfl, hO, hoff, gG, hR, hbw⟩ := hrel
  obtain ⟨hFr, r0, r1, a0, a1⟩ := hfact.out i ih
  have hSr := hS.below hbw
  by_cases hi : i < L
  ·have hnx := hstep.out i hi
   generalize swA h g (i * Z) = r at *
   replace hFr : Hid (formB r.1 = true) := hFr
   replace hnx : Hid (_ = _) := hnx
   go_upto_region 7 with (first
    | (go_at_call 65; refine zm (zbi _ _ hSr) ?_; rintro e wA ⟨rfl, hbA⟩)
   )
   generalize (g : Int) * 32 + (i : Int) * szW cl = A at *
   replace hO := hO.below hbA
   replace gG := gG.below hbA
   replace hR := hR.below hbA
   replace hbw := bjoin hbA hbw
   replace hSr := hSr.below hbA
   have hw0A : w0.heap.size ≤ wA.heap.size := by have := gG.1; omega
   clear hbA a0 a1
   obtain ⟨lG, z0', z1', z2', -, -, -⟩ := id gG
   have hGt := zg8 (a := A) hSr hO.in hFr.out
   cases eo : obB r.1 A with
   | false =>
    have hno : Hid (swA h g ((i + 1) * Z) = r) := by
     have := hnx.out
     rwa [if_neg (by unfold whB; rw [eo]; simp)] at this
    rw [eo] at hGt
    clear hnx eo hFr
    go_upto_region 8 with (first
     | (go_at_call 66; refine zm hGt ?_; rintro e wB ⟨rfl, hbB⟩)
    )
    have hbC := bjoin ((Below.refl wB.heap.size wB).alloc (Nat.le_refl _) (.cells #[.bool false, .bool (obC r.1 A), .int .i64 (obK r.1 A), .int .i64 (obN r.1 A)] 60)) hbB
    go_wp2
    go_roundg (L - (i + 1))
    case measure => omega
    case rel => exact ⟨i + 1, p', c', q', d', by omega, rfl, by go_num, by rw [hno.out], by rw [hno.out]; exact hO.below hbC, hoff, gG.below hbC, hR.below hbC, bjoin hbC hbw⟩
   | true =>
    rw [eo] at hGt
    go_upto_region 8 with (first
     | (go_at_call 66; refine zm hGt ?_; rintro e wB ⟨rfl, hbB⟩)
    )
    obtain ⟨wC, hwC⟩ : ∃ W, W = wB.alloc (.cells #[.bool true, .bool (obC r.1 A), .int .i64 (obK r.1 A), .int .i64 (obN r.1 A)] 60) := ⟨_, rfl⟩
    have hbC : Below wA.heap.size wA wC := by rw [hwC]; exact bjoin ((Below.refl wB.heap.size wB).alloc (Nat.le_refl _) _) hbB
    rw [← hwC]
    replace hO := hO.below hbC
    replace gG := gG.below hbC
    replace hR := hR.below hbC
    replace hbw := bjoin hbC hbw
    replace hSr := hSr.below hbC
    replace hw0A : w0.heap.size ≤ wC.heap.size := by have := gG.1; omega
    clear hwC hbC hbB hGt lG z0' z1' z2'
    obtain ⟨lG, z0', z1', z2', -, -, -⟩ := id gG
    have hBk := zdo (a := A) hSr hO.in hFr.out
    cases eb : blB r.1 A with
    | true =>
     have hno : Hid (swA h g ((i + 1) * Z) = r) := by
      have := hnx.out
      rwa [if_neg (by unfold whB; rw [eb]; simp)] at this
     rw [eb] at hBk
     clear hnx eo eb hFr
     go_wp2_with (first
      | (go_at_call 68; refine zm hBk ?_; rintro e wD ⟨rfl, hbD⟩)
     )
     go_roundg (L - (i + 1))
     case measure => omega
     case rel => exact ⟨i + 1, p', c', q', d', by omega, rfl, by go_num, by rw [hno.out], by rw [hno.out]; exact hO.below hbD, hoff, gG.below hbD, hR.below hbD, bjoin hbD hbw⟩
    | false =>
     have hwh : whB r.1 A = true := by unfold whB; rw [eo, eb]; rfl
     rw [eb] at hBk
     have hFW := fun W (hW : Below wC.heap.size wC W) => zky (a := A) (hSr.below hW) (hO.in.below hW) hFr.out
     cases ef : frB r.1 A with
     | false =>
      have hno : Hid (swA h g ((i + 1) * Z) = r) := by
       have := hnx.out
       rwa [if_neg (by rw [ef]; simp)] at this
      simp only [ef] at hFW
      clear hnx eo eb hFr hwh ef
      go_upto_region 11 with (first
       | (go_at_call 68; refine zm hBk ?_; rintro e wD ⟨rfl, hbD⟩; have z03 := zcl hbD lG z0'; have z13 := zcl hbD lG z1'; have z23 := zcl hbD lG z2')
       | (go_at_call 148; refine zm (hFW _ hbD) ?_; rintro e wE ⟨p2, c2, q2, d2, rfl, -, hbE⟩)
      )
      have hbF := bjoin ((Below.refl wE.heap.size wE).alloc (Nat.le_refl _) (.cells #[.slice p2 h.n c2, .slice q2 h.m d2, .bool h.b] 27)) (bjoin hbE hbD)
      go_wp2
      go_roundg (L - (i + 1))
      case measure => omega
      case rel => exact ⟨i + 1, p', c', q', d', by omega, rfl, by go_num, by rw [hno.out], by rw [hno.out]; exact hO.below hbF, hoff, gG.below hbF, hR.below hbF, bjoin hbF hbw⟩
     | true =>
      have hno : Hid (swA h g ((i + 1) * Z) = (frH r.1 A, r.2 + szW cl)) := by
       have := hnx.out
       rwa [if_pos ⟨hwh, ef⟩] at this
      simp only [ef] at hFW
      clear hnx eo eb hFr hwh ef
      go_upto_region 11 with (first
       | (go_at_call 68; refine zm hBk ?_; rintro e wD ⟨rfl, hbD⟩; have z03 := zcl hbD lG z0'; have z13 := zcl hbD lG z1'; have z23 := zcl hbD lG z2')
       | (go_at_call 148; refine zm (hFW _ hbD) ?_; rintro e wE ⟨p2, c2, q2, d2, rfl, hnew, hbE⟩)
      )
      have hO2 := hnew trivial
      obtain ⟨wF, hwF⟩ : ∃ W, W = wE.alloc (.cells #[.slice p2 h.n c2, .slice q2 h.m d2, .bool h.b] 27) := ⟨_, rfl⟩
      have gK : Box3 wE.heap.size (.slice p2 h.n c2) (.slice q2 h.m d2) (.bool h.b) wF := by rw [hwF]; exact Box3.new _ _ _ _ _
      have hbF0 : Below wE.heap.size wE wF := by rw [hwF]; exact zr.alloc (Nat.le_refl _) _
      have hbF := bjoin hbF0 (bjoin hbE hbD)
      have hDs := hbD.size
      rw [← hwF]
      have hoff2 := hO2.off (g := G) (by omega)
      have hO3 := (hO2.below hbF0).lower (show w0.heap.size ≤ wD.heap.size by omega)
      replace gG := gG.below hbF
      replace hR := hR.below hbF
      replace hbw := bjoin hbF hbw
      have hSF := hSr.below hbF
      clear hwF hbF hbF0 hbE hbD hO2 hnew hFW hBk z0' z1' z2' z03 z13 z23 lG hoff hO hSr
      generalize wE.heap.size = K at *
      obtain ⟨lG, z0', z1', z2', f0', f1', f2'⟩ := id gG
      obtain ⟨lK, k0, k1, k2, -, -, -⟩ := id gK
      have hzb := zjg cl
      obtain ⟨hzb0, hzb1⟩ := hzb
      go_upto_region 12 with fail
      have hGw : w.heap.size ≤ G := by omega
      go_region_with (first
       | (go_at_call 65; refine zm (zbi _ _ (hS.below (by first | (go_grown; done) | (go_grown; exact hbw)))) ?_; rintro e w2 ⟨rfl, hb⟩; first | (obtain ⟨hc, hf, hb, hz⟩ := bstep hb (w := wF) (by go_grown); try simp only [za, zb, zd] at hc hf hz) | skip)
      )
      all_goals
       go_wp2
       go_roundg (L - (i + 1))
       case measure => omega
       case rel => exact ⟨i + 1, p2, c2, q2, d2, by omega, rfl, by go_num, by rw [hno.out], by rw [hno.out]; exact (hO3.below hb).stores hoff2 _ _ _, hoff2, (gG.below hb).stores _ _ _, (hR.below hb).others (by omega) _ _ _, zav (bjoin hb hbw) (by omega) _ _ _⟩
  ·obtain rfl : i = L := by omega
   have he := hend.out
   rw [he] at hO r0 r1 ⊢
   obtain ⟨lG, z0', z1', z2', -, -, -⟩ := id gG
   obtain ⟨lR, y0, y1, y2, f0, f1, f2⟩ := id hR
   clear hfact hstep
   go_wp2
   try rw [Exit.noGoto_ret]
   refine bodyPost_ret (by simp [results, Tryz.results111, go_sem, *]; try rfl) rfl ?_
   have hof : Off (w.heap.size + 1) p' h.n c' q' h.m d' := hO.off (by omega)
   have hz := (hO.stores hof (.slice p' h.n c') (.slice q' h.m d') (.bool h.b)).lower (show w.heap.size ≤ w0.heap.size by omega)
   have hbz := zav hbw (g := w.heap.size + 1) (Nat.le_succ _) (.slice p' h.n c') (.slice q' h.m d') (.bool h.b)
   exact ⟨p', c', q', d', rfl, hz, hbz⟩
end Go.Proofs.YtkehankfnkjnlaaGreatDoor
