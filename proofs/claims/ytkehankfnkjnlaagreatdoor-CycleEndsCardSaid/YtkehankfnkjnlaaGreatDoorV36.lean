import Derived.Test.YtkehankfnkjnlaaGreatDoorV31
import Derived.Test.YtkehankfnkjnlaaGreatDoorV35
namespace Go.Proofs.YtkehankfnkjnlaaGreatDoor
set_option linter.unusedSimpArgs false
set_option linter.unusedVariables false
set_option maxHeartbeats 16000000
set_option maxRecDepth 20000
open Go.ChangeAt Go.ChangeShapes Go.Joins Go.RowKit Go.WideShapes
variable {h : Hp} {w w' W W' : World} {p q : Option Addr} {n g : Nat} {a : Int} {v : Value}
def hlG : Nat → Mu → List Vl
 | 0 => stkL
 | _ => regL
def hlK : Nat → FuncId
 | 0 => 75
 | _ => 76
theorem zs1 (z : Nat → Mu) : ∀ n, accL hlG z 2 n = heldL z n
 | 0 => rfl
 | n + 1 => by
  show accL hlG z 2 n ++ (([] ++ stkL (z n)) ++ regL (z n)) = heldL z n ++ stkL (z n) ++ regL (z n)
  rw [zs1 z n]
  simp
theorem zsl (h : Hp) (z : Nat → Mu) : ∀ n, accL (fun _ => tkL h) z 1 n = pendL h z n
 | 0 => rfl
 | n + 1 => by
  show accL (fun _ => tkL h) z 1 n ++ ([] ++ tkL h (z n)) = _
  rw [zsl h z n, List.nil_append]
  unfold tkL
  show _ = (if (z n).s = 4 then pendL h z n ++ _ else pendL h z n)
  split
  ·rfl
  ·rw [List.append_nil]
theorem zlg : ∀ args w, (callFunc 75 args).run Tryz.prog w = .ok (.enter 75 args) w := enters_of Tryz.func75 (by kernel_rfl) rfl
theorem zmx : ∀ args w, (callFunc 76 args).run Tryz.prog w = .ok (.enter 76 args) w := enters_of Tryz.func76 (by kernel_rfl) rfl
theorem zli : ∀ args w, (callFunc 159 args).run Tryz.prog w = .ok (.enter 159 args) w := enters_of Tryz.func159 (by kernel_rfl) rfl
theorem zqn (n : Nat) (z : Nat → Mu) (p : Option Addr) (c : Nat) (w : World) (hz : RAt MuC 13 w p c n z) (hn : n ≤ 10) (hst : ∀ i, i < n → (z i).n ≤ 20) :
  Calls Tryz.prog 43 #[.slice p n c] w fun e w' => ∃ p' c', e = .returned (.slice p' (heldL z n).length c') ∧ w'.ownsRow w.heap.size 70 2 (.slice p' (heldL z n).length c') (heldL z n).length (LV (heldL z n)) ∧ Below w.heap.size w w' := by
 obtain ⟨w0, hw0⟩ : ∃ w0, w0 = w.alloc (.cells #[.func (.func 75) #[] #[], .func (.func 76) #[] #[]] 109) := ⟨_, rfl⟩
 have gF : TBox 109 w.heap.size #[.func (.func 75) #[] #[], .func (.func 76) #[] #[]] w0 := by rw [hw0]; exact TBox.new _ _ _
 have hb0 : Below w.heap.size w w0 := by rw [hw0]; exact zr.alloc (Nat.le_refl _) _
 obtain ⟨hmw, -⟩ := zmw hz
 have c0 := gF.cell 0
 have c1 := gF.cell 1
 simp only [List.getElem?_toArray, List.getElem?_cons_zero, List.getElem?_cons_succ] at c0 c1
 have hO := zgx hlG hlK (fun _ => #[]) 2 w.heap.size 2 n z p c w0 (hz.below zat hb0) hn (by decide) gF.lt
  (fun k hk => by
   rcases (show k = 0 ∨ k = 1 by omega) with rfl | rfl
   ·exact c0
   ·exact c1)
  (fun k hk => by
   rcases (show k = 0 ∨ k = 1 by omega) with rfl | rfl
   ·exact zlg
   ·exact zmx)
  (fun j k hj hk => by
   rw [zs1]
   have h1 := zce (z := z) (n := j) fun i hi => hst i (by omega)
   have h2 := hst j hj
   have h3 := znh (z j)
   have h4 : (stkL (z j)).length = (z j).n := by simp [stkL]
   rcases (show k = 0 ∨ k = 1 by omega) with rfl | rfl
   ·rw [List.length_append, List.length_append]
    show (heldL z j).length + 0 + (stkL (z j)).length ≤ 1000
    omega
   ·rw [List.length_append, List.length_append]
    show (heldL z j).length + ([] ++ stkL (z j)).length + (regL (z j)).length ≤ 1000
    rw [List.nil_append]
    omega)
  (fun i k hi hk W ps cs hW hv => by
   rcases (show k = 0 ∨ k = 1 by omega) with rfl | rfl
   ·exact zo9 (z i) ps cs W hv
   ·exact ztn (z i) (hmw i hi) ps cs W)
 rw [zs1] at hO
 generalize heldL z n = L at *
 clear hz hst hmw gF c0 c1
 subst hw0
 go_enter Tryz.func43, Tryz.ntmps43
 go_wp2_with (first
  | (go_at_call 74; refine zm hO ?_; rintro e w7 ⟨p', c', rfl, hown, hb7⟩)
 )
 go_returns
 exact ⟨p', c', rfl, zag hown hb0.size, bjoin hb7 hb0⟩
theorem zlh (n : Nat) (z : Nat → Mu) (p : Option Addr) (c : Nat) (w : World) (hz : RAt MuC 13 w p c n z) (hn : n ≤ 10) (hst : ∀ i, i < n → (z i).n ≤ 20) :
  Calls Tryz.prog 43 #[.slice p n c] w fun e w' => ∃ p' c', e = .returned (.slice p' (heldL z n).length c') ∧ VAt w' p' c' (heldL z n).length (lvF (heldL z n)) ∧ Below w.heap.size w w' := by
 obtain ⟨hmw, hmv⟩ := zmw hz
 have hl := zce (z := z) (n := n) hst
 refine (zqn n z p c w hz hn hst).mono ?_
 rintro e w' ⟨p', c', rfl, hown, hb⟩
 exact ⟨p', c', rfl, zi3 hown (by simp only [maxLen]; omega) (ziq hmw hmv), hb⟩
theorem zsf (p : Option Addr) (c : Nat) (q : Option Addr) (d : Nat) (h : Hp) (n : Nat) (z : Nat → Mu) (pm : Option Addr) (cm : Nat) (w : World) (hS : Sz w) (hh : HpAt w p c q d h) (hF : formB h = true) (hz : RAt MuC 13 w pm cm n z) (hn : n ≤ 10) :
  Calls Tryz.prog 128 #[.agg #[.slice p h.n c, .slice q h.m d, .bool h.b], .slice pm n cm] w fun e w' => ∃ p' c', e = .returned (.slice p' (pendL h z n).length c') ∧ VAt w' p' c' (pendL h z n).length (lvF (pendL h z n)) ∧ Below w.heap.size w w' := by
 obtain ⟨w0, hw0⟩ : ∃ w0, w0 = w.alloc (.cells #[.slice p h.n c, .slice q h.m d, .bool h.b] 27) := ⟨_, rfl⟩
 have gH : TBox 27 w.heap.size #[.slice p h.n c, .slice q h.m d, .bool h.b] w0 := by rw [hw0]; exact TBox.new _ _ _
 have hb0 : Below w.heap.size w w0 := by rw [hw0]; exact zr.alloc (Nat.le_refl _) _
 obtain ⟨w1, hw1⟩ : ∃ w1, w1 = w0.alloc (.cells #[.func (.func 159) #[] #[.pointer (some ⟨w.heap.size, 0, none⟩)]] 109) := ⟨_, rfl⟩
 have gF : TBox 109 w0.heap.size #[.func (.func 159) #[] #[.pointer (some ⟨w.heap.size, 0, none⟩)]] w1 := by rw [hw1]; exact TBox.new _ _ _
 have hb1 : Below w0.heap.size w0 w1 := by rw [hw1]; exact zr.alloc (Nat.le_refl _) _
 have hb2 := bjoin hb1 hb0
 replace gH := gH.below hb1
 have c0 := gF.cell 0
 simp only [List.getElem?_toArray, List.getElem?_cons_zero, List.getElem?_cons_succ] at c0
 have hpl := zdv h z
 have hO := zgx (fun _ => tkL h) (fun _ => 159) (fun _ => #[.pointer (some ⟨w.heap.size, 0, none⟩)]) 1 w0.heap.size 1 n z pm cm w1 (hz.below zat hb2) hn (by decide) gF.lt
  (fun k hk => by
   obtain rfl : k = 0 := by omega
   exact c0)
  (fun k hk => zli)
  (fun j k hj hk => by
   obtain rfl : k = 0 := by omega
   have h1 := hpl j
   have h2 : (tkL h (z j)).length ≤ 1 := by unfold tkL; split <;> simp
   rw [zsl, List.length_append, List.length_append]
   show (pendL h z j).length + 0 + (tkL h (z j)).length ≤ 1000
   omega)
  (fun i k hi hk W ps cs hW hv => zsv w.heap.size p c q d h (z i) ps cs W (hS.below (hb2.trans (hW.mono hb2.size))) (hh.below (hb2.trans (hW.mono hb2.size))) hF (gH.below hW))
 rw [zsl] at hO
 have hwf := zf3 hF hh.wf z n
 have hl := hpl n
 generalize pendL h z n = L at *
 clear hz hpl gF c0 hh hS hF gH
 rw [show w0.heap.size = w.heap.size + 1 by rw [hw0]; simp] at hO
 subst hw1
 subst hw0
 go_enter Tryz.func128, Tryz.ntmps128
 go_wp2_with (first
  | (go_at_call 74; refine zm hO ?_; rintro e w7 ⟨p', c', rfl, hown, hb7⟩)
 )
 go_returns
 exact ⟨p', c', rfl, zi3 hown (by simp only [maxLen]; omega) hwf, bjoin hb7 hb2⟩
def VlV (L : List Vl) (v : Value) (w : World) : Prop := ∃ p c, v = .slice p L.length c ∧ VAt w p c L.length (lvF L)
theorem VlV.below {L : List Vl} (h : VlV L v w) (hb : Below w.heap.size w w') : VlV L v w' := by
 obtain ⟨p, c, e, h⟩ := h
 exact ⟨p, c, e, h.below hb⟩
def PairV (A B : List Vl) (v : Value) (w : World) : Prop := ∃ b p c q d, v = .slice (some ⟨b, 0, none⟩) 2 2 ∧ b < w.heap.size ∧ w.cell? ⟨b, 0, none⟩ = some (.slice p A.length c) ∧ w.cell? ⟨b, 1, none⟩ = some (.slice q B.length d) ∧ VAt w p c A.length (lvF A) ∧ VAt w q d B.length (lvF B)
theorem PairV.below {A B : List Vl} (h : PairV A B v w) (hb : Below w.heap.size w w') : PairV A B v w' := by
 obtain ⟨b, p, c, q, d, e, hl, h0, h1, hA, hB⟩ := h
 exact ⟨b, p, c, q, d, e, Nat.lt_of_lt_of_le hl hb.size, zcl hb hl h0, zcl hb hl h1, hA.below hb, hB.below hb⟩
def OnV (x : Int) (v : Value) (w : World) : Prop := ∃ b, v = .slice (some ⟨b, 0, none⟩) 1 1 ∧ TBox 3 b #[.int .i64 x] w
theorem OnV.below {x : Int} (h : OnV x v w) (hb : Below w.heap.size w w') : OnV x v w' := by
 obtain ⟨b, e, h0⟩ := h
 exact ⟨b, e, h0.below hb⟩
theorem OnV.putsM {x : Int} (h : OnV x v w) {N : Nat} (hv : VarT 35 8 g w) (_ : N ≤ g) (ys : List Value) : OnV x v (putsL g 0 ys w) := by
 obtain ⟨b, e, h0⟩ := h
 exact ⟨b, e, zec h0 hv (by decide) ys⟩
def RepV (x : Int) (n : Nat) (v : Value) (w : World) : Prop := ∃ b, v = .slice (some ⟨b, 0, none⟩) n n ∧ TBox 3 b (vals .i64 n fun _ => x).toArray w
theorem RepV.below {x : Int} (h : RepV x n v w) (hb : Below w.heap.size w w') : RepV x n v w' := by
 obtain ⟨p, e, h0⟩ := h
 exact ⟨p, e, h0.below hb⟩
theorem RepV.putsM {x : Int} (h : RepV x n v w) {N : Nat} (hv : VarT 35 8 g w) (_ : N ≤ g) (ys : List Value) : RepV x n v (putsL g 0 ys w) := by
 obtain ⟨b, e, h0⟩ := h
 exact ⟨b, e, zec h0 hv (by decide) ys⟩
def MkN (N : Nat) (r : Int) (nb nr : Nat) (M : Mk) (f : Value → Value) (v : Value) (w : World) : Prop := ∃ pg cg pb cb pr cr, v = f (.agg #[.int .i64 r, .slice pg 0 cg, .slice pb nb cb, .slice pr nr cr, .int .i64 (-1), .int .i64 0, .int .i64 (-1), .bool false]) ∧ MAtE N w M pg cg pb cb pr cr ∧ (∀ b off sp, pr = some ⟨b, off, sp⟩ → N ≤ b) ∧ ∀ b off sp, pb = some ⟨b, off, sp⟩ → N ≤ b
theorem MkN.below {N nb nr : Nat} {r : Int} {M : Mk} {f : Value → Value} (h : MkN N r nb nr M f v w) (hb : Below w.heap.size w w') : MkN N r nb nr M f v w' := by
 obtain ⟨pg, cg, pb, cb, pr, cr, e, h1, h2⟩ := h
 exact ⟨pg, cg, pb, cb, pr, cr, e, h1.below hb, h2⟩
theorem MkN.putsM {N nb nr : Nat} {r : Int} {M : Mk} {f : Value → Value} (h : MkN N r nb nr M f v w) (hv : VarT 35 8 g w) (hg : N ≤ g) (ys : List Value) : MkN N r nb nr M f v (putsL g 0 ys w) := by
 obtain ⟨pg, cg, pb, cb, pr, cr, e, h1, h2⟩ := h
 exact ⟨pg, cg, pb, cb, pr, cr, e, h1.puts hv (by decide) (by decide) (by decide) hg ys, h2⟩
def FullMN (N : Nat) (r : Int) (nb nr : Nat) (M : Mk) (g : Nat) (w : World) : Prop := ∃ pg cg pb cb pr cr, TBox 35 g #[.int .i64 r, .slice pg 0 cg, .slice pb nb cb, .slice pr nr cr, .int .i64 (-1), .int .i64 0, .int .i64 (-1), .bool false] w ∧ MAtE N w M pg cg pb cb pr cr ∧ (∀ b off sp, pr = some ⟨b, off, sp⟩ → N ≤ b) ∧ ∀ b off sp, pb = some ⟨b, off, sp⟩ → N ≤ b
theorem FullMN.below {N nb nr : Nat} {r : Int} {M : Mk} (h : FullMN N r nb nr M g w) (hb : Below w.heap.size w w') : FullMN N r nb nr M g w' := by
 obtain ⟨pg, cg, pb, cb, pr, cr, e, h1, h2⟩ := h
 exact ⟨pg, cg, pb, cb, pr, cr, e.below hb, h1.below hb, h2⟩
theorem zg6 {T g : Nat} {x0 x1 x2 : Value} (h : TBox T g #[x0, x1, x2] w) : Box3 g x0 x1 x2 w := ⟨h.lt, h.cell 0, h.cell 1, h.cell 2, h.frozen 0, h.frozen 1, h.frozen 2⟩
theorem zod (a0 a1 a2 cG cB : Int) (p : Option Addr) (c : Nat) (q : Option Addr) (d : Nat) (h : Hp) (n : Nat) (z : Nat → Mu) (pm : Option Addr) (cm : Nat) (w : World) (hS : Sz w) (hG : 0 ≤ cG ∧ cG ≤ 16) (hB : 0 ≤ cB ∧ cB ≤ 16) (hh : HpAt w p c q d h) (hF : formB h = true) (hz : RAt MuC 13 w pm cm n z) (hn : n ≤ 10) (hst : ∀ i, i < n → (z i).n ≤ 20) :
  Calls Tryz.prog 93 #[.agg #[.int .i64 a0, .int .i64 a1, .int .i64 a2, .int .i64 cG, .int .i64 cB], .agg #[.slice p h.n c, .slice q h.m d, .bool h.b], .slice pm n cm] w fun e w' => ∃ p' c' q' d' pg cg pb cb pr cr, e = .returned (.tuple #[.agg #[.slice p' h.n c', .slice q' h.m d', .bool (!h.b)], .agg #[.int .i64 cG, .slice pg 0 cg, .slice pb n cb, .slice pr (rootL h z n).length cr, .int .i64 (-1), .int .i64 0, .int .i64 (-1), .bool false]]) ∧
   HpIn w' p' h.n c' q' h.m d' (!h.b) (flipB h) ∧ MAtE w.heap.size w' (newM cG n (fun _ => cB) (rootL h z n).length (lvF (rootL h z n))) pg cg pb cb pr cr ∧
   ((∀ b off sp, p' = some ⟨b, off, sp⟩ → w.heap.size ≤ b) ∧ (∀ b off sp, q' = some ⟨b, off, sp⟩ → w.heap.size ≤ b) ∧ (∀ b off sp, pr = some ⟨b, off, sp⟩ → w.heap.size ≤ b) ∧ ∀ b off sp, pb = some ⟨b, off, sp⟩ → w.heap.size ≤ b) ∧ Below w.heap.size w w' := by
 obtain ⟨w0, hw0⟩ : ∃ w0, w0 = (((w.alloc (.cells #[.int .i64 a0, .int .i64 a1, .int .i64 a2, .int .i64 cG, .int .i64 cB] 23)).alloc (.cells #[.slice p h.n c, .slice q h.m d, .bool h.b] 27)).alloc (.cells #[.slice none 0 0, .slice none 0 0, .bool false] 27)).alloc (.cells #[.int .i64 0, .slice none 0 0, .slice none 0 0, .slice none 0 0, .int .i64 0, .int .i64 0, .int .i64 0, .bool false] 35) := ⟨_, rfl⟩
 obtain ⟨gC, gH, gR, gM, hb0⟩ := zoh hw0
 have hz0w : w.heap.size + 1 + 1 + 1 < w0.heap.size := gM.lt
 obtain ⟨hmw, hmv⟩ := zmw hz
 have hHl : ∀ W, Below w.heap.size w W → _ := fun W hW => zlh n z pm cm W (hz.below zat hW) hn hst
 have hPd : ∀ W, Below w.heap.size w W → _ := fun W hW => zsf p c q d h n z pm cm W (hS.below hW) (hh.below hW) hF (hz.below zat hW) hn
 have hAl := zce (n := n) hst
 have hPl := zdv h z n
 have hAw := ziq hmw hmv
 have hPw := zf3 hF hh.wf z n
 have hRd : rootL h z n = heldL z n ++ pendL h z n := rfl
 generalize rootL h z n = R at *
 generalize heldL z n = A at *
 generalize pendL h z n = PP at *
 have hRw : ∀ v ∈ R, v.wf := fun v hv => by
  rw [hRd] at hv
  rcases List.mem_append.1 hv with hv | hv
  ·exact hAw v hv
  ·exact hPw v hv
 have hRl : R.length ≤ 1000 := by rw [hRd, List.length_append]; omega
 have hRd' : Hid (R = A ++ PP) := hRd
 have hcBw : (Lit.int .i64 cB).wf = true := za6 (by omega) (by omega)
 have hh0 := hh.below hb0
 clear hRd hst hmw hmv hAw hPw hS hz
 go_enter Tryz.func93, Tryz.ntmps93
 go_upto_region 1 with fail
 rw [← hw0]
 clear hw0
 refine ziz (s := 12) (h' := 4) (d' := 8) (pos := "snap.go:38") (by kernel_rfl) (by decide) (by decide) (by decide) (by simp) hF hh0 (zg6 gH) rfl ?_
 intro y0 y1 y2 y3 y4 y5 y6 y7 y8 y9 G p2 c2 q2 d2 wA hO gG hGn hne1 hne2 hb1
 simp only [puts, Act.put, Nat.reduceAdd, List.setIfInBounds_toArray, List.set_cons_succ, List.set_cons_zero]
 have hbW := bjoin hb1 hb0
 replace gC := gC.below hb1
 replace gH := gH.below hb1
 replace gR := gR.below hb1
 replace gM := gM.below hb1
 have hh1 := hh0.below hb1
 have hs01 : w0.heap.size ≤ wA.heap.size := hb1.size
 clear hne1 hne2 hb1 hb0 hh0
 go_upto_region 2 with fail
 have hKB : ∀ (k : Nat) (w1 w2 : World), Below w1.heap.size w1 w2 → KeepI (fun W9 => Below wA.heap.size wA W9) ([(fun v _ => v = .slice pm n cm), (VlV A), (fun v _ => v = .agg #[.slice p h.n c, .slice q h.m d, .bool h.b]), (fun v _ => v = .slice pm n cm), (VlV PP), (PairV A PP), (OwnL wA.heap.size R)] : List (Value → World → Prop)) [[1, 2, 3, 4, 5, 6], [0, 2, 3, 4, 5, 6], [0, 1, 3, 4, 5, 6], [0, 1, 2, 4, 5, 6], [0, 1, 2, 3, 5, 6], [0, 1, 2, 3, 4, 6], [0, 1, 2, 3, 4, 5]] k w1 w2 := fun k _ _ hb => zey (pv := ([(fun v _ => v = .slice pm n cm), (VlV A), (fun v _ => v = .agg #[.slice p h.n c, .slice q h.m d, .bool h.b]), (fun v _ => v = .slice pm n cm), (VlV PP), (PairV A PP), (OwnL wA.heap.size R)] : List (Value → World → Prop))) (fun _ _ h hb => h.trans (hb.mono h.size)) ⟨fun _ _ _ h _ => h, fun _ _ _ h hb => h.below hb, fun _ _ _ h _ => h, fun _ _ _ h _ => h, fun _ _ _ h hb => h.below hb, fun _ _ _ h hb => h.below hb, fun _ _ _ h hb => h.below hb, trivial⟩ hb k
 refine zhc 7 [22, 23, 24, 25, 26, 27, 28] ([(fun v _ => v = .slice pm n cm), (VlV A), (fun v _ => v = .agg #[.slice p h.n c, .slice q h.m d, .bool h.b]), (fun v _ => v = .slice pm n cm), (VlV PP), (PairV A PP), (OwnL wA.heap.size R)] : List (Value → World → Prop)) [6] [[1, 2, 3, 4, 5, 6], [0, 2, 3, 4, 5, 6], [0, 1, 3, 4, 5, 6], [0, 1, 2, 4, 5, 6], [0, 1, 2, 3, 5, 6], [0, 1, 2, 3, 4, 6], [0, 1, 2, 3, 4, 5]] (fun W9 => Below wA.heap.size wA W9) (zr.drew) (by kernel_rfl) (by kernel_rfl) (by kernel_rfl) (by decide) (by kernel_rfl) (by kernel_rfl) (by kernel_rfl) rfl rfl (by decide) (by simp) ?_ ?_
 ·refine ⟨?_, ?_, ?_, ?_, ?_, ?_, ?_, trivial⟩
  ·intro a' w' hI hs hd Kc hK
   have f2 : a'.tmps[2]?.getD undef = .slice pm n cm := (hs 2 (by decide)).trans rfl
   clear hs hd
   unfold Oper.wp
   go_simp
   try go_bits
   exact hK _ _ (zaj _ _ _ _ _) rfl
  ·intro a' w' hI hs hd Kc hK
   have f22 : a'.tmps[22]?.getD undef = .slice pm n cm := hd 0 22 zt rfl
   clear hs hd
   have hsz : wA.heap.size ≤ w'.heap.size := hI.size
   have hww : Below w.heap.size w w' := hbW.trans (hI.mono hbW.size)
   have gH' := gH.below hI
   obtain ⟨lh, h0', h1', h2'⟩ : w.heap.size + 1 < w'.heap.size ∧ w'.cell? ⟨w.heap.size + 1, 0, none⟩ = some (.slice p h.n c) ∧ w'.cell? ⟨w.heap.size + 1, 1, none⟩ = some (.slice q h.m d) ∧ w'.cell? ⟨w.heap.size + 1, 2, none⟩ = some (.bool h.b) := ⟨gH'.lt, gH'.cell 0, gH'.cell 1, gH'.cell 2⟩
   clear gH'
   unfold Oper.wp
   go_simp
   refine zm (hHl w' hww) ?_
   rintro e w'' ⟨p9, c9, rfl, hv9, hb2⟩
   exact hK _ _ (hKB _ _ _ hb2) ⟨p9, c9, rfl, hv9⟩
  ·intro a' w' hI hs hd Kc hK
   have f4 : a'.tmps[4]?.getD undef = .pointer (some ⟨w.heap.size + 1, 0, none⟩) := (hs 4 (by decide)).trans rfl
   clear hs hd
   have hsz : wA.heap.size ≤ w'.heap.size := hI.size
   have hww : Below w.heap.size w w' := hbW.trans (hI.mono hbW.size)
   have gH' := gH.below hI
   obtain ⟨lh, h0', h1', h2'⟩ : w.heap.size + 1 < w'.heap.size ∧ w'.cell? ⟨w.heap.size + 1, 0, none⟩ = some (.slice p h.n c) ∧ w'.cell? ⟨w.heap.size + 1, 1, none⟩ = some (.slice q h.m d) ∧ w'.cell? ⟨w.heap.size + 1, 2, none⟩ = some (.bool h.b) := ⟨gH'.lt, gH'.cell 0, gH'.cell 1, gH'.cell 2⟩
   clear gH'
   unfold Oper.wp
   go_simp
   try go_bits
   exact hK _ _ (zaj _ _ _ _ _) rfl
  ·intro a' w' hI hs hd Kc hK
   have f2 : a'.tmps[2]?.getD undef = .slice pm n cm := (hs 2 (by decide)).trans rfl
   clear hs hd
   unfold Oper.wp
   go_simp
   try go_bits
   exact hK _ _ (zaj _ _ _ _ _) rfl
  ·intro a' w' hI hs hd Kc hK
   have f24 : a'.tmps[24]?.getD undef = .agg #[.slice p h.n c, .slice q h.m d, .bool h.b] := hd 2 24 zt rfl
   have f25 : a'.tmps[25]?.getD undef = .slice pm n cm := hd 3 25 zt rfl
   clear hs hd
   have hsz : wA.heap.size ≤ w'.heap.size := hI.size
   have hww : Below w.heap.size w w' := hbW.trans (hI.mono hbW.size)
   have gH' := gH.below hI
   obtain ⟨lh, h0', h1', h2'⟩ : w.heap.size + 1 < w'.heap.size ∧ w'.cell? ⟨w.heap.size + 1, 0, none⟩ = some (.slice p h.n c) ∧ w'.cell? ⟨w.heap.size + 1, 1, none⟩ = some (.slice q h.m d) ∧ w'.cell? ⟨w.heap.size + 1, 2, none⟩ = some (.bool h.b) := ⟨gH'.lt, gH'.cell 0, gH'.cell 1, gH'.cell 2⟩
   clear gH'
   unfold Oper.wp
   go_simp
   refine zm (hPd w' hww) ?_
   rintro e w'' ⟨p9, c9, rfl, hv9, hb2⟩
   exact hK _ _ (hKB _ _ _ hb2) ⟨p9, c9, rfl, hv9⟩
  ·intro a' w' hI hs hd Kc hK
   have f23 : (VlV A) (a'.tmps[23]?.getD undef) w' := hd 1 23 zt rfl
   have f26 : (VlV PP) (a'.tmps[26]?.getD undef) w' := hd 4 26 zt rfl
   clear hs hd
   have hsz : wA.heap.size ≤ w'.heap.size := hI.size
   have hww : Below w.heap.size w w' := hbW.trans (hI.mono hbW.size)
   have gH' := gH.below hI
   obtain ⟨lh, h0', h1', h2'⟩ : w.heap.size + 1 < w'.heap.size ∧ w'.cell? ⟨w.heap.size + 1, 0, none⟩ = some (.slice p h.n c) ∧ w'.cell? ⟨w.heap.size + 1, 1, none⟩ = some (.slice q h.m d) ∧ w'.cell? ⟨w.heap.size + 1, 2, none⟩ = some (.bool h.b) := ⟨gH'.lt, gH'.cell 0, gH'.cell 1, gH'.cell 2⟩
   clear gH'
   obtain ⟨p8, c8, f8, hv8⟩ := f23
   obtain ⟨p9, c9, f9, hv9⟩ := f26
   unfold Oper.wp
   go_simp
   have hba : Below w'.heap.size w' (w'.alloc (.cells #[.slice p8 A.length c8, .slice p9 PP.length c9] 33)) := zr.alloc (Nat.le_refl _) _
   have gP := TBox.new 33 w' #[.slice p8 A.length c8, .slice p9 PP.length c9]
   exact hK _ _ (hKB _ _ _ hba) ⟨w'.heap.size, p8, c8, p9, c9, rfl, gP.lt, gP.cell 0, gP.cell 1, hv8.below hba, hv9.below hba⟩
  ·intro a' w' hI hs hd Kc hK
   have f27 : (PairV A PP) (a'.tmps[27]?.getD undef) w' := hd 5 27 zt rfl
   clear hs hd
   have hsz : wA.heap.size ≤ w'.heap.size := hI.size
   have hww : Below w.heap.size w w' := hbW.trans (hI.mono hbW.size)
   have gH' := gH.below hI
   obtain ⟨lh, h0', h1', h2'⟩ : w.heap.size + 1 < w'.heap.size ∧ w'.cell? ⟨w.heap.size + 1, 0, none⟩ = some (.slice p h.n c) ∧ w'.cell? ⟨w.heap.size + 1, 1, none⟩ = some (.slice q h.m d) ∧ w'.cell? ⟨w.heap.size + 1, 2, none⟩ = some (.bool h.b) := ⟨gH'.lt, gH'.cell 0, gH'.cell 1, gH'.cell 2⟩
   clear gH'
   obtain ⟨b9, p8, c8, p9, c9, f9, hl9, k0, k1, hv8, hv9⟩ := f27
   unfold Oper.wp
   go_simp
   refine zm (zl2 b9 p8 p9 A.length c8 PP.length c9 _ _ w' hl9 k0 k1 hv8 hv9 (by omega)) ?_
   rintro e w'' ⟨p7, c7, rfl, ho, hb2⟩
   have ho' : w''.ownsRow w'.heap.size 70 2 (.slice p7 (A.length + PP.length) c7) (A.length + PP.length) (LV A ++ LV PP) := ho
   rw [zju, ← List.length_append, ← hRd'.out] at ho'
   rw [← List.length_append, ← hRd'.out]
   exact hK _ _ (hKB _ _ _ hb2) ⟨p7, c7, rfl, zag ho' hsz⟩
 clear hKB
 intro Xf w' hI hv
 have o6 : (OwnL wA.heap.size R) (Xf 28) w' := hv 6 28 rfl rfl
 clear hv
 simp only [List.map_cons, List.map_nil, puts, Act.put, Nat.reduceAdd, List.setIfInBounds_toArray, List.set_cons_succ, List.set_cons_zero]
 obtain ⟨p7, c7, ev7, hown7⟩ := o6
 rw [show Xf 28 = .slice p7 R.length c7 from ev7]
 have hv7 : VAt w' p7 c7 R.length (lvF R) := zi3 hown7 (by simp only [maxLen]; omega) hRw
 clear ev7 hown7 hHl hPd
 replace hbW := hbW.trans (hI.mono hbW.size)
 replace gC := gC.below hI
 replace gH := gH.below hI
 replace gR := gR.below hI
 replace gM := gM.below hI
 replace hh1 := hh1.below hI
 replace hO := hO.below hI
 replace gG := gG.below hI
 replace hs01 := Nat.le_trans hs01 hI.size
 clear hI
 generalize w' = wB at *
 go_upto_region 3 with fail
 refine zdx (ds := [some 30, some 31, some 32, some 33, some 34, some 35, some 36, some 37, some 38, some 39, some 29, some 40, some 41, some 10, none, some 11]) (ts := [30, 31, 32, 33, 34, 35, 36, 37, 38, 39, 29, 40, 41, 10, 11]) (pv := [(fun v _ => v = .pointer (some ⟨w.heap.size, 3, none⟩)), (fun v _ => v = .int .i64 cG), (fun v _ => v = .pointer (some ⟨w.heap.size, 4, none⟩)), (fun v _ => v = .int .i64 cB), (OnV cB), (fun v _ => v = .slice pm n cm), (fun v _ => v = .int .i64 n), (RepV cB n), (fun v _ => v = .slice p7 R.length c7), (MkN w.heap.size cG n R.length (newM cG n (fun _ => cB) R.length (lvF R)) (fun x => .tuple #[x, .bool true])), (MkN w.heap.size cG n R.length (newM cG n (fun _ => cB) R.length (lvF R)) (fun x => .tuple #[x, .bool true])), (MkN w.heap.size cG n R.length (newM cG n (fun _ => cB) R.length (lvF R)) (fun x => x)), (fun v _ => v = .bool true), (fun _ _ => True), (fun _ _ => True), (fun v _ => v = .bool true)]) (skip := fun i => ([] : List Nat).contains i) (ia := 13) (is := 14) (k := 42) (Shape := (VarT 35 8)) (Full := (FullMN w.heap.size cG n R.length (newM cG n (fun _ => cB) R.length (lvF R)))) (by kernel_rfl) (by kernel_rfl) rfl rfl (by decide) (by decide) (by simp) ?_ (by decide) (fun _ _ _ h hb => VarT.below h hb) (fun _ _ _ h hb => h.below hb) ?_ ?_ ?_ ?_
 ·exact .inr ⟨⟨_, rfl⟩, rfl, _, rfl, zt, by decide, rfl⟩
 ·exact ⟨fun _ _ _ h _ => h, fun _ _ _ h _ => h, fun _ _ _ h _ => h, fun _ _ _ h _ => h, fun _ _ _ h hb => h.below hb, fun _ _ _ h _ => h, fun _ _ _ h _ => h, fun _ _ _ h hb => h.below hb, fun _ _ _ h _ => h, fun _ _ _ h hb => h.below hb, fun _ _ _ h hb => h.below hb, fun _ _ _ h hb => h.below hb, fun _ _ _ h _ => h, fun _ _ _ h _ => h, fun _ _ _ h _ => h, fun _ _ _ h _ => h, trivial⟩
 ·exact ⟨rfl, rfl, rfl, rfl, rfl, rfl, rfl, rfl, rfl, rfl, rfl, rfl, rfl, rfl, rfl, rfl, trivial⟩
 ·refine ⟨?_, ?_, ?_, ?_, ?_, ?_, ?_, ?_, ?_, ?_, ?_, ?_, ?_, ?_, ?_, ?_, trivial⟩
  ·intro _ a' w' hb' hs hd hn Kc hK
   have f3 : a'.tmps[3]?.getD undef = .pointer (some ⟨w.heap.size, 0, none⟩) := (hs 3 (by decide)).trans rfl
   clear hs hd hn
   rw [if_neg (by decide), if_neg (by decide)] at hK
   unfold Oper.wp
   go_simp
   try go_bits
   exact hK _ _ zr rfl
  ·intro _ a' w' hb' hs hd hn Kc hK
   have f30 : a'.tmps[30]?.getD undef = .pointer (some ⟨w.heap.size, 3, none⟩) := hd 0 30 zt rfl (by decide) (by decide) rfl
   clear hs hd hn
   rw [if_neg (by decide), if_neg (by decide)] at hK
   have hsz : wB.heap.size ≤ w'.heap.size := hb'.size
   have hww : w.heap.size ≤ w'.heap.size := Nat.le_trans hbW.size hsz
   have gC' := gC.below hb'
   obtain ⟨lC', c3', c4'⟩ : w.heap.size < w'.heap.size ∧ w'.cell? ⟨w.heap.size, 3, none⟩ = some (.int .i64 cG) ∧ w'.cell? ⟨w.heap.size, 4, none⟩ = some (.int .i64 cB) := ⟨gC'.lt, gC'.cell 3, gC'.cell 4⟩
   clear gC'
   unfold Oper.wp
   go_simp
   try go_bits
   exact hK _ _ zr rfl
  ·intro _ a' w' hb' hs hd hn Kc hK
   have f3 : a'.tmps[3]?.getD undef = .pointer (some ⟨w.heap.size, 0, none⟩) := (hs 3 (by decide)).trans rfl
   clear hs hd hn
   rw [if_neg (by decide), if_neg (by decide)] at hK
   unfold Oper.wp
   go_simp
   try go_bits
   exact hK _ _ zr rfl
  ·intro _ a' w' hb' hs hd hn Kc hK
   have f32 : a'.tmps[32]?.getD undef = .pointer (some ⟨w.heap.size, 4, none⟩) := hd 2 32 zt rfl (by decide) (by decide) rfl
   clear hs hd hn
   rw [if_neg (by decide), if_neg (by decide)] at hK
   have hsz : wB.heap.size ≤ w'.heap.size := hb'.size
   have hww : w.heap.size ≤ w'.heap.size := Nat.le_trans hbW.size hsz
   have gC' := gC.below hb'
   obtain ⟨lC', c3', c4'⟩ : w.heap.size < w'.heap.size ∧ w'.cell? ⟨w.heap.size, 3, none⟩ = some (.int .i64 cG) ∧ w'.cell? ⟨w.heap.size, 4, none⟩ = some (.int .i64 cB) := ⟨gC'.lt, gC'.cell 3, gC'.cell 4⟩
   clear gC'
   unfold Oper.wp
   go_simp
   try go_bits
   exact hK _ _ zr rfl
  ·intro _ a' w' hb' hs hd hn Kc hK
   have f33 : a'.tmps[33]?.getD undef = .int .i64 cB := hd 3 33 zt rfl (by decide) (by decide) rfl
   clear hs hd hn
   rw [if_neg (by decide), if_neg (by decide)] at hK
   have hsz : wB.heap.size ≤ w'.heap.size := hb'.size
   have hww : w.heap.size ≤ w'.heap.size := Nat.le_trans hbW.size hsz
   have gC' := gC.below hb'
   obtain ⟨lC', c3', c4'⟩ : w.heap.size < w'.heap.size ∧ w'.cell? ⟨w.heap.size, 3, none⟩ = some (.int .i64 cG) ∧ w'.cell? ⟨w.heap.size, 4, none⟩ = some (.int .i64 cB) := ⟨gC'.lt, gC'.cell 3, gC'.cell 4⟩
   clear gC'
   unfold Oper.wp
   go_simp
   exact hK _ _ (zr.alloc (Nat.le_refl _) _) ⟨w'.heap.size, rfl, TBox.new _ _ _⟩
  ·intro _ a' w' hb' hs hd hn Kc hK
   have f2 : a'.tmps[2]?.getD undef = .slice pm n cm := (hs 2 (by decide)).trans rfl
   clear hs hd hn
   rw [if_neg (by decide), if_neg (by decide)] at hK
   unfold Oper.wp
   go_simp
   try go_bits
   exact hK _ _ zr rfl
  ·intro _ a' w' hb' hs hd hn Kc hK
   have f35 : a'.tmps[35]?.getD undef = .slice pm n cm := hd 5 35 zt rfl (by decide) (by decide) rfl
   clear hs hd hn
   rw [if_neg (by decide), if_neg (by decide)] at hK
   unfold Oper.wp
   go_simp
   try go_bits
   exact hK _ _ zr rfl
  ·intro _ a' w' hb' hs hd hn Kc hK
   have f34 : (OnV cB) (a'.tmps[34]?.getD undef) w' := hd 4 34 zt rfl (by decide) (by decide) rfl
   have f36 : a'.tmps[36]?.getD undef = .int .i64 n := hd 6 36 zt rfl (by decide) (by decide) rfl
   clear hs hd hn
   rw [if_neg (by decide), if_neg (by decide)] at hK
   have hsz : wB.heap.size ≤ w'.heap.size := hb'.size
   have hww : w.heap.size ≤ w'.heap.size := Nat.le_trans hbW.size hsz
   have gC' := gC.below hb'
   obtain ⟨lC', c3', c4'⟩ : w.heap.size < w'.heap.size ∧ w'.cell? ⟨w.heap.size, 3, none⟩ = some (.int .i64 cG) ∧ w'.cell? ⟨w.heap.size, 4, none⟩ = some (.int .i64 cB) := ⟨gC'.lt, gC'.cell 3, gC'.cell 4⟩
   clear gC'
   obtain ⟨b9, f9, k0⟩ := f34
   unfold Oper.wp
   go_simp
   refine zm (zov b9 cB n w' k0.lt (k0.cell 0) hn) ?_
   rintro e w'' ⟨p9, rfl, hi9, hb2⟩
   exact hK _ _ hb2 ⟨p9, rfl, hi9⟩
  ·intro _ a' w' hb' hs hd hn Kc hK
   have f9 : a'.tmps[9]?.getD undef = .slice p7 R.length c7 := (hs 9 (by decide)).trans rfl
   clear hs hd hn
   rw [if_neg (by decide), if_neg (by decide)] at hK
   unfold Oper.wp
   go_simp
   try go_bits
   exact hK _ _ zr rfl
  ·intro _ a' w' hb' hs hd hn Kc hK
   have f31 : a'.tmps[31]?.getD undef = .int .i64 cG := hd 1 31 zt rfl (by decide) (by decide) rfl
   have f37 : (RepV cB n) (a'.tmps[37]?.getD undef) w' := hd 7 37 zt rfl (by decide) (by decide) rfl
   have f38 : a'.tmps[38]?.getD undef = .slice p7 R.length c7 := hd 8 38 zt rfl (by decide) (by decide) rfl
   clear hs hd hn
   rw [if_neg (by decide), if_neg (by decide)] at hK
   have hsz : wB.heap.size ≤ w'.heap.size := hb'.size
   have hww : w.heap.size ≤ w'.heap.size := Nat.le_trans hbW.size hsz
   have gC' := gC.below hb'
   obtain ⟨lC', c3', c4'⟩ : w.heap.size < w'.heap.size ∧ w'.cell? ⟨w.heap.size, 3, none⟩ = some (.int .i64 cG) ∧ w'.cell? ⟨w.heap.size, 4, none⟩ = some (.int .i64 cB) := ⟨gC'.lt, gC'.cell 3, gC'.cell 4⟩
   clear gC'
   obtain ⟨p9, f9, hi9⟩ := f37
   have hi9' : RowAt .i64 3 w' p9 n fun _ => cB := hi9
   unfold Oper.wp
   go_simp
   refine zm (zv8 w.heap.size cG hww (hi9'.ints fun _ _ => hcBw) (by omega) (hv7.below hb') (by omega) hG (fun _ _ => hB)) ?_
   rintro e w'' ⟨pg9, cg9, pb9, cb9, pr9, cr9, rfl, hM9, hN9, hB9, hb2⟩
   exact hK _ _ hb2 ⟨pg9, cg9, pb9, cb9, pr9, cr9, rfl, hM9, fun b off sp e => Nat.le_trans hww (hN9 b off sp e), fun b off sp e => Nat.le_trans hww (hB9 b off sp e)⟩
  ·intro _ a' w' hb' hs hd hn Kc hK
   have f39 : (MkN w.heap.size cG n R.length (newM cG n (fun _ => cB) R.length (lvF R)) (fun x => .tuple #[x, .bool true])) (a'.tmps[39]?.getD undef) w' := hd 9 39 zt rfl (by decide) (by decide) rfl
   clear hs hd hn
   rw [if_neg (by decide), if_neg (by decide)] at hK
   unfold Oper.wp
   go_simp
   try go_bits
   exact hK _ _ zr f39
  ·intro _ a' w' hb' hs hd hn Kc hK
   have f29 : (MkN w.heap.size cG n R.length (newM cG n (fun _ => cB) R.length (lvF R)) (fun x => .tuple #[x, .bool true])) (a'.tmps[29]?.getD undef) w' := hd 10 29 zt rfl (by decide) (by decide) rfl
   clear hs hd hn
   rw [if_neg (by decide), if_neg (by decide)] at hK
   have hsz : wB.heap.size ≤ w'.heap.size := hb'.size
   have hww : w.heap.size ≤ w'.heap.size := Nat.le_trans hbW.size hsz
   have gC' := gC.below hb'
   obtain ⟨lC', c3', c4'⟩ : w.heap.size < w'.heap.size ∧ w'.cell? ⟨w.heap.size, 3, none⟩ = some (.int .i64 cG) ∧ w'.cell? ⟨w.heap.size, 4, none⟩ = some (.int .i64 cB) := ⟨gC'.lt, gC'.cell 3, gC'.cell 4⟩
   clear gC'
   obtain ⟨pg9, cg9, pb9, cb9, pr9, cr9, f9, hM9⟩ := f29
   unfold Oper.wp
   go_simp
   exact hK _ _ zr ⟨pg9, cg9, pb9, cb9, pr9, cr9, rfl, hM9⟩
  ·intro _ a' w' hb' hs hd hn Kc hK
   have f29 : (MkN w.heap.size cG n R.length (newM cG n (fun _ => cB) R.length (lvF R)) (fun x => .tuple #[x, .bool true])) (a'.tmps[29]?.getD undef) w' := hd 10 29 zt rfl (by decide) (by decide) rfl
   clear hs hd hn
   rw [if_neg (by decide), if_neg (by decide)] at hK
   have hsz : wB.heap.size ≤ w'.heap.size := hb'.size
   have hww : w.heap.size ≤ w'.heap.size := Nat.le_trans hbW.size hsz
   have gC' := gC.below hb'
   obtain ⟨lC', c3', c4'⟩ : w.heap.size < w'.heap.size ∧ w'.cell? ⟨w.heap.size, 3, none⟩ = some (.int .i64 cG) ∧ w'.cell? ⟨w.heap.size, 4, none⟩ = some (.int .i64 cB) := ⟨gC'.lt, gC'.cell 3, gC'.cell 4⟩
   clear gC'
   obtain ⟨pg9, cg9, pb9, cb9, pr9, cr9, f9, hM9⟩ := f29
   unfold Oper.wp
   go_simp
   exact hK _ _ zr rfl
  ·intro _ a' w' hb' hs hd hn Kc hK
   clear hs hd hn
   rw [if_pos rfl] at hK
   unfold Oper.wp
   go_simp
   exact hK _ _ (zr.alloc (Nat.le_refl _) _) (Nat.le_refl _) (VarT.new _ _ _ zhm)
  ·intro _ a' w' hb' hs hd hn Kc hK
   obtain ⟨g, f10, hg, hsh⟩ := hn 10 zt rfl rfl
   have f40 : (MkN w.heap.size cG n R.length (newM cG n (fun _ => cB) R.length (lvF R)) (fun x => x)) (a'.tmps[40]?.getD undef) w' := hd 11 40 zt rfl (by decide) (by decide) rfl
   obtain ⟨pg9, cg9, pb9, cb9, pr9, cr9, f40, hM9, hN9⟩ := f40
   have hgN : w.heap.size ≤ g := Nat.le_trans hbW.size hg
   rw [if_neg (by decide), if_pos rfl] at hK
   have hfin := hK g (.tuple #[]) (putsL g 0 [.int .i64 cG, .slice pg9 0 cg9, .slice pb9 n cb9, .slice pr9 R.length cr9, .int .i64 (-1), .int .i64 0, .int .i64 (-1), .bool false] w') (fun d hd => by obtain rfl : 10 = d := Option.some.inj (Option.some.inj hd); exact f10) (zao hg _ _ _) hg (⟨pg9, cg9, pb9, cb9, pr9, cr9, hsh.full8, hM9.puts hsh (by decide) (by decide) (by decide) hgN _, hN9⟩) (fun g' h => h.puts (zjj (newM cG n (fun _ => cB) R.length (lvF R)) pg9 cg9 pb9 cb9 pr9 cr9)) ⟨fun _ h => h, fun _ h => h, fun _ h => h, fun _ h => h, fun _ h => h.putsM hsh hgN _, fun _ h => h, fun _ h => h, fun _ h => h.putsM hsh hgN _, fun _ h => h, fun _ h => h.putsM hsh hgN _, fun _ h => h.putsM hsh hgN _, fun _ h => h.putsM hsh hgN _, fun _ h => h, fun _ h => h, fun _ h => h, fun _ h => h, trivial⟩
   clear hs hd hn hK
   obtain ⟨x0, x1, x2, x3, x4, x5, x6, x7, gX⟩ := hsh.eight
   obtain ⟨h0, c0, c1, c2, c3, c4, c5, c6, c7⟩ := zar gX
   obtain ⟨g0, g1, g2, g3, g4, g5, g6, g7⟩ := zbq gX
   simp only [putsL] at hfin
   unfold Oper.wp
   go_simp
   exact hfin
  ·intro _ a' w' hb' hs hd hn Kc hK
   have f41 : a'.tmps[41]?.getD undef = .bool true := hd 12 41 zt rfl (by decide) (by decide) rfl
   clear hs hd hn
   rw [if_neg (by decide), if_neg (by decide)] at hK
   unfold Oper.wp
   go_simp
   try go_bits
   exact hK _ _ zr rfl
 intro Xf g w' hX hb hv
 obtain ⟨hg, gX, hgp⟩ := hX (by decide)
 have q10 : Xf 10 = .pointer (some ⟨g, 0, none⟩) := hgp 10 rfl
 have q41 : Xf 41 = .bool true := hv 12 41 rfl rfl (by decide) (by decide)
 have q11 : Xf 11 = .bool true := hv 15 11 rfl rfl (by decide) (by decide)
 clear hX hv hgp
 simp only [List.map_cons, List.map_nil, q10, q41, q11, puts, Act.put, Nat.reduceAdd, List.setIfInBounds_toArray, List.set_cons_succ, List.set_cons_zero]
 obtain ⟨pg9, cg9, pb9, cb9, pr9, cr9, gXF, hMF, hN9⟩ := gX
 have hsW := hbW.size
 have hb5 : Below w.heap.size w w' := hbW.trans (hb.mono hbW.size)
 replace gR := gR.below hb
 replace gM := gM.below hb
 replace hO := hO.below hb
 have gG5 := gG.below hb
 have lM0 : w.heap.size + 1 + 1 + 1 < w'.heap.size := gM.lt
 have hlk : g < w'.heap.size := gXF.lt
 clear hb hbW gG gC gH hh1 hv7
 generalize w' = wM at *
 have hNk := hg
 generalize g = gk at *
 obtain ⟨lG, z0, z1, z2, -, -, -⟩ := gG5
 obtain ⟨lX, k0, k1, k2, k3, k4, k5, k6, k7⟩ := zar gXF
 obtain ⟨lR, y0, y1, y2, e0, e1, e2⟩ := zg6 gR
 obtain ⟨lM, t0, t1, t2, t3, t4, t5, t6, t7⟩ := zar gM
 obtain ⟨f0, f1, f2, f3, f4, f5, f6, f7⟩ := zbq gM
 have hR1 : ¬ w.heap.size + 1 + 1 = gk := by omega
 have hG1 : ¬ w.heap.size + 1 + 1 = G := by omega
 have vR := TBox.varH gR
 have vM := TBox.varT8 gM
 have hMR : ¬ w.heap.size + 1 + 1 + 1 = w.heap.size + 1 + 1 := by omega
 have gM6 := gM.of_block (zah hMR [.slice p2 h.n c2, .slice q2 h.m d2, .bool (!h.b)] 0 wM)
 have gR6 := gR.putsL [.slice p2 h.n c2, .slice q2 h.m d2, .bool (!h.b)] 0
 simp only [setFrom, List.setIfInBounds_toArray, List.set_cons_succ, List.set_cons_zero, Nat.reduceAdd] at gR6
 have vM6 := TBox.varT8 gM6
 have hM6 := hMF.puts vR (by decide) (by decide) (by decide) (by omega) [.slice p2 h.n c2, .slice q2 h.m d2, .bool (!h.b)]
 have hM7 := hM6.puts vM6 (by decide) (by decide) (by decide) (by omega) [.int .i64 cG, .slice pg9 0 cg9, .slice pb9 n cb9, .slice pr9 R.length cr9, .int .i64 (-1), .int .i64 0, .int .i64 (-1), .bool false]
 have hO7 := HpOwn.putsL (g := w.heap.size + 1 + 1 + 1) (by omega) [.int .i64 cG, .slice pg9 0 cg9, .slice pb9 n cb9, .slice pr9 R.length cr9, .int .i64 (-1), .int .i64 0, .int .i64 (-1), .bool false] 0 (HpOwn.putsL (g := w.heap.size + 1 + 1) (by omega) [.slice p2 h.n c2, .slice q2 h.m d2, .bool (!h.b)] 0 hO)
 have hb7 := (hb5.trans (zao (show w.heap.size ≤ w.heap.size + 1 + 1 by omega) [.slice p2 h.n c2, .slice q2 h.m d2, .bool (!h.b)] 0 wM)).trans (zao (show w.heap.size ≤ w.heap.size + 1 + 1 + 1 by omega) [.int .i64 cG, .slice pg9 0 cg9, .slice pb9 n cb9, .slice pr9 R.length cr9, .int .i64 (-1), .int .i64 0, .int .i64 (-1), .bool false] 0 _)
 have gM7 := vM6.full8 (a0 := .int .i64 cG) (a1 := .slice pg9 0 cg9) (a2 := .slice pb9 n cb9) (a3 := .slice pr9 R.length cr9) (a4 := .int .i64 (-1)) (a5 := .int .i64 0) (a6 := .int .i64 (-1)) (a7 := .bool false)
 have gR7 := gR6.of_block (zah (show ¬ w.heap.size + 1 + 1 = w.heap.size + 1 + 1 + 1 by omega) [.int .i64 cG, .slice pg9 0 cg9, .slice pb9 n cb9, .slice pr9 R.length cr9, .int .i64 (-1), .int .i64 0, .int .i64 (-1), .bool false] 0 _)
 have hP2 : ∀ b off sp, p2 = some ⟨b, off, sp⟩ → w.heap.size ≤ b := fun b off sp e => by
  have := (hO.words.lt b (by rw [e]; rfl)).1
  omega
 have hQ2 : ∀ b off sp, q2 = some ⟨b, off, sp⟩ → w.heap.size ≤ b := fun b off sp e => by
  have := (hO.spans.lt b (by rw [e]; rfl)).1
  omega
 have hI7 := hO7.at
 go_upto_region 4 with fail
 go_region
 have hw9 : (((((((((((wM.setCell ⟨w.heap.size + 1 + 1, 0, none⟩ (.slice p2 h.n c2)).setCell ⟨w.heap.size + 1 + 1, 1, none⟩ (.slice q2 h.m d2)).setCell ⟨w.heap.size + 1 + 1, 2, none⟩ (.bool (!h.b))).setCell ⟨w.heap.size + 1 + 1 + 1, 0, none⟩ (.int .i64 cG)).setCell ⟨w.heap.size + 1 + 1 + 1, 1, none⟩ (.slice pg9 0 cg9)).setCell ⟨w.heap.size + 1 + 1 + 1, 2, none⟩ (.slice pb9 n cb9)).setCell ⟨w.heap.size + 1 + 1 + 1, 3, none⟩ (.slice pr9 R.length cr9)).setCell ⟨w.heap.size + 1 + 1 + 1, 4, none⟩ (.int .i64 (-1))).setCell ⟨w.heap.size + 1 + 1 + 1, 5, none⟩ (.int .i64 0)).setCell ⟨w.heap.size + 1 + 1 + 1, 6, none⟩ (.int .i64 (-1))).setCell ⟨w.heap.size + 1 + 1 + 1, 7, none⟩ (.bool false)) = putsL (w.heap.size + 1 + 1 + 1) 0 [.int .i64 cG, .slice pg9 0 cg9, .slice pb9 n cb9, .slice pr9 R.length cr9, .int .i64 (-1), .int .i64 0, .int .i64 (-1), .bool false] (putsL (w.heap.size + 1 + 1) 0 [.slice p2 h.n c2, .slice q2 h.m d2, .bool (!h.b)] wM) := rfl
 rw [hw9]
 clear hw9 hO hMF gXF gR gM hb5 vR vM hM6 gM6 gR6 vM6 z0 z1 z2 k0 k1 k2 k3 k4 k5 k6 k7 y0 y1 y2 e0 e1 e2 t0 t1 t2 t3 t4 t5 t6 t7 f0 f1 f2 f3 f4 f5 f6 f7 lG lX lR lM hO7
 generalize putsL (w.heap.size + 1 + 1 + 1) 0 [.int .i64 cG, .slice pg9 0 cg9, .slice pb9 n cb9, .slice pr9 R.length cr9, .int .i64 (-1), .int .i64 0, .int .i64 (-1), .bool false] (putsL (w.heap.size + 1 + 1) 0 [.slice p2 h.n c2, .slice q2 h.m d2, .bool (!h.b)] wM) = w9 at *
 have hdr : Below w9.heap.size w9 w9.drew := zr.drew
 have gR9 := gR7.below hdr
 have gM9 := gM7.below hdr
 have hM9 := hM7.below hdr
 have hI9 := hI7.below hdr
 have hb9 := bjoin hdr hb7
 clear gR7 gM7 hM7 hI7 hb7 hdr
 generalize w9.drew = wZ at *
 obtain ⟨lR, y0, y1, y2, -, -, -⟩ := zg6 gR9
 obtain ⟨lM, t0, t1, t2, t3, t4, t5, t6, t7⟩ := zar gM9
 go_wp2
 refine bodyPost_ret (by simp [results, Tryz.results93, go_sem, *]; try rfl) rfl ?_
 exact ⟨p2, c2, q2, d2, pg9, cg9, pb9, cb9, pr9, cr9, rfl, hI9.in, hM9, ⟨hP2, hQ2, hN9.1, hN9.2⟩, hb9⟩
end Go.Proofs.YtkehankfnkjnlaaGreatDoor
