import Derived.Test.YtkehankfnkjnlaaGreatDoorV28
import Derived.Laws.EntriesVeiled
namespace Go.Proofs.YtkehankfnkjnlaaGreatDoor
set_option linter.unusedSimpArgs false
set_option linter.unusedVariables false
set_option maxHeartbeats 16000000
set_option maxRecDepth 20000
open Go.ChangeAt Go.ChangeShapes Go.Joins Go.RowKit Go.WideShapes
variable {h : Hp} {w w' W W' : World} {p q : Option Addr} {n g : Nat} {a : Int} {v : Value}
section
variable {P : Program} {l : List Oper} {Q : Exit → Act → World → Prop} {a : Act} {ds : List (Option Nat)} {Φ : Nat → (Nat → Value) → World → Prop} {R : Bool → World → Prop} {is : Nat} {anc dsc : Nat → Bool} {Per : Nat → World → World → Prop}
end
section
variable {n k N T T' m' g g' : Nat} {b : Bool} {H : Hp} {M : Mk} {v : Value} {w w' : World}
theorem VarT.eight (h : VarT T 8 g w) : ∃ x0 x1 x2 x3 x4 x5 x6 x7, TBox T g #[x0, x1, x2, x3, x4, x5, x6, x7] w := by
 obtain ⟨⟨l⟩, e, -, h⟩ := h
 have e' : l.length = 8 := e
 rcases l with _ | ⟨x0, l⟩
 ·simp at e'
 rcases l with _ | ⟨x1, l⟩
 ·simp at e'
 rcases l with _ | ⟨x2, l⟩
 ·simp at e'
 rcases l with _ | ⟨x3, l⟩
 ·simp at e'
 rcases l with _ | ⟨x4, l⟩
 ·simp at e'
 rcases l with _ | ⟨x5, l⟩
 ·simp at e'
 rcases l with _ | ⟨x6, l⟩
 ·simp at e'
 rcases l with _ | ⟨x7, l⟩
 ·simp at e'
 have : l = [] := List.eq_nil_of_length_eq_zero (by simp only [List.length_cons] at e'; omega)
 subst this
 exact ⟨x0, x1, x2, x3, x4, x5, x6, x7, h⟩
theorem zbq {x0 x1 x2 x3 x4 x5 x6 x7 : Value} (h : TBox T g #[x0, x1, x2, x3, x4, x5, x6, x7] w) : w.frozen? ⟨g, 0, none⟩ = false ∧ w.frozen? ⟨g, 1, none⟩ = false ∧ w.frozen? ⟨g, 2, none⟩ = false ∧ w.frozen? ⟨g, 3, none⟩ = false ∧ w.frozen? ⟨g, 4, none⟩ = false ∧ w.frozen? ⟨g, 5, none⟩ = false ∧ w.frozen? ⟨g, 6, none⟩ = false ∧ w.frozen? ⟨g, 7, none⟩ = false :=
 ⟨h.frozen 0, h.frozen 1, h.frozen 2, h.frozen 3, h.frozen 4, h.frozen 5, h.frozen 6, h.frozen 7⟩
theorem zkn (x0 x1 x2 x3 x4 x5 x6 x7 a0 a1 a2 a3 a4 a5 a6 a7 : Value) : setFrom #[x0, x1, x2, x3, x4, x5, x6, x7] 0 [a0, a1, a2, a3, a4, a5, a6, a7] = #[a0, a1, a2, a3, a4, a5, a6, a7] := by
 simp only [setFrom, Nat.reduceAdd, List.setIfInBounds_toArray, List.set_cons_succ, List.set_cons_zero]
theorem VarT.full8 {a0 a1 a2 a3 a4 a5 a6 a7 : Value} (h : VarT T 8 g w) : TBox T g #[a0, a1, a2, a3, a4, a5, a6, a7] (putsL g 0 [a0, a1, a2, a3, a4, a5, a6, a7] w) := by
 obtain ⟨x0, x1, x2, x3, x4, x5, x6, x7, h⟩ := h.eight
 have := h.putsL [a0, a1, a2, a3, a4, a5, a6, a7] 0
 rwa [zkn] at this
end
theorem TBox.varT8 {T g : Nat} {a0 a4 a5 a6 : Int} {a7 : Bool} {p1 p2 p3 : Option Addr} {n1 n2 n3 c1 c2 c3 : Nat} (h : TBox T g #[.int .i64 a0, .slice p1 n1 c1, .slice p2 n2 c2, .slice p3 n3 c3, .int .i64 a4, .int .i64 a5, .int .i64 a6, .bool a7] w) : VarT T 8 g w :=
 TBox.varM (m := ⟨⟨a0, n1, fun _ => 0⟩, n2, fun _ => default, n3, fun _ => default, a4, a5, a6, a7⟩) h
def OwnL (N : Nat) (L : List Vl) (v : Value) (w : World) : Prop := ∃ p c, v = .slice p L.length c ∧ w.ownsRow N 70 2 (.slice p L.length c) L.length (LV L)
theorem OwnL.below {N : Nat} {L : List Vl} (h : OwnL N L v w) (hb : Below w.heap.size w w') : OwnL N L v w' := by
 obtain ⟨p, c, e, h⟩ := h
 exact ⟨p, c, e, zaa h hb⟩
theorem HpOwn.putsL {base g : Nat} {c : Nat} {d : Nat} (hg : g < base) : ∀ (ys : List Value) (k : Nat) {W : World}, HpOwn W base p c q d h → HpOwn (putsL g k ys W) base p c q d h
 | [], _, _, h => h
 | y :: ys, k, _, h => HpOwn.putsL hg ys (k + 1) (h.under hg k y)
theorem ziq {z : Nat → Mu} : ∀ {n : Nat}, (∀ i, i < n → (z i).wf) → (∀ i, i < n → ∀ k, k < (z i).n → ((z i).st k).wf) → ∀ v ∈ heldL z n, v.wf
 | 0, _, _, v, hv => by cases hv
 | n + 1, h, h2, v, hv => by
  rcases List.mem_append.1 hv with hv | hv
  ·rcases List.mem_append.1 hv with hv | hv
   ·exact ziq (n := n) (fun i hi => h i (by omega)) (fun i hi => h2 i (by omega)) v hv
   ·obtain ⟨k, hk, rfl⟩ := List.mem_map.1 hv
    exact h2 n (by omega) k (List.mem_range.1 hk)
  ·exact ztu (h n (by omega)) v hv
theorem zf3 (hF : formB h = true) (hw : h.wf) (z : Nat → Mu) : ∀ n, ∀ v ∈ pendL h z n, v.wf
 | 0, v, hv => by cases hv
 | n + 1, v, hv => by
  unfold pendL at hv
  split at hv
  ·rcases List.mem_append.1 hv with hv | hv
   ·exact zf3 hF hw z n v hv
   ·rw [List.mem_singleton.1 hv]; exact zxz hF hw _ _
  ·exact zf3 hF hw z n v hv
theorem zmw {c n : Nat} {z : Nat → Mu} (hz : RAt MuC 13 w p c n z) : (∀ i, i < n → (z i).wf) ∧ ∀ i, i < n → ∀ k, k < (z i).n → ((z i).st k).wf := by
 refine ⟨fun i hi => ?_, fun i hi k hk => ?_⟩
 ·obtain ⟨bb, off, L, rfl, hl, -, hc, ps, cs, rfl, hv, hwf⟩ := hz.row i hi
  exact hwf
 ·obtain ⟨bb, off, L, rfl, hl, -, hc, ps, cs, rfl, hv, hwf⟩ := hz.row i hi
  exact hv.row.wf k hk
theorem zoh {w w0 : World} {x1 x2 x3 x4 : Array Value} {t1 t2 t3 t4 : TypeId} (e : w0 = (((w.alloc (.cells x1 t1)).alloc (.cells x2 t2)).alloc (.cells x3 t3)).alloc (.cells x4 t4)) :
  TBox t1 w.heap.size x1 w0 ∧ TBox t2 (w.heap.size + 1) x2 w0 ∧ TBox t3 (w.heap.size + 1 + 1) x3 w0 ∧ TBox t4 (w.heap.size + 1 + 1 + 1) x4 w0 ∧ Below w.heap.size w w0 := by
 have ba : ∀ (W : World) (o : Obj), Below W.heap.size W (W.alloc o) := fun W o => zr.alloc (Nat.le_refl _) _
 have sz : ∀ (W : World) (o : Obj), (W.alloc o).heap.size = W.heap.size + 1 := fun W o => by simp
 have b1 := ba w (.cells x1 t1)
 have n1 := TBox.new t1 w x1
 have s1 := sz w (.cells x1 t1)
 generalize w.alloc (.cells x1 t1) = w1 at *
 have b2 := ba w1 (.cells x2 t2)
 have n2 := TBox.new t2 w1 x2
 have s2 := sz w1 (.cells x2 t2)
 generalize w1.alloc (.cells x2 t2) = w2 at *
 have b3 := ba w2 (.cells x3 t3)
 have n3 := TBox.new t3 w2 x3
 have s3 := sz w2 (.cells x3 t3)
 generalize w2.alloc (.cells x3 t3) = w3 at *
 have b4 := ba w3 (.cells x4 t4)
 have n4 := TBox.new t4 w3 x4
 rw [← e] at b4 n4
 rw [s1] at n2
 rw [show w2.heap.size = w.heap.size + 1 + 1 by omega] at n3
 rw [show w3.heap.size = w.heap.size + 1 + 1 + 1 by omega] at n4
 exact ⟨((n1.below b2).below b3).below b4, (n2.below b3).below b4, n3.below b4, n4, bjoin b4 (bjoin b3 (bjoin b2 b1))⟩
theorem zn4 {B : Nat} {L : List Vl} {R : Array Value} (hB : B = w.heap.size) (hR : R.toList = LV L) (hL : L.length ≤ 10) (hw : ∀ v ∈ L, v.wf) : VAt (w.alloc (.cells R 70)) (some ⟨B, 0, none⟩) L.length L.length (lvF L) := by
 subst hB
 exact zi3 (zu3 (Nat.le_refl _) hR (by rw [← Array.length_toList, hR, zj2]) (by simp only [maxLen]; omega) (by decide)) (by simp only [maxLen]; omega) hw
def muA (m : Mu) (p : Option Addr) (c : Nat) : Value := .agg #[.slice p m.n c, .int .i64 m.s, .int .i64 m.ok, .int .i64 m.oa, .int .i64 m.ob, .int .i64 m.oc, .int .i64 m.o, .int .i64 m.v.k, .int .i64 m.v.n, .int .i64 m.c0, .int .i64 m.c1, .int .i64 m.c2, .int .i64 m.c3]
theorem zjx (m : Mu) (p : Option Addr) (c : Nat) (w w0 : World) (e : w0 = w.alloc (.cells #[.slice p m.n c, .int .i64 m.s, .int .i64 m.ok, .int .i64 m.oa, .int .i64 m.ob, .int .i64 m.oc, .int .i64 m.o, .int .i64 m.v.k, .int .i64 m.v.n, .int .i64 m.c0, .int .i64 m.c1, .int .i64 m.c2, .int .i64 m.c3] 73)) :
  TBox 73 w.heap.size #[.slice p m.n c, .int .i64 m.s, .int .i64 m.ok, .int .i64 m.oa, .int .i64 m.ob, .int .i64 m.oc, .int .i64 m.o, .int .i64 m.v.k, .int .i64 m.v.n, .int .i64 m.c0, .int .i64 m.c1, .int .i64 m.c2, .int .i64 m.c3] w0 ∧ Below w.heap.size w w0 := by
 subst e
 exact ⟨TBox.new _ _ _, zr.alloc (Nat.le_refl _) _⟩
theorem ztn (m : Mu) (hw : m.wf) (p : Option Addr) (c : Nat) (w : World) :
  Calls Tryz.prog 76 #[muA m p c] w fun e w' => ∃ p' c', e = .returned (.slice p' (regL m).length c') ∧ VAt w' p' c' (regL m).length (lvF (regL m)) ∧ Below w.heap.size w w' := by
 obtain ⟨w0, hw0⟩ : ∃ w0, w0 = w.alloc (.cells #[.slice p m.n c, .int .i64 m.s, .int .i64 m.ok, .int .i64 m.oa, .int .i64 m.ob, .int .i64 m.oc, .int .i64 m.o, .int .i64 m.v.k, .int .i64 m.v.n, .int .i64 m.c0, .int .i64 m.c1, .int .i64 m.c2, .int .i64 m.c3] 73) := ⟨_, rfl⟩
 obtain ⟨gM, hb0⟩ := zjx m p c w w0 hw0
 obtain ⟨l0, x0, x1, x2, x3, x4, x5, x6, x7, x8, x9, x10, x11, x12⟩ := zcu gM
 have hz0 : w.heap.size ≤ w0.heap.size := hb0.size
 have hwR := ztu hw
 have hb1 : Below w.heap.size w (w0.alloc (.cells #[.int .i64 2, .int .i64 m.o] 70)) := hb0.alloc hz0 _
 have hcs : (m.s = 2 ∧ (m.s == 2) = true ∧ (m.s == 3) = false ∧ (m.s == 4) = false) ∨ (m.s = 3 ∧ (m.s == 2) = false ∧ (m.s == 3) = true ∧ (m.s == 4) = false) ∨ (m.s = 4 ∧ (m.s == 2) = false ∧ (m.s == 3) = false ∧ (m.s == 4) = true) ∨ ((¬ (m.s = 2 ∨ m.s = 4) ∧ ¬ (m.s = 3 ∨ m.s = 4)) ∧ (m.s == 2) = false ∧ (m.s == 3) = false ∧ (m.s == 4) = false) := by
  by_cases h2 : m.s = 2
  ·left; simp [h2]
  ·by_cases h3 : m.s = 3
   ·right; left; simp [h3]
   ·by_cases h4 : m.s = 4
    ·right; right; left; simp [h4]
    ·right; right; right; simp [h2, h3, h4]
 unfold muA
 rcases hcs with ⟨hs, d2, d3, d4⟩ | ⟨hs, d2, d3, d4⟩ | ⟨hs, d2, d3, d4⟩ | ⟨⟨hn1, hn2⟩, d2, d3, d4⟩
 case' inl => have e1 : regL m = [⟨2, m.o⟩] := by unfold regL; rw [hs]; rfl
 case' inr.inl => have e1 : regL m = [m.v] := by unfold regL; rw [hs]; rfl
 case' inr.inr.inl => have e1 : regL m = [⟨2, m.o⟩, m.v] := by unfold regL; rw [hs]; rfl
 case' inr.inr.inr => have e1 : regL m = [] := by unfold regL; rw [if_neg hn1, if_neg hn2]; rfl
 case' inr.inr.inr => clear hn1 hn2
 case' inl => clear hs
 case' inr.inl => clear hs
 case' inr.inr.inl => clear hs
 all_goals
  rw [e1] at hwR ⊢
  clear e1
  go_enter Tryz.func76, Tryz.ntmps76
  go_upto_region 1 with fail
  rw [← hw0]
  clear hw0 gM
  go_wp2
  go_returns
 ·exact ⟨_, _, rfl, zn4 (by simp) (by rfl) (by simp) hwR, hb1.alloc (by have := hb1.size; exact this) _⟩
 ·exact ⟨_, _, rfl, zn4 (by simp) (by rfl) (by simp) hwR, hb1.alloc (by have := hb1.size; exact this) _⟩
 ·exact ⟨_, _, rfl, zn4 (by simp) (by rfl) (by simp) hwR, hb1.alloc (by have := hb1.size; exact this) _⟩
 ·exact ⟨none, 0, rfl, zfw _ _, hb1⟩
theorem zo9 (m : Mu) (p : Option Addr) (c : Nat) (w : World) (hv : VAt w p c m.n m.st) :
  Calls Tryz.prog 75 #[muA m p c] w fun e w' => ∃ p' c', e = .returned (.slice p' (stkL m).length c') ∧ VAt w' p' c' (stkL m).length (lvF (stkL m)) ∧ Below w.heap.size w w' := by
 obtain ⟨w0, hw0⟩ : ∃ w0, w0 = w.alloc (.cells #[.slice p m.n c, .int .i64 m.s, .int .i64 m.ok, .int .i64 m.oa, .int .i64 m.ob, .int .i64 m.oc, .int .i64 m.o, .int .i64 m.v.k, .int .i64 m.v.n, .int .i64 m.c0, .int .i64 m.c1, .int .i64 m.c2, .int .i64 m.c3] 73) := ⟨_, rfl⟩
 obtain ⟨gM, hb0⟩ := zjx m p c w w0 hw0
 obtain ⟨l0, x0, -, -, -, -, -, -, -, -, -, -, -, -⟩ := zcu gM
 have el : (stkL m).length = m.n := by simp [stkL]
 have hv0 := hv.below hb0
 have hV : VAt w0 p c (stkL m).length (lvF (stkL m)) := by
  rw [el]
  exact ⟨hv0.row.congr fun i hi => by simp [lvF, stkL, hi], hv0.nle, hv0.pnil, hv0.ncap⟩
 rw [← el] at x0
 unfold muA
 rw [← el] at hw0 ⊢
 generalize (stkL m).length = k at *
 clear hv hv0 el gM
 go_enter Tryz.func75, Tryz.ntmps75
 go_upto_region 1 with fail
 rw [← hw0]
 clear hw0
 go_wp2
 go_returns
 exact ⟨p, c, rfl, hV, hb0⟩
def tkL (h : Hp) (m : Mu) : List Vl := if m.s = 4 then [⟨getK (fdX h m.o m.ob), getN (fdX h m.o m.ob)⟩] else []
theorem zoy (p : Option Addr) (c : Nat) (q : Option Addr) (d : Nat) (h : Hp) (m : Mu) (ps : Option Addr) (cs : Nat) (w : World) (hS : Sz w) (hh : HpAt w p c q d h) (hF : formB h = true) :
  Calls Tryz.prog 160 #[.agg #[.slice p h.n c, .slice q h.m d, .bool h.b], muA m ps cs] w fun e w' => ∃ p' c', e = .returned (.slice p' (tkL h m).length c') ∧ VAt w' p' c' (tkL h m).length (lvF (tkL h m)) ∧ Below w.heap.size w w' := by
 obtain ⟨w0, hw0⟩ : ∃ w0, w0 = w.alloc (.cells #[.slice p h.n c, .slice q h.m d, .bool h.b] 27) := ⟨_, rfl⟩
 have gH : TBox 27 w.heap.size #[.slice p h.n c, .slice q h.m d, .bool h.b] w0 := by rw [hw0]; exact TBox.new _ _ _
 have hb0 : Below w.heap.size w w0 := by rw [hw0]; exact zr.alloc (Nat.le_refl _) _
 obtain ⟨w1, hw1⟩ : ∃ w1, w1 = w0.alloc (.cells #[.slice ps m.n cs, .int .i64 m.s, .int .i64 m.ok, .int .i64 m.oa, .int .i64 m.ob, .int .i64 m.oc, .int .i64 m.o, .int .i64 m.v.k, .int .i64 m.v.n, .int .i64 m.c0, .int .i64 m.c1, .int .i64 m.c2, .int .i64 m.c3] 73) := ⟨_, rfl⟩
 obtain ⟨gM, hb1⟩ := zjx m ps cs w0 w1 hw1
 have hb2 := bjoin hb1 hb0
 rw [show w0.heap.size = w.heap.size + 1 by rw [hw0]; simp] at gM
 replace gH := gH.below hb1
 obtain ⟨l0, x0, x1, x2, x3, x4, x5, x6, x7, x8, x9, x10, x11, x12⟩ := zcu gM
 have l1 := gH.lt
 have y0 := gH.cell 0
 have y1 := gH.cell 1
 have y2 := gH.cell 2
 simp only [List.getElem?_toArray, List.getElem?_cons_zero, List.getElem?_cons_succ] at y0 y1 y2
 have hwF := zxz hF hh.wf m.o m.ob
 have hC := zh4 p c q d h m.o m.ob w1 (hS.below hb2) (hh.below hb2) hF
 have hT : tkL h m = if m.s = 4 then [⟨getK (fdX h m.o m.ob), getN (fdX h m.o m.ob)⟩] else [] := rfl
 rw [hT]
 generalize getK (fdX h m.o m.ob) = K at *
 generalize getN (fdX h m.o m.ob) = NN at *
 generalize fdE h m.o m.ob = E at *
 clear hT hS hh hF
 unfold muA
 by_cases hs : m.s = 4
 ·rw [if_pos hs]
  have d4 : (m.s != 4) = false := by simp [hs]
  clear hs
  go_enter Tryz.func160, Tryz.ntmps160
  go_upto_region 1 with fail
  rw [← hw0, ← hw1]
  clear hw0 hw1 gM gH
  go_wp2_with (first
  | (go_at_call 157; refine zm (hC) ?_; rintro e w' ⟨rfl, hb⟩; obtain ⟨hc, hf, hb, hz⟩ := bstep hb (w := w1) (by go_grown); try simp only [za, zb, zd] at hc hf hz)
  )
  go_returns
  have hb3 := (bjoin hb hb2).alloc (bjoin hb hb2).size (.cells #[.int .i64 K, .int .i64 NN] 70)
  refine ⟨_, _, rfl, zn4 (L := [⟨K, NN⟩]) (by simp) (by rfl) (by simp) (fun v hv => ?_), hb3.alloc hb3.size _⟩
  rw [List.mem_singleton.1 hv]
  exact hwF
 ·rw [if_neg hs]
  have d4 : (m.s != 4) = true := by simp [hs]
  clear hs
  go_enter Tryz.func160, Tryz.ntmps160
  go_upto_region 1 with fail
  rw [← hw0, ← hw1]
  clear hw0 hw1 gM gH
  go_wp2
  go_returns
  exact ⟨none, 0, rfl, zfw _ _, hb2⟩
theorem zsv (B : Nat) (p : Option Addr) (c : Nat) (q : Option Addr) (d : Nat) (h : Hp) (m : Mu) (ps : Option Addr) (cs : Nat) (w : World) (hS : Sz w) (hh : HpAt w p c q d h) (hF : formB h = true) (gH : TBox 27 B #[.slice p h.n c, .slice q h.m d, .bool h.b] w) :
  Calls Tryz.prog 159 #[muA m ps cs, .pointer (some ⟨B, 0, none⟩)] w fun e w' => ∃ p' c', e = .returned (.slice p' (tkL h m).length c') ∧ VAt w' p' c' (tkL h m).length (lvF (tkL h m)) ∧ Below w.heap.size w w' := by
 obtain ⟨w1, hw1⟩ : ∃ w1, w1 = w.alloc (.cells #[.slice ps m.n cs, .int .i64 m.s, .int .i64 m.ok, .int .i64 m.oa, .int .i64 m.ob, .int .i64 m.oc, .int .i64 m.o, .int .i64 m.v.k, .int .i64 m.v.n, .int .i64 m.c0, .int .i64 m.c1, .int .i64 m.c2, .int .i64 m.c3] 73) := ⟨_, rfl⟩
 obtain ⟨gM, hb1⟩ := zjx m ps cs w w1 hw1
 replace gH := gH.below hb1
 obtain ⟨l0, x0, x1, x2, x3, x4, x5, x6, x7, x8, x9, x10, x11, x12⟩ := zcu gM
 have l1 := gH.lt
 have y0 := gH.cell 0
 have y1 := gH.cell 1
 have y2 := gH.cell 2
 simp only [List.getElem?_toArray, List.getElem?_cons_zero, List.getElem?_cons_succ] at y0 y1 y2
 have hC := zoy p c q d h m ps cs w1 (hS.below hb1) (hh.below hb1) hF
 generalize tkL h m = L at *
 clear hS hh hF
 unfold muA at *
 go_enter Tryz.func159, Tryz.ntmps159
 go_upto_region 1 with fail
 rw [← hw1]
 clear hw1 gM gH
 go_wp2_with (first
  | (go_at_call 160; refine zm (hC) ?_; rintro e w' ⟨p', c', rfl, hV, hb⟩; obtain ⟨hc, hf, hb, hz⟩ := bstep hb (w := w1) (by go_grown); try simp only [za, zb, zd] at hc hf hz)
 )
 go_returns
 exact ⟨p', c', rfl, hV, bjoin hb hb1⟩
theorem zpb {M T e g size n : Nat} {cs : Array Value} {xs : List Value} {v0 : Value} (hx : TBox T g cs w) (ho : w.ownsRow M e size v0 n xs) (hg : w.grownBy w' v0.ownBlock) (hT : ¬ e = T) : TBox T g cs w' :=
 hx.of_block (hg.block g hx.lt fun e2 => by
  rcases ho.2 with ⟨rfl, -⟩ | ⟨b, cap, cur, rfl, -, hb, -⟩
  ·cases e2
  ·injection e2 with e2
   subst e2
   have := hb.symm.trans hx
   injection this with this
   injection this with _ this
   exact hT this)
def prtL (G : Nat → Mu → List Vl) (m : Mu) : Nat → List Vl
 | 0 => []
 | k + 1 => prtL G m k ++ G k m
def accL (G : Nat → Mu → List Vl) (z : Nat → Mu) (P : Nat) : Nat → List Vl
 | 0 => []
 | j + 1 => accL G z P j ++ prtL G (z j) P
theorem zgx (G : Nat → Mu → List Vl) (K : Nat → FuncId) (caps : Nat → Array Value) (P B cP n : Nat) (z : Nat → Mu) (p : Option Addr) (c : Nat) (w : World) (hz : RAt MuC 13 w p c n z) (hn : n ≤ 10) (hP : P ≤ 2) 
  (hB : B < w.heap.size) (hK : ∀ k, k < P → w.cell? ⟨B, k, none⟩ = some (.func (.func (K k)) #[] (caps k))) (hent : ∀ k, k < P → ∀ args w, (callFunc (K k) args).run Tryz.prog w = .ok (.enter (K k) args) w)
  (hlen : ∀ j k, j < n → k < P → (accL G z P j ++ prtL G (z j) k ++ G k (z j)).length ≤ 1000)
  (hcl : ∀ i k, i < n → k < P → ∀ W ps cs, Below w.heap.size w W → VAt W ps cs (z i).n (z i).st → Calls Tryz.prog (K k) (#[muA (z i) ps cs] ++ caps k) W fun e w' => ∃ p' c', e = .returned (.slice p' (G k (z i)).length c') ∧ VAt w' p' c' (G k (z i)).length (lvF (G k (z i))) ∧ Below W.heap.size W w') :
  Calls Tryz.prog 74 #[.slice p n c, .slice (some ⟨B, 0, none⟩) P cP] w fun e w' => ∃ p' c', e = .returned (.slice p' (accL G z P n).length c') ∧ w'.ownsRow w.heap.size 70 2 (.slice p' (accL G z P n).length c') (accL G z P n).length (LV (accL G z P n)) ∧ Below w.heap.size w w' := by
 obtain ⟨t0, hq0, hq1, hq2, hq3⟩ := info_parts zd5
 go_enter Tryz.func74, Tryz.ntmps74
 go_wp2
 go_loopg [5, 12] n (fun g ov iv wr => ∃ j : Nat, j ≤ n ∧ g = n - j ∧ iv = .int .i64 j ∧ wr.ownsRow w.heap.size 70 2 ov (accL G z P j).length (LV (accL G z P j)) ∧ Below w.heap.size w wr)
 case atStart => exact ⟨0, by omega, by omega, rfl, World.ownsRow_nil _ _ _ _, zr⟩
 case round =>
  obtain ⟨j, jh, rfl, rfl, hown, hbw⟩ := hrel
  have hsz := hbw.size
  by_cases hj : j < n
  ·obtain ⟨bb, off, L, rfl, hl, -, hc, ps, cs, rfl, hv, hwf⟩ := hz.row j hj
   have hcw : ∀ k u, ((z j).cells ps cs)[k]? = some u → wr.cell? ⟨bb, off + j * 13 + k, none⟩ = some u := fun k u hk => (hbw.cell (p := ⟨bb, off + j * 13 + k, none⟩) hl).trans (hc k u hk)
   have hltb : bb < wr.heap.size := Nat.lt_of_lt_of_le hl hsz
   have v0 := hcw 0 _ rfl
   have v1 := hcw 1 _ rfl
   have v2 := hcw 2 _ rfl
   have v3 := hcw 3 _ rfl
   have v4 := hcw 4 _ rfl
   have v5 := hcw 5 _ rfl
   have v6 := hcw 6 _ rfl
   have v7 := hcw 7 _ rfl
   have v8 := hcw 8 _ rfl
   have v9 := hcw 9 _ rfl
   have v10 := hcw 10 _ rfl
   have v11 := hcw 11 _ rfl
   have v12 := hcw 12 _ rfl
   rw [Nat.add_zero] at v0
   have hA : accL G z P (j + 1) = accL G z P j ++ prtL G (z j) P := rfl
   have hlen' := fun k hk => hlen j k hj hk
   have hcl' := fun k hk W hW => hcl j k hj hk W ps cs hW (hv.below hW)
   generalize hAn : accL G z P (j + 1) = Q at *
   generalize accL G z P j = A at *
   clear hc hcw hcl hlen hz
   obtain ⟨w5, hw5⟩ : ∃ W, W = wr.alloc (.cells #[.slice ps (z j).n cs, .int .i64 (z j).s, .int .i64 (z j).ok, .int .i64 (z j).oa, .int .i64 (z j).ob, .int .i64 (z j).oc, .int .i64 (z j).o, .int .i64 (z j).v.k, .int .i64 (z j).v.n, .int .i64 (z j).c0, .int .i64 (z j).c1, .int .i64 (z j).c2, .int .i64 (z j).c3] 73) := ⟨_, rfl⟩
   obtain ⟨gM, hb5⟩ := zjx (z j) ps cs wr w5 hw5
   have hown5 := zaa hown hb5
   have hbw5 := bjoin hb5 hbw
   go_upto_region 5 with fail
   rw [← hw5]
   clear hw5 hown v0 v1 v2 v3 v4 v5 v6 v7 v8 v9 v10 v11 v12 hltb hl
   generalize wr.heap.size = g5 at *
   clear hb5 hbw hsz
   go_wp2
   go_loopg [5, 18] P (fun g ov iv wq => ∃ k : Nat, k ≤ P ∧ g = P - k ∧ iv = .int .i64 k ∧ wq.ownsRow w.heap.size 70 2 ov (A ++ prtL G (z j) k).length (LV (A ++ prtL G (z j) k)) ∧ TBox 73 g5 #[.slice ps (z j).n cs, .int .i64 (z j).s, .int .i64 (z j).ok, .int .i64 (z j).oa, .int .i64 (z j).ob, .int .i64 (z j).oc, .int .i64 (z j).o, .int .i64 (z j).v.k, .int .i64 (z j).v.n, .int .i64 (z j).c0, .int .i64 (z j).c1, .int .i64 (z j).c2, .int .i64 (z j).c3] wq ∧ Below w.heap.size w wq)
   case atStart => exact ⟨0, by omega, by omega, rfl, by rw [show prtL G (z j) 0 = [] from rfl, List.append_nil]; exact hown5, gM, hbw5⟩
   case round =>
    clear hown5
    clear gM
    obtain ⟨k, kh, rfl, rfl, hown, gM, hbq'⟩ := hrel
    have hsz' := hbq'.size
    by_cases hk : k < P
    ·have hf0 := (hbq'.cell (p := ⟨B, k, none⟩) hB).trans (hK k hk)
     have hlB := Nat.lt_of_lt_of_le hB hsz'
     obtain ⟨l0, x0, x1, x2, x3, x4, x5, x6, x7, x8, x9, x10, x11, x12⟩ := zcu gM
     have hC := hcl' k hk wr hbq'
     have hE := hent k hk
     have hL := hlen' k hk
     have hA' : A ++ prtL G (z j) (k + 1) = A ++ prtL G (z j) k ++ G k (z j) := by rw [List.append_assoc]; rfl
     generalize hAk : A ++ prtL G (z j) (k + 1) = Q2 at *
     generalize A ++ prtL G (z j) k = A2 at *
     generalize G k (z j) = GG at *
     generalize K k = KK at *
     generalize caps k = CC at *
     rw [List.length_append] at hL
     unfold muA at hC
     clear hcl' hlen' hK hent
     go_wp2_with (first
      | (go_at_fn KK; refine zm hC ?_; rintro e w7 ⟨p7, c7, rfl, hV7, hb7⟩)
      | (at_builtin; refine zai rfl (.tmp 22) (.tmp 25) 33 rfl w.heap.size 70 t0 (.agg #[.int .i64 0, .int .i64 0]) 2 16 Tryz.underlying33 hq0 hq1 hq2 hq3 rfl (by decide) _ _ _ rfl (zaa hown hb7) p7 GG.length c7 (LV GG) rfl (zj2 _) hV7.row.cells (LV_one _) hV7.pnil (by simp only [maxLen]; omega) (by omega) (Nat.le_trans hsz' hb7.size) ?_; intro ov9 w9 hown9 hgrow9)
     )
     have hb97 := bjoin hb7 hbq'
     have hb9 : Below w.heap.size w w9 := hb97.grown hgrow9 hb97.size (fun k hk => (hown.lt k hk).1)
     have g9 := zpb (gM.below hb7) (zaa hown hb7) hgrow9 (by decide)
     rw [zju, ← List.length_append, ← hA'] at hown9
     go_roundg (P - (k + 1))
     case measure => omega
     case rel => exact ⟨k + 1, by omega, rfl, by go_num, by rw [hAk]; exact hown9, g9, hb9⟩
    ·obtain rfl : k = P := by omega
     rw [← hA] at hown
     clear hcl' hlen' hK hent
     go_wp2
     go_roundg (n - (j + 1))
     case measure => omega
     case rel => exact ⟨j + 1, by omega, rfl, by go_num, by rw [hAn]; exact hown, hbq'⟩
  ·obtain rfl : j = n := by omega
   obtain ⟨pp, cc, rfl, -⟩ := zaf hown
   clear hlen hcl hK hent
   go_wp2
   go_returns
   exact ⟨pp, cc, rfl, hown, hbw⟩
end Go.Proofs.YtkehankfnkjnlaaGreatDoor
