/- Contracts of the code's beginning of a cycle (chapter 18): what registers hold, what mutators hold, what pending writes take away. -/
import Derived.Test.YtmbgodncagjncaaDoorB32
import Derived.Test.YtmbgodncagjncaaDoorB41
import Derived.Test.YtmbgodncagjncaaDoorB28
import Derived.Test.YtmbgodncagjncaaDoorB26
import Derived.Laws.EntriesVeiled
namespace Go.Proofs.YtmbgodncagjncaaDoor
set_option linter.unusedSimpArgs false
set_option linter.unusedVariables false
open Go.ChangeShapes Go.WideShapes Go.ChangeAt Go.RowKit Go.Joins

/-- Values just laid, as a row. -/
theorem va_new {w : World} {B : Nat} {L : List Vl} {R : Array Value} (hB : B = w.heap.size) (hR : R.toList = LV L) (hL : L.length ≤ 10) (hw : ∀ v ∈ L, v.wf) : VAt (w.alloc (.cells R 46)) (some ⟨B, 0, none⟩) L.length L.length (lvF L) := by
  subst hB
  exact va_list (made_own (Nat.le_refl _) hR (by rw [← Array.length_toList, hR, LV_length]) (by simp only [maxLen]; omega) (by decide)) (by simp only [maxLen]; omega) hw
/-- A mutator as a value. -/
def muA (m : Mu) (p : Option Addr) (c : Nat) : Value := .agg #[.slice p m.n c, .int .i64 m.s, .int .i64 m.ok, .int .i64 m.oa, .int .i64 m.ob, .int .i64 m.oc, .int .i64 m.o, .int .i64 m.v.k, .int .i64 m.v.n, .int .i64 m.c0, .int .i64 m.c1, .int .i64 m.c2, .int .i64 m.c3]
theorem mu_box (m : Mu) (p : Option Addr) (c : Nat) (w w0 : World) (e : w0 = w.alloc (.cells #[.slice p m.n c, .int .i64 m.s, .int .i64 m.ok, .int .i64 m.oa, .int .i64 m.ob, .int .i64 m.oc, .int .i64 m.o, .int .i64 m.v.k, .int .i64 m.v.n, .int .i64 m.c0, .int .i64 m.c1, .int .i64 m.c2, .int .i64 m.c3] 49)) :
    TBox 49 w.heap.size #[.slice p m.n c, .int .i64 m.s, .int .i64 m.ok, .int .i64 m.oa, .int .i64 m.ob, .int .i64 m.oc, .int .i64 m.o, .int .i64 m.v.k, .int .i64 m.v.n, .int .i64 m.c0, .int .i64 m.c1, .int .i64 m.c2, .int .i64 m.c3] w0 ∧ Below w.heap.size w w0 := by
  subst e
  exact ⟨TBox.new _ _ _, (Below.refl _ _).alloc (Nat.le_refl _) _⟩
set_option maxRecDepth 20000 in
set_option maxHeartbeats 4000000 in
theorem sregs_any (m : Mu) (hw : m.wf) (p : Option Addr) (c : Nat) (w : World) :
    Calls Tryd.prog 21 #[muA m p c] w fun e w' => ∃ p' c', e = .returned (.slice p' (regL m).length c') ∧ VAt w' p' c' (regL m).length (lvF (regL m)) ∧ Below w.heap.size w w' := by
  obtain ⟨w0, hw0⟩ : ∃ w0, w0 = w.alloc (.cells #[.slice p m.n c, .int .i64 m.s, .int .i64 m.ok, .int .i64 m.oa, .int .i64 m.ob, .int .i64 m.oc, .int .i64 m.o, .int .i64 m.v.k, .int .i64 m.v.n, .int .i64 m.c0, .int .i64 m.c1, .int .i64 m.c2, .int .i64 m.c3] 49) := ⟨_, rfl⟩
  obtain ⟨gM, hb0⟩ := mu_box m p c w w0 hw0
  obtain ⟨l0, x0, x1, x2, x3, x4, x5, x6, x7, x8, x9, x10, x11, x12⟩ := mu_cells gM
  have hz0 : w.heap.size ≤ w0.heap.size := hb0.size
  have hwR := regL_wf hw
  have hb1 : Below w.heap.size w (w0.alloc (.cells #[.int .i64 2, .int .i64 m.o] 46)) := hb0.alloc hz0 _
  have hcs : (m.s = 2 ∧ (m.s == 2) = true ∧ (m.s == 3) = false ∧ (m.s == 4) = false) ∨ (m.s = 3 ∧ (m.s == 2) = false ∧ (m.s == 3) = true ∧ (m.s == 4) = false) ∨ (m.s = 4 ∧ (m.s == 2) = false ∧ (m.s == 3) = false ∧ (m.s == 4) = true) ∨ ((¬ (m.s = 2 ∨ m.s = 4) ∧ ¬ (m.s = 3 ∨ m.s = 4)) ∧ (m.s == 2) = false ∧ (m.s == 3) = false ∧ (m.s == 4) = false) := by
    by_cases h2 : m.s = 2
    · left; simp [h2]
    · by_cases h3 : m.s = 3
      · right; left; simp [h3]
      · by_cases h4 : m.s = 4
        · right; right; left; simp [h4]
        · right; right; right; simp [h2, h3, h4]
  unfold muA
  rcases hcs with ⟨hs, d2, d3, d4⟩ | ⟨hs, d2, d3, d4⟩ | ⟨hs, d2, d3, d4⟩ | ⟨⟨hn1, hn2⟩, d2, d3, d4⟩
  case' inl => have e1 : regL m = [⟨2, m.o⟩] := by unfold regL; rw [hs]; rfl
  case' inr.inl => have e1 : regL m = [m.v] := by unfold regL; rw [hs]; rfl
  case' inr.inr.inl => have e1 : regL m = [⟨2, m.o⟩, m.v] := by unfold regL; rw [hs]; rfl
  case' inr.inr.inr => have e1 : regL m = [] := by unfold regL; rw [if_neg hn1, if_neg hn2]; rfl
  case' inr.inr.inr => clear hn1 hn2
  case' inl => clear hs
  case' inr.inl => clear hs
  case' inr.inr.inl => clear hs
  all_goals
    rw [e1] at hwR ⊢
    clear e1
    go_enter Tryd.func21, Tryd.ntmps21
    go_upto_region 1 with fail
    rw [← hw0]
    clear hw0 gM
    go_wp2
    go_returns
  · exact ⟨_, _, rfl, va_new (by simp) (by rfl) (by simp) hwR, hb1.alloc (by have := hb1.size; exact this) _⟩
  · exact ⟨_, _, rfl, va_new (by simp) (by rfl) (by simp) hwR, hb1.alloc (by have := hb1.size; exact this) _⟩
  · exact ⟨_, _, rfl, va_new (by simp) (by rfl) (by simp) hwR, hb1.alloc (by have := hb1.size; exact this) _⟩
  · exact ⟨none, 0, rfl, va_nil _ _, hb1⟩
theorem sstack_any (m : Mu) (p : Option Addr) (c : Nat) (w : World) (hv : VAt w p c m.n m.st) :
    Calls Tryd.prog 45 #[muA m p c] w fun e w' => ∃ p' c', e = .returned (.slice p' (stkL m).length c') ∧ VAt w' p' c' (stkL m).length (lvF (stkL m)) ∧ Below w.heap.size w w' := by
  obtain ⟨w0, hw0⟩ : ∃ w0, w0 = w.alloc (.cells #[.slice p m.n c, .int .i64 m.s, .int .i64 m.ok, .int .i64 m.oa, .int .i64 m.ob, .int .i64 m.oc, .int .i64 m.o, .int .i64 m.v.k, .int .i64 m.v.n, .int .i64 m.c0, .int .i64 m.c1, .int .i64 m.c2, .int .i64 m.c3] 49) := ⟨_, rfl⟩
  obtain ⟨gM, hb0⟩ := mu_box m p c w w0 hw0
  obtain ⟨l0, x0, -, -, -, -, -, -, -, -, -, -, -, -⟩ := mu_cells gM
  have el : (stkL m).length = m.n := by simp [stkL]
  have hv0 := hv.below hb0
  have hV : VAt w0 p c (stkL m).length (lvF (stkL m)) := by
    rw [el]
    exact ⟨hv0.row.congr fun i hi => by simp [lvF, stkL, hi], hv0.nle, hv0.pnil, hv0.ncap⟩
  rw [← el] at x0
  unfold muA
  rw [← el] at hw0 ⊢
  generalize (stkL m).length = k at *
  clear hv hv0 el gM
  go_enter Tryd.func45, Tryd.ntmps45
  go_upto_region 1 with fail
  rw [← hw0]
  clear hw0
  go_wp2
  go_returns
  exact ⟨p, c, rfl, hV, hb0⟩
/-- What a pending write takes away, as a row. -/
def tkL (h : Hp) (m : Mu) : List Vl := if m.s = 4 then [⟨getK (fdX h m.o m.ob), getN (fdX h m.o m.ob)⟩] else []
set_option maxRecDepth 20000 in
set_option maxHeartbeats 4000000 in
theorem staken_any (p : Option Addr) (c : Nat) (q : Option Addr) (d : Nat) (h : Hp) (m : Mu) (ps : Option Addr) (cs : Nat) (w : World) (hS : Sz w) (hh : HpAt w p c q d h) (hF : formB h = true) :
    Calls Tryd.prog 47 #[.agg #[.slice p h.n c, .slice q h.m d, .bool h.b], muA m ps cs] w fun e w' => ∃ p' c', e = .returned (.slice p' (tkL h m).length c') ∧ VAt w' p' c' (tkL h m).length (lvF (tkL h m)) ∧ Below w.heap.size w w' := by
  obtain ⟨w0, hw0⟩ : ∃ w0, w0 = w.alloc (.cells #[.slice p h.n c, .slice q h.m d, .bool h.b] 25) := ⟨_, rfl⟩
  have gH : TBox 25 w.heap.size #[.slice p h.n c, .slice q h.m d, .bool h.b] w0 := by rw [hw0]; exact TBox.new _ _ _
  have hb0 : Below w.heap.size w w0 := by rw [hw0]; exact (Below.refl _ _).alloc (Nat.le_refl _) _
  obtain ⟨w1, hw1⟩ : ∃ w1, w1 = w0.alloc (.cells #[.slice ps m.n cs, .int .i64 m.s, .int .i64 m.ok, .int .i64 m.oa, .int .i64 m.ob, .int .i64 m.oc, .int .i64 m.o, .int .i64 m.v.k, .int .i64 m.v.n, .int .i64 m.c0, .int .i64 m.c1, .int .i64 m.c2, .int .i64 m.c3] 49) := ⟨_, rfl⟩
  obtain ⟨gM, hb1⟩ := mu_box m ps cs w0 w1 hw1
  have hb2 := bjoin hb1 hb0
  rw [show w0.heap.size = w.heap.size + 1 by rw [hw0]; simp] at gM
  replace gH := gH.below hb1
  obtain ⟨l0, x0, x1, x2, x3, x4, x5, x6, x7, x8, x9, x10, x11, x12⟩ := mu_cells gM
  have l1 := gH.lt
  have y0 := gH.cell 0
  have y1 := gH.cell 1
  have y2 := gH.cell 2
  simp only [List.getElem?_toArray, List.getElem?_cons_zero, List.getElem?_cons_succ] at y0 y1 y2
  have hwF := fv_wf hF hh.wf m.o m.ob
  have hC := ofield_any p c q d h m.o m.ob w1 (hS.below hb2) (hh.below hb2) hF
  have hT : tkL h m = if m.s = 4 then [⟨getK (fdX h m.o m.ob), getN (fdX h m.o m.ob)⟩] else [] := rfl
  rw [hT]
  generalize getK (fdX h m.o m.ob) = K at *
  generalize getN (fdX h m.o m.ob) = NN at *
  generalize fdE h m.o m.ob = E at *
  clear hT hS hh hF
  unfold muA
  by_cases hs : m.s = 4
  · rw [if_pos hs]
    have d4 : (m.s != 4) = false := by simp [hs]
    clear hs
    go_enter Tryd.func47, Tryd.ntmps47
    go_upto_region 1 with fail
    rw [← hw0, ← hw1]
    clear hw0 hw1 gM gH
    go_wp2_with (first
    | (go_at_call 67; refine Calls.mono (hC) ?_; rintro e w' ⟨rfl, hb⟩; obtain ⟨hc, hf, hb, hz⟩ := bstep hb (w := w1) (by go_grown); try simp only [World.size_alloc, World.size_setCell, World.size_drew] at hc hf hz)
    )
    go_returns
    have hb3 := (bjoin hb hb2).alloc (bjoin hb hb2).size (.cells #[.int .i64 K, .int .i64 NN] 46)
    refine ⟨_, _, rfl, va_new (L := [⟨K, NN⟩]) (by simp) (by rfl) (by simp) (fun v hv => ?_), hb3.alloc hb3.size _⟩
    rw [List.mem_singleton.1 hv]
    exact hwF
  · rw [if_neg hs]
    have d4 : (m.s != 4) = true := by simp [hs]
    clear hs
    go_enter Tryd.func47, Tryd.ntmps47
    go_upto_region 1 with fail
    rw [← hw0, ← hw1]
    clear hw0 hw1 gM gH
    go_wp2
    go_returns
    exact ⟨none, 0, rfl, va_nil _ _, hb2⟩
set_option maxRecDepth 20000 in
theorem sclos_any (B : Nat) (p : Option Addr) (c : Nat) (q : Option Addr) (d : Nat) (h : Hp) (m : Mu) (ps : Option Addr) (cs : Nat) (w : World) (hS : Sz w) (hh : HpAt w p c q d h) (hF : formB h = true) (gH : TBox 25 B #[.slice p h.n c, .slice q h.m d, .bool h.b] w) :
    Calls Tryd.prog 46 #[muA m ps cs, .pointer (some ⟨B, 0, none⟩)] w fun e w' => ∃ p' c', e = .returned (.slice p' (tkL h m).length c') ∧ VAt w' p' c' (tkL h m).length (lvF (tkL h m)) ∧ Below w.heap.size w w' := by
  obtain ⟨w1, hw1⟩ : ∃ w1, w1 = w.alloc (.cells #[.slice ps m.n cs, .int .i64 m.s, .int .i64 m.ok, .int .i64 m.oa, .int .i64 m.ob, .int .i64 m.oc, .int .i64 m.o, .int .i64 m.v.k, .int .i64 m.v.n, .int .i64 m.c0, .int .i64 m.c1, .int .i64 m.c2, .int .i64 m.c3] 49) := ⟨_, rfl⟩
  obtain ⟨gM, hb1⟩ := mu_box m ps cs w w1 hw1
  replace gH := gH.below hb1
  obtain ⟨l0, x0, x1, x2, x3, x4, x5, x6, x7, x8, x9, x10, x11, x12⟩ := mu_cells gM
  have l1 := gH.lt
  have y0 := gH.cell 0
  have y1 := gH.cell 1
  have y2 := gH.cell 2
  simp only [List.getElem?_toArray, List.getElem?_cons_zero, List.getElem?_cons_succ] at y0 y1 y2
  have hC := staken_any p c q d h m ps cs w1 (hS.below hb1) (hh.below hb1) hF
  generalize tkL h m = L at *
  clear hS hh hF
  unfold muA at *
  go_enter Tryd.func46, Tryd.ntmps46
  go_upto_region 1 with fail
  rw [← hw1]
  clear hw1 gM gH
  go_wp2_with (first
    | (go_at_call 47; refine Calls.mono (hC) ?_; rintro e w' ⟨p', c', rfl, hV, hb⟩; obtain ⟨hc, hf, hb, hz⟩ := bstep hb (w := w1) (by go_grown); try simp only [World.size_alloc, World.size_setCell, World.size_drew] at hc hf hz)
  )
  go_returns
  exact ⟨p', c', rfl, hV, bjoin hb hb1⟩
/-- A variable stays as an own row of elements of another type grows. -/
theorem tbox_grown {M T e g size n : Nat} {cs : Array Value} {xs : List Value} {v0 : Value} {w w' : World} (hx : TBox T g cs w) (ho : w.ownsRow M e size v0 n xs) (hg : w.grownBy w' v0.ownBlock) (hT : ¬ e = T) : TBox T g cs w' :=
  hx.of_block (hg.block g hx.lt fun e2 => by
    rcases ho.2 with ⟨rfl, -⟩ | ⟨b, cap, cur, rfl, -, hb, -⟩
    · cases e2
    · injection e2 with e2
      subst e2
      have := hb.symm.trans hx
      injection this with this
      injection this with _ this
      exact hT this)
/-- What is put together of one mutator, and of the first so many. -/
def prtL (G : Nat → Mu → List Vl) (m : Mu) : Nat → List Vl
  | 0 => []
  | k + 1 => prtL G m k ++ G k m
def accL (G : Nat → Mu → List Vl) (z : Nat → Mu) (P : Nat) : Nat → List Vl
  | 0 => []
  | j + 1 => accL G z P j ++ prtL G (z j) P
set_option maxRecDepth 20000 in
set_option maxHeartbeats 8000000 in
theorem sofeach_any (G : Nat → Mu → List Vl) (K : Nat → FuncId) (caps : Nat → Array Value) (P B cP n : Nat) (z : Nat → Mu) (p : Option Addr) (c : Nat) (w : World) (hz : RAt MuC 13 w p c n z) (hn : n ≤ 10) (hP : P ≤ 2)
    (hB : B < w.heap.size) (hK : ∀ k, k < P → w.cell? ⟨B, k, none⟩ = some (.func (.func (K k)) #[] (caps k))) (hent : ∀ k, k < P → ∀ args w, (callFunc (K k) args).run Tryd.prog w = .ok (.enter (K k) args) w)
    (hlen : ∀ j k, j < n → k < P → (accL G z P j ++ prtL G (z j) k ++ G k (z j)).length ≤ 1000)
    (hcl : ∀ i k, i < n → k < P → ∀ W ps cs, Below w.heap.size w W → VAt W ps cs (z i).n (z i).st → Calls Tryd.prog (K k) (#[muA (z i) ps cs] ++ caps k) W fun e w' => ∃ p' c', e = .returned (.slice p' (G k (z i)).length c') ∧ VAt w' p' c' (G k (z i)).length (lvF (G k (z i))) ∧ Below W.heap.size W w') :
    Calls Tryd.prog 44 #[.slice p n c, .slice (some ⟨B, 0, none⟩) P cP] w fun e w' => ∃ p' c', e = .returned (.slice p' (accL G z P n).length c') ∧ w'.ownsRow w.heap.size 46 2 (.slice p' (accL G z P n).length c') (accL G z P n).length (LV (accL G z P n)) ∧ Below w.heap.size w w' := by
  obtain ⟨t0, hq0, hq1, hq2, hq3⟩ := info_parts val_info
  go_enter Tryd.func44, Tryd.ntmps44
  go_wp2
  go_loopg [5, 12] n (fun g ov iv wr => ∃ j : Nat, j ≤ n ∧ g = n - j ∧ iv = .int .i64 j ∧ wr.ownsRow w.heap.size 46 2 ov (accL G z P j).length (LV (accL G z P j)) ∧ Below w.heap.size w wr)
  case atStart => exact ⟨0, by omega, by omega, rfl, World.ownsRow_nil _ _ _ _, Below.refl _ _⟩
  case round =>
    obtain ⟨j, jh, rfl, rfl, hown, hbw⟩ := hrel
    have hsz := hbw.size
    by_cases hj : j < n
    · obtain ⟨bb, off, L, rfl, hl, -, hc, ps, cs, rfl, hv, hwf⟩ := hz.row j hj
      have hcw : ∀ k u, ((z j).cells ps cs)[k]? = some u → wr.cell? ⟨bb, off + j * 13 + k, none⟩ = some u := fun k u hk => (hbw.cell (p := ⟨bb, off + j * 13 + k, none⟩) hl).trans (hc k u hk)
      have hltb : bb < wr.heap.size := Nat.lt_of_lt_of_le hl hsz
      have v0 := hcw 0 _ rfl
      have v1 := hcw 1 _ rfl
      have v2 := hcw 2 _ rfl
      have v3 := hcw 3 _ rfl
      have v4 := hcw 4 _ rfl
      have v5 := hcw 5 _ rfl
      have v6 := hcw 6 _ rfl
      have v7 := hcw 7 _ rfl
      have v8 := hcw 8 _ rfl
      have v9 := hcw 9 _ rfl
      have v10 := hcw 10 _ rfl
      have v11 := hcw 11 _ rfl
      have v12 := hcw 12 _ rfl
      rw [Nat.add_zero] at v0
      have hA : accL G z P (j + 1) = accL G z P j ++ prtL G (z j) P := rfl
      have hlen' := fun k hk => hlen j k hj hk
      have hcl' := fun k hk W hW => hcl j k hj hk W ps cs hW (hv.below hW)
      generalize hAn : accL G z P (j + 1) = Q at *
      generalize accL G z P j = A at *
      clear hc hcw hcl hlen hz
      obtain ⟨w5, hw5⟩ : ∃ W, W = wr.alloc (.cells #[.slice ps (z j).n cs, .int .i64 (z j).s, .int .i64 (z j).ok, .int .i64 (z j).oa, .int .i64 (z j).ob, .int .i64 (z j).oc, .int .i64 (z j).o, .int .i64 (z j).v.k, .int .i64 (z j).v.n, .int .i64 (z j).c0, .int .i64 (z j).c1, .int .i64 (z j).c2, .int .i64 (z j).c3] 49) := ⟨_, rfl⟩
      obtain ⟨gM, hb5⟩ := mu_box (z j) ps cs wr w5 hw5
      have hown5 := owned_below hown hb5
      have hbw5 := bjoin hb5 hbw
      go_upto_region 5 with fail
      rw [← hw5]
      clear hw5 hown v0 v1 v2 v3 v4 v5 v6 v7 v8 v9 v10 v11 v12 hltb hl
      generalize wr.heap.size = g5 at *
      clear hb5 hbw hsz
      go_wp2
      go_loopg [5, 18] P (fun g ov iv wq => ∃ k : Nat, k ≤ P ∧ g = P - k ∧ iv = .int .i64 k ∧ wq.ownsRow w.heap.size 46 2 ov (A ++ prtL G (z j) k).length (LV (A ++ prtL G (z j) k)) ∧ TBox 49 g5 #[.slice ps (z j).n cs, .int .i64 (z j).s, .int .i64 (z j).ok, .int .i64 (z j).oa, .int .i64 (z j).ob, .int .i64 (z j).oc, .int .i64 (z j).o, .int .i64 (z j).v.k, .int .i64 (z j).v.n, .int .i64 (z j).c0, .int .i64 (z j).c1, .int .i64 (z j).c2, .int .i64 (z j).c3] wq ∧ Below w.heap.size w wq)
      case atStart => exact ⟨0, by omega, by omega, rfl, by rw [show prtL G (z j) 0 = [] from rfl, List.append_nil]; exact hown5, gM, hbw5⟩
      case round =>
        clear hown5
        clear gM
        obtain ⟨k, kh, rfl, rfl, hown, gM, hbq'⟩ := hrel
        have hsz' := hbq'.size
        by_cases hk : k < P
        · have hf0 := (hbq'.cell (p := ⟨B, k, none⟩) hB).trans (hK k hk)
          have hlB := Nat.lt_of_lt_of_le hB hsz'
          obtain ⟨l0, x0, x1, x2, x3, x4, x5, x6, x7, x8, x9, x10, x11, x12⟩ := mu_cells gM
          have hC := hcl' k hk wr hbq'
          have hE := hent k hk
          have hL := hlen' k hk
          have hA' : A ++ prtL G (z j) (k + 1) = A ++ prtL G (z j) k ++ G k (z j) := by rw [List.append_assoc]; rfl
          generalize hAk : A ++ prtL G (z j) (k + 1) = Q2 at *
          generalize A ++ prtL G (z j) k = A2 at *
          generalize G k (z j) = GG at *
          generalize K k = KK at *
          generalize caps k = CC at *
          rw [List.length_append] at hL
          unfold muA at hC
          clear hcl' hlen' hK hent
          go_wp2_with (first
            | (go_at_fn KK; refine Calls.mono hC ?_; rintro e w7 ⟨p7, c7, rfl, hV7, hb7⟩)
            | (at_builtin; refine wpList_append_row rfl (.tmp 22) (.tmp 25) 35 rfl w.heap.size 46 t0 (.agg #[.int .i64 0, .int .i64 0]) 2 16 Tryd.underlying35 hq0 hq1 hq2 hq3 rfl (by decide) _ _ _ rfl (owned_below hown hb7) p7 GG.length c7 (LV GG) rfl (LV_length _) hV7.row.cells (LV_one _) hV7.pnil (by simp only [maxLen]; omega) (by omega) (Nat.le_trans hsz' hb7.size) ?_; intro ov9 w9 hown9 hgrow9)
          )
          have hb97 := bjoin hb7 hbq'
          have hb9 : Below w.heap.size w w9 := hb97.grown hgrow9 hb97.size (fun k hk => (hown.lt k hk).1)
          have g9 := tbox_grown (gM.below hb7) (owned_below hown hb7) hgrow9 (by decide)
          rw [LV_append, ← List.length_append, ← hA'] at hown9
          go_roundg (P - (k + 1))
          case measure => omega
          case rel => exact ⟨k + 1, by omega, rfl, by go_num, by rw [hAk]; exact hown9, g9, hb9⟩
        · obtain rfl : k = P := by omega
          rw [← hA] at hown
          clear hcl' hlen' hK hent
          go_wp2
          go_roundg (n - (j + 1))
          case measure => omega
          case rel => exact ⟨j + 1, by omega, rfl, by go_num, by rw [hAn]; exact hown, hbq'⟩
    · obtain rfl : j = n := by omega
      obtain ⟨pp, cc, rfl, -⟩ := owned_new hown
      clear hlen hcl hK hent
      go_wp2
      go_returns
      exact ⟨pp, cc, rfl, hown, hbw⟩
end Go.Proofs.YtmbgodncagjncaaDoor
