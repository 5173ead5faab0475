/- Contracts of the code's marking (chapter 17): the steps 3 and 5, which take from a mutator's row, and at the cursor. -/
import Derived.Test.YtiofeebiejkajaaDoorB40
namespace Go.Proofs.YtiofeebiejkajaaDoor
set_option linter.unusedSimpArgs false
set_option linter.unusedVariables false
open Go.ChangeShapes Go.WideShapes Go.ChangeAt Go.RowKit Go.Joins

theorem fs_some_of {m : Mk} {j : Nat} (hj : j < m.nb) (h0 : 0 < (m.b j).n) (hno : ∀ t, t < j → (m.b t).n = 0) : fsB m = some j := by
  unfold fsB
  rw [List.find?_range_eq_some]
  exact ⟨by simpa using h0, by simpa using hj, fun t ht => by simp [hno t ht]⟩
theorem fs_none_of {m : Mk} (hno : ∀ t, t < m.nb → (m.b t).n = 0) : fsB m = none := by
  unfold fsB
  rw [List.find?_eq_none]
  intro t ht
  simp [hno t (by simpa using ht)]
theorem lb_some_of {h : Hp} {c a : Int} (hF : formB h = true) (ha : blB h a = true) (hc : c ≤ a) (hno : ∀ x, c ≤ x → x < a → blB h x = false) : lbA h c = some a := by
  cases e : lbA h c with
  | none => exact absurd hc (lb_none hF e ha)
  | some a' =>
    obtain ⟨-, h2, h3, h4⟩ := lb_some hF e
    have := h4 a ha hc
    by_cases hlt : a' < a
    · have := hno a' h3 hlt
      rw [h2] at this
      cases this
    · rw [show a' = a by omega]
theorem lb_none_of {h : Hp} {c : Int} (hF : formB h = true) (hno : ∀ x, c ≤ x → blB h x = false) : lbA h c = none := by
  cases e : lbA h c with
  | none => rfl
  | some a' =>
    obtain ⟨-, h2, h3, -⟩ := lb_some hF e
    rw [hno a' h3] at h2
    cases h2
theorem ha_cu (h : Hp) (m : Mk) (a c : Int) : { haM h m a with cu := c } = haM h { m with cu := c } a := by
  unfold haM; split <;> rfl
/-- What the step 5 leaves. -/
def cuM (h : Hp) (m : Mk) : Mk := match lbA h m.cu with
  | some a => haM h { m with cu := a + 1 } a
  | none => { m with cu := -1 }
theorem cuM_some {h : Hp} {m : Mk} {a : Int} (e : lbA h m.cu = some a) : cuM h m = { haM h { m with cu := -1 } a with cu := a + 1 } := by
  rw [ha_cu]
  unfold cuM
  rw [e]
theorem cuM_none {h : Hp} {m : Mk} (e : lbA h m.cu = none) : cuM h m = { m with cu := -1 } := by
  unfold cuM
  rw [e]
theorem bl_range {h : Hp} {a : Int} (hF : formB h = true) (hb : blB h a = true) : 0 ≤ a ∧ a < h.n := by
  have : obB h a = true := by simp only [blB, Bool.and_eq_true] at hb; exact hb.1
  exact ob_range hF this

set_option maxHeartbeats 4000000 in
set_option maxRecDepth 20000 in
/-- The step 5, where the cursor is none. -/
theorem mcur_no (N B n k : Nat) (b : Bool) (h : Hp) (m : Mk) (w : World) (hst : StV N B n k b h m w) (h0 : m.cu = -1) :
    Calls Tryd.prog 34 #[.pointer (some ⟨B, 0, none⟩)] w fun e w' => e = .returned (.bool false) ∧ Below w.heap.size w w' := by
  obtain ⟨p, c, q, d, pg, cg, pb, cb, pr, cr, g0, hh, hM⟩ := hst
  obtain ⟨hlB, -, -, -, -, -, -, x6, -, -, -, -⟩ := st_cells g0
  rw [h0] at x6
  clear g0 hh hM h0
  go_enter Tryd.func34, Tryd.ntmps34
  go_wp2
  go_returns
  exact ⟨rfl, Below.refl _ _⟩
set_option maxHeartbeats 8000000 in
set_option maxRecDepth 20000 in
/-- .. where it isn't. -/
theorem mcur_yes (N B n k : Nat) (b : Bool) (h : Hp) (m : Mk) (w : World) (hS : Sz w) (hSB : ¬ 0 = B) (hN : N ≤ B) (hst : StV N B n k b h m w) (hF : formB h = true) (h0 : ¬ m.cu = -1) (h1 : -1 ≤ m.cu ∧ m.cu ≤ h.n) :
    Calls Tryd.prog 34 #[.pointer (some ⟨B, 0, none⟩)] w fun e w' => e = .returned (.bool true) ∧ StV N B n k b h (cuM h m) w' ∧ Aside (fun k => k = B) w w' := by
  obtain ⟨hn32, hk0⟩ := hst.room hF
  obtain ⟨p, c, q, d, pg, cg, pb, cb, pr, cr, g0, hh, hM⟩ := id hst
  obtain ⟨hlB, -, -, -, -, -, -, x6, -, x8, x9, x10⟩ := st_cells g0
  obtain ⟨-, -, -, -, -, -, f6, -⟩ := st_frozen g0
  have hcu0 : (m.cu == -1) = false := by simpa using h0
  have hcu1 : ¬ m.cu < 0 := by omega
  have hcuH : Hid (m.cu ≤ h.n) := h1.2
  have hnn : n ≤ 512 ∧ n = h.n := by
    have := form_room hF
    have := hh.n_eq
    constructor <;> omega
  obtain ⟨hn512, hnh⟩ := hnn
  have hnH : Hid (n = h.n) := hnh
  have s1 := hst.setC hN hn32 hk0 (-1)
  have hA1 := aside_set (Aside.of (T := fun k => k = B) (Below.refl w.heap.size w)) 6 (.int .i64 (-1))
  clear g0 hh hM h0 h1 hnh
  go_enter Tryd.func34, Tryd.ntmps34
  go_upto_region 6 with fail
  have hS1 := hS.aside hA1 hSB
  clear x6 x8 x9 x10 f6 hlB hst
  generalize w.setCell ⟨B, 6, none⟩ (.int .i64 (-1)) = w1 at *
  obtain ⟨p, c, q, d, pg, cg, pb, cb, pr, cr, g0, hh, hM⟩ := id s1
  have hin := hnH.out
  have hle : m.cu ≤ n := by have := hcuH.out; omega
  clear hin
  go_loopg [4] ((n : Int) - m.cu).toNat (fun gh iv wr => ∃ a : Int, m.cu ≤ a ∧ a ≤ n ∧ gh = (n - a).toNat ∧ iv = .int .i64 a ∧ (∀ x, m.cu ≤ x → x < a → blB h x = false) ∧ Below w1.heap.size w1 wr)
  case atStart => exact ⟨m.cu, Int.le_refl _, hle, rfl, rfl, fun x h1 h2 => by omega, Below.refl _ _⟩
  case round =>
    obtain ⟨a, ha0, han, rfl, rfl, hno, hbr⟩ := hrel
    replace g0 := g0.below hbr
    replace hh := hh.below hbr
    have hSr := hS1.below hbr
    have s2 := s1.below hbr
    have hA2 := hA1.trans (Aside.of hbr)
    have hBl := oblack_in (a := a) hSr hh hF
    obtain ⟨hlB, -, -, -, -, -, -, x6, -, x8, x9, x10⟩ := st_cells g0
    dsimp only at x6 x8 x9 x10
    by_cases hlt : a < n
    · cases hbl : blB h a with
      | false =>
        rw [hbl] at hBl
        clear hh hM g0
        go_wp2_with (first
    | (go_at_call 56; refine Calls.mono (hBl) ?_; rintro e w' ⟨rfl, hb⟩; obtain ⟨hc, hf, hb, hz⟩ := bstep hb (w := wr) (by go_grown); try simp only [World.size_alloc, World.size_setCell, World.size_drew] at hc hf hz)
        )
        go_roundg (n - (a + 1)).toNat
        case measure => omega
        case rel => exact ⟨a + 1, by omega, by omega, rfl, by go_num, fun x h1 h2 => by
          by_cases e : x = a
          · rw [e]; exact hbl
          · exact hno x h1 (by omega), bjoin hb hbr⟩
      | true =>
        rw [hbl] at hBl
        have hlb := lb_some_of hF hbl ha0 hno
        have hlbH : Hid (lbA h m.cu = some a) := hlb
        have hH := fun W (hW : Below wr.heap.size wr W) => mhand_any N B n k b h { m with cu := -1 } a W (hSr.below hW) hN (s2.below hW) hF
        generalize hM3 : haM h { m with cu := -1 } a = M3 at hH
        clear hh hM g0 hlb hbl
        go_wp2_with (first
    | (go_at_call 56; refine Calls.mono (hBl) ?_; rintro e w' ⟨rfl, hb⟩; obtain ⟨hc, hf, hb, hz⟩ := bstep hb (w := wr) (by go_grown); try simp only [World.size_alloc, World.size_setCell, World.size_drew] at hc hf hz)
          | (go_at_call 55; refine Calls.mono (hH _ (by go_grown)) ?_; rintro e w3 ⟨rfl, hs3, hA3⟩; obtain ⟨_, _, _, _, _, _, _, _, _, _, g03, _, _⟩ := id hs3; obtain ⟨hlB3, -, -, -, -, -, -, y6, -, -, -, -⟩ := st_cells g03; obtain ⟨-, -, -, -, -, -, f6, -⟩ := st_frozen g03)
        )
        have s4 := hs3.setC hN hn32 hk0 (a + 1)
        have hA4 := aside_set ((hA2.trans (Aside.of hb)).trans hA3) 6 (.int .i64 (a + 1))
        go_returns
        exact ⟨rfl, by rw [cuM_some hlbH.out, hM3]; exact s4, hA4⟩
    · have hlb := lb_none_of (c := m.cu) hF fun x hx => by
        cases e : blB h x with
        | false => rfl
        | true =>
          have h1 := (bl_range hF e).2
          have h2 := hnH.out
          rw [hno x hx (by omega)] at e
          cases e
      have hlbH : Hid (lbA h m.cu = none) := hlb
      clear hh hM g0 hlb
      go_wp2
      go_returns
      exact ⟨rfl, by rw [cuM_none hlbH.out]; exact s2, hA2⟩
/-- What the step 3 leaves. -/
def baM (h : Hp) (m : Mk) : Mk := match fsB m with
  | some i => haM h { m with b := setB m.b i ⟨(m.b i).r, (m.b i).n - 1, (m.b i).z⟩ } ((m.b i).z ((m.b i).n - 1))
  | none => m
theorem baM_some {h : Hp} {m : Mk} {i : Nat} (e : fsB m = some i) : baM h m = haM h { m with b := setB m.b i ⟨(m.b i).r, (m.b i).n - 1, (m.b i).z⟩ } ((m.b i).z ((m.b i).n - 1)) := by
  unfold baM
  rw [e]
theorem baM_none {h : Hp} {m : Mk} (e : fsB m = none) : baM h m = m := by
  unfold baM
  rw [e]
set_option maxHeartbeats 8000000 in
set_option maxRecDepth 20000 in
/-- The step 3. -/
theorem mbarr_any (N B n k : Nat) (b : Bool) (h : Hp) (m : Mk) (w : World) (hS : Sz w) (hSB : ¬ 0 = B) (hN : N ≤ B) (hst : StV N B n k b h m w) (hF : formB h = true) (hnb : m.nb ≤ 1000000) (hrows : ∀ t, t < m.nb → (m.b t).n ≤ 1000000) :
    Calls Tryd.prog 32 #[.pointer (some ⟨B, 0, none⟩)] w fun e w' => e = .returned (.bool (fsB m).isSome) ∧ StV N B n k b h (baM h m) w' ∧ Aside (fun k => k = B) w w' := by
  obtain ⟨p, c, q, d, pg, cg, pb, cb, pr, cr, g0, hh, hM⟩ := id hst
  obtain ⟨hlB, -, -, x2, -, -, -, -, -, -, -, -⟩ := st_cells g0
  have hbr0 := hM.b
  clear g0 hh hM
  go_enter Tryd.func32, Tryd.ntmps32
  go_upto_region 2 with fail
  go_loopg [14] m.nb (fun gh iv wr => ∃ j : Nat, j ≤ m.nb ∧ gh = m.nb - j ∧ iv = .int .i64 j ∧ (∀ t, t < j → (m.b t).n = 0) ∧ Below w.heap.size w wr)
  case atStart => exact ⟨0, by omega, by omega, rfl, fun t ht => by omega, Below.refl _ _⟩
  case round =>
    obtain ⟨j, hj, rfl, rfl, hno, hbr⟩ := hrel
    by_cases hlt : j < m.nb
    · obtain ⟨bb, off, L, rfl, hl, hL, hc, pj, cj, rfl, hgj, hej, h64⟩ := (hbr0.below grE_below hbr).row j hlt
      have y0 := hc 0 _ rfl
      have y1 := hc 1 _ rfl
      simp only [Nat.add_zero] at y0 y1
      have hP := fun W (hW : Below wr.heap.size wr W) => gpop_tag (m.b j).r pj (m.b j).n cj (m.b j).z W (hgj.below hW) (hrows j hlt)
      have hst2 := fun W (hW : Below wr.heap.size wr W) => hst.below (bjoin hW hbr)
      by_cases h0 : (m.b j).n = 0
      · have hno' : ∀ t, t < j + 1 → (m.b t).n = 0 := fun t ht => by
          by_cases e : t = j
          · rw [e]; exact h0
          · exact hno t (by omega)
        rw [show decide (0 < (m.b j).n) = false by simp [h0]] at hP
        generalize gqX (m.b j).n (m.b j).z = X at hP
        generalize (m.b j).n - 1 = K1 at hP
        generalize (m.b j).n = K at hP y1
        generalize (m.b j).r = R at hP y0
        clear hst2 hgj hej h64 hc hL h0
        go_wp2_with (first
    | (go_at_call 54; refine Calls.mono (hP _ (by go_grown)) ?_; rintro e w' ⟨p', c', rfl, -, -, hb, -⟩; obtain ⟨hc, hf, hb, hz⟩ := bstep hb (w := wr) (by go_grown); try simp only [World.size_alloc, World.size_setCell, World.size_drew] at hc hf hz)
        )
        have hbE : Below w.heap.size w (w'.alloc (.cells #[.int .i64 R, .slice p' K1 c'] 28)) := (bjoin hb hbr).alloc (by have := hb.size; have := hbr.size; omega) _
        go_roundg (m.nb - (j + 1))
        case measure => omega
        case rel => exact ⟨j + 1, by omega, rfl, by go_num, hno', hbE⟩
      · have hfs := fs_some_of hlt (by omega : 0 < (m.b j).n) hno
        have hfsH : Hid (fsB m = some j) := hfs
        rw [show decide (0 < (m.b j).n) = true by simp; omega, show gqX (m.b j).n (m.b j).z = (m.b j).z ((m.b j).n - 1) by unfold gqX; rw [if_neg h0]] at hP
        have hkk := hrows j hlt
        have hSB2 := fun W p' c' (hW : Below wr.heap.size wr W) (h3 : GrAt W p' c' ((m.b j).n - 1) (m.b j).z) (h4 : RowE N 3 ((m.b j).n - 1) p' W) => msetb_any N B n k b h m j (m.b j).r p' ((m.b j).n - 1) c' (m.b j).z W hN (hst2 W hW) hF hlt hnb hrows h3 h4 h64 (by omega)
        have hH := fun (W : World) (a : Int) (h1 : Sz W) (h3 : StV N B n k b h { m with b := setB m.b j ⟨(m.b j).r, (m.b j).n - 1, (m.b j).z⟩ } W) => mhand_any N B n k b h { m with b := setB m.b j ⟨(m.b j).r, (m.b j).n - 1, (m.b j).z⟩ } a W h1 hN h3 hF
        generalize hM2 : ({ m with b := setB m.b j ⟨(m.b j).r, (m.b j).n - 1, (m.b j).z⟩ } : Mk) = M2 at hH hSB2
        have hTT : 0 < (m.b j).n := by omega
        have hej' : ∀ W p', Below wr.heap.size wr W → (0 < (m.b j).n → ∀ b off sp, p' = some ⟨b, off, sp⟩ → ∃ cs, W.heap[b]? = some (.cells cs 3 (0, 0))) → RowE N 3 ((m.b j).n - 1) p' W := fun W p' hW hT => rowE_pop hej hTT hT
        clear h0 hTT hfs hkk hgj hej hc hL hno
        generalize hX : (m.b j).z ((m.b j).n - 1) = X at *
        generalize hZZ : (m.b j).z = ZZ at *
        generalize hK1 : (m.b j).n - 1 = K1 at *
        generalize (m.b j).n = K at hP y1 hej'
        generalize hRR : (m.b j).r = R at *
        go_upto_region 5 with (first
    | (go_at_call 54; refine Calls.mono (hP _ (by go_grown)) ?_; rintro e w' ⟨p', c', rfl, hZ, -, hb, hT⟩; obtain ⟨hc, hf, hb, hz⟩ := bstep hb (w := wr) (by go_grown); try simp only [World.size_alloc, World.size_setCell, World.size_drew] at hc hf hz)
        )
        obtain ⟨w1, hw1⟩ : ∃ W, W = w'.alloc (.cells #[.int .i64 R, .slice p' K1 c'] 28) := ⟨_, rfl⟩
        have hb1 : Below w'.heap.size w' w1 := by rw [hw1]; exact (Below.refl _ _).alloc (Nat.le_refl _) _
        have gX : TBox 28 w'.heap.size #[.int .i64 R, .slice p' K1 c'] w1 := by rw [hw1]; exact TBox.new _ _ _
        rw [← hw1]
        have hR1 := (hej' _ _ hb hT).below hb1
        have hZ1 := hZ.below hb1
        have hbw := bjoin hb1 hb
        have v0 := gX.cell 0
        have v1 := gX.cell 1
        simp only [List.getElem?_toArray, List.getElem?_cons_zero, List.getElem?_cons_succ] at v0 v1
        have lX := gX.lt
        replace hSB2 := hSB2 w1 p' c' hbw hZ1 hR1
        have hS1 := (hS.below hbr).below hbw
        clear hw1 hc hf hb hz hb1 gX hP hT hZ hZ1 hR1 y0 y1 hej' hst2 h64
        generalize w'.heap.size = XX at *
        go_upto_region 7 with (first
          | (go_at_call 42; refine Calls.mono hSB2 ?_; rintro e w2 ⟨rfl, hs2, hA2⟩)
        )
        have hA2' := (Aside.of (T := fun k => k = B) (bjoin hbw hbr)).trans hA2
        replace hH := hH w2 X (hS.aside hA2' hSB) hs2
        clear v0 v1 lX hSB2
        go_wp2_with (first
          | (go_at_call 55; refine Calls.mono hH ?_; rintro e w3 ⟨rfl, hs3, hA3⟩)
        )
        go_returns
        exact ⟨by rw [hfsH.out]; rfl, by rw [baM_some hfsH.out, hRR, hZZ, hK1, hX, hM2]; exact hs3, hA2'.trans hA3⟩
    · obtain rfl : j = m.nb := by omega
      have hfs := fs_none_of hno
      have hfsH : Hid (fsB m = none) := hfs
      clear hfs
      go_wp2
      go_returns
      exact ⟨by rw [hfsH.out]; rfl, by rw [baM_none hfsH.out]; exact hst.below hbr, Aside.of hbr⟩
end Go.Proofs.YtiofeebiejkajaaDoor
