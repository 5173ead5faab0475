/- The laws' 'ended' (chapter 17): from roots marked to its end, where all is white. -/
import Derived.Test.YtiofeebiejkajaaDoorB49
import Derived.Test.YtiofeebiejkajaaDoorB50
import Derived.Test.YtiofeebiejkajaaDoorB44
import Derived.Test.YtiofeebiejkajaaDoorB51
import Derived.Test.YtiofeebiejkajaaDoorB27
import Derived.Test.YtiofeebiejkajaaDoorB24
import Derived.Test.YtiofeebiejkajaaDoorB36
namespace Go.Proofs.YtiofeebiejkajaaDoor
set_option linter.unusedSimpArgs false
set_option linter.unusedVariables false
open Go.ChangeShapes Go.WideShapes Go.ChangeAt Go.RowKit Go.Joins

theorem ha_nb (h : Hp) (m : Mk) (a : Int) : (haM h m a).nb = m.nb ∧ (haM h m a).nr = m.nr := by
  rcases ha_cases h m a with e | ⟨-, -, e⟩ <;> rw [e] <;> exact ⟨rfl, rfl⟩
theorem st_nb (h : Hp) (m : Mk) : (stM h m).2.1.nb = m.nb ∧ (stM h m).2.1.nr ≤ m.nr := by
  unfold stM
  by_cases h1 : ¬ m.ob = -1
  · rw [if_pos h1]
    dsimp only
    by_cases e : m.fi + 1 = obN h m.ob
    · rw [if_pos e]; exact ⟨rfl, Nat.le_refl _⟩
    · rw [if_neg e]; exact ⟨rfl, Nat.le_refl _⟩
  · rw [if_neg h1]
    by_cases h2 : 0 < m.g.n
    · rw [if_pos h2]
      obtain ⟨e1, e2⟩ := ha_nb h { m with g := ⟨m.g.r, m.g.n - 1, m.g.z⟩ } (m.g.z (m.g.n - 1))
      exact ⟨e1, Nat.le_of_eq e2⟩
    · rw [if_neg h2]
      cases hf : fsB m with
      | some i =>
        simp only
        obtain ⟨e1, e2⟩ := ha_nb h { m with b := setB m.b i ⟨(m.b i).r, (m.b i).n - 1, (m.b i).z⟩ } ((m.b i).z ((m.b i).n - 1))
        exact ⟨e1, Nat.le_of_eq e2⟩
      | none =>
        simp only
        by_cases h3 : 0 < m.nr
        · rw [if_pos h3]; exact ⟨rfl, Nat.sub_le _ _⟩
        · rw [if_neg h3]
          by_cases h4 : ¬ m.cu = -1
          · rw [if_pos h4]
            cases hl : lbA h m.cu with
            | some a =>
              simp only
              obtain ⟨e1, e2⟩ := ha_nb h { m with cu := a + 1 } a
              exact ⟨e1, Nat.le_of_eq e2⟩
            | none => exact ⟨rfl, Nat.le_refl _⟩
          · rw [if_neg h4]
            by_cases h5 : m.ov = true
            · rw [if_pos h5]; exact ⟨rfl, Nat.le_refl _⟩
            · rw [if_neg h5]; exact ⟨rfl, Nat.le_refl _⟩
/-- What holds while marking goes on from a beginning where all was white. -/
structure MkI (h0 : Hp) (S : List Int) (h : Hp) (m : Mk) : Prop where
  u : MkU h0 (Rch h0 S) h m
  l : MkL h0 (fun x => x ∈ S) h m
  r : rightM h m
theorem MkI.step {h0 : Hp} {S : List Int} {h : Hp} {m : Mk} (hi : MkI h0 S h m) (hF : formB h0 = true) (hA : apB h0 = true) (hd : (stM h m).2.2 = false) : MkI h0 S (stM h m).1 (stM h m).2.1 ∧ muM (stM h m).1 (stM h m).2.1 + 1 ≤ muM h m := by
  obtain ⟨h1, h2⟩ := st_step (hi.u.pn.form hF) hi.r hd
  exact ⟨⟨hi.u.step hF hA hi.r rch_closed, hi.l.step hF hA hi.r, h2⟩, h1⟩
theorem MkI.exact {h0 : Hp} {S : List Int} {h : Hp} {m : Mk} (hi : MkI h0 S h m) (hF : formB h0 = true) (hd : (stM h m).2.2 = true) (a : Int) : blB h a = true ↔ Rch h0 S a := mark_exact hF hi.u hi.l hd a
theorem MkI.form {h0 : Hp} {S : List Int} {h : Hp} {m : Mk} (hi : MkI h0 S h m) (hF : formB h0 = true) : formB h = true := hi.u.pn.form hF
end Go.Proofs.YtiofeebiejkajaaDoor
namespace Go.Proofs.YtiofeebiejkajaaDoor
set_option linter.unusedSimpArgs false
set_option linter.unusedVariables false
open Go.ChangeShapes Go.WideShapes Go.ChangeAt Go.RowKit Go.Joins

/-- May they be looked at? -/
def ftD (h : Hp) (m : Mk) : Bool := formB h && decide (h.n ≤ 128) && fewM m && rtD h m
set_option maxRecDepth 20000 in
set_option maxHeartbeats 4000000 in
theorem fits17_any (p : Option Addr) (c : Nat) (q : Option Addr) (d : Nat) (h : Hp) (m : Mk) (pg : Option Addr) (cg : Nat) (pb : Option Addr) (cb : Nat) (pr : Option Addr) (cr : Nat) (w : World) (hh : HpAt w p c q d h) (hg : GrAt w pg cg m.g.n m.g.z) (hb : RAt GrC 2 w pb cb m.nb m.b) :
    Calls Tryd.prog 8 #[.agg #[.slice p h.n c, .slice q h.m d, .bool h.b], .agg #[.int .i64 m.g.r, .slice pg m.g.n cg, .slice pb m.nb cb, .slice pr m.nr cr, .int .i64 m.ob, .int .i64 m.fi, .int .i64 m.cu, .bool m.ov]] w fun e w' => e = .returned (.bool (ftD h m)) ∧ Below w.heap.size w w' := by
  obtain ⟨w0, hw0⟩ : ∃ w0, w0 = (w.alloc (.cells #[.slice p h.n c, .slice q h.m d, .bool h.b] 25)).alloc (.cells #[.int .i64 m.g.r, .slice pg m.g.n cg, .slice pb m.nb cb, .slice pr m.nr cr, .int .i64 m.ob, .int .i64 m.fi, .int .i64 m.cu, .bool m.ov] 32) := ⟨_, rfl⟩
  obtain ⟨gH, gM, hst⟩ := tbox_two hw0
  replace hb := hb.below grC_below hst
  replace hg := hg.below hst
  have hat := hh.below hst
  have hFo := fun W (hW : Below w0.heap.size w0 W) => rform_any _ _ _ _ _ W (hat.below hW)
  have hFe := fun W (hW : Below w0.heap.size w0 W) => rfew17_any m pg cg pb cb pr cr W (hb.below grC_below hW)
  obtain ⟨l0, x0, x1, x2⟩ : w.heap.size < w0.heap.size ∧ w0.cell? ⟨w.heap.size, 0, none⟩ = some (.slice p h.n c) ∧ w0.cell? ⟨w.heap.size, 1, none⟩ = some (.slice q h.m d) ∧ w0.cell? ⟨w.heap.size, 2, none⟩ = some (.bool h.b) := ⟨gH.lt, gH.cell 0, gH.cell 1, gH.cell 2⟩
  obtain ⟨l8, y0, y1, y2, y3, y4, y5, y6, y7⟩ := mk_cells gM
  by_cases hF : formB h = true
  · have hRi := fun W (hW : Below w0.heap.size w0 W) => rright17_any p c q d h m pg cg pb cb pr cr W (hat.below hW) hF (hg.below hW) (hb.below grC_below hW)
    unfold ftD
    rw [hF] at hFo ⊢
    generalize fewM m = B1 at *
    generalize rtD h m = B2 at *
    clear hF hat hg hb hh
    have hcs : ((h.n : Int) ≤ 128 ∧ h.n ≤ 128) ∨ (¬ (h.n : Int) ≤ 128 ∧ ¬ h.n ≤ 128) := by omega
    rcases hcs with ⟨d1, d2⟩ | ⟨d1, d2⟩
    · rw [decide_eq_true d2]
      have d3 : decide ((h.n : Int) ≤ 128) = true := decide_eq_true d1
      cases B1 with
      | true =>
        go_enter Tryd.func8, Tryd.ntmps8
        go_upto_region 1 with fail
        rw [← hw0]
        clear hw0
        go_wp2_with (first
    | (go_at_call 19; refine Calls.mono (hFo _ (by go_grown)) ?_; rintro e w' ⟨rfl, hb⟩; obtain ⟨hc, hf, hb, hz⟩ := bstep hb (w := w0) (by go_grown); try simp only [World.size_alloc, World.size_setCell, World.size_drew] at hc hf hz)
    | (go_at_call 28; refine Calls.mono (hFe _ (by go_grown)) ?_; rintro e w' ⟨rfl, hb⟩; obtain ⟨hc, hf, hb, hz⟩ := bstep hb (w := w0) (by go_grown); try simp only [World.size_alloc, World.size_setCell, World.size_drew] at hc hf hz)
    | (go_at_call 18; refine Calls.mono (hRi _ (by go_grown)) ?_; rintro e w' ⟨rfl, hb⟩; obtain ⟨hc, hf, hb, hz⟩ := bstep hb (w := w0) (by go_grown); try simp only [World.size_alloc, World.size_setCell, World.size_drew] at hc hf hz)
        )
        go_returns
        exact ⟨ret_bool (by simp), bjoin hb hst⟩
      | false =>
        go_enter Tryd.func8, Tryd.ntmps8
        go_upto_region 1 with fail
        rw [← hw0]
        clear hw0
        go_wp2_with (first
    | (go_at_call 19; refine Calls.mono (hFo _ (by go_grown)) ?_; rintro e w' ⟨rfl, hb⟩; obtain ⟨hc, hf, hb, hz⟩ := bstep hb (w := w0) (by go_grown); try simp only [World.size_alloc, World.size_setCell, World.size_drew] at hc hf hz)
    | (go_at_call 28; refine Calls.mono (hFe _ (by go_grown)) ?_; rintro e w' ⟨rfl, hb⟩; obtain ⟨hc, hf, hb, hz⟩ := bstep hb (w := w0) (by go_grown); try simp only [World.size_alloc, World.size_setCell, World.size_drew] at hc hf hz)
        )
        go_returns
        exact ⟨ret_bool (by simp), bjoin hb hst⟩
    · rw [decide_eq_false d2]
      have d3 : decide ((h.n : Int) ≤ 128) = false := decide_eq_false d1
      go_enter Tryd.func8, Tryd.ntmps8
      go_upto_region 1 with fail
      rw [← hw0]
      clear hw0
      go_wp2_with (first
    | (go_at_call 19; refine Calls.mono (hFo _ (by go_grown)) ?_; rintro e w' ⟨rfl, hb⟩; obtain ⟨hc, hf, hb, hz⟩ := bstep hb (w := w0) (by go_grown); try simp only [World.size_alloc, World.size_setCell, World.size_drew] at hc hf hz)
      )
      go_returns
      exact ⟨ret_bool (by simp), bjoin hb hst⟩
  · have hF0 : formB h = false := by simpa using hF
    unfold ftD
    rw [hF0] at hFo ⊢
    clear hF hat hg hb hh hF0
    go_enter Tryd.func8, Tryd.ntmps8
    go_upto_region 1 with fail
    rw [← hw0]
    clear hw0
    go_wp2_with (first
    | (go_at_call 19; refine Calls.mono (hFo _ (by go_grown)) ?_; rintro e w' ⟨rfl, hb⟩; obtain ⟨hc, hf, hb, hz⟩ := bstep hb (w := w0) (by go_grown); try simp only [World.size_alloc, World.size_setCell, World.size_drew] at hc hf hz)
    )
    go_returns
    exact ⟨ret_bool (by simp), bjoin hb hst⟩
end Go.Proofs.YtiofeebiejkajaaDoor
namespace Go.Proofs.YtiofeebiejkajaaDoor
set_option linter.unusedSimpArgs false
set_option linter.unusedVariables false
open Go.ChangeShapes Go.WideShapes Go.ChangeAt Go.RowKit Go.Joins

/-- A reference. -/
def rfV (a : Int) : Vl := ⟨2, a⟩
/-- The cells of a list of values. -/
def LV (L : List Vl) : List Value := vlVals L.length fun i => L[i]?.getD ⟨0, 0⟩
theorem LV_snoc (L : List Vl) (v : Vl) : LV L ++ v.vals = LV (L ++ [v]) := by
  unfold LV
  rw [List.length_append, List.length_singleton, ← vlVals_snoc]
  congr 1
  · exact vlVals_congr fun i hi => by rw [List.getElem?_append_left hi]
  · rw [List.getElem?_append_right (Nat.le_refl _), Nat.sub_self]; rfl
theorem LV_range (n : Nat) (z : Nat → Vl) : LV ((List.range n).map z) = vlVals n z := by
  unfold LV
  rw [List.length_map, List.length_range]
  exact vlVals_congr fun i hi => by simp [hi]
theorem va_list {W : World} {N : Nat} {p : Option Addr} {c : Nat} {L : List Vl} (h : W.ownsRow N 38 2 (.slice p L.length c) L.length (LV L)) (hn : L.length ≤ maxLen) (hw : ∀ v ∈ L, v.wf) : VAt W p c L.length fun i => L[i]?.getD ⟨0, 0⟩ :=
  va_owned h hn fun i hi => by rw [List.getElem?_eq_getElem hi]; exact hw _ (List.getElem_mem hi)
/-- Rows of other elements than an own row's stay as that grows. -/
theorem rowE_grown {W W' : World} {N B : Nat} {E E' : TypeId} {n s k : Nat} {p : Option Addr} {v : Value} {xs : List Value} (h : RowE N E n p W) (hT : ¬ E = E') (hown : W.ownsRow B E' s v k xs) (hN : N ≤ B) (hg : W.grownBy W' v.ownBlock) :
    (0 < n → ∀ b off sp, p = some ⟨b, off, sp⟩ → W'.heap[b]? = W.heap[b]?) ∧ RowE N E n p W' := by
  have key : 0 < n → ∀ b off sp, p = some ⟨b, off, sp⟩ → W'.heap[b]? = W.heap[b]? := fun h0 b off sp e => by
    obtain ⟨hl, h1⟩ := h h0 b off sp e
    refine hg.block b hl fun eb => ?_
    have hb := (hown.lt b eb.symm).1
    rcases h1 with h1 | ⟨cs, h1⟩
    · omega
    · obtain ⟨q, c, rfl, -⟩ := owned_new hown
      cases q with
      | none => cases eb
      | some a =>
        obtain ⟨g, o, sp'⟩ := a
        injection eb with eb
        obtain ⟨cs', h2⟩ := owned_tag hown g o sp' rfl
        replace eb : b = g := eb
        subst eb
        rw [h2] at h1
        injection h1 with h1
        injection h1 with _ h1
        exact hT h1.symm
  refine ⟨key, fun h0 b off sp e => ?_⟩
  obtain ⟨hl, h1⟩ := h h0 b off sp e
  refine ⟨Nat.lt_of_lt_of_le hl hg.size, ?_⟩
  rcases h1 with h1 | ⟨cs, h1⟩
  · exact .inl h1
  · exact .inr ⟨cs, (key h0 b off sp e).trans h1⟩
end Go.Proofs.YtiofeebiejkajaaDoor
namespace Go.Proofs.YtiofeebiejkajaaDoor
set_option linter.unusedSimpArgs false
set_option linter.unusedVariables false
open Go.ChangeShapes Go.WideShapes Go.ChangeAt Go.RowKit Go.Joins

/-- A row of flags. -/
def flV (n : Nat) (X : Nat → Bool) : List Value := (List.range n).map fun i => .bool (X i)
theorem flV_len (n : Nat) (X : Nat → Bool) : (flV n X).length = n := by simp [flV]
theorem flV_get {n i : Nat} {X : Nat → Bool} (h : i < n) : (flV n X)[i]? = some (.bool (X i)) := by simp [flV, h]
theorem flV_congr {n : Nat} {X Y : Nat → Bool} (e : ∀ i, i < n → X i = Y i) : flV n X = flV n Y := by
  unfold flV
  apply List.map_congr_left
  intro i hi
  rw [e i (List.mem_range.1 hi)]
def flS (X : Nat → Bool) (i : Nat) (b : Bool) : Nat → Bool := fun k => if k = i then b else X k
theorem flV_set {n i : Nat} {X : Nat → Bool} {b : Bool} : (flV n X).set i (.bool b) = flV n (flS X i b) := by
  apply List.ext_getElem?
  intro k
  rw [List.getElem?_set, flV_len]
  by_cases hk : k < n
  · rw [flV_get hk]
    by_cases e : i = k
    · subst e; rw [if_pos rfl, if_pos hk, flV_get hk]; simp [flS]
    · rw [if_neg e, flV_get hk]
      simp [flS, show ¬ k = i from fun h => e h.symm]
  · have h1 : (flV n X)[k]? = none := List.getElem?_eq_none (by rw [flV_len]; omega)
    have h2 : (flV n (flS X i b))[k]? = none := List.getElem?_eq_none (by rw [flV_len]; omega)
    rw [h1, h2]
    by_cases e : i = k
    · rw [if_pos e, if_neg (by omega)]
    · rw [if_neg e]
theorem flV_nought (n : Nat) : List.replicate n (Value.bool false) = flV n fun _ => false := by
  unfold flV
  rw [List.map_const', List.length_range]
/-- How many flags stand. -/
def flN (n : Nat) (X : Nat → Bool) : Nat := ((List.range n).filter X).length
theorem flN_le (n : Nat) (X : Nat → Bool) : flN n X ≤ n := by have := List.length_filter_le X (List.range n); rwa [List.length_range] at this
theorem flN_succ (n : Nat) (X : Nat → Bool) : flN (n + 1) X = flN n X + if X n = true then 1 else 0 := by
  unfold flN
  rw [List.range_succ, List.filter_append, List.length_append]
  congr 1
  by_cases h : X n = true
  · simp [h]
  · simp [h]
theorem flN_mono {X Y : Nat → Bool} : ∀ {n : Nat}, (∀ i, i < n → X i = true → Y i = true) → flN n X ≤ flN n Y
  | 0, _ => Nat.le_refl _
  | n + 1, h => by
    have ih := flN_mono (n := n) fun i hi => h i (by omega)
    rw [flN_succ, flN_succ]
    by_cases hx : X n = true
    · rw [if_pos hx, if_pos (h n (by omega) hx)]; omega
    · rw [if_neg hx]; omega
theorem flN_less {X Y : Nat → Bool} {k : Nat} : ∀ {n : Nat}, (∀ i, i < n → X i = true → Y i = true) → k < n → ¬ X k = true → Y k = true → flN n X < flN n Y
  | 0, _, hk, _, _ => by omega
  | n + 1, h, hk, h0, h1 => by
    rw [flN_succ, flN_succ]
    by_cases e : k = n
    · subst e
      have ih := flN_mono (n := k) fun i hi => h i (by omega)
      rw [if_neg h0, if_pos h1]; omega
    · have ih := flN_less (n := n) (fun i hi => h i (by omega)) (by omega) h0 h1
      by_cases hx : X n = true
      · rw [if_pos hx, if_pos (h n (by omega) hx)]; omega
      · rw [if_neg hx]; omega
theorem flN_full {X : Nat → Bool} {n : Nat} (h : n ≤ flN n X) : ∀ i, i < n → X i = true := fun i hi => by
  by_cases e : X i = true
  · exact e
  · have := flN_less (X := X) (Y := fun _ => true) (k := i) (n := n) (fun _ _ _ => rfl) hi e rfl
    have := flN_le n fun _ => true
    omega
/-- Closed flags. -/
def ClF (h : Hp) (n : Nat) (l : Nat → Int) (X : Nat → Bool) : Prop := ∀ i, i < n → X i = true → ∀ k, k < n → l k ∈ rfH h (l i) → X k = true
/-- What holds behind r rounds. -/
def RdF (h : Hp) (S : List Int) (n : Nat) (l : Nat → Int) (r : Nat) (X : Nat → Bool) : Prop :=
  (∀ i, i < n → l i ∈ S → X i = true) ∧ (∀ i, i < n → X i = true → Rch h S (l i)) ∧ (ClF h n l X ∨ r ≤ flN n X)
/-- What holds within a round: at object j, k of the objects looked at. -/
def RiF (h : Hp) (S : List Int) (n : Nat) (l : Nat → Int) (X : Nat → Bool) (j : Nat) (Y : Nat → Bool) : Prop :=
  (∀ i, i < n → X i = true → Y i = true) ∧ (∀ i, i < n → Y i = true → Rch h S (l i)) ∧ ∀ i, i < j → X i = true → ∀ k, k < n → l k ∈ rfH h (l i) → Y k = true
def RkF (h : Hp) (S : List Int) (n : Nat) (l : Nat → Int) (X : Nat → Bool) (j k : Nat) (Y : Nat → Bool) : Prop :=
  RiF h S n l X j Y ∧ ∀ t, t < k → l t ∈ rfH h (l j) → Y t = true
section
variable {h : Hp} {S : List Int} {n r j k : Nat} {l : Nat → Int} {X Y : Nat → Bool}
theorem ri_start (hx : RdF h S n l r X) : RiF h S n l X 0 X := ⟨fun _ _ h => h, hx.2.1, fun i hi => by omega⟩
theorem ri_skip (hy : RiF h S n l X j Y) (hj : j < n) (e : Y j = false) : RiF h S n l X (j + 1) Y := ⟨hy.1, hy.2.1, fun i hi hX k hk hm => by
  by_cases ei : i = j
  · subst ei
    have := hy.1 i hj hX
    rw [e] at this
    cases this
  · exact hy.2.2 i (by omega) hX k hk hm⟩
theorem rk_start (hy : RiF h S n l X j Y) : RkF h S n l X j 0 Y := ⟨hy, fun t ht => by omega⟩
theorem rk_done (hy : RkF h S n l X j n Y) : RiF h S n l X (j + 1) Y := ⟨hy.1.1, hy.1.2.1, fun i hi hX k hk hm => by
  by_cases ei : i = j
  · subst ei; exact hy.2 k hk hm
  · exact hy.1.2.2 i (by omega) hX k hk hm⟩
theorem rk_step (ho : ∀ i, i < n → obB h (l i) = true) (hr : Rch h S (l j)) (hk : k < n) (hy : RkF h S n l X j k Y) {b : Bool} (hb : b = true ↔ (Y k = true ∨ l k ∈ rfH h (l j))) : RkF h S n l X j (k + 1) (flS Y k b) := by
  have up : ∀ i, Y i = true → flS Y k b i = true := fun i e => by
    unfold flS
    by_cases ei : i = k
    · subst ei; rw [if_pos rfl]; exact hb.2 (.inl e)
    · rw [if_neg ei]; exact e
  refine ⟨⟨fun i hi hX => up i (hy.1.1 i hi hX), fun i hi e => ?_, fun i hi hX t ht hm => up t (hy.1.2.2 i hi hX t ht hm)⟩, fun t ht hm => ?_⟩
  · by_cases ei : i = k
    · subst ei
      unfold flS at e
      rw [if_pos rfl] at e
      rcases hb.1 e with h1 | h1
      · exact hy.1.2.1 i hi h1
      · exact hr.step h1 (ho i hi)
    · unfold flS at e
      rw [if_neg ei] at e
      exact hy.1.2.1 i hi e
  · by_cases et : t = k
    · subst et
      unfold flS
      rw [if_pos rfl]
      exact hb.2 (.inr hm)
    · exact up t (hy.2 t (by omega) hm)
theorem rd_closed (hl : ∀ a, obB h a = true → ∃ i, i < n ∧ l i = a) (h0 : ∀ i, i < n → l i ∈ S → X i = true) (hc : ClF h n l X) {a : Int} (hr : Rch h S a) : ∀ k, k < n → l k = a → X k = true := by
  refine (hr (fun a => obB h a = true ∧ ∀ k, k < n → l k = a → X k = true) (fun x hx ho => ⟨ho, fun k hk e => h0 k hk (e ▸ hx)⟩) (fun x y hx hy ho => ⟨ho, fun k hk e => ?_⟩)).2
  obtain ⟨i, hi, e1⟩ := hl x hx.1
  exact hc i hi (hx.2 i hi e1) k hk (by rw [e, e1]; exact hy)
theorem rd_step (hl : ∀ a, obB h a = true → ∃ i, i < n ∧ l i = a) (hx : RdF h S n l r X) (hy : RiF h S n l X n Y) : RdF h S n l (r + 1) Y := by
  refine ⟨fun i hi e => hy.1 i hi (hx.1 i hi e), hy.2.1, ?_⟩
  by_cases hs : ∀ k, k < n → Y k = true → X k = true
  · exact .inl fun i hi hY k hk hm => hy.2.2 i hi (hs i hi hY) k hk hm
  · obtain ⟨k, hk⟩ := Classical.not_forall.1 hs
    obtain ⟨hk, hs2⟩ := Classical.not_imp.1 hk
    obtain ⟨hY, hX⟩ := Classical.not_imp.1 hs2
    rcases hx.2.2 with hc | hc
    · exact absurd (rd_closed hl hx.1 hc (hy.2.1 k hk hY) k hk rfl) hX
    · have := flN_less hy.1 hk hX hY
      exact .inr (by omega)
theorem rd_end (hl : ∀ a, obB h a = true → ∃ i, i < n ∧ l i = a) (hx : RdF h S n l n X) {k : Nat} (hk : k < n) : X k = true ↔ Rch h S (l k) := by
  refine ⟨hx.2.1 k hk, fun hr => ?_⟩
  rcases hx.2.2 with hc | hc
  · exact rd_closed hl hx.1 hc hr k hk rfl
  · exact flN_full hc k hk
/-- The roots' flags: of the objects up to i, and of i by k of the values. -/
def rtF (l : Nat → Int) (z : Nat → Vl) (K i k : Nat) : Nat → Bool := fun t => if t < i then decide (l t ∈ vrL z K) else if t = i then decide (l t ∈ vrL z k) else false
theorem rt_row {z : Nat → Vl} {K i : Nat} : rtF l z K i K = rtF l z K (i + 1) 0 := by
  funext t
  unfold rtF
  by_cases h1 : t < i
  · rw [if_pos h1, if_pos (by omega)]
  · rw [if_neg h1]
    by_cases h2 : t = i
    · rw [if_pos h2, if_pos (by omega)]
    · rw [if_neg h2, if_neg (by omega)]
      by_cases h3 : t = i + 1
      · rw [if_pos h3]; simp [vrL]
      · rw [if_neg h3]
theorem rt_nought {z : Nat → Vl} {K : Nat} : rtF l z K 0 0 = fun _ => false := by
  funext t
  unfold rtF
  rw [if_neg (by omega)]
  split
  · simp [vrL]
  · rfl
theorem rt_at {z : Nat → Vl} {K i k : Nat} : rtF l z K i k i = decide (l i ∈ vrL z k) := by unfold rtF; rw [if_neg (by omega), if_pos rfl]
theorem rt_step {z : Nat → Vl} {K i k : Nat} {b : Bool} (hb : b = true ↔ (rtF l z K i k i = true ∨ ((z k).k = 2 ∧ (z k).n = l i))) : flS (rtF l z K i k) i b = rtF l z K i (k + 1) := by
  funext t
  unfold flS
  by_cases e : t = i
  · subst e
    rw [if_pos rfl, rt_at, Bool.eq_iff_iff, hb, rt_at]
    simp only [decide_eq_true_eq]
    rw [show vrL z (k + 1) = (if (z k).k = 2 then vrL z k ++ [(z k).n] else vrL z k) from rfl]
    by_cases e2 : (z k).k = 2
    · rw [if_pos e2]
      simp only [List.mem_append, List.mem_singleton, e2, true_and]
      exact or_congr_right eq_comm
    · rw [if_neg e2]; simp [e2]
  · rw [if_neg e]
    unfold rtF
    by_cases h1 : t < i
    · rw [if_pos h1, if_pos h1]
    · rw [if_neg h1, if_neg h1, if_neg e, if_neg e]
theorem rt_end {z : Nat → Vl} {K : Nat} (ho : ∀ i, i < n → obB h (l i) = true) : RdF h (vrL z K) n l 0 (rtF l z K n 0) := by
  refine ⟨fun i hi hm => ?_, fun i hi e => ?_, .inr (Nat.zero_le _)⟩
  · unfold rtF; rw [if_pos hi]; simpa using hm
  · unfold rtF at e; rw [if_pos hi] at e; exact .root (by simpa using e) (ho i hi)
end
open Classical in
open Classical in
noncomputable def rcB (h : Hp) (S : List Int) (a : Int) : Bool := decide (Rch h S a)
theorem rd_flags {h : Hp} {S : List Int} {n : Nat} {l : Nat → Int} {X : Nat → Bool} (hl : ∀ a, obB h a = true → ∃ i, i < n ∧ l i = a) (hx : RdF h S n l n X) : flV n X = flV n fun i => rcB h S (l i) := flV_congr fun i hi => by
  rw [Bool.eq_iff_iff, rd_end hl hx hi]
  unfold rcB
  simp
theorem inZ_mem {L : List Int} {x : Int} : (inZ L.length (fun i => L[i]?.getD 0) x = true) ↔ x ∈ L := by
  rw [inZ_iff]
  constructor
  · rintro ⟨i, hi, e⟩
    rw [List.getElem?_eq_getElem hi] at e
    rw [← e]
    exact List.getElem_mem hi
  · intro hm
    obtain ⟨i, hi, rfl⟩ := List.getElem_of_mem hm
    exact ⟨i, hi, by rw [List.getElem?_eq_getElem hi]; rfl⟩
end Go.Proofs.YtiofeebiejkajaaDoor
