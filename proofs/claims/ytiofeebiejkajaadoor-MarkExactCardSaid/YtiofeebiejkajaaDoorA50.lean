/- The laws' guard of layer 17: whether a heap and a marker may be looked at. -/
import Derived.Test.YtiofeebiejkajaaDoorA47
import Derived.Test.YtiofeebiejkajaaDoorA48
import Derived.Test.YtiofeebiejkajaaDoorA20
import Derived.Test.YtiofeebiejkajaaDoorA33
namespace Go.Proofs.YtiofeebiejkajaaDoor
set_option linter.unusedSimpArgs false
set_option linter.unusedVariables false
open Go.ChangeShapes Go.WideShapes Go.ChangeAt Go.RowKit Go.Joins

/-- May they be looked at? -/
def ftD (h : Hp) (m : Mk) : Bool := formB h && decide (h.n ≤ 128) && fewM m && rtD h m
set_option maxRecDepth 20000 in
set_option maxHeartbeats 4000000 in
theorem fits17_any (p : Option Addr) (c : Nat) (q : Option Addr) (d : Nat) (h : Hp) (m : Mk) (pg : Option Addr) (cg : Nat) (pb : Option Addr) (cb : Nat) (pr : Option Addr) (cr : Nat) (w : World) (hh : HpAt w p c q d h) (hg : GrAt w pg cg m.g.n m.g.z) (hb : RAt GrC 2 w pb cb m.nb m.b) :
    Calls Tryd.prog 8 #[.agg #[.slice p h.n c, .slice q h.m d, .bool h.b], .agg #[.int .i64 m.g.r, .slice pg m.g.n cg, .slice pb m.nb cb, .slice pr m.nr cr, .int .i64 m.ob, .int .i64 m.fi, .int .i64 m.cu, .bool m.ov]] w fun e w' => e = .returned (.bool (ftD h m)) ∧ Below w.heap.size w w' := by
  obtain ⟨w0, hw0⟩ : ∃ w0, w0 = (w.alloc (.cells #[.slice p h.n c, .slice q h.m d, .bool h.b] 25)).alloc (.cells #[.int .i64 m.g.r, .slice pg m.g.n cg, .slice pb m.nb cb, .slice pr m.nr cr, .int .i64 m.ob, .int .i64 m.fi, .int .i64 m.cu, .bool m.ov] 32) := ⟨_, rfl⟩
  obtain ⟨gH, gM, hst⟩ := tbox_two hw0
  replace hb := hb.below grC_below hst
  replace hg := hg.below hst
  have hat := hh.below hst
  have hFo := fun W (hW : Below w0.heap.size w0 W) => rform_any _ _ _ _ _ W (hat.below hW)
  have hFe := fun W (hW : Below w0.heap.size w0 W) => rfew17_any m pg cg pb cb pr cr W (hb.below grC_below hW)
  obtain ⟨l0, x0, x1, x2⟩ : w.heap.size < w0.heap.size ∧ w0.cell? ⟨w.heap.size, 0, none⟩ = some (.slice p h.n c) ∧ w0.cell? ⟨w.heap.size, 1, none⟩ = some (.slice q h.m d) ∧ w0.cell? ⟨w.heap.size, 2, none⟩ = some (.bool h.b) := ⟨gH.lt, gH.cell 0, gH.cell 1, gH.cell 2⟩
  obtain ⟨l8, y0, y1, y2, y3, y4, y5, y6, y7⟩ := mk_cells gM
  by_cases hF : formB h = true
  · have hRi := fun W (hW : Below w0.heap.size w0 W) => rright17_any p c q d h m pg cg pb cb pr cr W (hat.below hW) hF (hg.below hW) (hb.below grC_below hW)
    unfold ftD
    rw [hF] at hFo ⊢
    generalize fewM m = B1 at *
    generalize rtD h m = B2 at *
    clear hF hat hg hb hh
    have hcs : ((h.n : Int) ≤ 128 ∧ h.n ≤ 128) ∨ (¬ (h.n : Int) ≤ 128 ∧ ¬ h.n ≤ 128) := by omega
    rcases hcs with ⟨d1, d2⟩ | ⟨d1, d2⟩
    · rw [decide_eq_true d2]
      have d3 : decide ((h.n : Int) ≤ 128) = true := decide_eq_true d1
      cases B1 with
      | true =>
        go_enter Tryd.func8, Tryd.ntmps8
        go_upto_region 1 with fail
        rw [← hw0]
        clear hw0
        go_wp2_with (first
    | (go_at_call 19; refine Calls.mono (hFo _ (by go_grown)) ?_; rintro e w' ⟨rfl, hb⟩; obtain ⟨hc, hf, hb, hz⟩ := bstep hb (w := w0) (by go_grown); try simp only [World.size_alloc, World.size_setCell, World.size_drew] at hc hf hz)
    | (go_at_call 28; refine Calls.mono (hFe _ (by go_grown)) ?_; rintro e w' ⟨rfl, hb⟩; obtain ⟨hc, hf, hb, hz⟩ := bstep hb (w := w0) (by go_grown); try simp only [World.size_alloc, World.size_setCell, World.size_drew] at hc hf hz)
    | (go_at_call 18; refine Calls.mono (hRi _ (by go_grown)) ?_; rintro e w' ⟨rfl, hb⟩; obtain ⟨hc, hf, hb, hz⟩ := bstep hb (w := w0) (by go_grown); try simp only [World.size_alloc, World.size_setCell, World.size_drew] at hc hf hz)
        )
        go_returns
        exact ⟨ret_bool (by simp), bjoin hb hst⟩
      | false =>
        go_enter Tryd.func8, Tryd.ntmps8
        go_upto_region 1 with fail
        rw [← hw0]
        clear hw0
        go_wp2_with (first
    | (go_at_call 19; refine Calls.mono (hFo _ (by go_grown)) ?_; rintro e w' ⟨rfl, hb⟩; obtain ⟨hc, hf, hb, hz⟩ := bstep hb (w := w0) (by go_grown); try simp only [World.size_alloc, World.size_setCell, World.size_drew] at hc hf hz)
    | (go_at_call 28; refine Calls.mono (hFe _ (by go_grown)) ?_; rintro e w' ⟨rfl, hb⟩; obtain ⟨hc, hf, hb, hz⟩ := bstep hb (w := w0) (by go_grown); try simp only [World.size_alloc, World.size_setCell, World.size_drew] at hc hf hz)
        )
        go_returns
        exact ⟨ret_bool (by simp), bjoin hb hst⟩
    · rw [decide_eq_false d2]
      have d3 : decide ((h.n : Int) ≤ 128) = false := decide_eq_false d1
      go_enter Tryd.func8, Tryd.ntmps8
      go_upto_region 1 with fail
      rw [← hw0]
      clear hw0
      go_wp2_with (first
    | (go_at_call 19; refine Calls.mono (hFo _ (by go_grown)) ?_; rintro e w' ⟨rfl, hb⟩; obtain ⟨hc, hf, hb, hz⟩ := bstep hb (w := w0) (by go_grown); try simp only [World.size_alloc, World.size_setCell, World.size_drew] at hc hf hz)
      )
      go_returns
      exact ⟨ret_bool (by simp), bjoin hb hst⟩
  · have hF0 : formB h = false := by simpa using hF
    unfold ftD
    rw [hF0] at hFo ⊢
    clear hF hat hg hb hh hF0
    go_enter Tryd.func8, Tryd.ntmps8
    go_upto_region 1 with fail
    rw [← hw0]
    clear hw0
    go_wp2_with (first
    | (go_at_call 19; refine Calls.mono (hFo _ (by go_grown)) ?_; rintro e w' ⟨rfl, hb⟩; obtain ⟨hc, hf, hb, hz⟩ := bstep hb (w := w0) (by go_grown); try simp only [World.size_alloc, World.size_setCell, World.size_drew] at hc hf hz)
    )
    go_returns
    exact ⟨ret_bool (by simp), bjoin hb hst⟩
end Go.Proofs.YtiofeebiejkajaaDoor
namespace Go.Proofs.YtiofeebiejkajaaDoor
set_option linter.unusedSimpArgs false
set_option linter.unusedVariables false
open Go.ChangeShapes Go.WideShapes Go.ChangeAt Go.RowKit Go.Joins

/-- A row of flags. -/
def flV (n : Nat) (X : Nat → Bool) : List Value := (List.range n).map fun i => .bool (X i)
theorem flV_len (n : Nat) (X : Nat → Bool) : (flV n X).length = n := by simp [flV]
theorem flV_get {n i : Nat} {X : Nat → Bool} (h : i < n) : (flV n X)[i]? = some (.bool (X i)) := by simp [flV, h]
theorem flV_congr {n : Nat} {X Y : Nat → Bool} (e : ∀ i, i < n → X i = Y i) : flV n X = flV n Y := by
  unfold flV
  apply List.map_congr_left
  intro i hi
  rw [e i (List.mem_range.1 hi)]
def flS (X : Nat → Bool) (i : Nat) (b : Bool) : Nat → Bool := fun k => if k = i then b else X k
theorem flV_set {n i : Nat} {X : Nat → Bool} {b : Bool} : (flV n X).set i (.bool b) = flV n (flS X i b) := by
  apply List.ext_getElem?
  intro k
  rw [List.getElem?_set, flV_len]
  by_cases hk : k < n
  · rw [flV_get hk]
    by_cases e : i = k
    · subst e; rw [if_pos rfl, if_pos hk, flV_get hk]; simp [flS]
    · rw [if_neg e, flV_get hk]
      simp [flS, show ¬ k = i from fun h => e h.symm]
  · have h1 : (flV n X)[k]? = none := List.getElem?_eq_none (by rw [flV_len]; omega)
    have h2 : (flV n (flS X i b))[k]? = none := List.getElem?_eq_none (by rw [flV_len]; omega)
    rw [h1, h2]
    by_cases e : i = k
    · rw [if_pos e, if_neg (by omega)]
    · rw [if_neg e]
theorem flV_nought (n : Nat) : List.replicate n (Value.bool false) = flV n fun _ => false := by
  unfold flV
  rw [List.map_const', List.length_range]
/-- How many flags stand. -/
def flN (n : Nat) (X : Nat → Bool) : Nat := ((List.range n).filter X).length
theorem flN_le (n : Nat) (X : Nat → Bool) : flN n X ≤ n := by have := List.length_filter_le X (List.range n); rwa [List.length_range] at this
theorem flN_succ (n : Nat) (X : Nat → Bool) : flN (n + 1) X = flN n X + if X n = true then 1 else 0 := by
  unfold flN
  rw [List.range_succ, List.filter_append, List.length_append]
  congr 1
  by_cases h : X n = true
  · simp [h]
  · simp [h]
theorem flN_mono {X Y : Nat → Bool} : ∀ {n : Nat}, (∀ i, i < n → X i = true → Y i = true) → flN n X ≤ flN n Y
  | 0, _ => Nat.le_refl _
  | n + 1, h => by
    have ih := flN_mono (n := n) fun i hi => h i (by omega)
    rw [flN_succ, flN_succ]
    by_cases hx : X n = true
    · rw [if_pos hx, if_pos (h n (by omega) hx)]; omega
    · rw [if_neg hx]; omega
theorem flN_less {X Y : Nat → Bool} {k : Nat} : ∀ {n : Nat}, (∀ i, i < n → X i = true → Y i = true) → k < n → ¬ X k = true → Y k = true → flN n X < flN n Y
  | 0, _, hk, _, _ => by omega
  | n + 1, h, hk, h0, h1 => by
    rw [flN_succ, flN_succ]
    by_cases e : k = n
    · subst e
      have ih := flN_mono (n := k) fun i hi => h i (by omega)
      rw [if_neg h0, if_pos h1]; omega
    · have ih := flN_less (n := n) (fun i hi => h i (by omega)) (by omega) h0 h1
      by_cases hx : X n = true
      · rw [if_pos hx, if_pos (h n (by omega) hx)]; omega
      · rw [if_neg hx]; omega
theorem flN_full {X : Nat → Bool} {n : Nat} (h : n ≤ flN n X) : ∀ i, i < n → X i = true := fun i hi => by
  by_cases e : X i = true
  · exact e
  · have := flN_less (X := X) (Y := fun _ => true) (k := i) (n := n) (fun _ _ _ => rfl) hi e rfl
    have := flN_le n fun _ => true
    omega
/-- Closed flags. -/
def ClF (h : Hp) (n : Nat) (l : Nat → Int) (X : Nat → Bool) : Prop := ∀ i, i < n → X i = true → ∀ k, k < n → l k ∈ rfH h (l i) → X k = true
/-- What holds behind r rounds. -/
def RdF (h : Hp) (S : List Int) (n : Nat) (l : Nat → Int) (r : Nat) (X : Nat → Bool) : Prop :=
  (∀ i, i < n → l i ∈ S → X i = true) ∧ (∀ i, i < n → X i = true → Rch h S (l i)) ∧ (ClF h n l X ∨ r ≤ flN n X)
/-- What holds within a round: at object j, k of the objects looked at. -/
def RiF (h : Hp) (S : List Int) (n : Nat) (l : Nat → Int) (X : Nat → Bool) (j : Nat) (Y : Nat → Bool) : Prop :=
  (∀ i, i < n → X i = true → Y i = true) ∧ (∀ i, i < n → Y i = true → Rch h S (l i)) ∧ ∀ i, i < j → X i = true → ∀ k, k < n → l k ∈ rfH h (l i) → Y k = true
def RkF (h : Hp) (S : List Int) (n : Nat) (l : Nat → Int) (X : Nat → Bool) (j k : Nat) (Y : Nat → Bool) : Prop :=
  RiF h S n l X j Y ∧ ∀ t, t < k → l t ∈ rfH h (l j) → Y t = true
section
variable {h : Hp} {S : List Int} {n r j k : Nat} {l : Nat → Int} {X Y : Nat → Bool}
theorem ri_start (hx : RdF h S n l r X) : RiF h S n l X 0 X := ⟨fun _ _ h => h, hx.2.1, fun i hi => by omega⟩
theorem ri_skip (hy : RiF h S n l X j Y) (hj : j < n) (e : Y j = false) : RiF h S n l X (j + 1) Y := ⟨hy.1, hy.2.1, fun i hi hX k hk hm => by
  by_cases ei : i = j
  · subst ei
    have := hy.1 i hj hX
    rw [e] at this
    cases this
  · exact hy.2.2 i (by omega) hX k hk hm⟩
theorem rk_start (hy : RiF h S n l X j Y) : RkF h S n l X j 0 Y := ⟨hy, fun t ht => by omega⟩
theorem rk_done (hy : RkF h S n l X j n Y) : RiF h S n l X (j + 1) Y := ⟨hy.1.1, hy.1.2.1, fun i hi hX k hk hm => by
  by_cases ei : i = j
  · subst ei; exact hy.2 k hk hm
  · exact hy.1.2.2 i (by omega) hX k hk hm⟩
theorem rk_step (ho : ∀ i, i < n → obB h (l i) = true) (hr : Rch h S (l j)) (hk : k < n) (hy : RkF h S n l X j k Y) {b : Bool} (hb : b = true ↔ (Y k = true ∨ l k ∈ rfH h (l j))) : RkF h S n l X j (k + 1) (flS Y k b) := by
  have up : ∀ i, Y i = true → flS Y k b i = true := fun i e => by
    unfold flS
    by_cases ei : i = k
    · subst ei; rw [if_pos rfl]; exact hb.2 (.inl e)
    · rw [if_neg ei]; exact e
  refine ⟨⟨fun i hi hX => up i (hy.1.1 i hi hX), fun i hi e => ?_, fun i hi hX t ht hm => up t (hy.1.2.2 i hi hX t ht hm)⟩, fun t ht hm => ?_⟩
  · by_cases ei : i = k
    · subst ei
      unfold flS at e
      rw [if_pos rfl] at e
      rcases hb.1 e with h1 | h1
      · exact hy.1.2.1 i hi h1
      · exact hr.step h1 (ho i hi)
    · unfold flS at e
      rw [if_neg ei] at e
      exact hy.1.2.1 i hi e
  · by_cases et : t = k
    · subst et
      unfold flS
      rw [if_pos rfl]
      exact hb.2 (.inr hm)
    · exact up t (hy.2 t (by omega) hm)
theorem rd_closed (hl : ∀ a, obB h a = true → ∃ i, i < n ∧ l i = a) (h0 : ∀ i, i < n → l i ∈ S → X i = true) (hc : ClF h n l X) {a : Int} (hr : Rch h S a) : ∀ k, k < n → l k = a → X k = true := by
  refine (hr (fun a => obB h a = true ∧ ∀ k, k < n → l k = a → X k = true) (fun x hx ho => ⟨ho, fun k hk e => h0 k hk (e ▸ hx)⟩) (fun x y hx hy ho => ⟨ho, fun k hk e => ?_⟩)).2
  obtain ⟨i, hi, e1⟩ := hl x hx.1
  exact hc i hi (hx.2 i hi e1) k hk (by rw [e, e1]; exact hy)
theorem rd_step (hl : ∀ a, obB h a = true → ∃ i, i < n ∧ l i = a) (hx : RdF h S n l r X) (hy : RiF h S n l X n Y) : RdF h S n l (r + 1) Y := by
  refine ⟨fun i hi e => hy.1 i hi (hx.1 i hi e), hy.2.1, ?_⟩
  by_cases hs : ∀ k, k < n → Y k = true → X k = true
  · exact .inl fun i hi hY k hk hm => hy.2.2 i hi (hs i hi hY) k hk hm
  · obtain ⟨k, hk⟩ := Classical.not_forall.1 hs
    obtain ⟨hk, hs2⟩ := Classical.not_imp.1 hk
    obtain ⟨hY, hX⟩ := Classical.not_imp.1 hs2
    rcases hx.2.2 with hc | hc
    · exact absurd (rd_closed hl hx.1 hc (hy.2.1 k hk hY) k hk rfl) hX
    · have := flN_less hy.1 hk hX hY
      exact .inr (by omega)
theorem rd_end (hl : ∀ a, obB h a = true → ∃ i, i < n ∧ l i = a) (hx : RdF h S n l n X) {k : Nat} (hk : k < n) : X k = true ↔ Rch h S (l k) := by
  refine ⟨hx.2.1 k hk, fun hr => ?_⟩
  rcases hx.2.2 with hc | hc
  · exact rd_closed hl hx.1 hc hr k hk rfl
  · exact flN_full hc k hk
/-- The roots' flags: of the objects up to i, and of i by k of the values. -/
def rtF (l : Nat → Int) (z : Nat → Vl) (K i k : Nat) : Nat → Bool := fun t => if t < i then decide (l t ∈ vrL z K) else if t = i then decide (l t ∈ vrL z k) else false
theorem rt_row {z : Nat → Vl} {K i : Nat} : rtF l z K i K = rtF l z K (i + 1) 0 := by
  funext t
  unfold rtF
  by_cases h1 : t < i
  · rw [if_pos h1, if_pos (by omega)]
  · rw [if_neg h1]
    by_cases h2 : t = i
    · rw [if_pos h2, if_pos (by omega)]
    · rw [if_neg h2, if_neg (by omega)]
      by_cases h3 : t = i + 1
      · rw [if_pos h3]; simp [vrL]
      · rw [if_neg h3]
theorem rt_nought {z : Nat → Vl} {K : Nat} : rtF l z K 0 0 = fun _ => false := by
  funext t
  unfold rtF
  rw [if_neg (by omega)]
  split
  · simp [vrL]
  · rfl
theorem rt_at {z : Nat → Vl} {K i k : Nat} : rtF l z K i k i = decide (l i ∈ vrL z k) := by unfold rtF; rw [if_neg (by omega), if_pos rfl]
theorem rt_step {z : Nat → Vl} {K i k : Nat} {b : Bool} (hb : b = true ↔ (rtF l z K i k i = true ∨ ((z k).k = 2 ∧ (z k).n = l i))) : flS (rtF l z K i k) i b = rtF l z K i (k + 1) := by
  funext t
  unfold flS
  by_cases e : t = i
  · subst e
    rw [if_pos rfl, rt_at, Bool.eq_iff_iff, hb, rt_at]
    simp only [decide_eq_true_eq]
    rw [show vrL z (k + 1) = (if (z k).k = 2 then vrL z k ++ [(z k).n] else vrL z k) from rfl]
    by_cases e2 : (z k).k = 2
    · rw [if_pos e2]
      simp only [List.mem_append, List.mem_singleton, e2, true_and]
      exact or_congr_right eq_comm
    · rw [if_neg e2]; simp [e2]
  · rw [if_neg e]
    unfold rtF
    by_cases h1 : t < i
    · rw [if_pos h1, if_pos h1]
    · rw [if_neg h1, if_neg h1, if_neg e, if_neg e]
theorem rt_end {z : Nat → Vl} {K : Nat} (ho : ∀ i, i < n → obB h (l i) = true) : RdF h (vrL z K) n l 0 (rtF l z K n 0) := by
  refine ⟨fun i hi hm => ?_, fun i hi e => ?_, .inr (Nat.zero_le _)⟩
  · unfold rtF; rw [if_pos hi]; simpa using hm
  · unfold rtF at e; rw [if_pos hi] at e; exact .root (by simpa using e) (ho i hi)
end
open Classical in
open Classical in
noncomputable def rcB (h : Hp) (S : List Int) (a : Int) : Bool := decide (Rch h S a)
theorem rd_flags {h : Hp} {S : List Int} {n : Nat} {l : Nat → Int} {X : Nat → Bool} (hl : ∀ a, obB h a = true → ∃ i, i < n ∧ l i = a) (hx : RdF h S n l n X) : flV n X = flV n fun i => rcB h S (l i) := flV_congr fun i hi => by
  rw [Bool.eq_iff_iff, rd_end hl hx hi]
  unfold rcB
  simp
theorem inZ_mem {L : List Int} {x : Int} : (inZ L.length (fun i => L[i]?.getD 0) x = true) ↔ x ∈ L := by
  rw [inZ_iff]
  constructor
  · rintro ⟨i, hi, e⟩
    rw [List.getElem?_eq_getElem hi] at e
    rw [← e]
    exact List.getElem_mem hi
  · intro hm
    obtain ⟨i, hi, rfl⟩ := List.getElem_of_mem hm
    exact ⟨i, hi, by rw [List.getElem?_eq_getElem hi]; rfl⟩
end Go.Proofs.YtiofeebiejkajaaDoor
