/- Reaching by rounds (chapter 15's definition), as data. -/
import Derived.Test.YtmbgodncagjncaaDoorA28
import Derived.Test.YtmbgodncagjncaaDoorA30
namespace Go.Proofs.YtmbgodncagjncaaDoor
set_option linter.unusedSimpArgs false
set_option linter.unusedVariables false
open Go.ChangeShapes Go.WideShapes Go.ChangeAt Go.RowKit Go.Joins

/-- A row of flags. -/
def flV (n : Nat) (X : Nat → Bool) : List Value := (List.range n).map fun i => .bool (X i)
theorem flV_len (n : Nat) (X : Nat → Bool) : (flV n X).length = n := by simp [flV]
theorem flV_get {n i : Nat} {X : Nat → Bool} (h : i < n) : (flV n X)[i]? = some (.bool (X i)) := by simp [flV, h]
theorem flV_congr {n : Nat} {X Y : Nat → Bool} (e : ∀ i, i < n → X i = Y i) : flV n X = flV n Y := by
  unfold flV
  apply List.map_congr_left
  intro i hi
  rw [e i (List.mem_range.1 hi)]
def flS (X : Nat → Bool) (i : Nat) (b : Bool) : Nat → Bool := fun k => if k = i then b else X k
theorem flV_set {n i : Nat} {X : Nat → Bool} {b : Bool} : (flV n X).set i (.bool b) = flV n (flS X i b) := by
  apply List.ext_getElem?
  intro k
  rw [List.getElem?_set, flV_len]
  by_cases hk : k < n
  · rw [flV_get hk]
    by_cases e : i = k
    · subst e; rw [if_pos rfl, if_pos hk, flV_get hk]; simp [flS]
    · rw [if_neg e, flV_get hk]
      simp [flS, show ¬ k = i from fun h => e h.symm]
  · have h1 : (flV n X)[k]? = none := List.getElem?_eq_none (by rw [flV_len]; omega)
    have h2 : (flV n (flS X i b))[k]? = none := List.getElem?_eq_none (by rw [flV_len]; omega)
    rw [h1, h2]
    by_cases e : i = k
    · rw [if_pos e, if_neg (by omega)]
    · rw [if_neg e]
theorem flV_nought (n : Nat) : List.replicate n (Value.bool false) = flV n fun _ => false := by
  unfold flV
  rw [List.map_const', List.length_range]
/-- How many flags stand. -/
def flN (n : Nat) (X : Nat → Bool) : Nat := ((List.range n).filter X).length
theorem flN_le (n : Nat) (X : Nat → Bool) : flN n X ≤ n := by have := List.length_filter_le X (List.range n); rwa [List.length_range] at this
theorem flN_succ (n : Nat) (X : Nat → Bool) : flN (n + 1) X = flN n X + if X n = true then 1 else 0 := by
  unfold flN
  rw [List.range_succ, List.filter_append, List.length_append]
  congr 1
  by_cases h : X n = true
  · simp [h]
  · simp [h]
theorem flN_mono {X Y : Nat → Bool} : ∀ {n : Nat}, (∀ i, i < n → X i = true → Y i = true) → flN n X ≤ flN n Y
  | 0, _ => Nat.le_refl _
  | n + 1, h => by
    have ih := flN_mono (n := n) fun i hi => h i (by omega)
    rw [flN_succ, flN_succ]
    by_cases hx : X n = true
    · rw [if_pos hx, if_pos (h n (by omega) hx)]; omega
    · rw [if_neg hx]; omega
theorem flN_less {X Y : Nat → Bool} {k : Nat} : ∀ {n : Nat}, (∀ i, i < n → X i = true → Y i = true) → k < n → ¬ X k = true → Y k = true → flN n X < flN n Y
  | 0, _, hk, _, _ => by omega
  | n + 1, h, hk, h0, h1 => by
    rw [flN_succ, flN_succ]
    by_cases e : k = n
    · subst e
      have ih := flN_mono (n := k) fun i hi => h i (by omega)
      rw [if_neg h0, if_pos h1]; omega
    · have ih := flN_less (n := n) (fun i hi => h i (by omega)) (by omega) h0 h1
      by_cases hx : X n = true
      · rw [if_pos hx, if_pos (h n (by omega) hx)]; omega
      · rw [if_neg hx]; omega
theorem flN_full {X : Nat → Bool} {n : Nat} (h : n ≤ flN n X) : ∀ i, i < n → X i = true := fun i hi => by
  by_cases e : X i = true
  · exact e
  · have := flN_less (X := X) (Y := fun _ => true) (k := i) (n := n) (fun _ _ _ => rfl) hi e rfl
    have := flN_le n fun _ => true
    omega
/-- Closed flags. -/
def ClF (h : Hp) (n : Nat) (l : Nat → Int) (X : Nat → Bool) : Prop := ∀ i, i < n → X i = true → ∀ k, k < n → l k ∈ rfH h (l i) → X k = true
/-- What holds behind r rounds. -/
def RdF (h : Hp) (S : List Int) (n : Nat) (l : Nat → Int) (r : Nat) (X : Nat → Bool) : Prop :=
  (∀ i, i < n → l i ∈ S → X i = true) ∧ (∀ i, i < n → X i = true → Rch h S (l i)) ∧ (ClF h n l X ∨ r ≤ flN n X)
/-- What holds within a round: at object j, k of the objects looked at. -/
def RiF (h : Hp) (S : List Int) (n : Nat) (l : Nat → Int) (X : Nat → Bool) (j : Nat) (Y : Nat → Bool) : Prop :=
  (∀ i, i < n → X i = true → Y i = true) ∧ (∀ i, i < n → Y i = true → Rch h S (l i)) ∧ ∀ i, i < j → X i = true → ∀ k, k < n → l k ∈ rfH h (l i) → Y k = true
def RkF (h : Hp) (S : List Int) (n : Nat) (l : Nat → Int) (X : Nat → Bool) (j k : Nat) (Y : Nat → Bool) : Prop :=
  RiF h S n l X j Y ∧ ∀ t, t < k → l t ∈ rfH h (l j) → Y t = true
section
variable {h : Hp} {S : List Int} {n r j k : Nat} {l : Nat → Int} {X Y : Nat → Bool}
theorem ri_start (hx : RdF h S n l r X) : RiF h S n l X 0 X := ⟨fun _ _ h => h, hx.2.1, fun i hi => by omega⟩
theorem ri_skip (hy : RiF h S n l X j Y) (hj : j < n) (e : Y j = false) : RiF h S n l X (j + 1) Y := ⟨hy.1, hy.2.1, fun i hi hX k hk hm => by
  by_cases ei : i = j
  · subst ei
    have := hy.1 i hj hX
    rw [e] at this
    cases this
  · exact hy.2.2 i (by omega) hX k hk hm⟩
theorem rk_start (hy : RiF h S n l X j Y) : RkF h S n l X j 0 Y := ⟨hy, fun t ht => by omega⟩
theorem rk_done (hy : RkF h S n l X j n Y) : RiF h S n l X (j + 1) Y := ⟨hy.1.1, hy.1.2.1, fun i hi hX k hk hm => by
  by_cases ei : i = j
  · subst ei; exact hy.2 k hk hm
  · exact hy.1.2.2 i (by omega) hX k hk hm⟩
theorem rk_step (ho : ∀ i, i < n → obB h (l i) = true) (hr : Rch h S (l j)) (hk : k < n) (hy : RkF h S n l X j k Y) {b : Bool} (hb : b = true ↔ (Y k = true ∨ l k ∈ rfH h (l j))) : RkF h S n l X j (k + 1) (flS Y k b) := by
  have up : ∀ i, Y i = true → flS Y k b i = true := fun i e => by
    unfold flS
    by_cases ei : i = k
    · subst ei; rw [if_pos rfl]; exact hb.2 (.inl e)
    · rw [if_neg ei]; exact e
  refine ⟨⟨fun i hi hX => up i (hy.1.1 i hi hX), fun i hi e => ?_, fun i hi hX t ht hm => up t (hy.1.2.2 i hi hX t ht hm)⟩, fun t ht hm => ?_⟩
  · by_cases ei : i = k
    · subst ei
      unfold flS at e
      rw [if_pos rfl] at e
      rcases hb.1 e with h1 | h1
      · exact hy.1.2.1 i hi h1
      · exact hr.step h1 (ho i hi)
    · unfold flS at e
      rw [if_neg ei] at e
      exact hy.1.2.1 i hi e
  · by_cases et : t = k
    · subst et
      unfold flS
      rw [if_pos rfl]
      exact hb.2 (.inr hm)
    · exact up t (hy.2 t (by omega) hm)
theorem rd_closed (hl : ∀ a, obB h a = true → ∃ i, i < n ∧ l i = a) (h0 : ∀ i, i < n → l i ∈ S → X i = true) (hc : ClF h n l X) {a : Int} (hr : Rch h S a) : ∀ k, k < n → l k = a → X k = true := by
  refine (hr (fun a => obB h a = true ∧ ∀ k, k < n → l k = a → X k = true) (fun x hx ho => ⟨ho, fun k hk e => h0 k hk (e ▸ hx)⟩) (fun x y hx hy ho => ⟨ho, fun k hk e => ?_⟩)).2
  obtain ⟨i, hi, e1⟩ := hl x hx.1
  exact hc i hi (hx.2 i hi e1) k hk (by rw [e, e1]; exact hy)
theorem rd_step (hl : ∀ a, obB h a = true → ∃ i, i < n ∧ l i = a) (hx : RdF h S n l r X) (hy : RiF h S n l X n Y) : RdF h S n l (r + 1) Y := by
  refine ⟨fun i hi e => hy.1 i hi (hx.1 i hi e), hy.2.1, ?_⟩
  by_cases hs : ∀ k, k < n → Y k = true → X k = true
  · exact .inl fun i hi hY k hk hm => hy.2.2 i hi (hs i hi hY) k hk hm
  · obtain ⟨k, hk⟩ := Classical.not_forall.1 hs
    obtain ⟨hk, hs2⟩ := Classical.not_imp.1 hk
    obtain ⟨hY, hX⟩ := Classical.not_imp.1 hs2
    rcases hx.2.2 with hc | hc
    · exact absurd (rd_closed hl hx.1 hc (hy.2.1 k hk hY) k hk rfl) hX
    · have := flN_less hy.1 hk hX hY
      exact .inr (by omega)
theorem rd_end (hl : ∀ a, obB h a = true → ∃ i, i < n ∧ l i = a) (hx : RdF h S n l n X) {k : Nat} (hk : k < n) : X k = true ↔ Rch h S (l k) := by
  refine ⟨hx.2.1 k hk, fun hr => ?_⟩
  rcases hx.2.2 with hc | hc
  · exact rd_closed hl hx.1 hc hr k hk rfl
  · exact flN_full hc k hk
/-- The roots' flags: of the objects up to i, and of i by k of the values. -/
def rtF (l : Nat → Int) (z : Nat → Vl) (K i k : Nat) : Nat → Bool := fun t => if t < i then decide (l t ∈ vrL z K) else if t = i then decide (l t ∈ vrL z k) else false
theorem rt_row {z : Nat → Vl} {K i : Nat} : rtF l z K i K = rtF l z K (i + 1) 0 := by
  funext t
  unfold rtF
  by_cases h1 : t < i
  · rw [if_pos h1, if_pos (by omega)]
  · rw [if_neg h1]
    by_cases h2 : t = i
    · rw [if_pos h2, if_pos (by omega)]
    · rw [if_neg h2, if_neg (by omega)]
      by_cases h3 : t = i + 1
      · rw [if_pos h3]; simp [vrL]
      · rw [if_neg h3]
theorem rt_nought {z : Nat → Vl} {K : Nat} : rtF l z K 0 0 = fun _ => false := by
  funext t
  unfold rtF
  rw [if_neg (by omega)]
  split
  · simp [vrL]
  · rfl
theorem rt_at {z : Nat → Vl} {K i k : Nat} : rtF l z K i k i = decide (l i ∈ vrL z k) := by unfold rtF; rw [if_neg (by omega), if_pos rfl]
theorem rt_step {z : Nat → Vl} {K i k : Nat} {b : Bool} (hb : b = true ↔ (rtF l z K i k i = true ∨ ((z k).k = 2 ∧ (z k).n = l i))) : flS (rtF l z K i k) i b = rtF l z K i (k + 1) := by
  funext t
  unfold flS
  by_cases e : t = i
  · subst e
    rw [if_pos rfl, rt_at, Bool.eq_iff_iff, hb, rt_at]
    simp only [decide_eq_true_eq]
    rw [show vrL z (k + 1) = (if (z k).k = 2 then vrL z k ++ [(z k).n] else vrL z k) from rfl]
    by_cases e2 : (z k).k = 2
    · rw [if_pos e2]
      simp only [List.mem_append, List.mem_singleton, e2, true_and]
      exact or_congr_right eq_comm
    · rw [if_neg e2]; simp [e2]
  · rw [if_neg e]
    unfold rtF
    by_cases h1 : t < i
    · rw [if_pos h1, if_pos h1]
    · rw [if_neg h1, if_neg h1, if_neg e, if_neg e]
theorem rt_end {z : Nat → Vl} {K : Nat} (ho : ∀ i, i < n → obB h (l i) = true) : RdF h (vrL z K) n l 0 (rtF l z K n 0) := by
  refine ⟨fun i hi hm => ?_, fun i hi e => ?_, .inr (Nat.zero_le _)⟩
  · unfold rtF; rw [if_pos hi]; simpa using hm
  · unfold rtF at e; rw [if_pos hi] at e; exact .root (by simpa using e) (ho i hi)
end
open Classical in
open Classical in
noncomputable def rcB (h : Hp) (S : List Int) (a : Int) : Bool := decide (Rch h S a)
theorem rd_flags {h : Hp} {S : List Int} {n : Nat} {l : Nat → Int} {X : Nat → Bool} (hl : ∀ a, obB h a = true → ∃ i, i < n ∧ l i = a) (hx : RdF h S n l n X) : flV n X = flV n fun i => rcB h S (l i) := flV_congr fun i hi => by
  rw [Bool.eq_iff_iff, rd_end hl hx hi]
  unfold rcB
  simp
theorem inZ_mem {L : List Int} {x : Int} : (inZ L.length (fun i => L[i]?.getD 0) x = true) ↔ x ∈ L := by
  rw [inZ_iff]
  constructor
  · rintro ⟨i, hi, e⟩
    rw [List.getElem?_eq_getElem hi] at e
    rw [← e]
    exact List.getElem_mem hi
  · intro hm
    obtain ⟨i, hi, rfl⟩ := List.getElem_of_mem hm
    exact ⟨i, hi, by rw [List.getElem?_eq_getElem hi]; rfl⟩
end Go.Proofs.YtmbgodncagjncaaDoor
