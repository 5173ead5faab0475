/- What is reached (chapter 15), as data. -/
import Derived.Test.YtokbggokkjefhaaDoorObjIn
import Derived.Test.YtokbggokkjefhaaDoorVals
namespace Go.Proofs.YtokbggokkjefhaaDoor
set_option linter.unusedSimpArgs false
set_option linter.unusedVariables false
open Go.ChangeShapes Go.WideShapes Go.ChangeAt Go.RowKit Go.Joins

/-- Reached from the addresses S: in each closed set that holds the objects among them. -/
def Rch (h : Hp) (S : List Int) (a : Int) : Prop :=
  ∀ P : Int → Prop, (∀ x, x ∈ S → obB h x = true → P x) → (∀ x y, P x → y ∈ rfH h x → obB h y = true → P y) → P a
theorem Rch.root {h : Hp} {S : List Int} {a : Int} (hm : a ∈ S) (ho : obB h a = true) : Rch h S a := fun _ h0 _ => h0 a hm ho
theorem Rch.step {h : Hp} {S : List Int} {a b : Int} (hr : Rch h S a) (hm : b ∈ rfH h a) (ho : obB h b = true) : Rch h S b := fun P h0 h1 => h1 a b (hr P h0 h1) hm ho
theorem Rch.obj {h : Hp} {S : List Int} {a : Int} (hr : Rch h S a) : obB h a = true := hr (fun x => obB h x = true) (fun _ _ ho => ho) (fun _ _ _ _ ho => ho)
theorem Rch.mono {h : Hp} {S T : List Int} {a : Int} (hr : Rch h S a) (hs : ∀ x, x ∈ S → x ∈ T) : Rch h T a := hr (Rch h T) (fun x hx ho => .root (hs x hx) ho) (fun _ _ hx hy ho => hx.step hy ho)
theorem Rch.cases {h : Hp} {S T : List Int} {a : Int} (hr : Rch h (S ++ T) a) : Rch h S a ∨ Rch h T a :=
  hr (fun x => Rch h S x ∨ Rch h T x) (fun x hx ho => (List.mem_append.1 hx).imp (fun h => .root h ho) (fun h => .root h ho)) (fun _ _ hx hy ho => hx.imp (fun h => h.step hy ho) (fun h => h.step hy ho))
theorem Rch.again {h : Hp} {S T : List Int} {a : Int} (hT : ∀ x, x ∈ T → Rch h S x) (hr : Rch h T a) : Rch h S a := hr (Rch h S) (fun x hx _ => hT x hx) (fun _ _ hx hy ho => hx.step hy ho)
theorem rch_none {h : Hp} {a : Int} (hr : Rch h [] a) : False := hr (fun _ => False) (fun x hx _ => by cases hx) (fun _ _ hx _ _ => hx)
open Classical in
/-- The addresses of what is reached, rising. -/
noncomputable def rcL (h : Hp) (S : List Int) : List Int := (obL h h.n).filter fun a => decide (Rch h S a)
theorem ob_in {h : Hp} {a : Int} (hF : formB h = true) (ho : obB h a = true) : 0 ≤ a ∧ a < h.n := by
  obtain ⟨-, -, a0, a1, -⟩ := ob_spec hF ho
  have := ob_room hF ho
  omega
theorem mem_rc {h : Hp} {S : List Int} {a : Int} (hF : formB h = true) : a ∈ rcL h S ↔ Rch h S a := by
  unfold rcL
  rw [List.mem_filter, obL_mem]
  constructor
  · rintro ⟨-, h2⟩; simpa using h2
  · intro hr
    have := ob_in hF hr.obj
    exact ⟨⟨this.1, this.2, hr.obj⟩, by simpa using hr⟩
theorem rc_of {h : Hp} {S T : List Int} (e : ∀ x, Rch h S x ↔ Rch h T x) : rcL h S = rcL h T := by
  unfold rcL
  congr 1
  funext a
  exact decide_eq_decide.2 (e a)
theorem rc_len {h : Hp} (S : List Int) : (rcL h S).length ≤ h.n := Nat.le_trans (List.length_filter_le _ _) (obL_len h h.n)
theorem rc_nil {h : Hp} : rcL h [] = [] := by
  unfold rcL
  rw [List.filter_eq_nil_iff]
  intro a _
  simp only [decide_eq_true_eq]
  exact fun hr => rch_none hr
theorem rc_again {h : Hp} {S : List Int} (hF : formB h = true) : rcL h (rcL h S) = rcL h S := rc_of fun x => ⟨fun hr => hr.again fun y hy => (mem_rc hF).1 hy, fun hr => .root ((mem_rc hF).2 hr) hr.obj⟩
theorem rc_wf {h : Hp} (hn : h.n ≤ 512) (S : List Int) : ∀ x ∈ rcL h S, (Lit.int .i64 x).wf = true := fun x hx => obL_wf h hn x (List.mem_filter.1 hx).1
/-- The words of the objects among some addresses, each once. -/
def wdL (h : Hp) (l : List Int) : Int := (((obL h h.n).filter fun a => decide (a ∈ l)).map fun a => szW (obK h a)).sum
theorem szW_nonneg (c : Int) : 0 ≤ szW c ∧ szW c ≤ 16 := by
  unfold szW
  split
  · omega
  · split
    · omega
    · split
      · omega
      · split <;> omega
theorem sum_mono (f : Int → Int) (hf : ∀ x, 0 ≤ f x) (p q : Int → Bool) (hpq : ∀ x, p x = true → q x = true) : ∀ L : List Int, ((L.filter p).map f).sum ≤ ((L.filter q).map f).sum
  | [] => by simp
  | x :: L => by
    have ih := sum_mono f hf p q hpq L
    by_cases hp : p x = true
    · rw [List.filter_cons_of_pos hp, List.filter_cons_of_pos (hpq x hp)]
      simp only [List.map_cons, List.sum_cons]
      omega
    · rw [List.filter_cons_of_neg hp]
      by_cases hq : q x = true
      · rw [List.filter_cons_of_pos hq]
        simp only [List.map_cons, List.sum_cons]
        have := hf x
        omega
      · rw [List.filter_cons_of_neg hq]
        exact ih
theorem wd_mono {h : Hp} {l l' : List Int} (hl : ∀ x, x ∈ l → x ∈ l') : wdL h l ≤ wdL h l' :=
  sum_mono _ (fun x => (szW_nonneg _).1) _ _ (fun x hx => by simpa using hl x (by simpa using hx)) _
theorem sum_bound (f : Int → Int) (hf : ∀ x, 0 ≤ f x ∧ f x ≤ 16) : ∀ L : List Int, 0 ≤ (L.map f).sum ∧ (L.map f).sum ≤ 16 * L.length
  | [] => by simp
  | x :: L => by
    have ih := sum_bound f hf L
    have := hf x
    simp only [List.map_cons, List.sum_cons, List.length_cons]
    omega
theorem wd_bound {h : Hp} (l : List Int) (hn : h.n ≤ 512) : 0 ≤ wdL h l ∧ wdL h l ≤ 8192 := by
  have h1 := sum_bound (fun a => szW (obK h a)) (fun x => szW_nonneg _) ((obL h h.n).filter fun a => decide (a ∈ l))
  have h2 := Nat.le_trans (List.length_filter_le (fun a => decide (a ∈ l)) (obL h h.n)) (obL_len h h.n)
  unfold wdL
  omega
/-- The addresses of what is black. -/
def bkL (h : Hp) : List Int := (obL h h.n).filter fun a => blB h a
/-- Two rows of values, one behind the other. -/
def catV (n : Nat) (z y : Nat → Vl) : Nat → Vl := fun i => if i < n then z i else y (i - n)
theorem cat_vals (n m : Nat) (z y : Nat → Vl) : vlVals n z ++ vlVals m y = vlVals (n + m) (catV n z y) := by
  induction m with
  | zero =>
    rw [Nat.add_zero, show vlVals 0 y = [] from rfl, List.append_nil]
    exact vlVals_congr fun i hi => by unfold catV; rw [if_pos hi]
  | succ m ih =>
    rw [← vlVals_snoc, ← List.append_assoc, ih, ← Nat.add_assoc, ← vlVals_snoc]
    have e : catV n z y (n + m) = y m := by unfold catV; rw [if_neg (by omega)]; congr 1; omega
    rw [e]
end Go.Proofs.YtokbggokkjefhaaDoor
