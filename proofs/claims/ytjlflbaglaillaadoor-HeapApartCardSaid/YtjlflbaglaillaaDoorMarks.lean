/- Which words are objects': what HeapApart's last loops carry. -/
import Derived.Test.YtjlflbaglaillaaDoorApart
namespace Go.Proofs.YtjlflbaglaillaaDoor
set_option linter.unusedSimpArgs false
set_option linter.unusedVariables false
open Go.ChangeShapes Go.WideShapes Go.ChangeAt Go.RowKit Go.Joins

/-- 1 where an object of the list lies, or one of the first k words from a on. -/
def markZ (L : List (Int × Int)) (a k : Int) : Nat → Int := fun i => if (L.any fun x => decide (x.1 ≤ (i : Int)) && decide ((i : Int) < x.1 + x.2)) || (decide (a ≤ (i : Int)) && decide ((i : Int) < a + k)) then 1 else 0
theorem mark_off (a : Int) (i : Nat) : (decide (a ≤ (i : Int)) && decide ((i : Int) < a + 0)) = false := by
  by_cases h : a ≤ (i : Int)
  · rw [decide_eq_false (show ¬ (i : Int) < a + 0 by omega), Bool.and_false]
  · rw [decide_eq_false h, Bool.false_and]
theorem mark_start : markZ [] 0 0 = fun _ => 0 := by
  funext i; unfold markZ; simp; try omega
/-- The object's first word, before any of it is marked. -/
theorem mark_none (L : List (Int × Int)) (a b : Int) : markZ L a 0 = markZ L b 0 := by
  funext i; unfold markZ
  rw [mark_off a i, mark_off b i]
theorem mark_next (L : List (Int × Int)) (a k : Int) (h : 0 ≤ k) : putZ (markZ L a k) (a + k) 1 = markZ L a (k + 1) := by
  funext i; unfold putZ markZ
  by_cases e : (i : Int) = a + k
  · rw [if_pos e, if_pos]
    have h1 : decide (a ≤ (i : Int)) = true := by simp; omega
    have h2 : decide ((i : Int) < a + (k + 1)) = true := by simp; omega
    rw [h1, h2]; simp
  · rw [if_neg e]
    have : decide ((i : Int) < a + k) = decide ((i : Int) < a + (k + 1)) ∨ ¬ a ≤ (i : Int) := by
      by_cases h1 : a ≤ (i : Int)
      · left; rw [decide_eq_decide]; omega
      · exact .inr h1
    rcases this with h1 | h1
    · rw [h1]
    · rw [decide_eq_false h1, Bool.false_and, Bool.false_and]
theorem mark_whole (L : List (Int × Int)) (x : Int × Int) (b : Int) : markZ L x.1 x.2 = markZ (L ++ [x]) b 0 := by
  funext i; unfold markZ
  rw [mark_off b i]
  rw [List.any_append]
  simp only [List.any_cons, List.any_nil, Bool.or_false]
/-- A word of the next object isn't marked yet. -/
theorem mark_zero {h : Hp} {L : List (Int × Int)} (hl : Laid h L) {j : Nat} {x : Int × Int} (hx : L[j]? = some x) {k : Int} (k0 : 0 ≤ k) (k1 : k < x.2) : markZ (L.take j) x.1 k (x.1 + k).toNat = 0 := by
  have hjl := (List.getElem?_eq_some_iff.1 hx).1
  have hxm : x ∈ L := List.mem_of_getElem? hx
  have hbi := block_in hl.form (hl.fi hxm)
  unfold markZ
  rw [if_neg]
  have e : (((x.1 + k).toNat : Nat) : Int) = x.1 + k := by omega
  rw [e]
  simp only [Bool.or_eq_true, List.any_eq_true, Bool.and_eq_true, decide_eq_true_eq, not_or, not_exists, not_and]
  refine ⟨fun y hy h1 => ?_, fun _ => by omega⟩
  have hyL : y ∈ L := List.mem_of_mem_take hy
  have hne : ¬ y.1 = x.1 := fun e => by
    obtain ⟨i, hi, hiy⟩ := List.mem_iff_getElem.1 hy
    have hij : i < j := by simp at hi; omega
    have hyi : L[i]'(by omega) = y := by rw [← hiy]; simp
    have hn := hl.nodup
    have h3 : (L.map Prod.fst)[i]'(by simp; omega) = (L.map Prod.fst)[j]'(by simp; omega) := by
      rw [List.getElem_map, List.getElem_map, hyi, e]
      rw [List.getElem?_eq_getElem hjl] at hx
      injection hx with hx
      rw [hx]
    have := (List.getElem_inj hn).1 h3
    omega
  have := hl.apart hyL hxm hne
  omega
/-- What isn't marked at the end is no object's. -/
theorem mark_rest {h : Hp} {L : List (Int × Int)} (hl : Laid h L) {i : Nat} (hi : i < h.n) (e : markZ L 0 0 i = 0) : h.z i = 0 := by
  refine hl.rest i hi fun x hx hh => ?_
  unfold markZ at e
  rw [if_pos] at e
  · omega
  · simp only [Bool.or_eq_true, List.any_eq_true, Bool.and_eq_true, decide_eq_true_eq]
    exact .inl ⟨x, hx, hh⟩
theorem got_of {c : Bool} {k n : Int} (h : hmayB true c k n = true) : gU (hputW true c k n) = true ∧ gC (hputW true c k n) = c ∧ gK (hputW true c k n) = k ∧ gN (hputW true c k n) = n := by
  obtain ⟨a, b, d, e⟩ := raw_of (hputW true c k n) c k n h rfl
  refine ⟨a, ?_, ?_, ?_⟩
  · simp only [gC, a, Bool.true_and]; exact b.symm
  · simp only [gK, a, if_true]; exact d.symm
  · simp only [gN, a, if_true]; exact e.symm
/-- What is read of the next object's first word. -/
theorem mark_head {h : Hp} {L : List (Int × Int)} (hl : Laid h L) {x : Int × Int} (hx : x ∈ L) : ∃ X K : Int, ∃ C : Bool, ∃ F : Int, h.z x.1.toNat = X ∧ 0 ≤ X ∧ X < 256 ∧ gU X = true ∧ gC X = C ∧ gK X = K ∧ gN X = F ∧ (0 ≤ K ∧ K < 4 ∧ x.2 = szW K) := by
  obtain ⟨c, f, h1, h2⟩ := hl.head x hx
  obtain ⟨a, b, d, e⟩ := got_of h1
  obtain ⟨p0, p1⟩ := hput_lt h1
  refine ⟨_, _, _, _, h2, p0, p1, a, b, d, e, ?_⟩
  have hk := hmay_cases h1
  exact ⟨by omega, by omega, hl.size x hx⟩
theorem sums_bound : ∀ (M : List (Int × Int)), (∀ x ∈ M, 0 ≤ x.2 ∧ x.2 ≤ 16) → 0 ≤ (M.map Prod.snd).sum ∧ (M.map Prod.snd).sum ≤ 16 * (M.length : Int)
  | [], _ => by simp
  | x :: M, h => by
    have h1 := sums_bound M fun y hy => h y (by simp [hy])
    have h2 := h x (by simp)
    simp only [List.map_cons, List.sum_cons, List.length_cons]
    omega
theorem sums_next {L : List (Int × Int)} {j : Nat} {x : Int × Int} (h : L[j]? = some x) : L.take (j + 1) = L.take j ++ [x] ∧ ((L.take (j + 1)).map Prod.snd).sum = ((L.take j).map Prod.snd).sum + x.2 := by
  have e : L.take (j + 1) = L.take j ++ [x] := by rw [List.take_add_one, h]; rfl
  refine ⟨e, ?_⟩
  rw [e, List.map_append, List.sum_append]
  simp
theorem Laid.small {h : Hp} {L : List (Int × Int)} (hl : Laid h L) {x : Int × Int} (hx : x ∈ L) : 0 ≤ x.1 ∧ x.1 + x.2 ≤ h.n ∧ 2 ≤ x.2 ∧ x.2 ≤ 16 := by
  have hb := block_in hl.form (hl.fi hx)
  rw [hl.size x hx]
  have := cl_cases (spH h (x.1 / 32)).cl
  omega
theorem row_put {k : IntKind} {e : TypeId} {w : World} {g n : Nat} {z : Nat → Int} (h : RowAt k e w g n z) {i : Int} (h0 : 0 ≤ i) (v : Int) : RowAt k e (w.setCell ⟨g, i.toNat, none⟩ (.int k v)) g n (putZ z i v) := by
  have := h.set i.toNat v
  have e' : (fun j => if j = i.toNat then v else z j) = putZ z i v := by
    funext j
    unfold putZ
    by_cases ej : (j : Int) = i
    · rw [if_pos ej, if_pos (by omega)]
    · rw [if_neg ej, if_neg (by omega)]
  rw [e'] at this
  exact this
end Go.Proofs.YtjlflbaglaillaaDoor
