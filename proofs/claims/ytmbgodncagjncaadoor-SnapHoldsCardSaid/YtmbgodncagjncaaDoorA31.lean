/- A cycle's beginning (chapter 18), as data: what is rooted is what is held and what is reached from it; turned mutators; colours. -/
import Derived.Test.YtmbgodncagjncaaDoorA22
import Derived.Test.YtmbgodncagjncaaDoorA29
import Derived.Test.YtmbgodncagjncaaDoorA30
import Derived.Test.YtmbgodncagjncaaDoorA26
import Derived.Test.YtmbgodncagjncaaDoorA09
import Derived.Test.YtmbgodncagjncaaDoorA20
namespace Go.Proofs.YtmbgodncagjncaaDoor
set_option linter.unusedSimpArgs false
set_option linter.unusedVariables false
open Go.ChangeShapes Go.WideShapes Go.ChangeAt Go.RowKit

/-- A list of values as a row. -/
def lvF (L : List Vl) : Nat → Vl := fun i => L[i]?.getD ⟨0, 0⟩
theorem vrL_list {L : List Vl} {x : Int} : x ∈ vrL (lvF L) L.length ↔ ∃ v ∈ L, v.k = 2 ∧ v.n = x := by
  rw [vrL_mem]
  constructor
  · rintro ⟨i, hi, h1, h2⟩
    have e : lvF L i = L[i] := by simp [lvF, hi]
    rw [e] at h1 h2
    exact ⟨L[i], List.getElem_mem hi, h1, h2⟩
  · rintro ⟨v, hv, h1, h2⟩
    obtain ⟨i, hi⟩ := List.getElem?_of_mem hv
    have hl := (List.getElem?_eq_some_iff.1 hi).1
    exact ⟨i, hl, by simp [lvF, hi, h1], by simp [lvF, hi, h2]⟩
theorem held_mem {z : Nat → Mu} {v : Vl} : ∀ {n : Nat}, v ∈ heldL z n ↔ ∃ i, i < n ∧ (v ∈ stkL (z i) ∨ v ∈ regL (z i))
  | 0 => by simp [heldL]
  | n + 1 => by
    unfold heldL
    rw [List.mem_append, List.mem_append, held_mem (n := n)]
    constructor
    · rintro ((⟨i, hi, h⟩ | h) | h)
      · exact ⟨i, by omega, h⟩
      · exact ⟨n, by omega, .inl h⟩
      · exact ⟨n, by omega, .inr h⟩
    · rintro ⟨i, hi, h⟩
      by_cases e : i = n
      · subst e
        rcases h with h | h
        · exact .inl (.inr h)
        · exact .inr h
      · exact .inl (.inl ⟨i, by omega, h⟩)
/-- What a pending write takes away. -/
def pdV (h : Hp) (m : Mu) : Vl := ⟨getK (fdX h m.o m.ob), getN (fdX h m.o m.ob)⟩
theorem pend_mem {h : Hp} {z : Nat → Mu} {v : Vl} : ∀ {n : Nat}, v ∈ pendL h z n ↔ ∃ i, i < n ∧ (z i).s = 4 ∧ v = pdV h (z i)
  | 0 => by simp [pendL]
  | n + 1 => by
    have ih := pend_mem (h := h) (z := z) (v := v) (n := n)
    unfold pendL
    by_cases e : (z n).s = 4
    · rw [if_pos e, List.mem_append, ih, List.mem_singleton]
      constructor
      · rintro (⟨i, hi, h1, h2⟩ | h1)
        · exact ⟨i, by omega, h1, h2⟩
        · exact ⟨n, by omega, e, h1⟩
      · rintro ⟨i, hi, h1, h2⟩
        by_cases e1 : i = n
        · subst e1; exact .inr h2
        · exact .inl ⟨i, by omega, h1, h2⟩
    · rw [if_neg e, ih]
      constructor
      · rintro ⟨i, hi, h1, h2⟩; exact ⟨i, by omega, h1, h2⟩
      · rintro ⟨i, hi, h1, h2⟩
        by_cases e1 : i = n
        · subst e1; exact absurd h1 e
        · exact ⟨i, by omega, h1, h2⟩
/-- Whose pending write takes something away holds the object. -/
theorem reg_obj {m : Mu} (h : m.s = 4) : (⟨2, m.o⟩ : Vl) ∈ regL m := by
  unfold regL
  rw [if_pos (.inr h)]
  exact List.mem_append_left _ (List.mem_singleton.2 rfl)
/-- What is reached from the roots is what is reached from what is held. -/
theorem root_reach {h : Hp} {z : Nat → Mu} {n : Nat} {L L' : List Vl} (hL : ∀ v, v ∈ L ↔ v ∈ rootL h z n) (hL' : ∀ v, v ∈ L' ↔ v ∈ heldL z n) (a : Int) : Rch h (vrL (lvF L) L.length) a ↔ Rch h (vrL (lvF L') L'.length) a := by
  constructor
  · intro hr
    refine hr (Rch h (vrL (lvF L') L'.length)) (fun x hx ho => ?_) (fun _ _ hx hy ho => hx.step hy ho)
    obtain ⟨v, hv, h1, h2⟩ := vrL_list.1 hx
    rcases List.mem_append.1 ((hL v).1 hv) with hv | hv
    · exact .root (vrL_list.2 ⟨v, (hL' v).2 hv, h1, h2⟩) ho
    · obtain ⟨i, hi, hs, rfl⟩ := pend_mem.1 hv
      have he : fdE h (z i).o (z i).ob = 0 := by
        rcases fd_cases h (z i).o (z i).ob with ⟨-, -, -, e, -⟩ | ⟨-, -, -, e⟩ | ⟨-, -, e⟩
        · exact e
        · exact absurd h1 (by simp only [pdV]; rw [e]; decide)
        · exact absurd h1 (by simp only [pdV]; rw [e]; decide)
      have hob := (fd_ok he).1
      have hR : Rch h (vrL (lvF L') L'.length) (z i).o := .root (vrL_list.2 ⟨⟨2, (z i).o⟩, (hL' _).2 (held_mem.2 ⟨i, hi, .inr (reg_obj hs)⟩), rfl, rfl⟩) hob
      have hf := fv_ref he (show (fvV h (z i).o (z i).ob).k = 2 from h1)
      have e2 : (fvV h (z i).o (z i).ob).n = x := h2
      rw [e2] at hf
      exact hR.step hf ho
  · intro hr
    refine hr.mono fun x hx => ?_
    obtain ⟨v, hv, h1, h2⟩ := vrL_list.1 hx
    exact vrL_list.2 ⟨v, (hL v).2 (List.mem_append_left _ ((hL' v).1 hv)), h1, h2⟩
/-- The other sense: objects, and what is reached, are the same; black is white. -/
theorem fl_list (h : Hp) : ∀ k, obL (flipB h) k = obL h k
  | 0 => rfl
  | k + 1 => by
    have ih := fl_list h k
    unfold obL
    rw [ih]
    rfl
theorem fl_rfL (h : Hp) (a : Int) : ∀ k, rfL (flipB h) a k = rfL h a k
  | 0 => rfl
  | k + 1 => by
    have ih := fl_rfL h a k
    unfold rfL
    rw [ih]
    rfl
theorem fl_rfH (h : Hp) (a : Int) : rfH (flipB h) a = rfH h a := by
  unfold rfH
  rw [show obN (flipB h) a = obN h a from rfl, fl_rfL]
theorem fl_reach {h : Hp} {S : List Int} {a : Int} : Rch (flipB h) S a ↔ Rch h S a := by
  unfold Rch
  simp only [fl_rfH, show ∀ x, obB (flipB h) x = obB h x from fun _ => rfl]
theorem fl_rc (h : Hp) (S : List Int) : rcL (flipB h) S = rcL h S := by
  unfold rcL
  rw [show obL (flipB h) (flipB h).n = obL h h.n from fl_list h h.n]
  congr 1
  funext a
  rw [decide_eq_decide]
  exact fl_reach
theorem fl_pend (h : Hp) (z : Nat → Mu) : ∀ n, pendL (flipB h) z n = pendL h z n
  | 0 => rfl
  | n + 1 => by
    unfold pendL
    rw [fl_pend h z n]
    rfl
theorem fl_root (h : Hp) (z : Nat → Mu) (n : Nat) : rootL (flipB h) z n = rootL h z n := by
  unfold rootL
  rw [fl_pend]
theorem fl_fl (h : Hp) : flipB (flipB h) = h := by
  cases h
  simp [flipB]
theorem fl_black {h : Hp} {a : Int} (ho : obB h a = true) : blB (flipB h) a = !blB h a := by
  have e1 : blB (flipB h) a = (obB h a && (obC h a == !h.b)) := rfl
  have e2 : blB h a = (obB h a && (obC h a == h.b)) := rfl
  rw [e1, e2, ho]
  cases obC h a <;> cases h.b <;> rfl
/-- The mutators in the other order. -/
def turM (z : Nat → Mu) (n : Nat) : Nat → Mu := fun i => z (n - 1 - i)
theorem tur_held {z : Nat → Mu} {n : Nat} (v : Vl) : v ∈ heldL (turM z n) n ↔ v ∈ heldL z n := by
  rw [held_mem, held_mem]
  constructor
  · rintro ⟨i, hi, h⟩; exact ⟨n - 1 - i, by omega, h⟩
  · rintro ⟨i, hi, h⟩
    refine ⟨n - 1 - i, by omega, ?_⟩
    show v ∈ stkL (z (n - 1 - (n - 1 - i))) ∨ v ∈ regL (z (n - 1 - (n - 1 - i)))
    rw [show n - 1 - (n - 1 - i) = i by omega]
    exact h
theorem tur_pend {h : Hp} {z : Nat → Mu} {n : Nat} (v : Vl) : v ∈ pendL h (turM z n) n ↔ v ∈ pendL h z n := by
  rw [pend_mem, pend_mem]
  constructor
  · rintro ⟨i, hi, h1, h2⟩; exact ⟨n - 1 - i, by omega, h1, h2⟩
  · rintro ⟨i, hi, h1, h2⟩
    refine ⟨n - 1 - i, by omega, ?_, ?_⟩
    · show (z (n - 1 - (n - 1 - i))).s = 4
      rw [show n - 1 - (n - 1 - i) = i by omega]; exact h1
    · show v = pdV h (z (n - 1 - (n - 1 - i)))
      rw [show n - 1 - (n - 1 - i) = i by omega]; exact h2
theorem tur_root {h : Hp} {z : Nat → Mu} {n : Nat} (v : Vl) : v ∈ rootL h (turM z n) n ↔ v ∈ rootL h z n := by
  unfold rootL
  rw [List.mem_append, List.mem_append, tur_held, tur_pend]
/-- How many values: a sum over mutators, whatever their order. -/
def smN (f : Nat → Nat) : Nat → Nat
  | 0 => 0
  | k + 1 => smN f k + f k
theorem smN_shift (f : Nat → Nat) : ∀ k, smN f (k + 1) = f 0 + smN (fun i => f (i + 1)) k
  | 0 => by simp [smN]
  | k + 1 => by
    have ih := smN_shift f k
    rw [show smN f (k + 1 + 1) = smN f (k + 1) + f (k + 1) from rfl, ih]
    show _ = f 0 + (smN (fun i => f (i + 1)) k + f (k + 1))
    omega
theorem smN_congr {f g : Nat → Nat} : ∀ {k : Nat}, (∀ i, i < k → f i = g i) → smN f k = smN g k
  | 0, _ => rfl
  | k + 1, h => by
    have ih := smN_congr (k := k) fun i hi => h i (by omega)
    show smN f k + f k = smN g k + g k
    rw [ih, h k (by omega)]
theorem smN_turn (f : Nat → Nat) : ∀ n, smN (fun i => f (n - 1 - i)) n = smN f n
  | 0 => rfl
  | n + 1 => by
    have ih := smN_turn f n
    rw [smN_shift (fun i => f (n + 1 - 1 - i)) n]
    have e : smN (fun i => f (n + 1 - 1 - (i + 1))) n = smN (fun i => f (n - 1 - i)) n := smN_congr fun i hi => by rw [show n + 1 - 1 - (i + 1) = n - 1 - i by omega]
    rw [e, ih]
    show f (n + 1 - 1 - 0) + smN f n = smN f n + f n
    rw [show n + 1 - 1 - 0 = n by omega]
    omega
theorem held_sum (z : Nat → Mu) : ∀ n, (heldL z n).length = smN (fun i => (stkL (z i)).length + (regL (z i)).length) n
  | 0 => rfl
  | n + 1 => by
    unfold heldL
    rw [List.length_append, List.length_append, held_sum z n]
    show _ = smN _ n + ((stkL (z n)).length + (regL (z n)).length)
    omega
theorem pend_sum (h : Hp) (z : Nat → Mu) : ∀ n, (pendL h z n).length = smN (fun i => if (z i).s = 4 then 1 else 0) n
  | 0 => rfl
  | n + 1 => by
    have ih := pend_sum h z n
    unfold pendL
    show _ = smN _ n + (if (z n).s = 4 then 1 else 0)
    split
    · rw [List.length_append, ih]; rfl
    · rw [ih]; rfl
theorem tur_len (h : Hp) (z : Nat → Mu) (n : Nat) : (rootL h (turM z n) n).length = (rootL h z n).length := by
  unfold rootL
  rw [List.length_append, List.length_append, held_sum, held_sum, pend_sum, pend_sum]
  rw [← smN_turn (fun i => (stkL (z i)).length + (regL (z i)).length) n, ← smN_turn (fun i => if (z i).s = 4 then 1 else 0) n]
  rfl
end Go.Proofs.YtmbgodncagjncaaDoor
namespace Go.Proofs.YtmbgodncagjncaaDoor
set_option linter.unusedSimpArgs false
set_option linter.unusedVariables false
open Go.ChangeShapes Go.WideShapes Go.ChangeAt Go.RowKit

theorem fv_wf {h : Hp} (hF : formB h = true) (hw : h.wf) (a i : Int) : (⟨getK (fdX h a i), getN (fdX h a i)⟩ : Vl).wf := by
  have hx : 0 ≤ fdX h a i ∧ fdX h a i ≤ 18446744073709551615 := by
    rcases fd_cases h a i with ⟨ho, i0, i1, -, e⟩ | ⟨-, -, -, e⟩ | ⟨-, -, e⟩
    · rw [e]
      obtain ⟨-, -, a0, a1, a5, a6, -, -, eN, -⟩ := ob_spec hF ho
      rw [eN] at i1
      have hlt : (a + 1 + i).toNat < h.n := by omega
      have := hw.1 _ hlt
      have e2 : woH h (a + 1 + i) = h.z (a + 1 + i).toNat := rfl
      rw [e2]
      simp [Lit.wf, IntKind.min, IntKind.max, IntKind.signed, IntKind.bits] at this
      omega
    · rw [e]; omega
    · rw [e]; omega
  generalize fdX h a i = x at *
  refine ⟨wf_i64_of ?_ ?_, wf_i64_of ?_ ?_⟩ <;> unfold getK <;> (try unfold getN) <;> dsimp only <;> (repeat (first | split | omega))
end Go.Proofs.YtmbgodncagjncaaDoor
namespace Go.Proofs.YtmbgodncagjncaaDoor
set_option linter.unusedSimpArgs false
set_option linter.unusedVariables false
open Go.ChangeShapes Go.WideShapes Go.ChangeAt Go.RowKit Go.Joins

/-- The cells of a list of values. -/
def LV (L : List Vl) : List Value := vlVals L.length fun i => L[i]?.getD ⟨0, 0⟩
theorem LV_snoc (L : List Vl) (v : Vl) : LV L ++ v.vals = LV (L ++ [v]) := by
  unfold LV
  rw [List.length_append, List.length_singleton, ← vlVals_snoc]
  congr 1
  · exact vlVals_congr fun i hi => by rw [List.getElem?_append_left hi]
  · rw [List.getElem?_append_right (Nat.le_refl _), Nat.sub_self]; rfl
theorem LV_range (n : Nat) (z : Nat → Vl) : LV ((List.range n).map z) = vlVals n z := by
  unfold LV
  rw [List.length_map, List.length_range]
  exact vlVals_congr fun i hi => by simp [hi]
theorem va_list {W : World} {N : Nat} {p : Option Addr} {c : Nat} {L : List Vl} (h : W.ownsRow N 46 2 (.slice p L.length c) L.length (LV L)) (hn : L.length ≤ maxLen) (hw : ∀ v ∈ L, v.wf) : VAt W p c L.length fun i => L[i]?.getD ⟨0, 0⟩ :=
  va_owned h hn fun i hi => by rw [List.getElem?_eq_getElem hi]; exact hw _ (List.getElem_mem hi)
theorem LV_flat : ∀ (k : Nat) (L : List Vl), L.length = k → LV L = L.flatMap Vl.vals
  | 0, L, h => by
    obtain rfl := List.eq_nil_of_length_eq_zero h
    rfl
  | k + 1, L, h => by
    obtain ⟨L', v, rfl⟩ : ∃ L' v, L = L' ++ [v] := ⟨L.dropLast, L.getLast (by intro e; rw [e] at h; cases h), (List.dropLast_concat_getLast _).symm⟩
    rw [← LV_snoc, LV_flat k L' (by simpa using h)]
    simp
theorem LV_append (A B : List Vl) : LV A ++ LV B = LV (A ++ B) := by
  rw [LV_flat _ A rfl, LV_flat _ B rfl, LV_flat _ _ rfl, List.flatMap_append]
theorem LV_length (L : List Vl) : (LV L).length = L.length * 2 := vlVals_length _ _
theorem LV_one (L : List Vl) : ∀ u ∈ LV L, u.oneCell' = true := vlVals_one _ _
end Go.Proofs.YtmbgodncagjncaaDoor
