/- Operations (chapter 19), as data: what is wrong with one. -/
import Derived.Test.YtonjnedlnfdanaaDoorRef14
import Derived.Test.YtonjnedlnfdanaaDoorObjFn
import Derived.Test.YtonjnedlnfdanaaDoorRowOne
namespace Go.Proofs.YtonjnedlnfdanaaDoor
set_option linter.unusedSimpArgs false
set_option linter.unusedVariables false
open Go.ChangeShapes Go.WideShapes Go.ChangeAt Go.RowKit Go.Joins Go.Deep Go.Lib

/-- The error of an operation that names a field: the object's, or the field's. -/
def foE (h : Hp) (n : Nat) (z : Nat → Vl) (a b : Int) : Int := if voE n z a = 0 then fdE h (voX n z a) b else voE n z a
/-- What is wrong with an operation, but for the room. -/
def wrO (h : Hp) (n : Nat) (z : Nat → Vl) (k a b c : Int) : Int :=
  if k = 0 then (if 0 ≤ a ∧ a ≤ 15 then 0 else 1)
  else if k = 1 then foE h n z a b
  else if k = 2 then (if foE h n z a b = 0 then vsE n c else foE h n z a b)
  else if k = 3 then vsE n a
  else if k = 4 then (if 0 ≤ a ∧ a ≤ 1099511627776 then 0 else 1)
  else if k = 5 then vqE n
  else if k = 6 then 0 else 1
/-- Does it push a value? -/
def puO (k : Int) : Bool := k == 0 || k == 1 || k == 3 || k == 4
def ckO (h : Hp) (n : Nat) (z : Nat → Vl) (r k a b c : Int) : Int := if wrO h n z k a b c = 0 then (if puO k = true then vpE n r else 0) else wrO h n z k a b c
theorem vp_iff {n : Nat} {r : Int} : vpE n r = 0 ↔ (n : Int) < r := by
  unfold vpE vpB
  by_cases h : (n : Int) < r <;> simp [h]
theorem vo_more {n : Nat} {z y : Nat → Vl} (hy : ∀ i, i < n → y i = z i) {a : Int} (h : voE n z a = 0) : voE (n + 1) y a = 0 ∧ voX (n + 1) y a = voX n z a := by
  have h0 : 0 ≤ a ∧ a < n := by
    unfold voE at h
    split at h
    · assumption
    · exact absurd h (by decide)
  have e : y a.toNat = z a.toNat := hy _ (by omega)
  have h1 : voE (n + 1) y a = voE n z a := by
    unfold voE
    rw [if_pos h0, if_pos (by omega), e]
  refine ⟨h1.trans h, ?_⟩
  unfold voX
  rw [h1, e]
theorem vs_more {n : Nat} {a : Int} (h : vsE n a = 0) : vsE (n + 1) a = 0 := by
  unfold vsE at h ⊢
  split at h
  · rw [if_pos (by omega)]
  · exact absurd h (by decide)
theorem fo_more {h : Hp} {n : Nat} {z y : Nat → Vl} (hy : ∀ i, i < n → y i = z i) {a b : Int} (e : foE h n z a b = 0) : foE h (n + 1) y a b = 0 := by
  unfold foE at e ⊢
  split at e
  · rename_i h0
    obtain ⟨h1, h2⟩ := vo_more hy h0
    rw [if_pos h1, h2]
    exact e
  · contradiction
theorem wr_more {h : Hp} {n : Nat} {z y : Nat → Vl} (hy : ∀ i, i < n → y i = z i) {k a b c : Int} (e : wrO h n z k a b c = 0) : wrO h (n + 1) y k a b c = 0 := by
  unfold wrO at e ⊢
  split
  · rename_i hk; rw [if_pos hk] at e; exact e
  · rename_i hk0; rw [if_neg hk0] at e
    split
    · rename_i hk; rw [if_pos hk] at e; exact fo_more hy e
    · rename_i hk1; rw [if_neg hk1] at e
      split
      · rename_i hk; rw [if_pos hk] at e
        split at e
        · rename_i hf
          rw [if_pos (fo_more hy hf)]
          exact vs_more e
        · contradiction
      · rename_i hk2; rw [if_neg hk2] at e
        split
        · rename_i hk; rw [if_pos hk] at e; exact vs_more e
        · rename_i hk3; rw [if_neg hk3] at e
          split
          · rename_i hk; rw [if_pos hk] at e; exact e
          · rename_i hk4; rw [if_neg hk4] at e
            split
            · unfold vqE; rw [if_neg (by omega)]
            · rename_i hk5; rw [if_neg hk5] at e; exact e
/-- What may be done may still be done with one more value, and room for one more. -/
theorem ck_more {h : Hp} {n : Nat} {z y : Nat → Vl} (hy : ∀ i, i < n → y i = z i) {r k a b c : Int} (e : ckO h n z r k a b c = 0) : ckO h (n + 1) y (r + 1) k a b c = 0 := by
  unfold ckO at e ⊢
  split at e
  · rename_i hw
    rw [if_pos (wr_more hy hw)]
    split
    · rename_i hp
      rw [if_pos hp, vp_iff] at e
      rw [vp_iff]
      omega
    · rfl
  · contradiction
/-- A Read is refused as a Write of the first slot is, but for the room. -/
theorem ck_read {h : Hp} {n : Nat} {z : Nat → Vl} (hn : 0 < n) {r a b c : Int} : ckO h n z r 1 a b c = ckO h n z r 2 a b 0 ∨ (ckO h n z r 1 a b c = 5 ∧ ckO h n z r 2 a b 0 = 0) := by
  have e1 : ckO h n z r 1 a b c = if foE h n z a b = 0 then vpE n r else foE h n z a b := rfl
  have e2 : ckO h n z r 2 a b 0 = if foE h n z a b = 0 then 0 else foE h n z a b := by
    show (if (if foE h n z a b = 0 then vsE n 0 else foE h n z a b) = 0 then 0 else (if foE h n z a b = 0 then vsE n 0 else foE h n z a b)) = _
    have hs : vsE n 0 = 0 := by unfold vsE; rw [if_pos (by omega)]
    by_cases hf : foE h n z a b = 0
    · simp [hf, hs]
    · simp [hf]
  rw [e1, e2]
  by_cases hf : foE h n z a b = 0
  · rw [if_pos hf, if_pos hf]
    unfold vpE
    split
    · exact .inl rfl
    · exact .inr ⟨rfl, rfl⟩
  · rw [if_neg hf, if_neg hf]
    exact .inl rfl
section
variable {H : Type} {enc : TypeId × Value → H} {P : Program} {W : World} {base : Nat}
/-- An operation by value (api.Op), opened. -/
theorem open_op {t : TypeId} {f0 f1 f2 f3 : Field} {v : Value} {d : DataW H} {p : List MemPlace}
    (hs : P.underlying t = some (.struct #[f0, f1, f2, f3])) (hone : Go.Deep.oneCellFields P #[f0, f1, f2, f3] = true) (hC : P.cellsOf t = 4)
    (hu0 : P.underlying f0.type = some (.int .i64)) (hu1 : P.underlying f1.type = some (.int .i64)) (hu2 : P.underlying f2.type = some (.int .i64)) (hu3 : P.underlying f3.type = some (.int .i64))
    (hok : Value.okWide P W .any base t v) (h : DataW.Trod enc P W 0 (fun _ => true) true t v d p) :
    ∃ k a b c : Int, v = .agg #[.int .i64 k, .int .i64 a, .int .i64 b, .int .i64 c] ∧ In64 k ∧ In64 a ∧ In64 b ∧ In64 c := by
  obtain ⟨v0, v1, v2, v3, y0, y1, y2, y3, m, rfl, -, -, hy0, hy1, hy2, hy3⟩ := open_agg4 hs hone hC hok h
  obtain ⟨k, e0, -, w0⟩ := DataW.trod_int hu0 hy0
  obtain ⟨a, e1, -, w1⟩ := DataW.trod_int hu1 hy1
  obtain ⟨b, e2, -, w2⟩ := DataW.trod_int hu2 hy2
  obtain ⟨c, e3, -, w3⟩ := DataW.trod_int hu3 hy3
  simp at e0 e1 e2 e3
  subst e0 e1 e2 e3
  exact ⟨k, a, b, c, rfl, wf_i64 w0, wf_i64 w1, wf_i64 w2, wf_i64 w3⟩
end
end Go.Proofs.YtonjnedlnfdanaaDoor
