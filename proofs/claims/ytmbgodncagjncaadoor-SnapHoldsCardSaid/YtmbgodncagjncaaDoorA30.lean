/- Contracts of the reference's roots (chapter 14), and of its comparisons of values and numbers. -/
import Derived.Test.YtmbgodncagjncaaDoorA09
import Derived.Test.YtmbgodncagjncaaDoorA19
import Derived.Test.YtmbgodncagjncaaDoorA18
import Derived.Deep.Cut
import Derived.Test.YtmbgodncagjncaaDoorA29
namespace Go.Proofs.YtmbgodncagjncaaDoor
set_option linter.unusedSimpArgs false
set_option linter.unusedVariables false
open Go.ChangeShapes Go.WideShapes Go.ChangeAt Go.RowKit Go.Joins

theorem val_info : (Tryd.prog.info? 46).map (fun i => (i.zero, i.size, i.bytes)) = some (some (.agg #[.int .i64 0, .int .i64 0]), 2, 16) := by kernel_rfl
/-- Refs: the numbers of the first n that refer to something. -/
def vrL (z : Nat → Vl) : Nat → List Int
  | 0 => []
  | n + 1 => if (z n).k = 2 then vrL z n ++ [(z n).n] else vrL z n
def sameV (n : Nat) (z : Nat → Vl) (m : Nat) (y : Nat → Vl) : Bool := decide (n = m ∧ ∀ i, i < n → (z i).k = (y i).k ∧ (z i).n = (y i).n)
theorem sameV_self (n : Nat) (z : Nat → Vl) : sameV n z n z = true := by simp [sameV]
set_option maxHeartbeats 1000000 in
theorem rvsame_any (p q : Option Addr) (n c m d : Nat) (z y : Nat → Vl) (w : World) (hz : VAt w p c n z) (hy : VAt w q d m y) :
    Calls Tryd.prog 20 #[.slice p n c, .slice q m d] w fun e w' => e = .returned (.bool (sameV n z m y)) ∧ Below w.heap.size w w' := by
  have hn := hz.nle
  have hm := hy.nle
  simp only [maxLen] at hn hm
  by_cases hnm : n = m
  · subst hnm
    go_enter Tryd.func20, Tryd.ntmps20
    go_wp2
    go_loopg [5] n (fun g jv wr => ∃ j : Int, 0 ≤ j ∧ j ≤ n ∧ g = (n - j).toNat ∧ jv = .int .i64 j ∧ (∀ t : Nat, t < j → (z t).k = (y t).k ∧ (z t).n = (y t).n) ∧ Below w.heap.size w wr)
    case atStart => exact ⟨0, by omega, by omega, by omega, rfl, fun t ht => by omega, Below.refl _ _⟩
    case round =>
      obtain ⟨j, jl, jh, rfl, rfl, hall, hbw⟩ := hrel
      by_cases hj : j < n
      · obtain ⟨⟨b, off, rfl, hlt, u0, u1⟩, -⟩ := (hz.row.below hbw) j.toNat (by omega)
        obtain ⟨⟨b', off', rfl, hlt', v0, v1⟩, -⟩ := (hy.row.below hbw) j.toNat (by omega)
        by_cases e : (z j.toNat).k = (y j.toNat).k ∧ (z j.toNat).n = (y j.toNat).n
        · have hall2 : Hid (∀ t : Nat, t < j + 1 → (z t).k = (y t).k ∧ (z t).n = (y t).n) := fun t ht => by
            by_cases ht' : (t : Int) < j
            · exact hall t ht'
            · obtain rfl : t = j.toNat := by omega
              exact e
          rw [← e.1] at v0
          rw [← e.2] at v1
          clear e hall
          generalize z j.toNat = Z at *
          obtain ⟨Z0, Z1⟩ := Z
          dsimp only at *
          go_upto_region 6 with fail
          go_region
          all_goals
            go_wp2
            go_roundg ((n : Int) - (j + 1)).toNat
            case measure => omega
            case rel => exact ⟨j + 1, by omega, by omega, rfl, rfl, hall2.out, by go_grown⟩
        · have e' : Hid (sameV n z n y = false) := by
            show sameV n z n y = false
            simp only [sameV, decide_eq_false_iff_not]
            exact fun h => e (h.2 _ (by omega))
          have hne : Hid (¬ ((z j.toNat).k = (y j.toNat).k ∧ (z j.toNat).n = (y j.toNat).n)) := e
          clear e hall
          generalize z j.toNat = Z at *
          generalize y j.toNat = Y at *
          obtain ⟨Z0, Z1⟩ := Z
          obtain ⟨Y0, Y1⟩ := Y
          dsimp only at *
          by_cases h0 : Z0 = Y0
          · subst h0
            have h1 : ¬ Z1 = Y1 := fun h => hne.out ⟨rfl, h⟩
            clear hne
            go_upto_region 6 with fail
            go_region
            all_goals
              go_wp2
              go_returns
              exact ⟨ret_bool e'.out.symm, by go_grown⟩
          · clear hne
            go_upto_region 6 with fail
            go_region
            all_goals
              go_wp2
              go_returns
              exact ⟨ret_bool e'.out.symm, by go_grown⟩
      · have e' : Hid (sameV n z n y = true) := by
          show sameV n z n y = true
          simp only [sameV, decide_eq_true_eq]
          exact ⟨trivial, fun t ht => hall t (by omega)⟩
        go_wp2
        go_returns
        exact ⟨ret_bool e'.out.symm, by go_grown⟩
  · have e' : sameV n z m y = false := by simp [sameV, hnm]
    have hnm' : ¬ (n : Int) = m := by omega
    rw [e']
    go_enter Tryd.func20, Tryd.ntmps20
    go_wp2
    go_returns
    exact ⟨rfl, by go_grown⟩
end Go.Proofs.YtmbgodncagjncaaDoor
namespace Go.Proofs.YtmbgodncagjncaaDoor
set_option linter.unusedSimpArgs false
set_option linter.unusedVariables false
open Go.ChangeShapes Go.WideShapes Go.ChangeAt Go.RowKit

/-- A new marker. -/
def newM (r : Int) (nb : Nat) (br : Nat → Int) (nr : Nat) (ro : Nat → Vl) : Mk := ⟨⟨r, 0, fun _ => 0⟩, nb, fun i => ⟨br i, 0, fun _ => 0⟩, nr, ro, -1, 0, -1, false⟩
theorem vrL_mem {z : Nat → Vl} {x : Int} : ∀ {n : Nat}, x ∈ vrL z n ↔ ∃ i, i < n ∧ (z i).k = 2 ∧ (z i).n = x
  | 0 => by simp [vrL]
  | n + 1 => by
    have ih := vrL_mem (z := z) (x := x) (n := n)
    unfold vrL
    by_cases e : (z n).k = 2
    · rw [if_pos e, List.mem_append, ih, List.mem_singleton]
      constructor
      · rintro (⟨i, h1, h2⟩ | rfl)
        · exact ⟨i, by omega, h2⟩
        · exact ⟨n, by omega, e, rfl⟩
      · rintro ⟨i, h1, h2, h3⟩
        by_cases ei : i = n
        · subst ei; exact .inr h3.symm
        · exact .inl ⟨i, by omega, h2, h3⟩
    · rw [if_neg e, ih]
      constructor
      · rintro ⟨i, h1, h2⟩; exact ⟨i, by omega, h2⟩
      · rintro ⟨i, h1, h2, h3⟩
        by_cases ei : i = n
        · subst ei; exact absurd h2 e
        · exact ⟨i, by omega, h2, h3⟩
end Go.Proofs.YtmbgodncagjncaaDoor
