/- To what an object refers; two rows of numbers compared (chapter 8). -/
import Derived.Test.YtokbggokkjefhaaDoorObject
namespace Go.Proofs.YtokbggokkjefhaaDoor
set_option linter.unusedSimpArgs false
set_option linter.unusedVariables false
open Go.ChangeShapes Go.WideShapes Go.ChangeAt Go.RowKit Go.Joins

/-- The first k fields' references. -/
def rfL (h : Hp) (a : Int) : Nat → List Int
  | 0 => []
  | k + 1 => if getK (woH h (a + 1 + k)) = 2 then rfL h a k ++ [getN (woH h (a + 1 + k))] else rfL h a k
theorem rfL_yes {h : Hp} {a : Int} {k : Nat} (e : getK (woH h (a + 1 + k)) = 2) : rfL h a (k + 1) = rfL h a k ++ [getN (woH h (a + 1 + k))] := by simp only [rfL]; rw [if_pos e]
theorem rfL_no {h : Hp} {a : Int} {k : Nat} (e : ¬ getK (woH h (a + 1 + k)) = 2) : rfL h a (k + 1) = rfL h a k := by simp only [rfL]; rw [if_neg e]
theorem rfL_len (h : Hp) (a : Int) : ∀ k, (rfL h a k).length ≤ k
  | 0 => by simp [rfL]
  | k + 1 => by
    have := rfL_len h a k
    by_cases e : getK (woH h (a + 1 + k)) = 2
    · rw [rfL_yes e]; simp; omega
    · rw [rfL_no e]; omega
def rfH (h : Hp) (a : Int) : List Int := rfL h a (obN h a).toNat
theorem int_info' : (Tryd.prog.info? 3).map (fun i => (i.zero, i.size, i.bytes)) = some (some (.int .i64 0), 1, 8) := by kernel_rfl

theorem ob_room {h : Hp} {a : Int} (hF : formB h = true) (e : obB h a = true) : a + 1 < h.n := by
  obtain ⟨hf, -, a0, a1, -, a3, -⟩ := ob_spec hF e
  obtain ⟨-, -, -, -, -, i0, i1, ea⟩ := fi_spec hF hf
  rcases cl_cases (spH h (a / 32)).cl with ⟨-, e1, e2, -⟩ | ⟨-, e1, e2, -⟩ | ⟨-, e1, e2, -⟩ | ⟨-, e1, e2, -⟩ | ⟨-, e1, e2, -⟩
  all_goals
    rw [e1] at ea
    rw [e2] at i1
    omega
set_option maxHeartbeats 1000000 in
theorem rints8_any (p q : Option Addr) (n cap m cap' : Nat) (z y : Nat → Int) (w : World) (hz : Ints .i64 w p n z) (hy : Ints .i64 w q m y) (hn : n ≤ maxLen) (hm : m ≤ maxLen) :
    Calls Tryd.prog 12 #[.slice p n cap, .slice q m cap'] w fun e w' => e = .returned (.bool (sameZ n z m y)) ∧ Below w.heap.size w w' := by
  simp only [maxLen] at hn hm
  by_cases hnm : n = m
  · subst hnm
    go_enter Tryd.func12, Tryd.ntmps12
    go_wp2
    go_loopg [5] n (fun g jv wr => ∃ j : Int, 0 ≤ j ∧ j ≤ n ∧ g = (n - j).toNat ∧ jv = .int .i64 j ∧ (∀ t : Nat, t < j → z t = y t) ∧ Below w.heap.size w wr)
    case atStart => exact ⟨0, by omega, by omega, by omega, rfl, fun t ht => by omega, Below.refl _ _⟩
    case round =>
      obtain ⟨j, jl, jh, rfl, rfl, hall, hbw⟩ := hrel
      by_cases hj : j < n
      · obtain ⟨⟨b, off, rfl, hlt, hcell⟩, hwf⟩ := (hz.below hbw) j.toNat (by omega)
        obtain ⟨⟨b', off', rfl, hlt', hcell'⟩, hwf'⟩ := (hy.below hbw) j.toNat (by omega)
        by_cases e : z j.toNat = y j.toNat
        · go_wp2
          go_region
          all_goals
            go_wp2
            go_roundg ((n : Int) - (j + 1)).toNat
            case measure => omega
            case rel => exact ⟨j + 1, by omega, by omega, rfl, rfl, fun t ht => by
              by_cases ht' : (t : Int) < j
              · exact hall t ht'
              · obtain rfl : t = j.toNat := by omega
                exact e, by go_grown⟩
        · have e' : sameZ n z n y = false := by
            simp only [sameZ, decide_eq_false_iff_not]
            exact fun h => e (h.2 _ (by omega))
          go_wp2
          go_region
          all_goals
            go_wp2
            go_returns
            exact ⟨ret_bool (by simp [e']), by go_grown⟩
      · have e' : sameZ n z n y = true := by
          simp only [sameZ, decide_eq_true_eq]
          exact ⟨trivial, fun t ht => hall t (by omega)⟩
        go_wp2
        go_returns
        exact ⟨ret_bool (by simp [e']), by go_grown⟩
  · have e' : sameZ n z m y = false := by simp [sameZ, hnm]
    have hnm' : ¬ (n : Int) = m := by omega
    go_enter Tryd.func12, Tryd.ntmps12
    go_wp2
    go_returns
    exact ⟨ret_bool (by simp [e']), by go_grown⟩
end Go.Proofs.YtokbggokkjefhaaDoor
