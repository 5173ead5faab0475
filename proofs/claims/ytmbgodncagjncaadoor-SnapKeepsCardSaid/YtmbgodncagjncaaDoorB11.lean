/- Append of a row of whatever elements, be it nil or not, to an own row. -/
import Derived.Test.YtmbgodncagjncaaDoorB10
import Derived.Test.YtmbgodncagjncaaDoorB03
import Derived.Test.YtmbgodncagjncaaDoorB01
import Derived.Deep.Cut
import Derived.Test.YtmbgodncagjncaaDoorB08
namespace Go.Proofs.YtmbgodncagjncaaDoor
set_option linter.unusedSimpArgs false
set_option linter.unusedVariables false
open Go.ChangeShapes Go.WideShapes Go.ChangeAt Go.RowKit

theorem wpList_append_row {P : Program} {w : World} {ops : Array Oper} {rest : List Oper} {o : Oper} {a : Act} {Q : Exit → Act → World → Prop} (hgd : o.guard = none) (s x : Operand) (t : TypeId)
    (ho : o.op = .call { callee := .builtin .append, args := #[s, x], argTypes := #[t, t] })
    (base : Nat) (e : TypeId) (i : TypeInfo) (z0 : Value) (size bytes : Nat) (ht : P.underlying t = some (.slice e)) (hi : P.info? e = some i) (hz : i.zero = some z0) (hsize : i.size = size) (hby : i.bytes = bytes) (hzs : z0.cells.size = size) (hsz : 0 < size)
    (v : Value) (m : Nat) (xs : List Value) (hs : a.eval s = v) (hown : w.ownsRow base e size v m xs)
    (p : Option Addr) (n cap : Nat) (ys : List Value) (hx : a.eval x = .slice p n cap) (hl : ys.length = n * size) (hcells : ∀ ad, p = some ad → ∀ j u, ys[j]? = some u → w.cell? (ad.add j) = some u) (h1 : ∀ u ∈ ys, u.oneCell' = true) (hq : p = none → n = 0 ∧ cap = 0)
    (h63 : m + n ≤ maxLen) (hbytes : (m + n) * bytes ≤ 140737488355328) (hbase : base ≤ w.heap.size)
    (h : ∀ v' w', w'.ownsRow base e size v' (m + n) (xs ++ ys) → w.grownBy w' v.ownBlock → wpList P ops Q rest (a.put o.dst v') w') : wpList P ops Q (o :: rest) a w := by
  cases p with
  | none =>
    obtain ⟨rfl, rfl⟩ := hq rfl
    obtain rfl : ys = [] := List.eq_nil_of_length_eq_zero (by omega)
    exact wpList_append_own_none hgd s x t ho base e i size ht hi v m xs hs hown hx (h v w (by simpa using hown) (World.grownBy.refl _ _))
  | some ad =>
    exact wpList_append_own _ hgd s x t ho base e i z0 size bytes ht hi hz hsize hby hzs hsz v m xs hs hown ad n cap ys hx hl (hcells ad rfl) h1 h63 hbytes hbase (fun v' w' h1 h2 _ => h v' w' h1 h2)
end Go.Proofs.YtmbgodncagjncaaDoor
namespace Go.Proofs.YtmbgodncagjncaaDoor
set_option linter.unusedSimpArgs false
set_option linter.unusedVariables false
open Go.ChangeShapes Go.WideShapes Go.ChangeAt Go.RowKit Go.Joins

def inI (n : Nat) (i : Int) : Bool := decide (0 ≤ i) && decide (i < n)
def putZ (z : Nat → Int) (i v : Int) : Nat → Int := fun j => if (j : Int) = i then v else z j
def sameZ (n : Nat) (z : Nat → Int) (m : Nat) (y : Nat → Int) : Bool := decide (n = m ∧ ∀ i, i < n → z i = y i)
theorem inI_yes {n : Nat} {i : Int} (h : 0 ≤ i) (h' : i < n) : inI n i = true := by simp [inI, h, h']
theorem inI_no {n : Nat} {i : Int} (h : ¬ (0 ≤ i ∧ i < n)) : inI n i = false := by simp [inI]; omega
theorem of_inI {n : Nat} {i : Int} (h : inI n i = true) : 0 ≤ i ∧ i < n := by simpa [inI] using h
theorem same_any (p q : Option Addr) (n cap m cap' : Nat) (z y : Nat → Int) (w : World) (hz : Ints .u64 w p n z) (hy : Ints .u64 w q m y) (hn : n ≤ maxLen) (hm : m ≤ maxLen) :
    Calls Tryd.prog 34 #[.slice p n cap, .slice q m cap'] w fun e w' => e = .returned (.bool (sameZ n z m y)) ∧ Below w.heap.size w w' := by
  simp only [maxLen] at hn hm
  by_cases hnm : n = m
  · subst hnm
    go_enter Tryd.func34, Tryd.ntmps34
    go_wp2
    go_loopg [5] n (fun g jv wr => ∃ j : Int, 0 ≤ j ∧ j ≤ n ∧ g = (n - j).toNat ∧ jv = .int .i64 j ∧ (∀ t : Nat, t < j → z t = y t) ∧ Below w.heap.size w wr)
    case atStart => exact ⟨0, by omega, by omega, by omega, rfl, fun t ht => by omega, Below.refl _ _⟩
    case round =>
      obtain ⟨j, jl, jh, rfl, rfl, hall, hbw⟩ := hrel
      by_cases hj : j < n
      · obtain ⟨⟨b, off, rfl, hlt, hcell⟩, hwf⟩ := (hz.below hbw) j.toNat (by omega)
        obtain ⟨⟨b', off', rfl, hlt', hcell'⟩, hwf'⟩ := (hy.below hbw) j.toNat (by omega)
        by_cases e : z j.toNat = y j.toNat
        · go_wp2
          go_region
          all_goals
            go_wp2
            go_roundg ((n : Int) - (j + 1)).toNat
            case measure => omega
            case rel => exact ⟨j + 1, by omega, by omega, rfl, rfl, fun t ht => by
              by_cases ht' : (t : Int) < j
              · exact hall t ht'
              · obtain rfl : t = j.toNat := by omega
                exact e, by go_grown⟩
        · have e' : sameZ n z n y = false := by
            simp only [sameZ, decide_eq_false_iff_not]
            exact fun h => e (h.2 _ (by omega))
          go_wp2
          go_region
          all_goals
            go_wp2
            go_returns
            exact ⟨ret_bool (by simp [e']), by go_grown⟩
      · have e' : sameZ n z n y = true := by
          simp only [sameZ, decide_eq_true_eq]
          exact ⟨trivial, fun t ht => hall t (by omega)⟩
        go_wp2
        go_returns
        exact ⟨ret_bool (by simp [e']), by go_grown⟩
  · have e' : sameZ n z m y = false := by simp [sameZ, hnm]
    have hnm' : ¬ (n : Int) = m := by omega
    go_enter Tryd.func34, Tryd.ntmps34
    go_wp2
    go_returns
    exact ⟨ret_bool (by simp [e']), by go_grown⟩

theorem infoW : (Tryd.prog.info? 56).map (fun i => (i.zero, i.size, i.bytes)) = some (some (.int .u64 0), 1, 8) := by kernel_rfl

theorem one_new (w : World) (x : Value) (t : TypeId) : ∀ j u, [x][j]? = some u → (w.alloc (.cells #[x] t)).cell? ((⟨w.heap.size, 0, none⟩ : Addr).add j) = some u := by
  intro j u hj
  match j, hj with
  | 0, hj => simp at hj; subst hj; simp [Addr.add]
def plB (c a : Int) : Bool := decide (0 ≤ a ∧ a < 512 ∧ szW c ≠ 0 ∧ a % szW c = 0)
def plP (c a : Int) : Int := if plB c a = true then a / 32 else 0
def plI (c a : Int) : Int := if plB c a = true then a % 32 / szW c else 0

set_option maxHeartbeats 1000000 in
theorem aplace_any (c a : Int) (w : World) (hS : Sz w) :
    Calls Tryd.prog 86 #[.int .i64 c, .int .i64 a] w fun e w' => e = .returned (.tuple #[.int .i64 (plP c a), .int .i64 (plI c a), .bool (plB c a)]) ∧ Below w.heap.size w w' := by
  by_cases h : 0 ≤ a ∧ a < 512 ∧ szW c ≠ 0 ∧ a % szW c = 0
  · have e0 : plB c a = true := by simp only [plB, decide_eq_true_eq]; exact h
    have e1 : plP c a = a / 32 := by unfold plP; rw [if_pos e0]
    have e2 : plI c a = a % 32 / szW c := by unfold plI; rw [if_pos e0]
    rw [e0, e1, e2]
    clear e0 e1 e2
    rcases cl_cases c with ⟨-, h0, h1, -⟩ | ⟨-, h0, h1, -⟩ | ⟨-, h0, h1, -⟩ | ⟨-, h0, h1, -⟩ | ⟨-, h0, h1, -⟩
    all_goals
      rw [h0] at h ⊢
      obtain ⟨a0, a1, a2, a3⟩ := h
      try omega
    all_goals
      go_enter Tryd.func86, Tryd.ntmps86
      go_wp2_with (first
    | (go_at_call 89; refine Calls.mono (cwords_any _ _ (hS.below (by go_grown))) ?_; rintro e w' ⟨rfl, hb⟩; obtain ⟨hc, hf, hb, hz⟩ := bstep hb (w := w) (by go_grown); try simp only [World.size_alloc, World.size_setCell, World.size_drew] at hc hf hz)
      )
      go_region
      all_goals
        go_wp2
        go_returns
        exact ⟨rfl, by go_grown⟩
  · have e0 : plB c a = false := by simp only [plB, decide_eq_false_iff_not]; exact h
    have e1 : plP c a = 0 := by unfold plP; rw [if_neg (by simp [e0])]
    have e2 : plI c a = 0 := by unfold plI; rw [if_neg (by simp [e0])]
    rw [e0, e1, e2]
    clear e0 e1 e2
    by_cases ha : 0 ≤ a ∧ a < 512
    · rcases cl_cases c with ⟨-, h0, h1, -⟩ | ⟨-, h0, h1, -⟩ | ⟨-, h0, h1, -⟩ | ⟨-, h0, h1, -⟩ | ⟨-, h0, h1, -⟩
      all_goals
        rw [h0] at h
        obtain ⟨a0, a1⟩ := ha
        go_enter Tryd.func86, Tryd.ntmps86
        go_wp2_with (first
    | (go_at_call 89; refine Calls.mono (cwords_any _ _ (hS.below (by go_grown))) ?_; rintro e w' ⟨rfl, hb⟩; obtain ⟨hc, hf, hb, hz⟩ := bstep hb (w := w) (by go_grown); try simp only [World.size_alloc, World.size_setCell, World.size_drew] at hc hf hz)
        )
        go_returns
        exact ⟨rfl, by go_grown⟩
    · go_enter Tryd.func86, Tryd.ntmps86
      go_wp2
      all_goals
        go_returns
        exact ⟨rfl, by go_grown⟩

theorem pl_at {c a p i : Int} (p0 : 0 ≤ p) (p1 : p < 16) (i0 : 0 ≤ i) (i1 : i < blW c) (h : 32 * p + i * szW c = a) : plB c a = true ∧ plP c a = p ∧ plI c a = i := by
  have key : plB c a = true ∧ a / 32 = p ∧ a % 32 / szW c = i := by
    simp only [plB, decide_eq_true_eq]
    rcases cl_cases c with ⟨-, h0, h1, -⟩ | ⟨-, h0, h1, -⟩ | ⟨-, h0, h1, -⟩ | ⟨-, h0, h1, -⟩ | ⟨-, h0, h1, -⟩
    all_goals
      rw [h1] at i1
      rw [h0] at h ⊢
      omega
  obtain ⟨h0, h1, h2⟩ := key
  exact ⟨h0, by unfold plP; rw [if_pos h0]; exact h1, by unfold plI; rw [if_pos h0]; exact h2⟩
theorem pl_in {c a : Int} (h : plB c a = true) : 0 ≤ plP c a ∧ plP c a < 16 ∧ 0 ≤ plI c a ∧ plI c a < blW c ∧ 32 * plP c a + plI c a * szW c = a := by
  have e1 : plP c a = a / 32 := by unfold plP; rw [if_pos h]
  have e2 : plI c a = a % 32 / szW c := by unfold plI; rw [if_pos h]
  rw [e1, e2]
  simp only [plB, decide_eq_true_eq] at h
  rcases cl_cases c with ⟨-, h0, h1, -⟩ | ⟨-, h0, h1, -⟩ | ⟨-, h0, h1, -⟩ | ⟨-, h0, h1, -⟩ | ⟨-, h0, h1, -⟩
  all_goals
    rw [h1]
    rw [h0] at h ⊢
    omega
theorem pl_no {c a : Int} (h : ¬ plB c a = true) : plB c a = false ∧ plP c a = 0 ∧ plI c a = 0 := by
  refine ⟨by simpa using h, ?_, ?_⟩
  · unfold plP; rw [if_neg h]
  · unfold plI; rw [if_neg h]
end Go.Proofs.YtmbgodncagjncaaDoor
namespace Go.Proofs.YtmbgodncagjncaaDoor
set_option linter.unusedSimpArgs false
set_option linter.unusedVariables false
open Go.ChangeShapes Go.WideShapes Go.ChangeAt Go.RowKit Go.Joins

end Go.Proofs.YtmbgodncagjncaaDoor
