/- Contracts of class.Words, class.Blocks, class.Fields, class.Of and of the reference's Words, Blocks, Of, for every number. -/
import Derived.Test.YtiofeebiejkajaaDoorA01
import Derived.Deep.Cut
import Derived.Lib.TrailingZeros
import Derived.Lib.Tables
import Derived.Test.YtiofeebiejkajaaDoorProg
import Derived.Lib.EndianBits
import Derived.Shelf.Spec.TrailingZeros
namespace Go.Proofs.YtiofeebiejkajaaDoor
set_option linter.unusedSimpArgs false
set_option linter.unusedVariables false
open Go.ChangeShapes Go.WideShapes Go.ChangeAt Go.RowKit Go.Joins

def szW (c : Int) : Int := if c = 0 then 2 else if c = 1 then 4 else if c = 2 then 8 else if c = 3 then 16 else 0
def blW (c : Int) : Int := if c = 0 then 16 else if c = 1 then 8 else if c = 2 then 4 else if c = 3 then 2 else 0
def flW (c : Int) : Int := if c = 0 then 1 else if c = 1 then 3 else if c = 2 then 7 else if c = 3 then 15 else 0
/-- The code's table of sizes, in its variable. -/
def Sz (w : World) : Prop := 0 < w.heap.size ∧ w.cell? ⟨0, 0, none⟩ = some (.int .i64 2) ∧ w.cell? ⟨0, 1, none⟩ = some (.int .i64 4) ∧ w.cell? ⟨0, 2, none⟩ = some (.int .i64 8) ∧ w.cell? ⟨0, 3, none⟩ = some (.int .i64 16)
theorem Sz.below {w w' : World} (h : Sz w) (hb : Below w.heap.size w w') : Sz w' := by
  obtain ⟨h0, h1, h2, h3, h4⟩ := h
  refine ⟨Nat.lt_of_lt_of_le h0 hb.size, ?_, ?_, ?_, ?_⟩ <;> rw [hb.cell (by exact h0)] <;> assumption
theorem sizes_of {W : World} {l rest : List (String × DataW Unit)} (h : laidMetH Tryd.prog l W) (hp : (l.all fun x => x.2.handleName?.isNone) = true)
    (hm : (l.filter fun x => x.1 == "flotsam/class.sizes") = ("flotsam/class.sizes", Lib.tabData .i64 [2, 4, 8, 16]) :: rest) : Sz W := by
  have ht := tab_is (g := 0) (t := 145) (e := 3) (n := 4) h hp hm (by kernel_rfl) (by kernel_rfl) Tryd.underlying145 Tryd.underlying3 (by kernel_rfl) (by kernel_rfl)
  have hg : Tryd.prog.globalNamed "flotsam/class.sizes" = some 0 := by kernel_rfl
  have h0 := ht.cell hg 0 (by decide)
  exact ⟨World.block_lt_of_cell? W _ h0, h0, ht.cell hg 1 (by decide), ht.cell hg 2 (by decide), ht.cell hg 3 (by decide)⟩

theorem cwords_any (c : Int) (w : World) (hS : Sz w) :
    Calls Tryd.prog 93 #[.int .i64 c] w fun e w' => e = .returned (.int .i64 (szW c)) ∧ Below w.heap.size w w' := by
  obtain ⟨s, s0, s1, s2, s3⟩ := hS
  by_cases h : 0 ≤ c ∧ c < 4
  · obtain rfl | rfl | rfl | rfl : c = 0 ∨ c = 1 ∨ c = 2 ∨ c = 3 := by omega
    all_goals
      go_enter Tryd.func93, Tryd.ntmps93
      go_wp2
      go_returns
      exact ⟨ret_int (by simp [szW]), by go_grown⟩
  · have e : szW c = 0 := by unfold szW; (repeat' split) <;> omega
    go_enter Tryd.func93, Tryd.ntmps93
    go_wp2
    all_goals
      go_returns
      exact ⟨ret_int (by simp [e]), by go_grown⟩

theorem cl_cases (c : Int) : c = 0 ∧ szW c = 2 ∧ blW c = 16 ∧ flW c = 1 ∨ c = 1 ∧ szW c = 4 ∧ blW c = 8 ∧ flW c = 3 ∨ c = 2 ∧ szW c = 8 ∧ blW c = 4 ∧ flW c = 7 ∨ c = 3 ∧ szW c = 16 ∧ blW c = 2 ∧ flW c = 15 ∨ ¬ (0 ≤ c ∧ c < 4) ∧ szW c = 0 ∧ blW c = 0 ∧ flW c = 0 := by
  by_cases h : 0 ≤ c ∧ c < 4
  · obtain rfl | rfl | rfl | rfl : c = 0 ∨ c = 1 ∨ c = 2 ∨ c = 3 := by omega
    all_goals simp [szW, blW, flW]
  · refine .inr (.inr (.inr (.inr ⟨h, ?_, ?_, ?_⟩)))
    · unfold szW; (repeat' split) <;> omega
    · unfold blW; (repeat' split) <;> omega
    · unfold flW; (repeat' split) <;> omega

theorem sz_next {c : Int} (h : 0 ≤ c) (h' : c < 3) : 2 * szW c = szW (c + 1) := by
  obtain rfl | rfl | rfl : c = 0 ∨ c = 1 ∨ c = 2 := by omega
  all_goals rfl
theorem bl_next {c : Int} (h : 0 ≤ c) (h' : c < 3) : blW c = 2 * blW (c + 1) := by
  obtain rfl | rfl | rfl : c = 0 ∨ c = 1 ∨ c = 2 := by omega
  all_goals rfl

theorem rcwords_any (c : Int) (w : World) :
    Calls Tryd.prog 70 #[.int .i64 c] w fun e w' => e = .returned (.int .i64 (szW c)) ∧ Below w.heap.size w w' := by
  by_cases h : 0 ≤ c ∧ c ≤ 3
  · obtain ⟨h0, h1⟩ := h
    go_enter Tryd.func70, Tryd.ntmps70
    go_wp2
    go_loopg [3, 4] c.toNat (fun g nv iv wr => ∃ i : Int, 0 ≤ i ∧ i ≤ c ∧ g = (c - i).toNat ∧ nv = .int .i64 (szW i) ∧ iv = .int .i64 i ∧ Below w.heap.size w wr)
    case atStart => exact ⟨0, by omega, by omega, by omega, rfl, rfl, by go_grown⟩
    case round =>
      obtain ⟨i, il, ih, rfl, rfl, rfl, hbw⟩ := hrel
      obtain ⟨hc, hf, hb, hz⟩ := bstep hbw (w := w) (Below.refl _ _)
      have hbd := cl_cases i
      by_cases hi : i < c
      · have hn := sz_next il (by omega)
        go_wp2
        go_roundg (c - (i + 1)).toNat
        case measure => omega
        case rel => exact ⟨i + 1, by omega, by omega, rfl, by simp [hn], rfl, by go_grown⟩
      · obtain rfl : i = c := by omega
        go_wp2
        go_returns
        exact ⟨ret_int (by simp), by go_grown⟩
  · have e : szW c = 0 := by have := cl_cases c; omega
    go_enter Tryd.func70, Tryd.ntmps70
    go_wp2
    all_goals
      go_returns
      exact ⟨ret_int (by simp [e]), by go_grown⟩

theorem rcblocks_any (c : Int) (w : World) :
    Calls Tryd.prog 59 #[.int .i64 c] w fun e w' => e = .returned (.int .i64 (blW c)) ∧ Below w.heap.size w w' := by
  by_cases h : 0 ≤ c ∧ c ≤ 3
  · obtain ⟨h0, h1⟩ := h
    go_enter Tryd.func59, Tryd.ntmps59
    go_wp2
    go_loopg [3, 4] c.toNat (fun g nv iv wr => ∃ i : Int, 0 ≤ i ∧ i ≤ c ∧ g = (c - i).toNat ∧ nv = .int .i64 (blW i) ∧ iv = .int .i64 i ∧ Below w.heap.size w wr)
    case atStart => exact ⟨0, by omega, by omega, by omega, rfl, rfl, by go_grown⟩
    case round =>
      obtain ⟨i, il, ih, rfl, rfl, rfl, hbw⟩ := hrel
      obtain ⟨hc, hf, hb, hz⟩ := bstep hbw (w := w) (Below.refl _ _)
      have hbd := cl_cases i
      by_cases hi : i < c
      · have hn := bl_next il (by omega)
        have hn' : blW i / 2 = blW (i + 1) := by omega
        go_wp2
        go_roundg (c - (i + 1)).toNat
        case measure => omega
        case rel => exact ⟨i + 1, by omega, by omega, rfl, by simp [hn'], rfl, by go_grown⟩
      · obtain rfl : i = c := by omega
        go_wp2
        go_returns
        exact ⟨ret_int (by simp), by go_grown⟩
  · have e : blW c = 0 := by have := cl_cases c; omega
    go_enter Tryd.func59, Tryd.ntmps59
    go_wp2
    all_goals
      go_returns
      exact ⟨ret_int (by simp [e]), by go_grown⟩

end Go.Proofs.YtiofeebiejkajaaDoor
namespace Go.Proofs.YtiofeebiejkajaaDoor
set_option linter.unusedSimpArgs false
set_option linter.unusedVariables false
open Go.ChangeShapes Go.WideShapes Go.ChangeAt Go.RowKit Go.Joins

def inI (n : Nat) (i : Int) : Bool := decide (0 ≤ i) && decide (i < n)
def putZ (z : Nat → Int) (i v : Int) : Nat → Int := fun j => if (j : Int) = i then v else z j
def sameZ (n : Nat) (z : Nat → Int) (m : Nat) (y : Nat → Int) : Bool := decide (n = m ∧ ∀ i, i < n → z i = y i)
theorem inI_yes {n : Nat} {i : Int} (h : 0 ≤ i) (h' : i < n) : inI n i = true := by simp [inI, h, h']
theorem inI_no {n : Nat} {i : Int} (h : ¬ (0 ≤ i ∧ i < n)) : inI n i = false := by simp [inI]; omega
theorem of_inI {n : Nat} {i : Int} (h : inI n i = true) : 0 ≤ i ∧ i < n := by simpa [inI] using h
theorem same_any (p q : Option Addr) (n cap m cap' : Nat) (z y : Nat → Int) (w : World) (hz : Ints .u64 w p n z) (hy : Ints .u64 w q m y) (hn : n ≤ maxLen) (hm : m ≤ maxLen) :
    Calls Tryd.prog 44 #[.slice p n cap, .slice q m cap'] w fun e w' => e = .returned (.bool (sameZ n z m y)) ∧ Below w.heap.size w w' := by
  simp only [maxLen] at hn hm
  by_cases hnm : n = m
  · subst hnm
    go_enter Tryd.func44, Tryd.ntmps44
    go_wp2
    go_loopg [5] n (fun g jv wr => ∃ j : Int, 0 ≤ j ∧ j ≤ n ∧ g = (n - j).toNat ∧ jv = .int .i64 j ∧ (∀ t : Nat, t < j → z t = y t) ∧ Below w.heap.size w wr)
    case atStart => exact ⟨0, by omega, by omega, by omega, rfl, fun t ht => by omega, Below.refl _ _⟩
    case round =>
      obtain ⟨j, jl, jh, rfl, rfl, hall, hbw⟩ := hrel
      by_cases hj : j < n
      · obtain ⟨⟨b, off, rfl, hlt, hcell⟩, hwf⟩ := (hz.below hbw) j.toNat (by omega)
        obtain ⟨⟨b', off', rfl, hlt', hcell'⟩, hwf'⟩ := (hy.below hbw) j.toNat (by omega)
        by_cases e : z j.toNat = y j.toNat
        · go_wp2
          go_region
          all_goals
            go_wp2
            go_roundg ((n : Int) - (j + 1)).toNat
            case measure => omega
            case rel => exact ⟨j + 1, by omega, by omega, rfl, rfl, fun t ht => by
              by_cases ht' : (t : Int) < j
              · exact hall t ht'
              · obtain rfl : t = j.toNat := by omega
                exact e, by go_grown⟩
        · have e' : sameZ n z n y = false := by
            simp only [sameZ, decide_eq_false_iff_not]
            exact fun h => e (h.2 _ (by omega))
          go_wp2
          go_region
          all_goals
            go_wp2
            go_returns
            exact ⟨ret_bool (by simp [e']), by go_grown⟩
      · have e' : sameZ n z n y = true := by
          simp only [sameZ, decide_eq_true_eq]
          exact ⟨trivial, fun t ht => hall t (by omega)⟩
        go_wp2
        go_returns
        exact ⟨ret_bool (by simp [e']), by go_grown⟩
  · have e' : sameZ n z m y = false := by simp [sameZ, hnm]
    have hnm' : ¬ (n : Int) = m := by omega
    go_enter Tryd.func44, Tryd.ntmps44
    go_wp2
    go_returns
    exact ⟨ret_bool (by simp [e']), by go_grown⟩

theorem infoW : (Tryd.prog.info? 95).map (fun i => (i.zero, i.size, i.bytes)) = some (some (.int .u64 0), 1, 8) := by kernel_rfl

theorem one_new (w : World) (x : Value) (t : TypeId) : ∀ j u, [x][j]? = some u → (w.alloc (.cells #[x] t)).cell? ((⟨w.heap.size, 0, none⟩ : Addr).add j) = some u := by
  intro j u hj
  match j, hj with
  | 0, hj => simp at hj; subst hj; simp [Addr.add]
def adB (g c i : Int) : Bool := decide (0 ≤ g ∧ g ≤ 15 ∧ 0 ≤ i ∧ i < blW c)
def adW (g c i : Int) : Int := if adB g c i = true then 32 * g + i * szW c else 0
def plB (c a : Int) : Bool := decide (0 ≤ a ∧ a < 512 ∧ szW c ≠ 0 ∧ a % szW c = 0)
def plP (c a : Int) : Int := if plB c a = true then a / 32 else 0
def plI (c a : Int) : Int := if plB c a = true then a % 32 / szW c else 0

set_option maxHeartbeats 1000000 in
theorem raddress_any (g c i : Int) (w : World) :
    Calls Tryd.prog 81 #[.int .i64 g, .int .i64 c, .int .i64 i] w fun e w' => e = .returned (.tuple #[.int .i64 (adW g c i), .bool (adB g c i)]) ∧ Below w.heap.size w w' := by
  by_cases h : 0 ≤ g ∧ g ≤ 15 ∧ 0 ≤ i ∧ i < blW c
  · have e0 : adB g c i = true := by simp only [adB, decide_eq_true_eq]; exact h
    have e1 : adW g c i = 32 * g + i * szW c := by unfold adW; rw [if_pos e0]
    rw [e0, e1]
    clear e0 e1
    rcases cl_cases c with ⟨-, h0, h1, -⟩ | ⟨-, h0, h1, -⟩ | ⟨-, h0, h1, -⟩ | ⟨-, h0, h1, -⟩ | ⟨-, h0, h1, -⟩
    all_goals
      rw [h1] at h
      obtain ⟨a0, a1, a2, a3⟩ := h
      try omega
    all_goals
      go_enter Tryd.func81, Tryd.ntmps81
      go_wp2_with (first
    | (go_at_call 59; refine Calls.mono (rcblocks_any _ _) ?_; rintro e w' ⟨rfl, hb⟩; obtain ⟨hc, hf, hb, hz⟩ := bstep hb (w := w) (by go_grown); try simp only [World.size_alloc, World.size_setCell, World.size_drew] at hc hf hz)
    | (go_at_call 70; refine Calls.mono (rcwords_any _ _) ?_; rintro e w' ⟨rfl, hb⟩; obtain ⟨hc, hf, hb, hz⟩ := bstep hb (w := w) (by go_grown); try simp only [World.size_alloc, World.size_setCell, World.size_drew] at hc hf hz)
      )
      go_returns
      exact ⟨ret_int_bool (by simp [h0]; try omega) rfl, by go_grown⟩
  · have e0 : adB g c i = false := by simp only [adB, decide_eq_false_iff_not]; exact h
    have e1 : adW g c i = 0 := by unfold adW; rw [if_neg (by simp [e0])]
    rw [e0, e1]
    clear e0 e1
    by_cases hg : 0 ≤ g ∧ g ≤ 15 ∧ 0 ≤ i
    · obtain ⟨g0, g1, hi⟩ := hg
      have hb : ¬ i < blW c := by omega
      go_enter Tryd.func81, Tryd.ntmps81
      go_wp2_with (first
    | (go_at_call 59; refine Calls.mono (rcblocks_any _ _) ?_; rintro e w' ⟨rfl, hb⟩; obtain ⟨hc, hf, hb, hz⟩ := bstep hb (w := w) (by go_grown); try simp only [World.size_alloc, World.size_setCell, World.size_drew] at hc hf hz)
      )
      go_returns
      exact ⟨rfl, by go_grown⟩
    · go_enter Tryd.func81, Tryd.ntmps81
      go_wp2_with (first
    | (go_at_call 59; refine Calls.mono (rcblocks_any _ _) ?_; rintro e w' ⟨rfl, hb⟩; obtain ⟨hc, hf, hb, hz⟩ := bstep hb (w := w) (by go_grown); try simp only [World.size_alloc, World.size_setCell, World.size_drew] at hc hf hz)
      )
      all_goals
        first
        | omega
        | (go_returns
           exact ⟨rfl, by go_grown⟩)

set_option maxHeartbeats 1000000 in
theorem aplace_any (c a : Int) (w : World) (hS : Sz w) :
    Calls Tryd.prog 84 #[.int .i64 c, .int .i64 a] w fun e w' => e = .returned (.tuple #[.int .i64 (plP c a), .int .i64 (plI c a), .bool (plB c a)]) ∧ Below w.heap.size w w' := by
  by_cases h : 0 ≤ a ∧ a < 512 ∧ szW c ≠ 0 ∧ a % szW c = 0
  · have e0 : plB c a = true := by simp only [plB, decide_eq_true_eq]; exact h
    have e1 : plP c a = a / 32 := by unfold plP; rw [if_pos e0]
    have e2 : plI c a = a % 32 / szW c := by unfold plI; rw [if_pos e0]
    rw [e0, e1, e2]
    clear e0 e1 e2
    rcases cl_cases c with ⟨-, h0, h1, -⟩ | ⟨-, h0, h1, -⟩ | ⟨-, h0, h1, -⟩ | ⟨-, h0, h1, -⟩ | ⟨-, h0, h1, -⟩
    all_goals
      rw [h0] at h ⊢
      obtain ⟨a0, a1, a2, a3⟩ := h
      try omega
    all_goals
      go_enter Tryd.func84, Tryd.ntmps84
      go_wp2_with (first
    | (go_at_call 93; refine Calls.mono (cwords_any _ _ (hS.below (by go_grown))) ?_; rintro e w' ⟨rfl, hb⟩; obtain ⟨hc, hf, hb, hz⟩ := bstep hb (w := w) (by go_grown); try simp only [World.size_alloc, World.size_setCell, World.size_drew] at hc hf hz)
      )
      go_region
      all_goals
        go_wp2
        go_returns
        exact ⟨rfl, by go_grown⟩
  · have e0 : plB c a = false := by simp only [plB, decide_eq_false_iff_not]; exact h
    have e1 : plP c a = 0 := by unfold plP; rw [if_neg (by simp [e0])]
    have e2 : plI c a = 0 := by unfold plI; rw [if_neg (by simp [e0])]
    rw [e0, e1, e2]
    clear e0 e1 e2
    by_cases ha : 0 ≤ a ∧ a < 512
    · rcases cl_cases c with ⟨-, h0, h1, -⟩ | ⟨-, h0, h1, -⟩ | ⟨-, h0, h1, -⟩ | ⟨-, h0, h1, -⟩ | ⟨-, h0, h1, -⟩
      all_goals
        rw [h0] at h
        obtain ⟨a0, a1⟩ := ha
        go_enter Tryd.func84, Tryd.ntmps84
        go_wp2_with (first
    | (go_at_call 93; refine Calls.mono (cwords_any _ _ (hS.below (by go_grown))) ?_; rintro e w' ⟨rfl, hb⟩; obtain ⟨hc, hf, hb, hz⟩ := bstep hb (w := w) (by go_grown); try simp only [World.size_alloc, World.size_setCell, World.size_drew] at hc hf hz)
        )
        go_returns
        exact ⟨rfl, by go_grown⟩
    · go_enter Tryd.func84, Tryd.ntmps84
      go_wp2
      all_goals
        go_returns
        exact ⟨rfl, by go_grown⟩

theorem pl_at {c a p i : Int} (p0 : 0 ≤ p) (p1 : p < 16) (i0 : 0 ≤ i) (i1 : i < blW c) (h : 32 * p + i * szW c = a) : plB c a = true ∧ plP c a = p ∧ plI c a = i := by
  have key : plB c a = true ∧ a / 32 = p ∧ a % 32 / szW c = i := by
    simp only [plB, decide_eq_true_eq]
    rcases cl_cases c with ⟨-, h0, h1, -⟩ | ⟨-, h0, h1, -⟩ | ⟨-, h0, h1, -⟩ | ⟨-, h0, h1, -⟩ | ⟨-, h0, h1, -⟩
    all_goals
      rw [h1] at i1
      rw [h0] at h ⊢
      omega
  obtain ⟨h0, h1, h2⟩ := key
  exact ⟨h0, by unfold plP; rw [if_pos h0]; exact h1, by unfold plI; rw [if_pos h0]; exact h2⟩
theorem pl_in {c a : Int} (h : plB c a = true) : 0 ≤ plP c a ∧ plP c a < 16 ∧ 0 ≤ plI c a ∧ plI c a < blW c ∧ 32 * plP c a + plI c a * szW c = a := by
  have e1 : plP c a = a / 32 := by unfold plP; rw [if_pos h]
  have e2 : plI c a = a % 32 / szW c := by unfold plI; rw [if_pos h]
  rw [e1, e2]
  simp only [plB, decide_eq_true_eq] at h
  rcases cl_cases c with ⟨-, h0, h1, -⟩ | ⟨-, h0, h1, -⟩ | ⟨-, h0, h1, -⟩ | ⟨-, h0, h1, -⟩ | ⟨-, h0, h1, -⟩
  all_goals
    rw [h1]
    rw [h0] at h ⊢
    omega
theorem pl_no {c a : Int} (h : ¬ plB c a = true) : plB c a = false ∧ plP c a = 0 ∧ plI c a = 0 := by
  refine ⟨by simpa using h, ?_, ?_⟩
  · unfold plP; rw [if_neg h]
  · unfold plI; rw [if_neg h]
theorem ad_in {g c i : Int} (g0 : 0 ≤ g) (g1 : g < 16) (i0 : 0 ≤ i) (i1 : i < blW c) : adB g c i = true ∧ adW g c i = 32 * g + i * szW c := by
  have e0 : adB g c i = true := by simp only [adB, decide_eq_true_eq]; omega
  exact ⟨e0, by unfold adW; rw [if_pos e0]⟩

end Go.Proofs.YtiofeebiejkajaaDoor
namespace Go.Proofs.YtiofeebiejkajaaDoor
set_option linter.unusedSimpArgs false
set_option linter.unusedVariables false
open Go.RowKit

def inB (n : Int) : Bool := decide (0 ≤ n) && decide (n < 32)
def oneN (n : Int) : Nat := if inB n = true then 2 ^ n.toNat else 0
def hasB (m n : Int) : Bool := inB n && m.toNat.testBit n.toNat
def withW (m n : Int) : Int := ((m.toNat ||| oneN n : Nat) : Int)
def woutN (m : Nat) (n : Int) : Nat := (BitVec.ofNat 32 m &&& ~~~ BitVec.ofNat 32 (oneN n)).toNat
def woutW (m n : Int) : Int := (woutN m.toNat n : Int)
def leastW (m : Int) : Int := if m = 0 then 0 else (Lib.ctz 32 m.toNat : Int)
def leastB (m : Int) : Bool := !(m == 0)
def cntTo (f : Int → Bool) : Nat → Int
  | 0 => 0
  | k + 1 => cntTo f k + (if f (k : Int) = true then 1 else 0)
def countW (m : Int) : Int := cntTo (hasB m) 32
def wholeW (n : Int) : Int := if n ≤ 0 then 0 else if n < 32 then 2 ^ n.toNat - 1 else 4294967295
def Mask (m : Int) : Prop := 0 ≤ m ∧ m < 4294967296

theorem inB_iff (n : Int) : inB n = true ↔ 0 ≤ n ∧ n < 32 := by simp [inB]
theorem inB_yes {n : Int} (h0 : 0 ≤ n) (h1 : n < 32) : inB n = true := (inB_iff n).2 ⟨h0, h1⟩
theorem inB_no {n : Int} (h : ¬ (0 ≤ n ∧ n < 32)) : inB n = false := by
  cases e : inB n with
  | false => rfl
  | true => exact absurd ((inB_iff n).1 e) h
theorem oneN_lt (n : Int) : oneN n < 2 ^ 32 := by
  unfold oneN
  split
  · rename_i h
    have := (inB_iff n).1 h
    exact Nat.pow_lt_pow_right (by decide) (by omega)
  · decide
theorem testBit_oneN (n : Int) (i : Nat) : (oneN n).testBit i = (inB n && decide (n.toNat = i)) := by
  unfold oneN
  split <;> simp_all [Nat.testBit_two_pow]
theorem lt_testBit {m i : Nat} (h : m < 2 ^ 32) (hi : 32 ≤ i) : m.testBit i = false :=
  Nat.testBit_lt_two_pow (Nat.lt_of_lt_of_le h (Nat.pow_le_pow_right (by decide) hi))
theorem testBit_woutN (m : Nat) (n : Int) (i : Nat) (h : m < 2 ^ 32) : (woutN m n).testBit i = (m.testBit i && !(oneN n).testBit i) := by
  unfold woutN
  rw [← BitVec.getLsbD, BitVec.getLsbD_and, BitVec.getLsbD_not, BitVec.getLsbD_ofNat, BitVec.getLsbD_ofNat]
  by_cases hi : i < 32
  · simp [hi]
  · simp [hi, lt_testBit h (by omega : 32 ≤ i)]
theorem woutN_lt (m : Nat) (n : Int) : woutN m n < 2 ^ 32 := by unfold woutN; exact BitVec.isLt _

theorem mask_with {m n : Int} (h : Mask m) : Mask (withW m n) := by
  have := Nat.or_lt_two_pow (x := m.toNat) (y := oneN n) (n := 32) (by have := h.2; have := h.1; omega) (oneN_lt n)
  unfold withW Mask
  omega
theorem mask_wout (m n : Int) : Mask (woutW m n) := by
  have := woutN_lt m.toNat n
  unfold woutW Mask
  omega
theorem has_with (m n i : Int) : hasB (withW m n) i = (hasB m i || inB n && decide (i = n)) := by
  unfold hasB withW
  cases hi : inB i with
  | false =>
    cases hn : inB n with
    | false => simp
    | true =>
      have h1 := (inB_iff n).1 hn
      have : ¬ i = n := fun e => by rw [e, hn] at hi; simp at hi
      simp [this]
  | true =>
    have h0 := (inB_iff i).1 hi
    simp only [Int.toNat_natCast, Nat.testBit_or, testBit_oneN, Bool.true_and]
    congr 1
    cases hn : inB n with
    | false => rfl
    | true =>
      have h1 := (inB_iff n).1 hn
      simp only [Bool.true_and, decide_eq_decide]
      omega
theorem has_wout {m : Int} (n i : Int) (h : Mask m) : hasB (woutW m n) i = (hasB m i && !(inB n && decide (i = n))) := by
  have hm : m.toNat < 2 ^ 32 := by have := h.1; have := h.2; omega
  unfold hasB woutW
  cases hi : inB i with
  | false => simp
  | true =>
    have h0 := (inB_iff i).1 hi
    simp only [Int.toNat_natCast, testBit_woutN _ _ _ hm, testBit_oneN, Bool.true_and]
    congr 2
    cases hn : inB n with
    | false => rfl
    | true =>
      have h1 := (inB_iff n).1 hn
      simp only [Bool.true_and, decide_eq_decide]
      omega
theorem has_out {m i : Int} (h : ¬ (0 ≤ i ∧ i < 32)) : hasB m i = false := by simp [hasB, inB_no h]
theorem mask_ext {m m' : Int} (h : Mask m) (h' : Mask m') (e : ∀ i : Int, 0 ≤ i → i < 32 → hasB m i = hasB m' i) : m = m' := by
  have hm : m.toNat < 2 ^ 32 := by have := h.1; have := h.2; omega
  have hm' : m'.toNat < 2 ^ 32 := by have := h'.1; have := h'.2; omega
  have key : m.toNat = m'.toNat := Nat.eq_of_testBit_eq fun i => by
    by_cases hi : i < 32
    · have := e i (by omega) (by omega)
      simpa [hasB, inB_yes (by omega : (0 : Int) ≤ i) (by omega : (i : Int) < 32)] using this
    · rw [lt_testBit hm (by omega), lt_testBit hm' (by omega)]
  have := h.1; have := h'.1
  omega

/-! ### The operations on bits that the code leaves. -/
theorem toNat_cast {m : Int} (h : Mask m) : (m.toNat : Int) = m := by have := h.1; omega
/-! ### The least number. -/
theorem least_bit {m : Nat} (h0 : m ≠ 0) (h : m < 2 ^ 32) : m.testBit (Lib.ctz 32 m) = true ∧ ∀ i, i < Lib.ctz 32 m → m.testBit i = false := by
  obtain ⟨k, hk, -⟩ := Lib.ctzFrom_spec 32 m (by omega) h
  have e : Lib.ctz 32 m = Lib.ctzFrom 32 m := by simp [Lib.ctz, h0]
  rw [e]
  generalize Lib.ctzFrom 32 m = c at hk
  subst hk
  constructor
  · rw [Nat.mul_comm, Nat.testBit_mul_two_pow]; simp
  · intro i hi
    rw [Nat.mul_comm, Nat.testBit_mul_two_pow]; simp; omega
theorem ctz_lt {m : Nat} (h0 : m ≠ 0) (h : m < 2 ^ 32) : Lib.ctz 32 m < 32 := (Lib.lowest_bit 32 m h0 h).2
theorem least_spec {m : Int} (h : Mask m) (h0 : m ≠ 0) : 0 ≤ leastW m ∧ leastW m < 32 ∧ hasB m (leastW m) = true ∧ ∀ i, i < leastW m → hasB m i = false := by
  have h1 := h.1
  have hm : m.toNat < 2 ^ 32 := by have := h.2; omega
  have hz : m.toNat ≠ 0 := by omega
  have hl := ctz_lt hz hm
  obtain ⟨a, b⟩ := least_bit hz hm
  have e : leastW m = (Lib.ctz 32 m.toNat : Int) := by simp [leastW, h0]
  rw [e]
  refine ⟨by omega, by omega, by simp [hasB, inB_yes (by omega : (0 : Int) ≤ Lib.ctz 32 m.toNat) (by omega), a], fun i hi => ?_⟩
  by_cases hb : 0 ≤ i ∧ i < 32
  · simp [hasB, b i.toNat (by omega)]
  · exact has_out hb
theorem least_of {m i : Int} (h : Mask m) (hi : hasB m i = true) (hl : ∀ j, j < i → hasB m j = false) : m ≠ 0 ∧ leastW m = i := by
  have h0 : m ≠ 0 := by
    intro e
    subst e
    simp [hasB] at hi
  refine ⟨h0, ?_⟩
  obtain ⟨a, b, c, d⟩ := least_spec h h0
  rcases Int.lt_trichotomy (leastW m) i with hlt | he | hgt
  · have := hl _ hlt; rw [c] at this; cases this
  · exact he
  · have := d _ hgt; rw [hi] at this; cases this
theorem none_of {m : Int} (h : Mask m) (hl : ∀ j, 0 ≤ j → j < 32 → hasB m j = false) : m = 0 := by
  refine mask_ext h ⟨by decide, by decide⟩ fun i a b => ?_
  rw [hl i a b]; simp [hasB]
theorem has_zero (i : Int) : hasB 0 i = false := by simp [hasB]

/-! ### How many. -/
theorem cntTo_congr {f g : Int → Bool} : ∀ {k : Nat}, (∀ i : Nat, i < k → f i = g i) → cntTo f k = cntTo g k
  | 0, _ => rfl
  | k + 1, h => by
    simp only [cntTo]
    rw [cntTo_congr (k := k) fun i hi => h i (by omega), h k (by omega)]
theorem cntTo_bound (f : Int → Bool) : ∀ k : Nat, 0 ≤ cntTo f k ∧ cntTo f k ≤ k
  | 0 => by simp [cntTo]
  | k + 1 => by
    have := cntTo_bound f k
    simp only [cntTo]
    split <;> omega
theorem cntTo_add (f : Int → Bool) (a : Nat) : ∀ k : Nat, cntTo f (a + k) = cntTo f a + cntTo (fun i => f (a + i)) k
  | 0 => by simp [cntTo]
  | k + 1 => by
    have := cntTo_add f a k
    rw [show a + (k + 1) = (a + k) + 1 by omega]
    simp only [cntTo]
    rw [this, show ((a + k : Nat) : Int) = (a : Int) + (k : Int) by omega]
    omega
theorem cntTo_zero {f : Int → Bool} : ∀ {k : Nat}, (∀ i : Nat, i < k → f i = false) → cntTo f k = 0
  | 0, _ => rfl
  | k + 1, h => by
    simp only [cntTo]
    rw [cntTo_zero (k := k) fun i hi => h i (by omega), h k (by omega)]
    simp
/-! ### The mask of those numbers that are told. -/
/-- The 32 numbers, from the greatest on: k of them. -/
def fromTop (f : Int → Bool) : Nat → Nat
  | 0 => 0
  | k + 1 => 2 * fromTop f k + (if f (31 - (k : Int)) = true then 1 else 0)
theorem fromTop_lt (f : Int → Bool) : ∀ k : Nat, fromTop f k < 2 ^ k
  | 0 => by simp [fromTop]
  | k + 1 => by
    have := fromTop_lt f k
    simp only [fromTop]
    rw [Nat.pow_succ]
    split <;> omega
theorem testBit_fromTop (f : Int → Bool) : ∀ (k j : Nat), j < k → (fromTop f k).testBit j = f (32 - (k : Int) + j)
  | 0, j, h => by omega
  | k + 1, 0, _ => by
    simp only [fromTop, Nat.testBit_zero]
    rw [show (32 : Int) - ((k + 1 : Nat) : Int) + ((0 : Nat) : Int) = 31 - (k : Int) by omega]
    cases f (31 - (k : Int)) <;> simp <;> omega
  | k + 1, j + 1, h => by
    have := testBit_fromTop f k j (by omega)
    simp only [fromTop]
    rw [Nat.testBit_succ, show (2 * fromTop f k + (if f (31 - (k : Int)) = true then 1 else 0)) / 2 = fromTop f k by split <;> omega, this]
    congr 1
    omega
def ofF (f : Int → Bool) : Int := (fromTop f 32 : Int)
theorem mask_of (f : Int → Bool) : Mask (ofF f) := by
  have := fromTop_lt f 32
  unfold ofF Mask
  omega
theorem has_of (f : Int → Bool) {i : Int} (h0 : 0 ≤ i) (h1 : i < 32) : hasB (ofF f) i = f i := by
  unfold hasB ofF
  rw [inB_yes h0 h1, Int.toNat_natCast, testBit_fromTop f 32 i.toNat (by omega)]
  simp only [Bool.true_and]
  congr 1
  omega
theorem of_eq {f : Int → Bool} {m : Int} (h : Mask m) (e : ∀ i : Int, 0 ≤ i → i < 32 → f i = hasB m i) : ofF f = m :=
  mask_ext (mask_of f) h fun i a b => by rw [has_of f a b, e i a b]
theorem mask_whole (n : Int) : Mask (wholeW n) := by
  unfold wholeW Mask
  split
  · omega
  · split
    · have h1 : (2 : Int) ^ n.toNat = ((2 ^ n.toNat : Nat) : Int) := by simp
      have h2 : 2 ^ n.toNat < 2 ^ 32 := Nat.pow_lt_pow_right (by decide) (by omega)
      have h3 := Nat.two_pow_pos n.toNat
      rw [h1]
      omega
    · omega
theorem has_whole (n : Int) {i : Int} (h0 : 0 ≤ i) (h1 : i < 32) : hasB (wholeW n) i = decide (i < n) := by
  unfold hasB wholeW
  rw [inB_yes h0 h1, Bool.true_and]
  split
  · simp; omega
  · split
    · have e : ((2 : Int) ^ n.toNat - 1).toNat = 2 ^ n.toNat - 1 := by
        have h1 : (2 : Int) ^ n.toNat = ((2 ^ n.toNat : Nat) : Int) := by simp
        rw [h1]
        have h3 := Nat.two_pow_pos n.toNat
        omega
      rw [e, Nat.testBit_two_pow_sub_one]
      simp only [decide_eq_decide]
      omega
    · have e : (4294967295 : Int).toNat = 2 ^ 32 - 1 := rfl
      rw [e, Nat.testBit_two_pow_sub_one]
      simp only [decide_eq_decide]
      omega
end Go.Proofs.YtiofeebiejkajaaDoor
/-! Contracts of bits.* for every mask and number. -/
namespace Go.Proofs.YtiofeebiejkajaaDoor
set_option linter.unusedSimpArgs false
set_option linter.unusedVariables false
open Go.ChangeShapes Go.WideShapes Go.ChangeAt Go.RowKit

/-- Where the table isn't read nothing is asked of it. -/
def Tab (_ : World) : Prop := True
theorem Tab.below {w w' : World} (_ : Tab w) (_ : Below w.heap.size w w') : Tab w' := trivial
end Go.Proofs.YtiofeebiejkajaaDoor
