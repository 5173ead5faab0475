/- Contracts of class.Words, class.Blocks, class.Fields, class.Of and of the reference's Words, Blocks, Of, for every number. -/
import Derived.Test.YtiofeebiejkajaaDoorB01
import Derived.Deep.Cut
namespace Go.Proofs.YtiofeebiejkajaaDoor
set_option linter.unusedSimpArgs false
set_option linter.unusedVariables false
open Go.ChangeShapes Go.WideShapes Go.ChangeAt Go.RowKit Go.Joins

def szW (c : Int) : Int := if c = 0 then 2 else if c = 1 then 4 else if c = 2 then 8 else if c = 3 then 16 else 0
def blW (c : Int) : Int := if c = 0 then 16 else if c = 1 then 8 else if c = 2 then 4 else if c = 3 then 2 else 0
def flW (c : Int) : Int := if c = 0 then 1 else if c = 1 then 3 else if c = 2 then 7 else if c = 3 then 15 else 0
/-- The code's table of sizes, in its variable. -/
def Sz (w : World) : Prop := 0 < w.heap.size ∧ w.cell? ⟨0, 0, none⟩ = some (.int .i64 2) ∧ w.cell? ⟨0, 1, none⟩ = some (.int .i64 4) ∧ w.cell? ⟨0, 2, none⟩ = some (.int .i64 8) ∧ w.cell? ⟨0, 3, none⟩ = some (.int .i64 16)
theorem Sz.below {w w' : World} (h : Sz w) (hb : Below w.heap.size w w') : Sz w' := by
  obtain ⟨h0, h1, h2, h3, h4⟩ := h
  refine ⟨Nat.lt_of_lt_of_le h0 hb.size, ?_, ?_, ?_, ?_⟩ <;> rw [hb.cell (by exact h0)] <;> assumption
theorem sizes_of {W : World} {l rest : List (String × DataW Unit)} (h : laidMetH Tryd.prog l W) (hp : (l.all fun x => x.2.handleName?.isNone) = true)
    (hm : (l.filter fun x => x.1 == "flotsam/class.sizes") = ("flotsam/class.sizes", Lib.tabData .i64 [2, 4, 8, 16]) :: rest) : Sz W := by
  have ht := tab_is (g := 0) (t := 145) (e := 3) (n := 4) h hp hm (by kernel_rfl) (by kernel_rfl) Tryd.underlying145 Tryd.underlying3 (by kernel_rfl) (by kernel_rfl)
  have hg : Tryd.prog.globalNamed "flotsam/class.sizes" = some 0 := by kernel_rfl
  have h0 := ht.cell hg 0 (by decide)
  exact ⟨World.block_lt_of_cell? W _ h0, h0, ht.cell hg 1 (by decide), ht.cell hg 2 (by decide), ht.cell hg 3 (by decide)⟩

theorem cwords_any (c : Int) (w : World) (hS : Sz w) :
    Calls Tryd.prog 93 #[.int .i64 c] w fun e w' => e = .returned (.int .i64 (szW c)) ∧ Below w.heap.size w w' := by
  obtain ⟨s, s0, s1, s2, s3⟩ := hS
  by_cases h : 0 ≤ c ∧ c < 4
  · obtain rfl | rfl | rfl | rfl : c = 0 ∨ c = 1 ∨ c = 2 ∨ c = 3 := by omega
    all_goals
      go_enter Tryd.func93, Tryd.ntmps93
      go_wp2
      go_returns
      exact ⟨ret_int (by simp [szW]), by go_grown⟩
  · have e : szW c = 0 := by unfold szW; (repeat' split) <;> omega
    go_enter Tryd.func93, Tryd.ntmps93
    go_wp2
    all_goals
      go_returns
      exact ⟨ret_int (by simp [e]), by go_grown⟩

theorem cl_cases (c : Int) : c = 0 ∧ szW c = 2 ∧ blW c = 16 ∧ flW c = 1 ∨ c = 1 ∧ szW c = 4 ∧ blW c = 8 ∧ flW c = 3 ∨ c = 2 ∧ szW c = 8 ∧ blW c = 4 ∧ flW c = 7 ∨ c = 3 ∧ szW c = 16 ∧ blW c = 2 ∧ flW c = 15 ∨ ¬ (0 ≤ c ∧ c < 4) ∧ szW c = 0 ∧ blW c = 0 ∧ flW c = 0 := by
  by_cases h : 0 ≤ c ∧ c < 4
  · obtain rfl | rfl | rfl | rfl : c = 0 ∨ c = 1 ∨ c = 2 ∨ c = 3 := by omega
    all_goals simp [szW, blW, flW]
  · refine .inr (.inr (.inr (.inr ⟨h, ?_, ?_, ?_⟩)))
    · unfold szW; (repeat' split) <;> omega
    · unfold blW; (repeat' split) <;> omega
    · unfold flW; (repeat' split) <;> omega

theorem sz_next {c : Int} (h : 0 ≤ c) (h' : c < 3) : 2 * szW c = szW (c + 1) := by
  obtain rfl | rfl | rfl : c = 0 ∨ c = 1 ∨ c = 2 := by omega
  all_goals rfl
theorem bl_next {c : Int} (h : 0 ≤ c) (h' : c < 3) : blW c = 2 * blW (c + 1) := by
  obtain rfl | rfl | rfl : c = 0 ∨ c = 1 ∨ c = 2 := by omega
  all_goals rfl

theorem rcwords_any (c : Int) (w : World) :
    Calls Tryd.prog 70 #[.int .i64 c] w fun e w' => e = .returned (.int .i64 (szW c)) ∧ Below w.heap.size w w' := by
  by_cases h : 0 ≤ c ∧ c ≤ 3
  · obtain ⟨h0, h1⟩ := h
    go_enter Tryd.func70, Tryd.ntmps70
    go_wp2
    go_loopg [3, 4] c.toNat (fun g nv iv wr => ∃ i : Int, 0 ≤ i ∧ i ≤ c ∧ g = (c - i).toNat ∧ nv = .int .i64 (szW i) ∧ iv = .int .i64 i ∧ Below w.heap.size w wr)
    case atStart => exact ⟨0, by omega, by omega, by omega, rfl, rfl, by go_grown⟩
    case round =>
      obtain ⟨i, il, ih, rfl, rfl, rfl, hbw⟩ := hrel
      obtain ⟨hc, hf, hb, hz⟩ := bstep hbw (w := w) (Below.refl _ _)
      have hbd := cl_cases i
      by_cases hi : i < c
      · have hn := sz_next il (by omega)
        go_wp2
        go_roundg (c - (i + 1)).toNat
        case measure => omega
        case rel => exact ⟨i + 1, by omega, by omega, rfl, by simp [hn], rfl, by go_grown⟩
      · obtain rfl : i = c := by omega
        go_wp2
        go_returns
        exact ⟨ret_int (by simp), by go_grown⟩
  · have e : szW c = 0 := by have := cl_cases c; omega
    go_enter Tryd.func70, Tryd.ntmps70
    go_wp2
    all_goals
      go_returns
      exact ⟨ret_int (by simp [e]), by go_grown⟩

theorem rcblocks_any (c : Int) (w : World) :
    Calls Tryd.prog 59 #[.int .i64 c] w fun e w' => e = .returned (.int .i64 (blW c)) ∧ Below w.heap.size w w' := by
  by_cases h : 0 ≤ c ∧ c ≤ 3
  · obtain ⟨h0, h1⟩ := h
    go_enter Tryd.func59, Tryd.ntmps59
    go_wp2
    go_loopg [3, 4] c.toNat (fun g nv iv wr => ∃ i : Int, 0 ≤ i ∧ i ≤ c ∧ g = (c - i).toNat ∧ nv = .int .i64 (blW i) ∧ iv = .int .i64 i ∧ Below w.heap.size w wr)
    case atStart => exact ⟨0, by omega, by omega, by omega, rfl, rfl, by go_grown⟩
    case round =>
      obtain ⟨i, il, ih, rfl, rfl, rfl, hbw⟩ := hrel
      obtain ⟨hc, hf, hb, hz⟩ := bstep hbw (w := w) (Below.refl _ _)
      have hbd := cl_cases i
      by_cases hi : i < c
      · have hn := bl_next il (by omega)
        have hn' : blW i / 2 = blW (i + 1) := by omega
        go_wp2
        go_roundg (c - (i + 1)).toNat
        case measure => omega
        case rel => exact ⟨i + 1, by omega, by omega, rfl, by simp [hn'], rfl, by go_grown⟩
      · obtain rfl : i = c := by omega
        go_wp2
        go_returns
        exact ⟨ret_int (by simp), by go_grown⟩
  · have e : blW c = 0 := by have := cl_cases c; omega
    go_enter Tryd.func59, Tryd.ntmps59
    go_wp2
    all_goals
      go_returns
      exact ⟨ret_int (by simp [e]), by go_grown⟩

end Go.Proofs.YtiofeebiejkajaaDoor
namespace Go.Proofs.YtiofeebiejkajaaDoor
set_option linter.unusedSimpArgs false
set_option linter.unusedVariables false
open Go.ChangeShapes Go.WideShapes Go.ChangeAt Go.RowKit Go.Joins

def inI (n : Nat) (i : Int) : Bool := decide (0 ≤ i) && decide (i < n)
def putZ (z : Nat → Int) (i v : Int) : Nat → Int := fun j => if (j : Int) = i then v else z j
theorem inI_yes {n : Nat} {i : Int} (h : 0 ≤ i) (h' : i < n) : inI n i = true := by simp [inI, h, h']
theorem inI_no {n : Nat} {i : Int} (h : ¬ (0 ≤ i ∧ i < n)) : inI n i = false := by simp [inI]; omega
theorem of_inI {n : Nat} {i : Int} (h : inI n i = true) : 0 ≤ i ∧ i < n := by simpa [inI] using h
theorem infoW : (Tryd.prog.info? 95).map (fun i => (i.zero, i.size, i.bytes)) = some (some (.int .u64 0), 1, 8) := by kernel_rfl

theorem one_new (w : World) (x : Value) (t : TypeId) : ∀ j u, [x][j]? = some u → (w.alloc (.cells #[x] t)).cell? ((⟨w.heap.size, 0, none⟩ : Addr).add j) = some u := by
  intro j u hj
  match j, hj with
  | 0, hj => simp at hj; subst hj; simp [Addr.add]
def adB (g c i : Int) : Bool := decide (0 ≤ g ∧ g ≤ 15 ∧ 0 ≤ i ∧ i < blW c)
def adW (g c i : Int) : Int := if adB g c i = true then 32 * g + i * szW c else 0
def plB (c a : Int) : Bool := decide (0 ≤ a ∧ a < 512 ∧ szW c ≠ 0 ∧ a % szW c = 0)
def plP (c a : Int) : Int := if plB c a = true then a / 32 else 0
def plI (c a : Int) : Int := if plB c a = true then a % 32 / szW c else 0

set_option maxHeartbeats 1000000 in
theorem raddress_any (g c i : Int) (w : World) :
    Calls Tryd.prog 81 #[.int .i64 g, .int .i64 c, .int .i64 i] w fun e w' => e = .returned (.tuple #[.int .i64 (adW g c i), .bool (adB g c i)]) ∧ Below w.heap.size w w' := by
  by_cases h : 0 ≤ g ∧ g ≤ 15 ∧ 0 ≤ i ∧ i < blW c
  · have e0 : adB g c i = true := by simp only [adB, decide_eq_true_eq]; exact h
    have e1 : adW g c i = 32 * g + i * szW c := by unfold adW; rw [if_pos e0]
    rw [e0, e1]
    clear e0 e1
    rcases cl_cases c with ⟨-, h0, h1, -⟩ | ⟨-, h0, h1, -⟩ | ⟨-, h0, h1, -⟩ | ⟨-, h0, h1, -⟩ | ⟨-, h0, h1, -⟩
    all_goals
      rw [h1] at h
      obtain ⟨a0, a1, a2, a3⟩ := h
      try omega
    all_goals
      go_enter Tryd.func81, Tryd.ntmps81
      go_wp2_with (first
    | (go_at_call 59; refine Calls.mono (rcblocks_any _ _) ?_; rintro e w' ⟨rfl, hb⟩; obtain ⟨hc, hf, hb, hz⟩ := bstep hb (w := w) (by go_grown); try simp only [World.size_alloc, World.size_setCell, World.size_drew] at hc hf hz)
    | (go_at_call 70; refine Calls.mono (rcwords_any _ _) ?_; rintro e w' ⟨rfl, hb⟩; obtain ⟨hc, hf, hb, hz⟩ := bstep hb (w := w) (by go_grown); try simp only [World.size_alloc, World.size_setCell, World.size_drew] at hc hf hz)
      )
      go_returns
      exact ⟨ret_int_bool (by simp [h0]; try omega) rfl, by go_grown⟩
  · have e0 : adB g c i = false := by simp only [adB, decide_eq_false_iff_not]; exact h
    have e1 : adW g c i = 0 := by unfold adW; rw [if_neg (by simp [e0])]
    rw [e0, e1]
    clear e0 e1
    by_cases hg : 0 ≤ g ∧ g ≤ 15 ∧ 0 ≤ i
    · obtain ⟨g0, g1, hi⟩ := hg
      have hb : ¬ i < blW c := by omega
      go_enter Tryd.func81, Tryd.ntmps81
      go_wp2_with (first
    | (go_at_call 59; refine Calls.mono (rcblocks_any _ _) ?_; rintro e w' ⟨rfl, hb⟩; obtain ⟨hc, hf, hb, hz⟩ := bstep hb (w := w) (by go_grown); try simp only [World.size_alloc, World.size_setCell, World.size_drew] at hc hf hz)
      )
      go_returns
      exact ⟨rfl, by go_grown⟩
    · go_enter Tryd.func81, Tryd.ntmps81
      go_wp2_with (first
    | (go_at_call 59; refine Calls.mono (rcblocks_any _ _) ?_; rintro e w' ⟨rfl, hb⟩; obtain ⟨hc, hf, hb, hz⟩ := bstep hb (w := w) (by go_grown); try simp only [World.size_alloc, World.size_setCell, World.size_drew] at hc hf hz)
      )
      all_goals
        first
        | omega
        | (go_returns
           exact ⟨rfl, by go_grown⟩)

set_option maxHeartbeats 1000000 in
theorem aplace_any (c a : Int) (w : World) (hS : Sz w) :
    Calls Tryd.prog 84 #[.int .i64 c, .int .i64 a] w fun e w' => e = .returned (.tuple #[.int .i64 (plP c a), .int .i64 (plI c a), .bool (plB c a)]) ∧ Below w.heap.size w w' := by
  by_cases h : 0 ≤ a ∧ a < 512 ∧ szW c ≠ 0 ∧ a % szW c = 0
  · have e0 : plB c a = true := by simp only [plB, decide_eq_true_eq]; exact h
    have e1 : plP c a = a / 32 := by unfold plP; rw [if_pos e0]
    have e2 : plI c a = a % 32 / szW c := by unfold plI; rw [if_pos e0]
    rw [e0, e1, e2]
    clear e0 e1 e2
    rcases cl_cases c with ⟨-, h0, h1, -⟩ | ⟨-, h0, h1, -⟩ | ⟨-, h0, h1, -⟩ | ⟨-, h0, h1, -⟩ | ⟨-, h0, h1, -⟩
    all_goals
      rw [h0] at h ⊢
      obtain ⟨a0, a1, a2, a3⟩ := h
      try omega
    all_goals
      go_enter Tryd.func84, Tryd.ntmps84
      go_wp2_with (first
    | (go_at_call 93; refine Calls.mono (cwords_any _ _ (hS.below (by go_grown))) ?_; rintro e w' ⟨rfl, hb⟩; obtain ⟨hc, hf, hb, hz⟩ := bstep hb (w := w) (by go_grown); try simp only [World.size_alloc, World.size_setCell, World.size_drew] at hc hf hz)
      )
      go_region
      all_goals
        go_wp2
        go_returns
        exact ⟨rfl, by go_grown⟩
  · have e0 : plB c a = false := by simp only [plB, decide_eq_false_iff_not]; exact h
    have e1 : plP c a = 0 := by unfold plP; rw [if_neg (by simp [e0])]
    have e2 : plI c a = 0 := by unfold plI; rw [if_neg (by simp [e0])]
    rw [e0, e1, e2]
    clear e0 e1 e2
    by_cases ha : 0 ≤ a ∧ a < 512
    · rcases cl_cases c with ⟨-, h0, h1, -⟩ | ⟨-, h0, h1, -⟩ | ⟨-, h0, h1, -⟩ | ⟨-, h0, h1, -⟩ | ⟨-, h0, h1, -⟩
      all_goals
        rw [h0] at h
        obtain ⟨a0, a1⟩ := ha
        go_enter Tryd.func84, Tryd.ntmps84
        go_wp2_with (first
    | (go_at_call 93; refine Calls.mono (cwords_any _ _ (hS.below (by go_grown))) ?_; rintro e w' ⟨rfl, hb⟩; obtain ⟨hc, hf, hb, hz⟩ := bstep hb (w := w) (by go_grown); try simp only [World.size_alloc, World.size_setCell, World.size_drew] at hc hf hz)
        )
        go_returns
        exact ⟨rfl, by go_grown⟩
    · go_enter Tryd.func84, Tryd.ntmps84
      go_wp2
      all_goals
        go_returns
        exact ⟨rfl, by go_grown⟩

theorem pl_at {c a p i : Int} (p0 : 0 ≤ p) (p1 : p < 16) (i0 : 0 ≤ i) (i1 : i < blW c) (h : 32 * p + i * szW c = a) : plB c a = true ∧ plP c a = p ∧ plI c a = i := by
  have key : plB c a = true ∧ a / 32 = p ∧ a % 32 / szW c = i := by
    simp only [plB, decide_eq_true_eq]
    rcases cl_cases c with ⟨-, h0, h1, -⟩ | ⟨-, h0, h1, -⟩ | ⟨-, h0, h1, -⟩ | ⟨-, h0, h1, -⟩ | ⟨-, h0, h1, -⟩
    all_goals
      rw [h1] at i1
      rw [h0] at h ⊢
      omega
  obtain ⟨h0, h1, h2⟩ := key
  exact ⟨h0, by unfold plP; rw [if_pos h0]; exact h1, by unfold plI; rw [if_pos h0]; exact h2⟩
theorem pl_in {c a : Int} (h : plB c a = true) : 0 ≤ plP c a ∧ plP c a < 16 ∧ 0 ≤ plI c a ∧ plI c a < blW c ∧ 32 * plP c a + plI c a * szW c = a := by
  have e1 : plP c a = a / 32 := by unfold plP; rw [if_pos h]
  have e2 : plI c a = a % 32 / szW c := by unfold plI; rw [if_pos h]
  rw [e1, e2]
  simp only [plB, decide_eq_true_eq] at h
  rcases cl_cases c with ⟨-, h0, h1, -⟩ | ⟨-, h0, h1, -⟩ | ⟨-, h0, h1, -⟩ | ⟨-, h0, h1, -⟩ | ⟨-, h0, h1, -⟩
  all_goals
    rw [h1]
    rw [h0] at h ⊢
    omega
theorem pl_no {c a : Int} (h : ¬ plB c a = true) : plB c a = false ∧ plP c a = 0 ∧ plI c a = 0 := by
  refine ⟨by simpa using h, ?_, ?_⟩
  · unfold plP; rw [if_neg h]
  · unfold plI; rw [if_neg h]
theorem ad_in {g c i : Int} (g0 : 0 ≤ g) (g1 : g < 16) (i0 : 0 ≤ i) (i1 : i < blW c) : adB g c i = true ∧ adW g c i = 32 * g + i * szW c := by
  have e0 : adB g c i = true := by simp only [adB, decide_eq_true_eq]; omega
  exact ⟨e0, by unfold adW; rw [if_pos e0]⟩

end Go.Proofs.YtiofeebiejkajaaDoor
