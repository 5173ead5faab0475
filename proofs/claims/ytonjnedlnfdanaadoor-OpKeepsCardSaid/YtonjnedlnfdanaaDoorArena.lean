/- Contracts of arena.* and of the reference's Load, Store, Address, Place, Same. -/
import Derived.Test.YtonjnedlnfdanaaDoorClass
import Derived.Test.YtonjnedlnfdanaaDoorBase
import Derived.Deep.Cut
namespace Go.Proofs.YtonjnedlnfdanaaDoor
set_option linter.unusedSimpArgs false
set_option linter.unusedVariables false
open Go.ChangeShapes Go.WideShapes Go.ChangeAt Go.RowKit Go.Joins

def inI (n : Nat) (i : Int) : Bool := decide (0 ≤ i) && decide (i < n)
def getZ (n : Nat) (z : Nat → Int) (i : Int) : Int := if inI n i = true then z i.toNat else 0
def putZ (z : Nat → Int) (i v : Int) : Nat → Int := fun j => if (j : Int) = i then v else z j
def sameZ (n : Nat) (z : Nat → Int) (m : Nat) (y : Nat → Int) : Bool := decide (n = m ∧ ∀ i, i < n → z i = y i)
def newB (p : Int) : Bool := decide (1 ≤ p) && decide (p ≤ 16)
def newN (p : Int) : Nat := if newB p = true then (32 * p).toNat else 0
def newE (p : Int) : Int := if newB p = true then 0 else 1
theorem inI_yes {n : Nat} {i : Int} (h : 0 ≤ i) (h' : i < n) : inI n i = true := by simp [inI, h, h']
theorem inI_no {n : Nat} {i : Int} (h : ¬ (0 ≤ i ∧ i < n)) : inI n i = false := by simp [inI]; omega
theorem of_inI {n : Nat} {i : Int} (h : inI n i = true) : 0 ≤ i ∧ i < n := by simpa [inI] using h
theorem putZ_wf {n : Nat} {z : Nat → Int} (h : ∀ i, i < n → (Lit.int .u64 (z i)).wf = true) (i : Int) {v : Int} (hv : (Lit.int .u64 v).wf = true) : ∀ j, j < n → (Lit.int .u64 (putZ z i v j)).wf = true := fun j hj => by
  unfold putZ; split
  · exact hv
  · exact h j hj

/-- A new address, or none. -/
def Fresh (n : Nat) (p : Option Addr) : Prop := ∀ b off sp, p = some ⟨b, off, sp⟩ → n ≤ b

theorem infoW : (Tryd.prog.info? 36).map (fun i => (i.zero, i.size, i.bytes)) = some (some (.int .u64 0), 1, 8) := by kernel_rfl

theorem one_new (w : World) (x : Value) (t : TypeId) : ∀ j u, [x][j]? = some u → (w.alloc (.cells #[x] t)).cell? ((⟨w.heap.size, 0, none⟩ : Addr).add j) = some u := by
  intro j u hj
  match j, hj with
  | 0, hj => simp at hj; subst hj; simp [Addr.add]
theorem ext_owned {w : World} {base : Nat} {e : TypeId} {n : Nat} {v : Value} {x : Int} {z y : Nat → Int} (h : w.ownsRow base e 1 v (n + 1) (vals .u64 n z ++ [.int .u64 x])) (h0 : ∀ i, i < n → y i = z i) (h1 : y n = x) : w.ownsRow base e 1 v (n + 1) (vals .u64 (n + 1) y) := by
  rw [← vals_snoc, h1, vals_congr .u64 h0]
  exact h

def adB (g c i : Int) : Bool := decide (0 ≤ g ∧ g ≤ 15 ∧ 0 ≤ i ∧ i < blW c)
def adW (g c i : Int) : Int := if adB g c i = true then 32 * g + i * szW c else 0
def plB (c a : Int) : Bool := decide (0 ≤ a ∧ a < 512 ∧ szW c ≠ 0 ∧ a % szW c = 0)
def plP (c a : Int) : Int := if plB c a = true then a / 32 else 0
def plI (c a : Int) : Int := if plB c a = true then a % 32 / szW c else 0

set_option maxHeartbeats 1000000 in
theorem raddress_any (g c i : Int) (w : World) :
    Calls Tryd.prog 26 #[.int .i64 g, .int .i64 c, .int .i64 i] w fun e w' => e = .returned (.tuple #[.int .i64 (adW g c i), .bool (adB g c i)]) ∧ Below w.heap.size w w' := by
  by_cases h : 0 ≤ g ∧ g ≤ 15 ∧ 0 ≤ i ∧ i < blW c
  · have e0 : adB g c i = true := by simp only [adB, decide_eq_true_eq]; exact h
    have e1 : adW g c i = 32 * g + i * szW c := by unfold adW; rw [if_pos e0]
    rw [e0, e1]
    clear e0 e1
    rcases cl_cases c with ⟨-, h0, h1, -⟩ | ⟨-, h0, h1, -⟩ | ⟨-, h0, h1, -⟩ | ⟨-, h0, h1, -⟩ | ⟨-, h0, h1, -⟩
    all_goals
      rw [h1] at h
      obtain ⟨a0, a1, a2, a3⟩ := h
      try omega
    all_goals
      go_enter Tryd.func26, Tryd.ntmps26
      go_wp2_with (first
    | (go_at_call 17; refine Calls.mono (rcblocks_any _ _) ?_; rintro e w' ⟨rfl, hb⟩; obtain ⟨hc, hf, hb, hz⟩ := bstep hb (w := w) (by go_grown); try simp only [World.size_alloc, World.size_setCell, World.size_drew] at hc hf hz)
    | (go_at_call 24; refine Calls.mono (rcwords_any _ _) ?_; rintro e w' ⟨rfl, hb⟩; obtain ⟨hc, hf, hb, hz⟩ := bstep hb (w := w) (by go_grown); try simp only [World.size_alloc, World.size_setCell, World.size_drew] at hc hf hz)
      )
      go_returns
      exact ⟨ret_int_bool (by simp [h0]; try omega) rfl, by go_grown⟩
  · have e0 : adB g c i = false := by simp only [adB, decide_eq_false_iff_not]; exact h
    have e1 : adW g c i = 0 := by unfold adW; rw [if_neg (by simp [e0])]
    rw [e0, e1]
    clear e0 e1
    by_cases hg : 0 ≤ g ∧ g ≤ 15 ∧ 0 ≤ i
    · obtain ⟨g0, g1, hi⟩ := hg
      have hb : ¬ i < blW c := by omega
      go_enter Tryd.func26, Tryd.ntmps26
      go_wp2_with (first
    | (go_at_call 17; refine Calls.mono (rcblocks_any _ _) ?_; rintro e w' ⟨rfl, hb⟩; obtain ⟨hc, hf, hb, hz⟩ := bstep hb (w := w) (by go_grown); try simp only [World.size_alloc, World.size_setCell, World.size_drew] at hc hf hz)
      )
      go_returns
      exact ⟨rfl, by go_grown⟩
    · go_enter Tryd.func26, Tryd.ntmps26
      go_wp2_with (first
    | (go_at_call 17; refine Calls.mono (rcblocks_any _ _) ?_; rintro e w' ⟨rfl, hb⟩; obtain ⟨hc, hf, hb, hz⟩ := bstep hb (w := w) (by go_grown); try simp only [World.size_alloc, World.size_setCell, World.size_drew] at hc hf hz)
      )
      all_goals
        first
        | omega
        | (go_returns
           exact ⟨rfl, by go_grown⟩)

set_option maxHeartbeats 1000000 in
theorem aplace_any (c a : Int) (w : World) (hS : Sz w) :
    Calls Tryd.prog 45 #[.int .i64 c, .int .i64 a] w fun e w' => e = .returned (.tuple #[.int .i64 (plP c a), .int .i64 (plI c a), .bool (plB c a)]) ∧ Below w.heap.size w w' := by
  by_cases h : 0 ≤ a ∧ a < 512 ∧ szW c ≠ 0 ∧ a % szW c = 0
  · have e0 : plB c a = true := by simp only [plB, decide_eq_true_eq]; exact h
    have e1 : plP c a = a / 32 := by unfold plP; rw [if_pos e0]
    have e2 : plI c a = a % 32 / szW c := by unfold plI; rw [if_pos e0]
    rw [e0, e1, e2]
    clear e0 e1 e2
    rcases cl_cases c with ⟨-, h0, h1, -⟩ | ⟨-, h0, h1, -⟩ | ⟨-, h0, h1, -⟩ | ⟨-, h0, h1, -⟩ | ⟨-, h0, h1, -⟩
    all_goals
      rw [h0] at h ⊢
      obtain ⟨a0, a1, a2, a3⟩ := h
      try omega
    all_goals
      go_enter Tryd.func45, Tryd.ntmps45
      go_wp2_with (first
    | (go_at_call 48; refine Calls.mono (cwords_any _ _ (hS.below (by go_grown))) ?_; rintro e w' ⟨rfl, hb⟩; obtain ⟨hc, hf, hb, hz⟩ := bstep hb (w := w) (by go_grown); try simp only [World.size_alloc, World.size_setCell, World.size_drew] at hc hf hz)
      )
      go_region
      all_goals
        go_wp2
        go_returns
        exact ⟨rfl, by go_grown⟩
  · have e0 : plB c a = false := by simp only [plB, decide_eq_false_iff_not]; exact h
    have e1 : plP c a = 0 := by unfold plP; rw [if_neg (by simp [e0])]
    have e2 : plI c a = 0 := by unfold plI; rw [if_neg (by simp [e0])]
    rw [e0, e1, e2]
    clear e0 e1 e2
    by_cases ha : 0 ≤ a ∧ a < 512
    · rcases cl_cases c with ⟨-, h0, h1, -⟩ | ⟨-, h0, h1, -⟩ | ⟨-, h0, h1, -⟩ | ⟨-, h0, h1, -⟩ | ⟨-, h0, h1, -⟩
      all_goals
        rw [h0] at h
        obtain ⟨a0, a1⟩ := ha
        go_enter Tryd.func45, Tryd.ntmps45
        go_wp2_with (first
    | (go_at_call 48; refine Calls.mono (cwords_any _ _ (hS.below (by go_grown))) ?_; rintro e w' ⟨rfl, hb⟩; obtain ⟨hc, hf, hb, hz⟩ := bstep hb (w := w) (by go_grown); try simp only [World.size_alloc, World.size_setCell, World.size_drew] at hc hf hz)
        )
        go_returns
        exact ⟨rfl, by go_grown⟩
    · go_enter Tryd.func45, Tryd.ntmps45
      go_wp2
      all_goals
        go_returns
        exact ⟨rfl, by go_grown⟩

theorem pl_at {c a p i : Int} (p0 : 0 ≤ p) (p1 : p < 16) (i0 : 0 ≤ i) (i1 : i < blW c) (h : 32 * p + i * szW c = a) : plB c a = true ∧ plP c a = p ∧ plI c a = i := by
  have key : plB c a = true ∧ a / 32 = p ∧ a % 32 / szW c = i := by
    simp only [plB, decide_eq_true_eq]
    rcases cl_cases c with ⟨-, h0, h1, -⟩ | ⟨-, h0, h1, -⟩ | ⟨-, h0, h1, -⟩ | ⟨-, h0, h1, -⟩ | ⟨-, h0, h1, -⟩
    all_goals
      rw [h1] at i1
      rw [h0] at h ⊢
      omega
  obtain ⟨h0, h1, h2⟩ := key
  exact ⟨h0, by unfold plP; rw [if_pos h0]; exact h1, by unfold plI; rw [if_pos h0]; exact h2⟩
theorem pl_in {c a : Int} (h : plB c a = true) : 0 ≤ plP c a ∧ plP c a < 16 ∧ 0 ≤ plI c a ∧ plI c a < blW c ∧ 32 * plP c a + plI c a * szW c = a := by
  have e1 : plP c a = a / 32 := by unfold plP; rw [if_pos h]
  have e2 : plI c a = a % 32 / szW c := by unfold plI; rw [if_pos h]
  rw [e1, e2]
  simp only [plB, decide_eq_true_eq] at h
  rcases cl_cases c with ⟨-, h0, h1, -⟩ | ⟨-, h0, h1, -⟩ | ⟨-, h0, h1, -⟩ | ⟨-, h0, h1, -⟩ | ⟨-, h0, h1, -⟩
  all_goals
    rw [h1]
    rw [h0] at h ⊢
    omega
theorem pl_no {c a : Int} (h : ¬ plB c a = true) : plB c a = false ∧ plP c a = 0 ∧ plI c a = 0 := by
  refine ⟨by simpa using h, ?_, ?_⟩
  · unfold plP; rw [if_neg h]
  · unfold plI; rw [if_neg h]
theorem ad_in {g c i : Int} (g0 : 0 ≤ g) (g1 : g < 16) (i0 : 0 ≤ i) (i1 : i < blW c) : adB g c i = true ∧ adW g c i = 32 * g + i * szW c := by
  have e0 : adB g c i = true := by simp only [adB, decide_eq_true_eq]; omega
  exact ⟨e0, by unfold adW; rw [if_pos e0]⟩

end Go.Proofs.YtonjnedlnfdanaaDoor
