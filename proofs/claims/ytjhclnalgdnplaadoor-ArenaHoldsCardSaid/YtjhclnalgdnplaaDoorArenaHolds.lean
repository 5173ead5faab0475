/- ArenaHolds: for every list of words, what is stored at one place is loaded there and nothing else is otherwise, and for every page, class and index places and addresses are one to one and blocks of a class lie apart. No condition; the code's own table is tied to the program's text. -/
import Derived.Test.YtjhclnalgdnplaaDoorRows
import Derived.Test.YtjhclnalgdnplaaDoorCards
import Derived.Test.YtjhclnalgdnplaaDoorTie
import Derived.Test.YtjhclnalgdnplaaDoorAwake05
import Derived.SevenTiedAt
namespace Go.Proofs.YtjhclnalgdnplaaDoor
set_option linter.unusedSimpArgs false
set_option linter.unusedVariables false
open Go.ChangeShapes Go.WideShapes Go.ChangeAt Go.RowKit Go.Joins

theorem holds_get {n : Nat} {z : Nat → Int} {i k v : Int} (k0 : 0 ≤ k) (k1 : k < n) : getZ n (putZ z i v) k = if k = i then v else z k.toNat := by
  unfold getZ putZ
  rw [if_pos (inI_yes k0 k1), show ((k.toNat : Nat) : Int) = k by omega]
theorem holds_block {c p i : Int} (p0 : 0 ≤ p) (p1 : p < 16) (i0 : 0 ≤ i) (i1 : i < blW c) : adB p c i = true ∧ plB c (adW p c i) = true ∧ plP c (adW p c i) = p ∧ plI c (adW p c i) = i ∧ 0 ≤ adW p c i ∧ adW p c i < 512 := by
  obtain ⟨h0, h1⟩ := ad_in p0 p1 i0 i1
  obtain ⟨h2, h3, h4⟩ := pl_at p0 p1 i0 i1 h1.symm
  refine ⟨h0, h2, h3, h4, ?_⟩
  simp only [plB, decide_eq_true_eq] at h2
  omega
theorem holds_apart {c p i q j : Int} (p0 : 0 ≤ p) (p1 : p < 16) (i0 : 0 ≤ i) (i1 : i < blW c) (q0 : 0 ≤ q) (q1 : q < 16) (j0 : 0 ≤ j) (j1 : j < blW c) :
    adW p c i = adW q c j ∨ szW c ≤ adW p c i - adW q c j ∨ szW c ≤ adW q c j - adW p c i := by
  rw [(ad_in p0 p1 i0 i1).2, (ad_in q0 q1 j0 j1).2]
  rcases cl_cases c with ⟨-, h0, h1, -⟩ | ⟨-, h0, h1, -⟩ | ⟨-, h0, h1, -⟩ | ⟨-, h0, h1, -⟩ | ⟨-, h0, h1, -⟩
  all_goals
    rw [h1] at i1 j1
    rw [h0]
    omega
set_option maxRecDepth 20000 in
set_option maxHeartbeats 4000000 in
theorem holds_walk (p : Option Addr) (n cap : Nat) (z : Nat → Int) (x y v c a b : Int) (w : World) (hin : Ints .u64 w p n z) (hn : n ≤ maxLen) (x0 : 0 ≤ x) (x1 : x < 65536) (y0 : 0 ≤ y) (y1 : y < 65536)
    (v0 : 0 ≤ v) (v1 : v < 18446744073709551616) (c0 : 0 ≤ c) (c1 : c < 256) (a0 : 0 ≤ a) (a1 : a < 256) (b0 : 0 ≤ b) (b1 : b < 256) (hS : Sz w) :
    Calls Tryd.prog 6 #[.slice p n cap, .int .u16 x, .int .u16 y, .int .u64 v, .int .u8 c, .int .u8 a, .int .u8 b] w fun e w' => e = .returned (.bool true) ∧ Below w.heap.size w w' := by
  simp only [maxLen] at hn
  by_cases hs : n ≤ 600 ∧ 1 ≤ n
  · obtain ⟨s0, s1⟩ := hs
    have d0 : decide (600 < (n : Int)) = false := by simp; omega
    have d1 : ((n : Int) == 0) = false := by simp; omega
    have t1 : (n : Int) ≤ 600 := by omega
    have t2 : (1 : Int) ≤ n := by omega
    have hHv : Hid ((Lit.int .u64 v).wf = true) := WalkArith.wf_u64 (by omega)
    have hle : n ≤ maxLen := by simp only [maxLen]; omega
    have hle' : n ≤ 17592186043904 := by omega
    have i0 : 0 ≤ x % (n : Int) := Int.emod_nonneg _ (by omega)
    have i1 : x % (n : Int) < n := Int.emod_lt_of_pos _ (by omega)
    have k0 : 0 ≤ y % (n : Int) := Int.emod_nonneg _ (by omega)
    have k1 : y % (n : Int) < n := Int.emod_lt_of_pos _ (by omega)
    go_enter Tryd.func6, Tryd.ntmps6
    go_upto_region 5 with (first
    | (go_at_call 9; refine (awake_any _ hS).mono ?_; rintro e w' ⟨rfl, hb⟩; (try replace hS := hS.below hb); (try replace hin := hin.below hb); (try replace h1 := h1.below hb); obtain ⟨hc, hf, hb, hz⟩ := bstep hb (w := w) (by go_grown); try simp only [World.size_alloc, World.size_setCell, World.size_drew] at hc hf hz)
    )
    generalize x % (n : Int) = i at i0 i1 ⊢
    generalize y % (n : Int) = k at k0 k1 ⊢
    have hI := inI_yes i0 i1
    have hK := inI_yes k0 k1
    go_upto_region 6 with (first
    | (go_at_call 13; refine (astore_any _ _ _ _ _ _ _ hin hle' hHv.out).mono ?_; rintro e w' ⟨q1, c1', rfl, h1, -, hb⟩; (try replace hS := hS.below hb); (try replace hin := hin.below hb); (try replace h1 := h1.below hb); obtain ⟨hc, hf, hb, hz⟩ := bstep hb (w := w) (by go_grown); try simp only [World.size_alloc, World.size_setCell, World.size_drew] at hc hf hz)
    )
    have hG := holds_get (z := z) (i := i) (v := v) k0 k1
    go_upto_region 7 with (first
    | (go_at_call 11; refine (aload_any _ _ _ _ _ _ h1).mono ?_; rintro e w' ⟨rfl, hb⟩; (try replace hS := hS.below hb); (try replace hin := hin.below hb); (try replace h1 := h1.below hb); obtain ⟨hc, hf, hb, hz⟩ := bstep hb (w := w) (by go_grown); try simp only [World.size_alloc, World.size_setCell, World.size_drew] at hc hf hz)
    )
    obtain ⟨⟨bb, off, rfl, hlt, hcell⟩, hwf⟩ := hin k.toNat (by omega)
    obtain ⟨z0, z1⟩ := wf_u64 hwf
    clear hwf
    go_upto_region 8 with fail
    by_cases e : i = k
    · subst e
      rw [if_pos rfl] at hG
      go_upto_region 12 with fail
      obtain ⟨w0, hw0⟩ : ∃ w0, w0 = w' := ⟨_, rfl⟩
      rw [← hw0] at hb hS ⊢
      have hbA := hb
      clear hw0 hin h1 hcell hlt hc hf hz hb
      rcases (show c % 4 = 0 ∨ c % 4 = 1 ∨ c % 4 = 2 ∨ c % 4 = 3 by omega) with hm | hm | hm | hm
      · obtain ⟨A1, A2, A3, A4, A5, A6⟩ := holds_block (c := 0) (p := a % 16) (i := a / 16 % 16) (by omega) (by omega) (by omega) (by show _ < (16 : Int); omega)
        obtain ⟨B1, -, -, -, B5, B6⟩ := holds_block (c := 0) (p := b % 16) (i := b / 16 % 16) (by omega) (by omega) (by omega) (by show _ < (16 : Int); omega)
        have hap := holds_apart (c := 0) (p := a % 16) (i := a / 16 % 16) (q := b % 16) (j := b / 16 % 16) (by omega) (by omega) (by omega) (by show _ < (16 : Int); omega) (by omega) (by omega) (by omega) (by show _ < (16 : Int); omega)
        rw [show szW 0 = 2 from rfl] at hap
        go_upto_region 18 with (first
    | (go_at_call 16; refine (aaddress_any _ _ _ _ (hS.below (by go_grown))).mono ?_; rintro e w' ⟨rfl, hb⟩; obtain ⟨hc, hf, hb, hz⟩ := bstep hb (w := w0) (by go_grown); try simp only [World.size_alloc, World.size_setCell, World.size_drew] at hc hf hz)
    | (go_at_call 18; refine (aplace_any _ _ _ (hS.below (by go_grown))).mono ?_; rintro e w' ⟨rfl, hb⟩; obtain ⟨hc, hf, hb, hz⟩ := bstep hb (w := w0) (by go_grown); try simp only [World.size_alloc, World.size_setCell, World.size_drew] at hc hf hz)
        )
        rcases hap with e | e | e
        all_goals
          go_wp2
          go_returns
          exact ⟨ret_bool (by first | (simp; done) | (simp; omega)), bjoin hb hbA⟩
      · obtain ⟨A1, A2, A3, A4, A5, A6⟩ := holds_block (c := 1) (p := a % 16) (i := a / 16 % 8) (by omega) (by omega) (by omega) (by show _ < (8 : Int); omega)
        obtain ⟨B1, -, -, -, B5, B6⟩ := holds_block (c := 1) (p := b % 16) (i := b / 16 % 8) (by omega) (by omega) (by omega) (by show _ < (8 : Int); omega)
        have hap := holds_apart (c := 1) (p := a % 16) (i := a / 16 % 8) (q := b % 16) (j := b / 16 % 8) (by omega) (by omega) (by omega) (by show _ < (8 : Int); omega) (by omega) (by omega) (by omega) (by show _ < (8 : Int); omega)
        rw [show szW 1 = 4 from rfl] at hap
        go_upto_region 18 with (first
    | (go_at_call 16; refine (aaddress_any _ _ _ _ (hS.below (by go_grown))).mono ?_; rintro e w' ⟨rfl, hb⟩; obtain ⟨hc, hf, hb, hz⟩ := bstep hb (w := w0) (by go_grown); try simp only [World.size_alloc, World.size_setCell, World.size_drew] at hc hf hz)
    | (go_at_call 18; refine (aplace_any _ _ _ (hS.below (by go_grown))).mono ?_; rintro e w' ⟨rfl, hb⟩; obtain ⟨hc, hf, hb, hz⟩ := bstep hb (w := w0) (by go_grown); try simp only [World.size_alloc, World.size_setCell, World.size_drew] at hc hf hz)
        )
        rcases hap with e | e | e
        all_goals
          go_wp2
          go_returns
          exact ⟨ret_bool (by first | (simp; done) | (simp; omega)), bjoin hb hbA⟩
      · obtain ⟨A1, A2, A3, A4, A5, A6⟩ := holds_block (c := 2) (p := a % 16) (i := a / 16 % 4) (by omega) (by omega) (by omega) (by show _ < (4 : Int); omega)
        obtain ⟨B1, -, -, -, B5, B6⟩ := holds_block (c := 2) (p := b % 16) (i := b / 16 % 4) (by omega) (by omega) (by omega) (by show _ < (4 : Int); omega)
        have hap := holds_apart (c := 2) (p := a % 16) (i := a / 16 % 4) (q := b % 16) (j := b / 16 % 4) (by omega) (by omega) (by omega) (by show _ < (4 : Int); omega) (by omega) (by omega) (by omega) (by show _ < (4 : Int); omega)
        rw [show szW 2 = 8 from rfl] at hap
        go_upto_region 18 with (first
    | (go_at_call 16; refine (aaddress_any _ _ _ _ (hS.below (by go_grown))).mono ?_; rintro e w' ⟨rfl, hb⟩; obtain ⟨hc, hf, hb, hz⟩ := bstep hb (w := w0) (by go_grown); try simp only [World.size_alloc, World.size_setCell, World.size_drew] at hc hf hz)
    | (go_at_call 18; refine (aplace_any _ _ _ (hS.below (by go_grown))).mono ?_; rintro e w' ⟨rfl, hb⟩; obtain ⟨hc, hf, hb, hz⟩ := bstep hb (w := w0) (by go_grown); try simp only [World.size_alloc, World.size_setCell, World.size_drew] at hc hf hz)
        )
        rcases hap with e | e | e
        all_goals
          go_wp2
          go_returns
          exact ⟨ret_bool (by first | (simp; done) | (simp; omega)), bjoin hb hbA⟩
      · obtain ⟨A1, A2, A3, A4, A5, A6⟩ := holds_block (c := 3) (p := a % 16) (i := a / 16 % 2) (by omega) (by omega) (by omega) (by show _ < (2 : Int); omega)
        obtain ⟨B1, -, -, -, B5, B6⟩ := holds_block (c := 3) (p := b % 16) (i := b / 16 % 2) (by omega) (by omega) (by omega) (by show _ < (2 : Int); omega)
        have hap := holds_apart (c := 3) (p := a % 16) (i := a / 16 % 2) (q := b % 16) (j := b / 16 % 2) (by omega) (by omega) (by omega) (by show _ < (2 : Int); omega) (by omega) (by omega) (by omega) (by show _ < (2 : Int); omega)
        rw [show szW 3 = 16 from rfl] at hap
        go_upto_region 18 with (first
    | (go_at_call 16; refine (aaddress_any _ _ _ _ (hS.below (by go_grown))).mono ?_; rintro e w' ⟨rfl, hb⟩; obtain ⟨hc, hf, hb, hz⟩ := bstep hb (w := w0) (by go_grown); try simp only [World.size_alloc, World.size_setCell, World.size_drew] at hc hf hz)
    | (go_at_call 18; refine (aplace_any _ _ _ (hS.below (by go_grown))).mono ?_; rintro e w' ⟨rfl, hb⟩; obtain ⟨hc, hf, hb, hz⟩ := bstep hb (w := w0) (by go_grown); try simp only [World.size_alloc, World.size_setCell, World.size_drew] at hc hf hz)
        )
        rcases hap with e | e | e
        all_goals
          go_wp2
          go_returns
          exact ⟨ret_bool (by first | (simp; done) | (simp; omega)), bjoin hb hbA⟩
    · rw [if_neg (fun h => e h.symm)] at hG
      go_upto_region 12 with fail
      obtain ⟨w0, hw0⟩ : ∃ w0, w0 = w' := ⟨_, rfl⟩
      rw [← hw0] at hb hS ⊢
      have hbA := hb
      clear hw0 hin h1 hcell hlt hc hf hz hb
      rcases (show c % 4 = 0 ∨ c % 4 = 1 ∨ c % 4 = 2 ∨ c % 4 = 3 by omega) with hm | hm | hm | hm
      · obtain ⟨A1, A2, A3, A4, A5, A6⟩ := holds_block (c := 0) (p := a % 16) (i := a / 16 % 16) (by omega) (by omega) (by omega) (by show _ < (16 : Int); omega)
        obtain ⟨B1, -, -, -, B5, B6⟩ := holds_block (c := 0) (p := b % 16) (i := b / 16 % 16) (by omega) (by omega) (by omega) (by show _ < (16 : Int); omega)
        have hap := holds_apart (c := 0) (p := a % 16) (i := a / 16 % 16) (q := b % 16) (j := b / 16 % 16) (by omega) (by omega) (by omega) (by show _ < (16 : Int); omega) (by omega) (by omega) (by omega) (by show _ < (16 : Int); omega)
        rw [show szW 0 = 2 from rfl] at hap
        go_upto_region 18 with (first
    | (go_at_call 16; refine (aaddress_any _ _ _ _ (hS.below (by go_grown))).mono ?_; rintro e w' ⟨rfl, hb⟩; obtain ⟨hc, hf, hb, hz⟩ := bstep hb (w := w0) (by go_grown); try simp only [World.size_alloc, World.size_setCell, World.size_drew] at hc hf hz)
    | (go_at_call 18; refine (aplace_any _ _ _ (hS.below (by go_grown))).mono ?_; rintro e w' ⟨rfl, hb⟩; obtain ⟨hc, hf, hb, hz⟩ := bstep hb (w := w0) (by go_grown); try simp only [World.size_alloc, World.size_setCell, World.size_drew] at hc hf hz)
        )
        rcases hap with e | e | e
        all_goals
          go_wp2
          go_returns
          exact ⟨ret_bool (by first | (simp; done) | (simp; omega)), bjoin hb hbA⟩
      · obtain ⟨A1, A2, A3, A4, A5, A6⟩ := holds_block (c := 1) (p := a % 16) (i := a / 16 % 8) (by omega) (by omega) (by omega) (by show _ < (8 : Int); omega)
        obtain ⟨B1, -, -, -, B5, B6⟩ := holds_block (c := 1) (p := b % 16) (i := b / 16 % 8) (by omega) (by omega) (by omega) (by show _ < (8 : Int); omega)
        have hap := holds_apart (c := 1) (p := a % 16) (i := a / 16 % 8) (q := b % 16) (j := b / 16 % 8) (by omega) (by omega) (by omega) (by show _ < (8 : Int); omega) (by omega) (by omega) (by omega) (by show _ < (8 : Int); omega)
        rw [show szW 1 = 4 from rfl] at hap
        go_upto_region 18 with (first
    | (go_at_call 16; refine (aaddress_any _ _ _ _ (hS.below (by go_grown))).mono ?_; rintro e w' ⟨rfl, hb⟩; obtain ⟨hc, hf, hb, hz⟩ := bstep hb (w := w0) (by go_grown); try simp only [World.size_alloc, World.size_setCell, World.size_drew] at hc hf hz)
    | (go_at_call 18; refine (aplace_any _ _ _ (hS.below (by go_grown))).mono ?_; rintro e w' ⟨rfl, hb⟩; obtain ⟨hc, hf, hb, hz⟩ := bstep hb (w := w0) (by go_grown); try simp only [World.size_alloc, World.size_setCell, World.size_drew] at hc hf hz)
        )
        rcases hap with e | e | e
        all_goals
          go_wp2
          go_returns
          exact ⟨ret_bool (by first | (simp; done) | (simp; omega)), bjoin hb hbA⟩
      · obtain ⟨A1, A2, A3, A4, A5, A6⟩ := holds_block (c := 2) (p := a % 16) (i := a / 16 % 4) (by omega) (by omega) (by omega) (by show _ < (4 : Int); omega)
        obtain ⟨B1, -, -, -, B5, B6⟩ := holds_block (c := 2) (p := b % 16) (i := b / 16 % 4) (by omega) (by omega) (by omega) (by show _ < (4 : Int); omega)
        have hap := holds_apart (c := 2) (p := a % 16) (i := a / 16 % 4) (q := b % 16) (j := b / 16 % 4) (by omega) (by omega) (by omega) (by show _ < (4 : Int); omega) (by omega) (by omega) (by omega) (by show _ < (4 : Int); omega)
        rw [show szW 2 = 8 from rfl] at hap
        go_upto_region 18 with (first
    | (go_at_call 16; refine (aaddress_any _ _ _ _ (hS.below (by go_grown))).mono ?_; rintro e w' ⟨rfl, hb⟩; obtain ⟨hc, hf, hb, hz⟩ := bstep hb (w := w0) (by go_grown); try simp only [World.size_alloc, World.size_setCell, World.size_drew] at hc hf hz)
    | (go_at_call 18; refine (aplace_any _ _ _ (hS.below (by go_grown))).mono ?_; rintro e w' ⟨rfl, hb⟩; obtain ⟨hc, hf, hb, hz⟩ := bstep hb (w := w0) (by go_grown); try simp only [World.size_alloc, World.size_setCell, World.size_drew] at hc hf hz)
        )
        rcases hap with e | e | e
        all_goals
          go_wp2
          go_returns
          exact ⟨ret_bool (by first | (simp; done) | (simp; omega)), bjoin hb hbA⟩
      · obtain ⟨A1, A2, A3, A4, A5, A6⟩ := holds_block (c := 3) (p := a % 16) (i := a / 16 % 2) (by omega) (by omega) (by omega) (by show _ < (2 : Int); omega)
        obtain ⟨B1, -, -, -, B5, B6⟩ := holds_block (c := 3) (p := b % 16) (i := b / 16 % 2) (by omega) (by omega) (by omega) (by show _ < (2 : Int); omega)
        have hap := holds_apart (c := 3) (p := a % 16) (i := a / 16 % 2) (q := b % 16) (j := b / 16 % 2) (by omega) (by omega) (by omega) (by show _ < (2 : Int); omega) (by omega) (by omega) (by omega) (by show _ < (2 : Int); omega)
        rw [show szW 3 = 16 from rfl] at hap
        go_upto_region 18 with (first
    | (go_at_call 16; refine (aaddress_any _ _ _ _ (hS.below (by go_grown))).mono ?_; rintro e w' ⟨rfl, hb⟩; obtain ⟨hc, hf, hb, hz⟩ := bstep hb (w := w0) (by go_grown); try simp only [World.size_alloc, World.size_setCell, World.size_drew] at hc hf hz)
    | (go_at_call 18; refine (aplace_any _ _ _ (hS.below (by go_grown))).mono ?_; rintro e w' ⟨rfl, hb⟩; obtain ⟨hc, hf, hb, hz⟩ := bstep hb (w := w0) (by go_grown); try simp only [World.size_alloc, World.size_setCell, World.size_drew] at hc hf hz)
        )
        rcases hap with e | e | e
        all_goals
          go_wp2
          go_returns
          exact ⟨ret_bool (by first | (simp; done) | (simp; omega)), bjoin hb hbA⟩
  · go_enter Tryd.func6, Tryd.ntmps6
    go_wp2_with (first
    | (go_at_call 9; refine (awake_any _ hS).mono ?_; rintro e w' ⟨rfl, hb⟩; (try replace hS := hS.below hb); obtain ⟨hc, hf, hb, hz⟩ := bstep hb (w := w) (by go_grown); try simp only [World.size_alloc, World.size_setCell, World.size_drew] at hc hf hz)
    )
    all_goals
      first
      | omega
      | (go_returns
         exact ⟨rfl, by go_grown⟩)

namespace ArenaHolds
/-- What the row lists. -/
def lists : List (String × DataW Unit) := [("flotsam/class.sizes", Rows.laid_flotsam_class_sizes)]
set_option maxRecDepth 100000 in
theorem lifted (os : Os) (started : os.Started) (H : Type) (enc : TypeId × Value → H) :
    ReturnsInHanded {} Tryd.checked os 6 .any (fun w args => (Rows.arenaHoldsSpec.pre enc Tryd.prog Tryd.f6 Rows.arenaHoldsRow.domain false w args ∧ laidMetH Tryd.prog lists w) ∧ sizedMet enc Tryd.prog Tryd.f6 (OpenSpec.ofChange Rows.arenaHoldsSpec) false w args) (Rows.arenaHoldsSpec.post enc Tryd.prog Tryd.f6 false true false false) := by
  refine law_lifted_laid (C := Tryd.checked) seat_own started (by kernel_rfl) Tryd.func6 (by kernel_rfl) (of_decide_eq_true (by kernel_rfl)) rfl
    (fun ds hd => by have hd' : ds.length = 7 := hd; match ds, hd' with | [d0, d1, d2, d3, d4, d5, d6], _ => rfl) rfl Tryd.underlying4
    (ChangeSpec.witness_shaped (enc := enc) (C := Tryd.checked) (os := os) (X := fun w _ => laidMetH Tryd.prog lists w) false (World.laidAll Tryd.prog os lists) #[.slice none 0 0, .int .u16 0, .int .u16 0, .int .u64 0, .int .u8 0, .int .u8 0, .int .u8 0] 8 (World.laidAll_os _ _ _)
      (World.shaped_of_ZipB (by kernel_rfl) (by kernel_rfl)) (by kernel_rfl) (by kernel_rfl) (by kernel_rfl)
      (by rw [MakeChecks.laidMetH_plain _ _ _ (by kernel_rfl)]; exact laidMet_laidAll _ (by kernel_rfl) (by kernel_rfl))) ?_
  intro W base args ds p hval hA hlt hL
  have hS : Sz W := sizes_of hL (by kernel_rfl) rfl
  rw [Tryd.params6] at hA hval
  obtain ⟨rest⟩ := args
  dsimp only at hA
  obtain ⟨v0, vs0, d0, ds0, p0, q0, rfl, rfl, rfl, h0, hA0⟩ := trodAll_cons hA
  obtain ⟨v1, vs1, d1, ds1, p1, q1, rfl, rfl, rfl, h1, hA1⟩ := trodAll_cons hA0
  obtain ⟨v2, vs2, d2, ds2, p2, q2, rfl, rfl, rfl, h2, hA2⟩ := trodAll_cons hA1
  obtain ⟨v3, vs3, d3, ds3, p3, q3, rfl, rfl, rfl, h3, hA3⟩ := trodAll_cons hA2
  obtain ⟨v4, vs4, d4, ds4, p4, q4, rfl, rfl, rfl, h4, hA4⟩ := trodAll_cons hA3
  obtain ⟨v5, vs5, d5, ds5, p5, q5, rfl, rfl, rfl, h5, hA5⟩ := trodAll_cons hA4
  obtain ⟨v6, vs6, d6, ds6, p6, q6, rfl, rfl, rfl, h6, hA6⟩ := trodAll_cons hA5
  obtain ⟨rfl, rfl, rfl⟩ := trodAll_nil hA6
  obtain ⟨q0, n0, cap0, z0, rfl, hn0, hz0, hq0⟩ := open_slice_ints Tryd.underlying23 Tryd.underlying27 (by kernel_rfl) (hval 0 23 v0 rfl rfl) h0
  obtain ⟨a1, rfl, ha1⟩ := open_u16 Tryd.underlying40 (hval 1 40 v1 rfl rfl) h1
  obtain ⟨a2, rfl, ha2⟩ := open_u16 Tryd.underlying40 (hval 2 40 v2 rfl rfl) h2
  obtain ⟨a3, rfl, ha3⟩ := open_u64 Tryd.underlying27 (hval 3 27 v3 rfl rfl) h3
  obtain ⟨a4, rfl, ha4⟩ := open_u8 Tryd.underlying5 (hval 4 5 v4 rfl rfl) h4
  obtain ⟨a5, rfl, ha5⟩ := open_u8 Tryd.underlying5 (hval 5 5 v5 rfl rfl) h5
  obtain ⟨a6, rfl, ha6⟩ := open_u8 Tryd.underlying5 (hval 6 5 v6 rfl rfl) h6
  exact holds_walk _ _ _ _ a1 a2 a3 a4 a5 a6 W hz0 hn0 ha1.1 ha1.2 ha2.1 ha2.2 ha3.1 ha3.2 ha4.1 ha4.2 ha5.1 ha5.2 ha6.1 ha6.2 hS

theorem row_holds : Rows.ArenaHoldsSaid :=
  OpenClaim.holds_of_wide 6 Tryd.f6 rfl rfl rfl rfl rfl rfl rfl ⟨rfl, rfl, rfl, rfl, rfl⟩ rfl rfl rfl rfl rfl (by kernel_rfl) Tryd.func6 (by kernel_rfl)
    (of_decide_eq_true (by kernel_rfl)) (by unfold Func.isWrapper; first | (rw [if_pos (by decide +kernel)]; kernel_rfl) | (rw [if_neg (by decide +kernel)]; exact ⟨rfl, rfl⟩))
    (fun os started H enc _ => lifted os started H enc)
/-- The tied card. -/
theorem holds : Rows.ArenaHoldsCardSaid :=
  Claim7.holds_tied_plain_at .later [] [.data] true (true, "b116c2bd7adc539d1c7f5f977b3b1b7f2f58d7a588b2d7501eed8c8848a22661") false row_holds (fun _ h => by cases h) (by kernel_rfl) (fun _ h => by cases h) arenaHolds_row_tie rfl ⟨rfl, rfl⟩ (by kernel_rfl) rfl
    (fun f fn hf hfn => by
      obtain rfl : f = 6 := Option.some.inj ((show Tryd.prog.funcNamed "flotsam/flotsamlaw05.ArenaHolds" = some 6 by kernel_rfl).symm.trans hf) |>.symm
      obtain rfl : fn = Tryd.f6 := (Option.some.inj (Tryd.func6.symm.trans hfn)).symm
      exact ⟨by kernel_rfl, fun j t ht => by
        rw [Tryd.params6] at ht
        have hm : t ∈ [23, 40, 40, 27, 5, 5, 5] := by simpa using Array.mem_of_getElem? ht
        have hall : ([23, 40, 40, 27, 5, 5, 5].all fun u => !Tryd.prog.wantsStandIn u) = true := by kernel_rfl
        exact (show Tryd.prog.wantsStandIn t = false by simpa using List.all_eq_true.1 hall t hm)⟩)
    (by kernel_rfl)
#print axioms holds
end ArenaHolds
end Go.Proofs.YtjhclnalgdnplaaDoor
