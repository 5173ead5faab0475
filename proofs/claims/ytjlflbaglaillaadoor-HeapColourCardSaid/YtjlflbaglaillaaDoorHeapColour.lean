/- HeapColour: for every heap that has its form, page and number of fields, an object that heap.Lay lays has the colour that is black then, and of the other colour the heap is the same but for that header. No condition; the tables that the code reads are tied to the program's text. -/
import Derived.Test.YtjlflbaglaillaaDoorRows
import Derived.Test.YtjlflbaglaillaaDoorCards
import Derived.Test.YtjlflbaglaillaaDoorTie
import Derived.Test.YtjlflbaglaillaaDoorTiedBits
import Derived.Test.YtjlflbaglaillaaDoorAwake07
import Derived.SevenTiedAt
namespace Go.Proofs.YtjlflbaglaillaaDoor
set_option linter.unusedSimpArgs false
set_option linter.unusedVariables false
open Go.ChangeShapes Go.WideShapes Go.ChangeAt Go.RowKit Go.Joins

theorem got_put {c : Bool} {k n : Int} (h : hmayB true c k n = true) : gU (hputW true c k n) = true ∧ gC (hputW true c k n) = c ∧ gK (hputW true c k n) = k ∧ gN (hputW true c k n) = n := by
  obtain ⟨a, b, d, e⟩ := raw_of (hputW true c k n) c k n h rfl
  refine ⟨a, ?_, ?_, ?_⟩
  · simp only [gC, a, Bool.true_and]; exact b.symm
  · simp only [gK, a, if_true]; exact d.symm
  · simp only [gN, a, if_true]; exact e.symm
set_option maxHeartbeats 16000000 in
set_option maxRecDepth 20000 in
theorem colour_walk {p : Option Addr} {n c : Nat} {q : Option Addr} {m d : Nat} {s : Bool} {h : Hp} (g f : Int) (w : World) (hh : HpIn w p n c q m d s h) (hS : Sz w) (hT : Tab w) :
    Calls Tryd.prog 8 #[.agg #[.slice p n c, .slice q m d, .bool s], .int .i64 g, .int .i64 f] w fun e w' => e = .returned (.bool true) ∧ Below w.heap.size w w' := by
  have hL0 : formB h = true → Lower w.heap.size p q := hh.lower
  have hS0 := hS
  have hT0 := hT
  obtain ⟨w0, hw0⟩ : ∃ w0, w0 = w.alloc (.cells #[.slice p n c, .slice q m d, .bool s] 25) := ⟨_, rfl⟩
  have g3 : Box3 w.heap.size (.slice p n c) (.slice q m d) (.bool s) w0 := by rw [hw0]; exact Box3.new _ _ _ _ _
  have hB0 : Below w.heap.size w w0 := by rw [hw0]; exact (Below.refl _ _).alloc (Nat.le_refl _) _
  have hl0 : w.heap.size + 1 ≤ w0.heap.size := by rw [hw0]; simp
  have hh0 := hh.below hB0
  replace hS := hS.below hB0
  replace hT := hT.below hB0
  have k3 := g3
  obtain ⟨l3, x0, x1, x2, -, -, -⟩ := k3
  cases hF : formB h with
  | false =>
    go_enter Tryd.func8, Tryd.ntmps8
    go_upto_region 1 with fail
    rw [← hw0]
    clear hw0
    go_wp2_with (first
    | (go_at_call 9; refine Calls.mono (awake_any _ (hS.below (by go_grown)) (hT.below (by go_grown))) ?_; rintro e w' ⟨rfl, hb⟩; obtain ⟨hc, hf, hb, hz⟩ := bstep hb (w := w0) (by go_grown); try simp only [World.size_alloc, World.size_setCell, World.size_drew] at hc hf hz)
    | (go_at_call 14; refine Calls.mono (rform_in (hh0.below (by go_grown))) ?_; rintro e w' ⟨rfl, hb⟩; obtain ⟨hc, hf, hb, hz⟩ := bstep hb (w := w0) (by go_grown); try simp only [World.size_alloc, World.size_setCell, World.size_drew] at hc hf hz)
    )
    go_returns
    exact ⟨rfl, bjoin hb hB0⟩
  | true =>
    have hL := hL0 hF
    have hF' : Hid (formB h = true) := hF
    have hFf : Hid (formB (flipB h) = true) := hF
    have eB : laB (flipB h) g f = laB h g f := rfl
    have eA : laA (flipB h) g f = laA h g f := rfl
    go_enter Tryd.func8, Tryd.ntmps8
    go_upto_region 1 with fail
    rw [← hw0]
    clear hw0
    go_upto_region 4 with (first
    | (go_at_call 9; refine Calls.mono (awake_any _ (hS.below (by go_grown)) (hT.below (by go_grown))) ?_; rintro e w' ⟨rfl, hb⟩; obtain ⟨hc, hf, hb, hz⟩ := bstep hb (w := w0) (by go_grown); try simp only [World.size_alloc, World.size_setCell, World.size_drew] at hc hf hz)
    | (go_at_call 14; refine Calls.mono (rform_in (hh0.below (by go_grown))) ?_; rintro e w' ⟨rfl, hb⟩; obtain ⟨hc, hf, hb, hz⟩ := bstep hb (w := w0) (by go_grown); try simp only [World.size_alloc, World.size_setCell, World.size_drew] at hc hf hz)
    | (go_at_call 25; refine Calls.mono (hlay_in (hS.below (by go_grown)) (hT.below (by go_grown)) (hh0.below (by go_grown)) hF'.out) ?_; rintro e w' ⟨p1, c1, q1, d1, rfl, hh1, hs1, hb⟩; obtain ⟨hc, hf, hb, hz⟩ := bstep hb (w := w0) (by go_grown); try simp only [World.size_alloc, World.size_setCell, World.size_drew] at hc hf hz)
    )
    have hBl : w0.heap.size ≤ w'.heap.size := hb.size
    obtain ⟨w4, hw4⟩ : ∃ w4, w4 = w'.alloc (.cells #[.slice p1 n c1, .slice q1 m d1, .bool s] 25) := ⟨_, rfl⟩
    have hB4 : Below w'.heap.size w' w4 := by rw [hw4]; exact (Below.refl _ _).alloc (Nat.le_refl _) _
    have hl4 : w'.heap.size + 1 ≤ w4.heap.size := by rw [hw4]; simp
    have g7 : Box3 w'.heap.size (.slice p1 n c1) (.slice q1 m d1) (.bool s) w4 := by rw [hw4]; exact Box3.new _ _ _ _ _
    have hC1 := hs1.clear hL (g := w.heap.size) (Nat.le_refl _) (by first | omega | (simp; omega))
    replace hh1 := hh1.below hB4
    have hb4 := bjoin hB4 hb
    replace g3 := g3.below hb4
    rw [← hw4]
    clear hw4 hc hf hb hz hB4 x0 x1 x2 l3 hs1
    generalize w'.heap.size = B7 at *
    have k3 := g3
    obtain ⟨l3, x0, x1, x2, f0, f1, f2⟩ := k3
    go_upto_region 5 with fail
    obtain ⟨w5, hw5⟩ : ∃ w5, w5 = w4.setCell ⟨w.heap.size, 2, none⟩ (.bool !s) := ⟨_, rfl⟩
    have hb5 : Below w.heap.size w w5 := by rw [hw5]; exact (bjoin hb4 hB0).setCell (Nat.le_refl _) _
    have hS5 : Sz w5 := hS0.below hb5
    have hT5 : Tab w5 := hT0.below hb5
    have hh5 : HpIn w5 p n c q m d (!s) (flipB h) := (hh.below hb5).flip
    replace hh1 := hh1.setCell hC1 2 (.bool !s)
    replace g3 := g3.store2 (.bool !s)
    replace g7 := g7.other (g := w.heap.size) (by omega) 2 (.bool !s)
    have hl5 : w5.heap.size = w4.heap.size := by rw [hw5]; simp
    rw [← hw5] at hh1 g3 g7 ⊢
    clear hw5 x0 x1 x2 f0 f1 f2 l3
    have k3 := g3
    obtain ⟨l3, x0, x1, x2, -, -, -⟩ := k3
    go_upto_region 6 with (first
    | (go_at_call 25; refine Calls.mono (hlay_in (hS5.below (by go_grown)) (hT5.below (by go_grown)) (hh5.below (by go_grown)) hFf.out) ?_; rintro e w' ⟨p2, c2, q2, d2, rfl, hh2, -, hb⟩; obtain ⟨hc, hf, hb, hz⟩ := bstep hb (w := w5) (by go_grown); try simp only [World.size_alloc, World.size_setCell, World.size_drew] at hc hf hz)
    )
    obtain ⟨w6, hw6⟩ : ∃ w6, w6 = w'.alloc (.cells #[.slice p2 n c2, .slice q2 m d2, .bool !s] 25) := ⟨_, rfl⟩
    have hBl10 : w5.heap.size ≤ w'.heap.size := hb.size
    have hB6 : Below w'.heap.size w' w6 := by rw [hw6]; exact (Below.refl _ _).alloc (Nat.le_refl _) _
    have hl6 : w'.heap.size + 1 ≤ w6.heap.size := by rw [hw6]; simp
    have g10 : Box3 w'.heap.size (.slice p2 n c2) (.slice q2 m d2) (.bool !s) w6 := by rw [hw6]; exact Box3.new _ _ _ _ _
    have hB56 := bjoin hB6 hb
    replace hh2 := hh2.below hB6
    replace hh1 := hh1.below hB56
    replace g7 := g7.below hB56
    have hbW := hb5.trans (hB56.mono hb5.size)
    rw [← hw6]
    clear hw6 hc hf hb hz hB6 x0 x1 x2 l3 g3 hB56 hS5 hT5 hh5 hb5 hFf
    generalize w'.heap.size = B10 at *
    have k7 := g7
    obtain ⟨l7, x0, x1, x2, -, -, -⟩ := k7
    have k10 := g10
    obtain ⟨l10, y0, y1, y2, -, -, -⟩ := k10
    cases hl : laB h g f with
    | false =>
      go_wp2
      go_returns
      exact ⟨rfl, hbW⟩
    | true =>
      obtain ⟨a0, a1, -, hmay⟩ := la_at hF'.out hh.at'.wf hl
      have hmay' : hmayB true (!s) (spH h g).cl f = true := hmay
      have ez1 := la_z hl
      have ez2 : (laH (flipB h) g f).z = putZ (zerZ h.z (laA h g f) (szW (spH h g).cl)) (laA h g f) (hputW true (!s) (spH h g).cl f) := by
        rw [la_z (h := flipB h) hl, show (flipB h).b = !s by rw [hh.b_eq]; rfl]; rfl
      rw [← hh.b_eq] at ez1 hmay
      have hsz : 2 ≤ szW (spH h g).cl := by
        obtain ⟨-, -, -, -, -, -, -, c0, c1, -⟩ := la_spec hF'.out hh.at'.wf hl
        have := cl_cases (spH h g).cl; omega
      rw [← hh.n_eq] at a1
      have hn5 : n ≤ 512 := by rw [hh.n_eq]; have := form_iff.1 hF'.out; omega
      have hn0 : 0 < n := by omega
      obtain ⟨b1, o1, rfl, lb1, r1⟩ := hh1.word hn0
      obtain ⟨b2, o2, rfl, lb2, r2⟩ := hh2.word hn0
      rw [ez1] at r1
      rw [ez2] at r2
      generalize laA h g f = A at *
      generalize (spH h g).cl = cl at *
      have eq : ∀ i : Int, ¬ i = A → 0 ≤ i → putZ (zerZ h.z A (szW cl)) A (hputW true s cl f) i.toNat = putZ (zerZ h.z A (szW cl)) A (hputW true (!s) cl f) i.toNat := fun i hi i0 => by
        unfold putZ
        rw [if_neg (by omega), if_neg (by omega)]
      have v1 := r1 A a0 (by omega)
      have v2 := r2 A a0 (by omega)
      have w1e : putZ (zerZ h.z A (szW cl)) A (hputW true s cl f) A.toNat = hputW true s cl f := by unfold putZ; rw [if_pos (by omega)]
      have w2e : putZ (zerZ h.z A (szW cl)) A (hputW true (!s) cl f) A.toNat = hputW true (!s) cl f := by unfold putZ; rw [if_pos (by omega)]
      rw [w1e] at v1
      rw [w2e] at v2
      obtain ⟨u0, u1, u2, u3⟩ := got_put hmay
      obtain ⟨t0, t1, t2, t3⟩ := got_put hmay'
      have hlt1 := hput_lt hmay
      have hlt2 := hput_lt hmay'
      have hR : Hid (∀ i : Int, 0 ≤ i → i < n → ¬ i = A → ∃ z, w6.cell? ⟨b1, o1 + i.toNat, none⟩ = some (.int .u64 z) ∧ w6.cell? ⟨b2, o2 + i.toNat, none⟩ = some (.int .u64 z)) := fun i i0 i1 hi => ⟨_, r1 i i0 i1, by rw [eq i hi i0]; exact r2 i i0 i1⟩
      have hA2 : A < (n : Int) := by omega
      clear ez1 ez2 w1e w2e eq r1 r2 hmay hmay' hh1 hh2 hh hh0 hL0 hC1 hl a1 hsz
      generalize hputW true s cl f = X1 at *
      generalize hputW true (!s) cl f = X2 at *
      obtain ⟨X10, X11⟩ := hlt1
      obtain ⟨X20, X21⟩ := hlt2
      go_upto_region 11 with (first
    | (go_at_call 27; refine Calls.mono (rhget_any _ _ (by assumption) (by omega)) ?_; rintro e w' ⟨rfl, hb⟩; obtain ⟨hc, hf, hb, hz⟩ := bstep hb (w := w6) (by go_grown); try simp only [World.size_alloc, World.size_setCell, World.size_drew] at hc hf hz)
      )
      obtain ⟨w7, hw7⟩ : ∃ w7, w7 = w'.alloc (.cells #[.bool true, .bool s, .int .i64 cl, .int .i64 f] 52) := ⟨_, rfl⟩
      have hB7 : Below w6.heap.size w6 w7 := by rw [hw7]; exact hb.alloc hb.size _
      have hl7 : w'.heap.size + 1 ≤ w7.heap.size := by rw [hw7]; simp
      have e0 : w7.cell? ⟨w'.heap.size, 0, none⟩ = some (.bool true) := by rw [hw7]; go_simp
      have e1 : w7.cell? ⟨w'.heap.size, 1, none⟩ = some (.bool s) := by rw [hw7]; go_simp
      have e2 : w7.cell? ⟨w'.heap.size, 2, none⟩ = some (.int .i64 cl) := by rw [hw7]; go_simp
      have e3 : w7.cell? ⟨w'.heap.size, 3, none⟩ = some (.int .i64 f) := by rw [hw7]; go_simp
      have hl13 : w6.heap.size ≤ w'.heap.size := hb.size
      rw [← hw7]
      clear hw7 hb hc hf hz
      generalize w'.heap.size = B13 at *
      obtain ⟨hc, hf, hb, hz⟩ := bstep hB7 (w := w6) (Below.refl _ _)
      go_upto_region 12 with (first
    | (go_at_call 27; refine Calls.mono (rhget_any _ _ (by assumption) (by omega)) ?_; rintro e w' ⟨rfl, hb⟩; obtain ⟨hc, hf, hb, hz⟩ := bstep hb (w := w7) (by go_grown); try simp only [World.size_alloc, World.size_setCell, World.size_drew] at hc hf hz)
      )
      obtain ⟨w8, hw8⟩ : ∃ w8, w8 = w'.alloc (.cells #[.bool true, .bool !s, .int .i64 cl, .int .i64 f] 52) := ⟨_, rfl⟩
      have hB8 : Below w7.heap.size w7 w8 := by rw [hw8]; exact hb.alloc hb.size _
      have hl8 : w'.heap.size + 1 ≤ w8.heap.size := by rw [hw8]; simp
      have i0 : w8.cell? ⟨w'.heap.size, 0, none⟩ = some (.bool true) := by rw [hw8]; go_simp
      have i1 : w8.cell? ⟨w'.heap.size, 1, none⟩ = some (.bool !s) := by rw [hw8]; go_simp
      have i2 : w8.cell? ⟨w'.heap.size, 2, none⟩ = some (.int .i64 cl) := by rw [hw8]; go_simp
      have i3 : w8.cell? ⟨w'.heap.size, 3, none⟩ = some (.int .i64 f) := by rw [hw8]; go_simp
      have hl15 : w7.heap.size ≤ w'.heap.size := hb.size
      rw [← hw8]
      clear hw8 hb hc hf hz
      generalize w'.heap.size = B15 at *
      have hB68 := bjoin hB8 hB7
      replace g7 := g7.below hB68
      replace g10 := g10.below hB68
      replace e0 := (hB8.cell (p := ⟨B13, 0, none⟩) (show B13 < w7.heap.size by omega)).trans e0
      replace e1 := (hB8.cell (p := ⟨B13, 1, none⟩) (show B13 < w7.heap.size by omega)).trans e1
      replace e2 := (hB8.cell (p := ⟨B13, 2, none⟩) (show B13 < w7.heap.size by omega)).trans e2
      replace e3 := (hB8.cell (p := ⟨B13, 3, none⟩) (show B13 < w7.heap.size by omega)).trans e3
      have hR8 : Hid (∀ i : Int, 0 ≤ i → i < n → ¬ i = A → ∃ z, w8.cell? ⟨b1, o1 + i.toNat, none⟩ = some (.int .u64 z) ∧ w8.cell? ⟨b2, o2 + i.toNat, none⟩ = some (.int .u64 z)) := fun i i0 i1 hi => by
        obtain ⟨z, h1, h2⟩ := hR.out i i0 i1 hi
        exact ⟨z, (hB68.cell (p := ⟨b1, _, none⟩) lb1).trans h1, (hB68.cell (p := ⟨b2, _, none⟩) lb2).trans h2⟩
      have hbW8 := bjoin hB68 hbW
      have hl68 : w6.heap.size ≤ w8.heap.size := hB68.size
      clear x0 x1 x2 y0 y1 y2 v1 v2 hR hB7 hB8 hB68 u0 u1 u2 u3 t0 t1 t2 t3 l7 l10
      obtain ⟨l7, x0, x1, x2, -, -, -⟩ := g7
      obtain ⟨l10, y0, y1, y2, -, -, -⟩ := g10
      have m1 : b1 < w8.heap.size := by omega
      have m2 : b2 < w8.heap.size := by omega
      have m3 : B13 < w8.heap.size := by omega
      have m4 : B15 < w8.heap.size := by omega
      clear hl0 hBl hl4 hl5 hBl10 hl6 hl7 hl8 hl13 hl15 hl68 lb1 lb2
      go_wp2
      go_loopg [17] n (fun gg iv wr => ∃ i : Int, 0 ≤ i ∧ i ≤ n ∧ gg = (n - i).toNat ∧ iv = .int .i64 i ∧ Below w8.heap.size w8 wr)
      case atStart => exact ⟨0, by omega, by omega, by omega, rfl, Below.refl _ _⟩
      case round =>
        obtain ⟨i, il, ih, rfl, rfl, hbw⟩ := hrel
        obtain ⟨hc, hf, hb, hz⟩ := bstep hbw (w := w8) (Below.refl _ _)
        by_cases hi : i < n
        · by_cases hA : i = A
          · have d0 : (i != A) = false := by simp [hA]
            go_upto_region 15 with fail
            refine wp_region_plus (by kernel_rfl) (by kernel_rfl) fun hpc => ?_
            repeat (first | go_big_quiet_step (fail) | quiet_step (fail))
            refine wpQuiet_nil ?_
            intro w' hbq
            clear hpc
            obtain ⟨hc, hf, hb, hz⟩ := bstep hbq (w := wr) (by go_grown)
            try simp only [World.size_alloc, World.size_setCell, World.size_drew] at hc hf hz
            go_wp2
            go_roundg ((n : Int) - (i + 1)).toNat
            case measure => omega
            case rel => exact ⟨i + 1, by omega, by omega, rfl, by go_num, bjoin hb hbw⟩
          · have d0 : (i != A) = true := by simp [hA]
            obtain ⟨z, v1, v2⟩ := hR8.out i il hi hA
            have v1' : wr.cell? ⟨b1, o1 + i.toNat, none⟩ = some (.int .u64 z) := (hbw.cell (p := ⟨b1, _, none⟩) m1).trans v1
            have v2' : wr.cell? ⟨b2, o2 + i.toNat, none⟩ = some (.int .u64 z) := (hbw.cell (p := ⟨b2, _, none⟩) m2).trans v2
            clear v1' v2'
            go_upto_region 15 with fail
            refine wp_region_plus (by kernel_rfl) (by kernel_rfl) fun hpc => ?_
            repeat (first | go_big_quiet_step (fail) | quiet_step (fail))
            refine wpQuiet_nil ?_
            intro w' hbq
            clear hpc
            obtain ⟨hc, hf, hb, hz⟩ := bstep hbq (w := wr) (by go_grown)
            try simp only [World.size_alloc, World.size_setCell, World.size_drew] at hc hf hz
            go_wp2
            go_roundg ((n : Int) - (i + 1)).toNat
            case measure => omega
            case rel => exact ⟨i + 1, by omega, by omega, rfl, by go_num, bjoin hb hbw⟩
        · obtain rfl : i = n := by omega
          cases s
          all_goals
            go_wp2
            go_returns
            exact ⟨ret_bool (by simp), bjoin hbw hbW8⟩

namespace HeapColour
/-- What the row lists. -/
def lists : List (String × DataW Unit) := [("flotsam/class.sizes", Rows.laid_flotsam_class_sizes), ("math/bits.deBruijn32tab", Rows.laid_math_bits_deBruijn32tab)]
set_option maxRecDepth 100000 in
theorem lifted (os : Os) (started : os.Started) (H : Type) (enc : TypeId × Value → H) :
    ReturnsInHanded {} Tryd.checked os 8 .any (fun w args => (Rows.heapColourSpec.pre enc Tryd.prog Tryd.f8 Rows.heapColourRow.domain false w args ∧ laidMetH Tryd.prog lists w) ∧ sizedMet enc Tryd.prog Tryd.f8 (OpenSpec.ofChange Rows.heapColourSpec) false w args) (Rows.heapColourSpec.post enc Tryd.prog Tryd.f8 false true false false) := by
  refine law_lifted_laid (C := Tryd.checked) seat_own started (by kernel_rfl) Tryd.func8 (by kernel_rfl) (of_decide_eq_true (by kernel_rfl)) rfl
    (fun ds hd => by have hd' : ds.length = 3 := hd; match ds, hd' with | [d0, d1, d2], _ => rfl) rfl Tryd.underlying4
    (ChangeSpec.witness_shaped (enc := enc) (C := Tryd.checked) (os := os) (X := fun w _ => laidMetH Tryd.prog lists w) false (World.laidAll Tryd.prog os lists) #[.agg #[.slice none 0 0, .slice none 0 0, .bool false], .int .i64 0, .int .i64 0] 8 (World.laidAll_os _ _ _)
      (World.shaped_of_ZipB (by kernel_rfl) (by kernel_rfl)) (by kernel_rfl) (by kernel_rfl) (by kernel_rfl)
      (by rw [MakeChecks.laidMetH_plain _ _ _ (by kernel_rfl)]; exact laidMet_laidAll _ (by kernel_rfl) (by kernel_rfl))) ?_
  intro W base args ds p hval hA hlt hL
  have hS : Sz W := sizes_of hL (by kernel_rfl) rfl
  have hT : Tab W := tab_of hL (by kernel_rfl) rfl
  rw [Tryd.params8] at hA hval
  obtain ⟨v0, v1, v2, d0, d1, d2, p0, p1, p2, rfl, rfl, rfl, h0, h1, h2⟩ := trodAll_three hA
  obtain ⟨x0, q0, c0, s0, e0, rfl, hh0⟩ := open_heap Tryd.underlying25 (by kernel_rfl) (by kernel_rfl) Tryd.underlying22 (by kernel_rfl) (by kernel_rfl) Tryd.underlying23 Tryd.underlying49 (by kernel_rfl) (by kernel_rfl) (by kernel_rfl) (by kernel_rfl) (by kernel_rfl) (by kernel_rfl) (hval 0 25 v0 rfl rfl) h0
  obtain ⟨a1, rfl, ha1⟩ := open_i64 Tryd.underlying3 (hval 1 3 v1 rfl rfl) h1
  obtain ⟨a2, rfl, ha2⟩ := open_i64 Tryd.underlying3 (hval 2 3 v2 rfl rfl) h2
  exact colour_walk a1 a2 W hh0.in hS hT

theorem row_holds : Rows.HeapColourSaid :=
  OpenClaim.holds_of_wide 8 Tryd.f8 rfl rfl rfl rfl rfl rfl rfl ⟨rfl, rfl, rfl, rfl, rfl⟩ rfl rfl rfl rfl rfl (by kernel_rfl) Tryd.func8 (by kernel_rfl)
    (of_decide_eq_true (by kernel_rfl)) (by unfold Func.isWrapper; first | (rw [if_pos (by decide +kernel)]; kernel_rfl) | (rw [if_neg (by decide +kernel)]; exact ⟨rfl, rfl⟩))
    (fun os started H enc _ => lifted os started H enc)
/-- The tied card. -/
theorem holds : Rows.HeapColourCardSaid :=
  Claim7.holds_tied_plain_at .later [] [.data, .data] true (true, "4319912ea4b27ca89517975b0d81ad0153941401844a695d32a61ba51c2bf89d") false row_holds (fun _ h => by cases h) (by kernel_rfl) (fun _ h => by cases h) heapColour_row_tie rfl ⟨rfl, rfl⟩ (by kernel_rfl) rfl
    (fun f fn hf hfn => by
      obtain rfl : f = 8 := Option.some.inj ((show Tryd.prog.funcNamed "flotsam/flotsamlaw07.HeapColour" = some 8 by kernel_rfl).symm.trans hf) |>.symm
      obtain rfl : fn = Tryd.f8 := (Option.some.inj (Tryd.func8.symm.trans hfn)).symm
      exact ⟨by kernel_rfl, fun j t ht => by
        rw [Tryd.params8] at ht
        have hm : t ∈ [25, 3, 3] := by simpa using Array.mem_of_getElem? ht
        have hall : ([25, 3, 3].all fun u => !Tryd.prog.wantsStandIn u) = true := by kernel_rfl
        exact (show Tryd.prog.wantsStandIn t = false by simpa using List.all_eq_true.1 hall t hm)⟩)
    (by kernel_rfl)
#print axioms holds
end HeapColour
end Go.Proofs.YtjlflbaglaillaaDoor
