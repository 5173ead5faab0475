/- HeapBack: of every heap that has its form, a page that heap.Open opens and heap.Close closes leaves it as it was; so does an object that heap.Lay lays where nothing was, and heap.Free frees; what is used is more by the block's words between. No condition; the tables that the code reads are tied to the program's text. -/
import Derived.Test.YtjlflbaglaillaaDoorRows
import Derived.Test.YtjlflbaglaillaaDoorCards
import Derived.Test.YtjlflbaglaillaaDoorTie
import Derived.Test.YtjlflbaglaillaaDoorTiedBits
import Derived.Test.YtjlflbaglaillaaDoorAwake07
import Derived.SevenTiedAt
namespace Go.Proofs.YtjlflbaglaillaaDoor
set_option linter.unusedSimpArgs false
set_option linter.unusedVariables false
open Go.ChangeShapes Go.WideShapes Go.ChangeAt Go.RowKit Go.Joins

theorem us_bound {h : Hp} (hF : formB h = true) (hw : h.wf) : 0 ≤ usH h ∧ usH h ≤ 512 := by
  have := usT_bound (s := h.s) (k := h.m) fun j hj => ⟨(form_iff.1 hF).2.2.2 j hj, hw.2 j hj⟩
  have := (form_iff.1 hF).2.1
  unfold usH; omega
theorem back_same {h : Hp} {g f : Int} (hF : formB h = true) (hw : h.wf) (e : laB h g f = true) (hz : ∀ j : Int, 0 ≤ j → j < szW (spH h g).cl → h.z (laA h g f + j).toNat = 0) : sameH (frH (laH h g f) (laA h g f)) h = true := by
  obtain ⟨-, -, -, -, -, k5, k6, k7⟩ := lay_free hF hw e
  obtain ⟨a0, -⟩ := la_at hF hw e
  have n1 := fr_n (laH h g f) (laA h g f)
  have n2 := la_n h g f
  refine sameH_iff.2 ⟨k6, n1.2.1.trans n2.2.1, ⟨n1.1.trans n2.1, fun i _ => ?_⟩, fun i _ => k5 i⟩
  rw [k7]
  unfold zerZ
  split
  · rename_i hi
    have := hz ((i : Int) - laA h g f) (by omega) (by omega)
    rw [show (laA h g f + ((i : Int) - laA h g f)).toNat = i by omega] at this
    exact this.symm
  · rfl
set_option maxHeartbeats 32000000 in
set_option maxRecDepth 20000 in
theorem back_walk {p : Option Addr} {n c : Nat} {q : Option Addr} {m d : Nat} {s : Bool} {h : Hp} (g f : Int) (w : World) (hh : HpIn w p n c q m d s h) (hS : Sz w) (hT : Tab w) :
    Calls Tryd.prog 7 #[.agg #[.slice p n c, .slice q m d, .bool s], .int .i64 g, .int .i64 f] w fun e w' => e = .returned (.bool true) ∧ Below w.heap.size w w' := by
  have hL0 : formB h = true → Lower w.heap.size p q := hh.lower
  obtain ⟨w0, hw0⟩ : ∃ w0, w0 = w.alloc (.cells #[.slice p n c, .slice q m d, .bool s] 25) := ⟨_, rfl⟩
  have g3 : Box3 w.heap.size (.slice p n c) (.slice q m d) (.bool s) w0 := by rw [hw0]; exact Box3.new _ _ _ _ _
  have hB0 : Below w.heap.size w w0 := by rw [hw0]; exact (Below.refl _ _).alloc (Nat.le_refl _) _
  have hl0 : w.heap.size + 1 ≤ w0.heap.size := by rw [hw0]; simp
  replace hh := hh.below hB0
  replace hS := hS.below hB0
  replace hT := hT.below hB0
  have k3 := g3
  obtain ⟨l3, x0, x1, x2, -, -, -⟩ := k3
  cases hF : formB h with
  | false =>
    go_enter Tryd.func7, Tryd.ntmps7
    go_upto_region 1 with fail
    rw [← hw0]
    clear hw0
    go_wp2_with (first
    | (go_at_call 9; refine Calls.mono (awake_any _ (hS.below (by go_grown)) (hT.below (by go_grown))) ?_; rintro e w' ⟨rfl, hb⟩; obtain ⟨hc, hf, hb, hz⟩ := bstep hb (w := w0) (by go_grown); try simp only [World.size_alloc, World.size_setCell, World.size_drew] at hc hf hz)
    | (go_at_call 14; refine Calls.mono (rform_in (hh.below (by go_grown))) ?_; rintro e w' ⟨rfl, hb⟩; obtain ⟨hc, hf, hb, hz⟩ := bstep hb (w := w0) (by go_grown); try simp only [World.size_alloc, World.size_setCell, World.size_drew] at hc hf hz)
    )
    go_returns
    exact ⟨rfl, bjoin hb hB0⟩
  | true =>
    have hF' : Hid (formB h = true) := hF
    have hub := us_bound hF hh.at'.wf
    go_enter Tryd.func7, Tryd.ntmps7
    go_upto_region 1 with fail
    rw [← hw0]
    clear hw0
    go_upto_region 4 with (first
    | (go_at_call 9; refine Calls.mono (awake_any _ (hS.below (by go_grown)) (hT.below (by go_grown))) ?_; rintro e w' ⟨rfl, hb⟩; obtain ⟨hc, hf, hb, hz⟩ := bstep hb (w := w0) (by go_grown); try simp only [World.size_alloc, World.size_setCell, World.size_drew] at hc hf hz)
    | (go_at_call 14; refine Calls.mono (rform_in (hh.below (by go_grown))) ?_; rintro e w' ⟨rfl, hb⟩; obtain ⟨hc, hf, hb, hz⟩ := bstep hb (w := w0) (by go_grown); try simp only [World.size_alloc, World.size_setCell, World.size_drew] at hc hf hz)
    | (go_at_call 19; refine Calls.mono (hopen_in (hS.below (by go_grown)) (hT.below (by go_grown)) (hh.below (by go_grown)) hF'.out) ?_; rintro e w' ⟨p1, c1, q1, d1, rfl, hh1, -, hb⟩; obtain ⟨hc, hf, hb, hz⟩ := bstep hb (w := w0) (by go_grown); try simp only [World.size_alloc, World.size_setCell, World.size_drew] at hc hf hz)
    )
    obtain ⟨w4, hw4⟩ : ∃ w4, w4 = w'.alloc (.cells #[.slice p1 n c1, .slice q1 m d1, .bool s] 25) := ⟨_, rfl⟩
    have hB4 : Below w'.heap.size w' w4 := by rw [hw4]; exact (Below.refl _ _).alloc (Nat.le_refl _) _
    have g7 : Box3 w'.heap.size (.slice p1 n c1) (.slice q1 m d1) (.bool s) w4 := by rw [hw4]; exact Box3.new _ _ _ _ _
    have hb4 := bjoin hB4 hb
    replace hh1 := hh1.below hB4
    replace hh := hh.below hb4
    replace hS := hS.below hb4
    replace hT := hT.below hb4
    replace g3 := g3.below hb4
    have hbW := bjoin hb4 hB0
    rw [← hw4]
    clear hw4 hc hf hb hz hB4 x0 x1 x2 l3 hb4 hB0 hl0
    generalize w'.heap.size = B7 at *
    cases ho : opB h g f with
    | true =>
      obtain ⟨o0, o1, o2⟩ := open_close hF ho
      have hF1 : Hid (formB (opH h g f) = true) := form_open hF g f
      have hF1p := hF1.out
      have k7 := g7
      obtain ⟨l7, x0, x1, x2, -, -, -⟩ := k7
      go_upto_region 6 with (first
    | (go_at_call 21; refine Calls.mono (hclose_in (hS.below (by go_grown)) (hT.below (by go_grown)) (hh1.below (by go_grown)) hF1.out) ?_; rintro e w' ⟨p2, c2, q2, d2, rfl, hh2, -, hb⟩; obtain ⟨hc, hf, hb, hz⟩ := bstep hb (w := w4) (by go_grown); try simp only [World.size_alloc, World.size_setCell, World.size_drew] at hc hf hz)
      )
      obtain ⟨w5, hw5⟩ : ∃ w5, w5 = w'.alloc (.cells #[.slice p2 n c2, .slice q2 m d2, .bool s] 25) := ⟨_, rfl⟩
      have hB5 : Below w'.heap.size w' w5 := by rw [hw5]; exact (Below.refl _ _).alloc (Nat.le_refl _) _
      have g9 : Box3 w'.heap.size (.slice p2 n c2) (.slice q2 m d2) (.bool s) w5 := by rw [hw5]; exact Box3.new _ _ _ _ _
      have hb5 := bjoin hB5 hb
      replace hh2 := hh2.below hB5
      replace hh1 := hh1.below hb5
      replace hh := hh.below hb5
      replace hS := hS.below hb5
      replace hT := hT.below hb5
      replace g3 := g3.below hb5
      replace g7 := g7.below hb5
      replace hbW := bjoin hb5 hbW
      rw [← hw5]
      clear hw5 hc hf hb hz hB5 x0 x1 x2 l7 hb5
      generalize w'.heap.size = B9 at *
      have k3 := g3
      obtain ⟨l3, x0, x1, x2, -, -, -⟩ := k3
      obtain ⟨l7, y0, y1, y2, -, -, -⟩ := g7
      obtain ⟨l9, z0, z1, z2, -, -, -⟩ := g9
      refine wp_region_plus (by kernel_rfl) (by kernel_rfl) fun hpc => ?_
      repeat (first | go_big_quiet_step ((first | (go_at_call 11; exact quiet_plus (rsame_in (hh2.below (plus_below _ _)) (hh.below (plus_below _ _)))) | (go_at_call 17; exact quiet_plus (hused_in (hS.below (plus_below _ _)) (hT.below (plus_below _ _)) (HpIn.below (by assumption) (plus_below _ _)) (by assumption))))) | quiet_step ((first | (go_at_call 11; exact quiet_plus (rsame_in (hh2.below (plus_below _ _)) (hh.below (plus_below _ _)))) | (go_at_call 17; exact quiet_plus (hused_in (hS.below (plus_below _ _)) (hT.below (plus_below _ _)) (HpIn.below (by assumption) (plus_below _ _)) (by assumption))))))
      refine wpQuiet_nil ?_
      intro w' hbq
      clear hpc
      obtain ⟨hc, hf, hb, hz⟩ := bstep hbq (w := w5) (by go_grown)
      try simp only [World.size_alloc, World.size_setCell, World.size_drew] at hc hf hz
      go_upto_region 8 with fail
      replace hh := hh.below hb
      replace hS := hS.below hb
      replace hT := hT.below hb
      replace g3 := g3.below hb
      replace hbW := bjoin hb hbW
      clear hb hc hf hz x0 x1 x2 y0 y1 y2 z0 z1 z2 l3 l7 l9 hh1 hh2 hF1 hF1p
      generalize w' = wA at hh hS hT g3 hbW ⊢
      have k3 := g3
      obtain ⟨l3, x0, x1, x2, -, -, -⟩ := k3
      have hBlA : w.heap.size ≤ wA.heap.size := hbW.size
      go_upto_region 9 with (first
    | (go_at_call 25; refine Calls.mono (hlay_in (hS.below (by go_grown)) (hT.below (by go_grown)) (hh.below (by go_grown)) hF'.out) ?_; rintro e w' ⟨p1, c1, q1, d1, rfl, hh1, -, hb⟩; obtain ⟨hc, hf, hb, hz⟩ := bstep hb (w := wA) (by go_grown); try simp only [World.size_alloc, World.size_setCell, World.size_drew] at hc hf hz)
      )
      obtain ⟨w6, hw6⟩ : ∃ w6, w6 = w'.alloc (.cells #[.slice p1 n c1, .slice q1 m d1, .bool s] 25) := ⟨_, rfl⟩
      have hB6 : Below w'.heap.size w' w6 := by rw [hw6]; exact (Below.refl _ _).alloc (Nat.le_refl _) _
      have g11 : Box3 w'.heap.size (.slice p1 n c1) (.slice q1 m d1) (.bool s) w6 := by rw [hw6]; exact Box3.new _ _ _ _ _
      have hb6 := bjoin hB6 hb
      replace hh1 := hh1.below hB6
      replace hh := hh.below hb6
      replace hS := hS.below hb6
      replace hT := hT.below hb6
      replace g3 := g3.below hb6
      replace hbW := bjoin hb6 hbW
      rw [← hw6]
      clear hw6 hc hf hb hz hB6 x0 x1 x2 l3 hb6 hBlA
      generalize w'.heap.size = B11 at *
      have k3 := g3
      obtain ⟨l3, x0, x1, x2, -, -, -⟩ := k3
      have k11 := g11
      obtain ⟨l11, y0, y1, y2, -, -, -⟩ := k11
      cases hl : laB h g f with
      | false =>
        obtain ⟨e1, e2⟩ := la_no hl
        have s1 : sameH (laH h g f) h = true := by rw [e1]; exact sameH_self _
        clear e1
        go_wp2_with (first
    | (go_at_call 11; refine Calls.mono (rsame_in (hh1.below (by go_grown)) (hh.below (by go_grown))) ?_; rintro e w' ⟨rfl, hb⟩; obtain ⟨hc, hf, hb, hz⟩ := bstep hb (w := w6) (by go_grown); try simp only [World.size_alloc, World.size_setCell, World.size_drew] at hc hf hz)
        )
        go_returns
        exact ⟨ret_bool (by simp), bjoin hb hbW⟩
      | true =>
        have hsame := back_same hF'.out hh.at'.wf hl
        obtain ⟨a0, a1, -, -⟩ := la_at hF'.out hh.at'.wf hl
        obtain ⟨u0, u1, u2, u3, u4, -⟩ := lay_free hF'.out hh.at'.wf hl
        have hFl : Hid (formB (laH h g f) = true) := form_lay hF'.out hh.at'.wf g f
        have hFr : Hid (formB (frH (laH h g f) (laA h g f)) = true) := form_free hFl.out (wf_lay hF'.out hh.at'.wf g f) _
        have hsz : 2 ≤ szW (spH h g).cl ∧ szW (spH h g).cl ≤ 16 := by
          obtain ⟨-, -, -, -, -, -, -, c0, c1, -⟩ := la_spec hF'.out hh.at'.wf hl
          have := cl_cases (spH h g).cl; omega
        have hn5 : n ≤ 512 := by rw [hh.n_eq]; have := form_iff.1 hF'.out; omega
        rw [← hh.n_eq] at a1
        have hsame' : Hid ((∀ j : Int, 0 ≤ j → j < szW (spH h g).cl → h.z (laA h g f + j).toNat = 0) → sameH (frH (laH h g f) (laA h g f)) h = true) := hsame
        have hFlp := hFl.out
        have hFrp := hFr.out
        have hFp := hF'.out
        clear hsame hl hF
        generalize (spH h g).cl = cl at *
        obtain ⟨z16, z17⟩ := hsz
        obtain ⟨ub0, ub1⟩ := hub
        have hsub : usH (laH h g f) - usH h = szW cl := by rw [u3]; omega
        have hub2 : 0 ≤ usH (laH h g f) ∧ usH (laH h g f) ≤ 528 := by rw [u3]; omega
        obtain ⟨ub2, ub3⟩ := hub2
        clear u3
        generalize laA h g f = A at *
        go_upto_region 11 with fail
        go_upto_region 13 with (first
    | (go_at_call 15; refine Calls.mono (hfind_in (hS.below (by go_grown)) (hT.below (by go_grown)) (hh1.below (by go_grown)) hFl.out) ?_; rintro e w' ⟨rfl, hb⟩; obtain ⟨hc, hf, hb, hz⟩ := bstep hb (w := w6) (by go_grown); try simp only [World.size_alloc, World.size_setCell, World.size_drew] at hc hf hz)
    | (go_at_call 23; refine Calls.mono (hfree_in (hS.below (by go_grown)) (hT.below (by go_grown)) (hh1.below (by go_grown)) hFl.out) ?_; rintro e w' ⟨p4, c4, q4, d4, rfl, hh4, -, hb⟩; obtain ⟨hc, hf, hb, hz⟩ := bstep hb (w := w6) (by go_grown); try simp only [World.size_alloc, World.size_setCell, World.size_drew] at hc hf hz)
        )
        obtain ⟨w7, hw7⟩ : ∃ w7, w7 = w'.alloc (.cells #[.slice p4 n c4, .slice q4 m d4, .bool s] 25) := ⟨_, rfl⟩
        have hB7 : Below w'.heap.size w' w7 := by rw [hw7]; exact (Below.refl _ _).alloc (Nat.le_refl _) _
        have g17 : Box3 w'.heap.size (.slice p4 n c4) (.slice q4 m d4) (.bool s) w7 := by rw [hw7]; exact Box3.new _ _ _ _ _
        have hb7 := bjoin hB7 hb
        replace hh4 := hh4.below hB7
        replace hh1 := hh1.below hb7
        replace hh := hh.below hb7
        replace hS := hS.below hb7
        replace hT := hT.below hb7
        replace g3 := g3.below hb7
        replace g11 := g11.below hb7
        replace hbW := bjoin hb7 hbW
        rw [← hw7]
        clear hw7 hc hf hb hz hB7 x0 x1 x2 y0 y1 y2 l3 l11 hb7
        generalize w'.heap.size = B17 at *
        have k3 := g3
        obtain ⟨l3, x0, x1, x2, -, -, -⟩ := k3
        obtain ⟨l11, y0, y1, y2, -, -, -⟩ := g11
        refine wp_region_plus (by kernel_rfl) (by kernel_rfl) fun hpc => ?_
        repeat (first | go_big_quiet_step ((first | (go_at_call 17; exact quiet_plus (hused_in (hS.below (plus_below _ _)) (hT.below (plus_below _ _)) (HpIn.below (by assumption) (plus_below _ _)) (by assumption))))) | quiet_step ((first | (go_at_call 17; exact quiet_plus (hused_in (hS.below (plus_below _ _)) (hT.below (plus_below _ _)) (HpIn.below (by assumption) (plus_below _ _)) (by assumption))))))
        refine wpQuiet_nil ?_
        intro w' hbq
        clear hpc
        obtain ⟨hc, hf, hb, hz⟩ := bstep hbq (w := w7) (by go_grown)
        try simp only [World.size_alloc, World.size_setCell, World.size_drew] at hc hf hz
        go_upto_region 14 with fail
        replace hh4 := hh4.below hb
        replace hh := hh.below hb
        replace hS := hS.below hb
        replace hT := hT.below hb
        replace g3 := g3.below hb
        replace g17 := g17.below hb
        replace hbW := bjoin hb hbW
        clear hb hc hf hz x0 x1 x2 y0 y1 y2 l3 l11 hh1
        generalize w' = w8 at hh4 hh hS hT g3 g17 hbW ⊢
        have k3 := g3
        obtain ⟨l3, x0, x1, x2, -, -, -⟩ := k3
        have k17 := g17
        obtain ⟨l17, y0, y1, y2, -, -, -⟩ := k17
        refine wp_region_plus (by kernel_rfl) (by kernel_rfl) fun hpc => ?_
        repeat (first | go_big_quiet_step ((first | (go_at_call 17; exact quiet_plus (hused_in (hS.below (plus_below _ _)) (hT.below (plus_below _ _)) (HpIn.below (by assumption) (plus_below _ _)) (by assumption))))) | quiet_step ((first | (go_at_call 17; exact quiet_plus (hused_in (hS.below (plus_below _ _)) (hT.below (plus_below _ _)) (HpIn.below (by assumption) (plus_below _ _)) (by assumption))))))
        refine wpQuiet_nil ?_
        intro w' hbq
        clear hpc
        obtain ⟨hc, hf, hb, hz⟩ := bstep hbq (w := w8) (by go_grown)
        try simp only [World.size_alloc, World.size_setCell, World.size_drew] at hc hf hz
        go_upto_region 16 with fail
        replace hh4 := hh4.below hb
        replace hh := hh.below hb
        replace g3 := g3.below hb
        replace g17 := g17.below hb
        replace hbW := bjoin hb hbW
        clear hb hc hf hz x0 x1 x2 y0 y1 y2 l3 l17 hS hT hsub ub0 ub1 ub2 ub3 u0 u1 u2 u4 hFl hFr hFlp hFrp hFp
        generalize w' = w9 at hh4 hh g3 g17 hbW ⊢
        obtain ⟨bw, ow, rfl, lbw, rw9⟩ := hh.word (by omega)
        have hR : Hid (∀ i : Int, 0 ≤ i → i < n → w9.cell? ⟨bw, ow + i.toNat, none⟩ = some (.int .u64 (h.z i.toNat))) := rw9
        clear rw9
        obtain ⟨l3, x0, x1, x2, -, -, -⟩ := g3
        obtain ⟨l17, y0, y1, y2, -, -, -⟩ := g17
        go_wp2
        go_loopg [20] (szW cl).toNat (fun gg iv wr => ∃ i : Int, 0 ≤ i ∧ i ≤ szW cl ∧ gg = (szW cl - i).toNat ∧ iv = .int .i64 i ∧ (∀ j : Int, 0 ≤ j → j < i → h.z (A + j).toNat = 0) ∧ Below w9.heap.size w9 wr)
        case atStart => exact ⟨0, by omega, by omega, by omega, rfl, fun j h0 h1 => by omega, Below.refl _ _⟩
        case round =>
          obtain ⟨i, il, ih, rfl, rfl, hall, hbw⟩ := hrel
          obtain ⟨hc, hf, hb, hz⟩ := bstep hbw (w := w9) (Below.refl _ _)
          by_cases hi : i < szW cl
          · have v := hR.out (A + i) (by omega) (by omega)
            cases e : (h.z (A + i).toNat == 0) with
            | true =>
              have e' : h.z (A + i).toNat = 0 := by simpa using e
              rw [e'] at v
              have hall' : ∀ j : Int, 0 ≤ j → j < i + 1 → h.z (A + j).toNat = 0 := fun j h0 h1 => by
                by_cases ej : j = i
                · rw [ej]; exact e'
                · exact hall j h0 (by omega)
              clear e e' hall
              go_wp2
              go_roundg (szW cl - (i + 1)).toNat
              case measure => omega
              case rel => exact ⟨i + 1, by omega, by omega, rfl, by go_num, hall', hb⟩
            | false =>
              have e' : (h.z (A + i).toNat != 0) = true := by simp [bne, e]
              clear e hall
              go_wp2
              go_returns
              exact ⟨ret_bool (by simp), bjoin hb hbW⟩
          · obtain rfl : i = szW cl := by omega
            have s1 := hsame'.out hall
            clear hall
            go_wp2_with (first
    | (go_at_call 11; refine Calls.mono (rsame_in (hh4.below (by go_grown)) (hh.below (by go_grown))) ?_; rintro e w' ⟨rfl, hb⟩; obtain ⟨hc, hf, hb, hz⟩ := bstep hb (w := w9) (by go_grown); try simp only [World.size_alloc, World.size_setCell, World.size_drew] at hc hf hz)
            )
            go_returns
            exact ⟨ret_bool (by simp), bjoin hb hbW⟩
    | false =>
      go_upto_region 8 with fail
      clear hh1 g7
      generalize w4 = wA at hh hS hT g3 hbW ⊢
      have k3 := g3
      obtain ⟨l3, x0, x1, x2, -, -, -⟩ := k3
      have hBlA : w.heap.size ≤ wA.heap.size := hbW.size
      go_upto_region 9 with (first
    | (go_at_call 25; refine Calls.mono (hlay_in (hS.below (by go_grown)) (hT.below (by go_grown)) (hh.below (by go_grown)) hF'.out) ?_; rintro e w' ⟨p1, c1, q1, d1, rfl, hh1, -, hb⟩; obtain ⟨hc, hf, hb, hz⟩ := bstep hb (w := wA) (by go_grown); try simp only [World.size_alloc, World.size_setCell, World.size_drew] at hc hf hz)
      )
      obtain ⟨w6, hw6⟩ : ∃ w6, w6 = w'.alloc (.cells #[.slice p1 n c1, .slice q1 m d1, .bool s] 25) := ⟨_, rfl⟩
      have hB6 : Below w'.heap.size w' w6 := by rw [hw6]; exact (Below.refl _ _).alloc (Nat.le_refl _) _
      have g11 : Box3 w'.heap.size (.slice p1 n c1) (.slice q1 m d1) (.bool s) w6 := by rw [hw6]; exact Box3.new _ _ _ _ _
      have hb6 := bjoin hB6 hb
      replace hh1 := hh1.below hB6
      replace hh := hh.below hb6
      replace hS := hS.below hb6
      replace hT := hT.below hb6
      replace g3 := g3.below hb6
      replace hbW := bjoin hb6 hbW
      rw [← hw6]
      clear hw6 hc hf hb hz hB6 x0 x1 x2 l3 hb6 hBlA
      generalize w'.heap.size = B11 at *
      have k3 := g3
      obtain ⟨l3, x0, x1, x2, -, -, -⟩ := k3
      have k11 := g11
      obtain ⟨l11, y0, y1, y2, -, -, -⟩ := k11
      cases hl : laB h g f with
      | false =>
        obtain ⟨e1, e2⟩ := la_no hl
        have s1 : sameH (laH h g f) h = true := by rw [e1]; exact sameH_self _
        clear e1
        go_wp2_with (first
    | (go_at_call 11; refine Calls.mono (rsame_in (hh1.below (by go_grown)) (hh.below (by go_grown))) ?_; rintro e w' ⟨rfl, hb⟩; obtain ⟨hc, hf, hb, hz⟩ := bstep hb (w := w6) (by go_grown); try simp only [World.size_alloc, World.size_setCell, World.size_drew] at hc hf hz)
        )
        go_returns
        exact ⟨ret_bool (by simp), bjoin hb hbW⟩
      | true =>
        have hsame := back_same hF'.out hh.at'.wf hl
        obtain ⟨a0, a1, -, -⟩ := la_at hF'.out hh.at'.wf hl
        obtain ⟨u0, u1, u2, u3, u4, -⟩ := lay_free hF'.out hh.at'.wf hl
        have hFl : Hid (formB (laH h g f) = true) := form_lay hF'.out hh.at'.wf g f
        have hFr : Hid (formB (frH (laH h g f) (laA h g f)) = true) := form_free hFl.out (wf_lay hF'.out hh.at'.wf g f) _
        have hsz : 2 ≤ szW (spH h g).cl ∧ szW (spH h g).cl ≤ 16 := by
          obtain ⟨-, -, -, -, -, -, -, c0, c1, -⟩ := la_spec hF'.out hh.at'.wf hl
          have := cl_cases (spH h g).cl; omega
        have hn5 : n ≤ 512 := by rw [hh.n_eq]; have := form_iff.1 hF'.out; omega
        rw [← hh.n_eq] at a1
        have hsame' : Hid ((∀ j : Int, 0 ≤ j → j < szW (spH h g).cl → h.z (laA h g f + j).toNat = 0) → sameH (frH (laH h g f) (laA h g f)) h = true) := hsame
        have hFlp := hFl.out
        have hFrp := hFr.out
        have hFp := hF'.out
        clear hsame hl hF
        generalize (spH h g).cl = cl at *
        obtain ⟨z16, z17⟩ := hsz
        obtain ⟨ub0, ub1⟩ := hub
        have hsub : usH (laH h g f) - usH h = szW cl := by rw [u3]; omega
        have hub2 : 0 ≤ usH (laH h g f) ∧ usH (laH h g f) ≤ 528 := by rw [u3]; omega
        obtain ⟨ub2, ub3⟩ := hub2
        clear u3
        generalize laA h g f = A at *
        go_upto_region 11 with fail
        go_upto_region 13 with (first
    | (go_at_call 15; refine Calls.mono (hfind_in (hS.below (by go_grown)) (hT.below (by go_grown)) (hh1.below (by go_grown)) hFl.out) ?_; rintro e w' ⟨rfl, hb⟩; obtain ⟨hc, hf, hb, hz⟩ := bstep hb (w := w6) (by go_grown); try simp only [World.size_alloc, World.size_setCell, World.size_drew] at hc hf hz)
    | (go_at_call 23; refine Calls.mono (hfree_in (hS.below (by go_grown)) (hT.below (by go_grown)) (hh1.below (by go_grown)) hFl.out) ?_; rintro e w' ⟨p4, c4, q4, d4, rfl, hh4, -, hb⟩; obtain ⟨hc, hf, hb, hz⟩ := bstep hb (w := w6) (by go_grown); try simp only [World.size_alloc, World.size_setCell, World.size_drew] at hc hf hz)
        )
        obtain ⟨w7, hw7⟩ : ∃ w7, w7 = w'.alloc (.cells #[.slice p4 n c4, .slice q4 m d4, .bool s] 25) := ⟨_, rfl⟩
        have hB7 : Below w'.heap.size w' w7 := by rw [hw7]; exact (Below.refl _ _).alloc (Nat.le_refl _) _
        have g17 : Box3 w'.heap.size (.slice p4 n c4) (.slice q4 m d4) (.bool s) w7 := by rw [hw7]; exact Box3.new _ _ _ _ _
        have hb7 := bjoin hB7 hb
        replace hh4 := hh4.below hB7
        replace hh1 := hh1.below hb7
        replace hh := hh.below hb7
        replace hS := hS.below hb7
        replace hT := hT.below hb7
        replace g3 := g3.below hb7
        replace g11 := g11.below hb7
        replace hbW := bjoin hb7 hbW
        rw [← hw7]
        clear hw7 hc hf hb hz hB7 x0 x1 x2 y0 y1 y2 l3 l11 hb7
        generalize w'.heap.size = B17 at *
        have k3 := g3
        obtain ⟨l3, x0, x1, x2, -, -, -⟩ := k3
        obtain ⟨l11, y0, y1, y2, -, -, -⟩ := g11
        refine wp_region_plus (by kernel_rfl) (by kernel_rfl) fun hpc => ?_
        repeat (first | go_big_quiet_step ((first | (go_at_call 17; exact quiet_plus (hused_in (hS.below (plus_below _ _)) (hT.below (plus_below _ _)) (HpIn.below (by assumption) (plus_below _ _)) (by assumption))))) | quiet_step ((first | (go_at_call 17; exact quiet_plus (hused_in (hS.below (plus_below _ _)) (hT.below (plus_below _ _)) (HpIn.below (by assumption) (plus_below _ _)) (by assumption))))))
        refine wpQuiet_nil ?_
        intro w' hbq
        clear hpc
        obtain ⟨hc, hf, hb, hz⟩ := bstep hbq (w := w7) (by go_grown)
        try simp only [World.size_alloc, World.size_setCell, World.size_drew] at hc hf hz
        go_upto_region 14 with fail
        replace hh4 := hh4.below hb
        replace hh := hh.below hb
        replace hS := hS.below hb
        replace hT := hT.below hb
        replace g3 := g3.below hb
        replace g17 := g17.below hb
        replace hbW := bjoin hb hbW
        clear hb hc hf hz x0 x1 x2 y0 y1 y2 l3 l11 hh1
        generalize w' = w8 at hh4 hh hS hT g3 g17 hbW ⊢
        have k3 := g3
        obtain ⟨l3, x0, x1, x2, -, -, -⟩ := k3
        have k17 := g17
        obtain ⟨l17, y0, y1, y2, -, -, -⟩ := k17
        refine wp_region_plus (by kernel_rfl) (by kernel_rfl) fun hpc => ?_
        repeat (first | go_big_quiet_step ((first | (go_at_call 17; exact quiet_plus (hused_in (hS.below (plus_below _ _)) (hT.below (plus_below _ _)) (HpIn.below (by assumption) (plus_below _ _)) (by assumption))))) | quiet_step ((first | (go_at_call 17; exact quiet_plus (hused_in (hS.below (plus_below _ _)) (hT.below (plus_below _ _)) (HpIn.below (by assumption) (plus_below _ _)) (by assumption))))))
        refine wpQuiet_nil ?_
        intro w' hbq
        clear hpc
        obtain ⟨hc, hf, hb, hz⟩ := bstep hbq (w := w8) (by go_grown)
        try simp only [World.size_alloc, World.size_setCell, World.size_drew] at hc hf hz
        go_upto_region 16 with fail
        replace hh4 := hh4.below hb
        replace hh := hh.below hb
        replace g3 := g3.below hb
        replace g17 := g17.below hb
        replace hbW := bjoin hb hbW
        clear hb hc hf hz x0 x1 x2 y0 y1 y2 l3 l17 hS hT hsub ub0 ub1 ub2 ub3 u0 u1 u2 u4 hFl hFr hFlp hFrp hFp
        generalize w' = w9 at hh4 hh g3 g17 hbW ⊢
        obtain ⟨bw, ow, rfl, lbw, rw9⟩ := hh.word (by omega)
        have hR : Hid (∀ i : Int, 0 ≤ i → i < n → w9.cell? ⟨bw, ow + i.toNat, none⟩ = some (.int .u64 (h.z i.toNat))) := rw9
        clear rw9
        obtain ⟨l3, x0, x1, x2, -, -, -⟩ := g3
        obtain ⟨l17, y0, y1, y2, -, -, -⟩ := g17
        go_wp2
        go_loopg [20] (szW cl).toNat (fun gg iv wr => ∃ i : Int, 0 ≤ i ∧ i ≤ szW cl ∧ gg = (szW cl - i).toNat ∧ iv = .int .i64 i ∧ (∀ j : Int, 0 ≤ j → j < i → h.z (A + j).toNat = 0) ∧ Below w9.heap.size w9 wr)
        case atStart => exact ⟨0, by omega, by omega, by omega, rfl, fun j h0 h1 => by omega, Below.refl _ _⟩
        case round =>
          obtain ⟨i, il, ih, rfl, rfl, hall, hbw⟩ := hrel
          obtain ⟨hc, hf, hb, hz⟩ := bstep hbw (w := w9) (Below.refl _ _)
          by_cases hi : i < szW cl
          · have v := hR.out (A + i) (by omega) (by omega)
            cases e : (h.z (A + i).toNat == 0) with
            | true =>
              have e' : h.z (A + i).toNat = 0 := by simpa using e
              rw [e'] at v
              have hall' : ∀ j : Int, 0 ≤ j → j < i + 1 → h.z (A + j).toNat = 0 := fun j h0 h1 => by
                by_cases ej : j = i
                · rw [ej]; exact e'
                · exact hall j h0 (by omega)
              clear e e' hall
              go_wp2
              go_roundg (szW cl - (i + 1)).toNat
              case measure => omega
              case rel => exact ⟨i + 1, by omega, by omega, rfl, by go_num, hall', hb⟩
            | false =>
              have e' : (h.z (A + i).toNat != 0) = true := by simp [bne, e]
              clear e hall
              go_wp2
              go_returns
              exact ⟨ret_bool (by simp), bjoin hb hbW⟩
          · obtain rfl : i = szW cl := by omega
            have s1 := hsame'.out hall
            clear hall
            go_wp2_with (first
    | (go_at_call 11; refine Calls.mono (rsame_in (hh4.below (by go_grown)) (hh.below (by go_grown))) ?_; rintro e w' ⟨rfl, hb⟩; obtain ⟨hc, hf, hb, hz⟩ := bstep hb (w := w9) (by go_grown); try simp only [World.size_alloc, World.size_setCell, World.size_drew] at hc hf hz)
            )
            go_returns
            exact ⟨ret_bool (by simp), bjoin hb hbW⟩

namespace HeapBack
/-- What the row lists. -/
def lists : List (String × DataW Unit) := [("flotsam/class.sizes", Rows.laid_flotsam_class_sizes), ("math/bits.deBruijn32tab", Rows.laid_math_bits_deBruijn32tab)]
set_option maxRecDepth 100000 in
theorem lifted (os : Os) (started : os.Started) (H : Type) (enc : TypeId × Value → H) :
    ReturnsInHanded {} Tryd.checked os 7 .any (fun w args => (Rows.heapBackSpec.pre enc Tryd.prog Tryd.f7 Rows.heapBackRow.domain false w args ∧ laidMetH Tryd.prog lists w) ∧ sizedMet enc Tryd.prog Tryd.f7 (OpenSpec.ofChange Rows.heapBackSpec) false w args) (Rows.heapBackSpec.post enc Tryd.prog Tryd.f7 false true false false) := by
  refine law_lifted_laid (C := Tryd.checked) seat_own started (by kernel_rfl) Tryd.func7 (by kernel_rfl) (of_decide_eq_true (by kernel_rfl)) rfl
    (fun ds hd => by have hd' : ds.length = 3 := hd; match ds, hd' with | [d0, d1, d2], _ => rfl) rfl Tryd.underlying4
    (ChangeSpec.witness_shaped (enc := enc) (C := Tryd.checked) (os := os) (X := fun w _ => laidMetH Tryd.prog lists w) false (World.laidAll Tryd.prog os lists) #[.agg #[.slice none 0 0, .slice none 0 0, .bool false], .int .i64 0, .int .i64 0] 8 (World.laidAll_os _ _ _)
      (World.shaped_of_ZipB (by kernel_rfl) (by kernel_rfl)) (by kernel_rfl) (by kernel_rfl) (by kernel_rfl)
      (by rw [MakeChecks.laidMetH_plain _ _ _ (by kernel_rfl)]; exact laidMet_laidAll _ (by kernel_rfl) (by kernel_rfl))) ?_
  intro W base args ds p hval hA hlt hL
  have hS : Sz W := sizes_of hL (by kernel_rfl) rfl
  have hT : Tab W := tab_of hL (by kernel_rfl) rfl
  rw [Tryd.params7] at hA hval
  obtain ⟨v0, v1, v2, d0, d1, d2, p0, p1, p2, rfl, rfl, rfl, h0, h1, h2⟩ := trodAll_three hA
  obtain ⟨x0, q0, c0, s0, e0, rfl, hh0⟩ := open_heap Tryd.underlying25 (by kernel_rfl) (by kernel_rfl) Tryd.underlying22 (by kernel_rfl) (by kernel_rfl) Tryd.underlying23 Tryd.underlying49 (by kernel_rfl) (by kernel_rfl) (by kernel_rfl) (by kernel_rfl) (by kernel_rfl) (by kernel_rfl) (hval 0 25 v0 rfl rfl) h0
  obtain ⟨a1, rfl, ha1⟩ := open_i64 Tryd.underlying3 (hval 1 3 v1 rfl rfl) h1
  obtain ⟨a2, rfl, ha2⟩ := open_i64 Tryd.underlying3 (hval 2 3 v2 rfl rfl) h2
  exact back_walk a1 a2 W hh0.in hS hT

theorem row_holds : Rows.HeapBackSaid :=
  OpenClaim.holds_of_wide 7 Tryd.f7 rfl rfl rfl rfl rfl rfl rfl ⟨rfl, rfl, rfl, rfl, rfl⟩ rfl rfl rfl rfl rfl (by kernel_rfl) Tryd.func7 (by kernel_rfl)
    (of_decide_eq_true (by kernel_rfl)) (by unfold Func.isWrapper; first | (rw [if_pos (by decide +kernel)]; kernel_rfl) | (rw [if_neg (by decide +kernel)]; exact ⟨rfl, rfl⟩))
    (fun os started H enc _ => lifted os started H enc)
/-- The tied card. -/
theorem holds : Rows.HeapBackCardSaid :=
  Claim7.holds_tied_plain_at .later [] [.data, .data] true (true, "4319912ea4b27ca89517975b0d81ad0153941401844a695d32a61ba51c2bf89d") false row_holds (fun _ h => by cases h) (by kernel_rfl) (fun _ h => by cases h) heapBack_row_tie rfl ⟨rfl, rfl⟩ (by kernel_rfl) rfl
    (fun f fn hf hfn => by
      obtain rfl : f = 7 := Option.some.inj ((show Tryd.prog.funcNamed "flotsam/flotsamlaw07.HeapBack" = some 7 by kernel_rfl).symm.trans hf) |>.symm
      obtain rfl : fn = Tryd.f7 := (Option.some.inj (Tryd.func7.symm.trans hfn)).symm
      exact ⟨by kernel_rfl, fun j t ht => by
        rw [Tryd.params7] at ht
        have hm : t ∈ [25, 3, 3] := by simpa using Array.mem_of_getElem? ht
        have hall : ([25, 3, 3].all fun u => !Tryd.prog.wantsStandIn u) = true := by kernel_rfl
        exact (show Tryd.prog.wantsStandIn t = false by simpa using List.all_eq_true.1 hall t hm)⟩)
    (by kernel_rfl)
#print axioms holds
end HeapBack
end Go.Proofs.YtjlflbaglaillaaDoor
