/- Contracts of sound's rules 2 and 3. -/
import Derived.Test.YthhehhlibkdmgaaDoorSoundB
namespace Go.Proofs.YthhehhlibkdmgaaDoor
set_option linter.unusedSimpArgs false
set_option linter.unusedVariables false
open Go.ChangeShapes Go.WideShapes Go.ChangeAt Go.RowKit Go.Joins

set_option maxHeartbeats 2000000 in
theorem srule2_any (p : Option Addr) (c : Nat) (q : Option Addr) (d : Nat) (h : Hp) (w : World) (hS : Sz w) (hh : HpAt w p c q d h) (hF : formB h = true) :
    Calls Tryd.prog 21 #[.agg #[.slice p h.n c, .slice q h.m d, .bool h.b]] w fun e w' => e = .returned (.bool (ru2 h)) ∧ Below w.heap.size w w' := by
  obtain ⟨w0, hw0⟩ : ∃ w0, w0 = w.alloc (.cells #[.slice p h.n c, .slice q h.m d, .bool h.b] 55) := ⟨_, rfl⟩
  have gB : Box3 w.heap.size (.slice p h.n c) (.slice q h.m d) (.bool h.b) w0 := by rw [hw0]; exact Box3.new _ _ _ _ _
  have hst : Below w.heap.size w w0 := by rw [hw0]; go_grown
  have hS0 := hS.below hst
  have hat := hh.below hst
  obtain ⟨l0, x0, x1, x2, -, -, -⟩ := id gB
  have hml : h.m ≤ 16 := (form_iff.1 hF).2.1
  have hF' : Hid (formB h = true) := hF
  clear hF hh
  go_enter Tryd.func21, Tryd.ntmps21
  go_upto_region 1 with fail
  rw [← hw0]
  clear hw0
  go_wp2
  go_loopg [8] h.m (fun g iv wr => ∃ (j : Nat), j ≤ h.m ∧ g = h.m - j ∧ iv = .int .i64 j ∧ (∀ t, t < j → pg2 h t = true) ∧ Below w0.heap.size w0 wr)
  case atStart => exact ⟨0, by omega, by omega, rfl, fun t ht => by omega, Below.refl _ _⟩
  case round =>
    obtain ⟨j, jh, rfl, rfl, h2s, hbw⟩ := hrel
    have gr := gB.below hbw
    have hbW := bjoin hbw hst
    clear x0 x1 x2 l0
    obtain ⟨l0, x0, x1, x2, -, -, -⟩ := id gr
    by_cases hj : j < h.m
    · have hP := spage_any p c q d h j wr (hS0.below hbw) (hat.below hbw) hF'.out hj
      cases e : pg2 h j with
      | true =>
        have h2' : ∀ t, t < j + 1 → pg2 h t = true := fun t ht => by
          by_cases et : t = j
          · subst et; exact e
          · exact h2s t (by omega)
        rw [e] at hP
        clear e
        go_wp2_with (first
    | (go_at_call 41; refine Calls.mono (hP) ?_; rintro e w' ⟨rfl, hb⟩; obtain ⟨hc, hf, hb, hz⟩ := bstep hb (w := wr) (by go_grown); try simp only [World.size_alloc, World.size_setCell, World.size_drew] at hc hf hz)
        )
        go_roundg (h.m - (j + 1))
        case measure => omega
        case rel => exact ⟨j + 1, by omega, rfl, by go_num, h2', bjoin hb hbw⟩
      | false =>
        have er := ru2_no hj e
        rw [e] at hP
        clear e
        go_wp2_with (first
    | (go_at_call 41; refine Calls.mono (hP) ?_; rintro e w' ⟨rfl, hb⟩; obtain ⟨hc, hf, hb, hz⟩ := bstep hb (w := wr) (by go_grown); try simp only [World.size_alloc, World.size_setCell, World.size_drew] at hc hf hz)
        )
        go_returns
        exact ⟨ret_bool (by rw [er]), bjoin hb hbW⟩
    · have er : ru2 h = true := ru2_iff.2 fun t ht => h2s t (by omega)
      go_wp2
      go_returns
      exact ⟨ret_bool (by rw [er]), hbW⟩

theorem ru3_list {h : Hp} (hF : formB h = true) (h2 : ru2 h = true) : ru3 h = true ↔ ∀ a ∈ obL h h.n, noB h (a + 1 + obN h a) (szW (obK h a) - 1 - obN h a).toNat = true := by
  constructor
  · intro H a ha
    have ho := ((obL_mem h a h.n).1 ha).2.2
    obtain ⟨e1, e2, e3, e4⟩ := sound_obj hF h2 ho
    obtain ⟨p0, p1, -, hst, -, i0, i1, ea⟩ := fi_spec hF (ob_spec hF ho).1
    obtain ⟨P, hP⟩ : ∃ P : Nat, (P : Int) = a / 32 := ⟨(a / 32).toNat, by omega⟩
    obtain ⟨I, hI⟩ : ∃ I : Nat, (I : Int) = plI (spH h (a / 32)).cl a := ⟨(plI (spH h (a / 32)).cl a).toNat, by omega⟩
    rw [← hI] at e4 ea i1
    rw [← hP] at e1 e3 e4 hst i1 ea p1
    rw [spH_nat] at e1 e3 e4 hst i1 ea
    have hb : bkA h P I = a := ea
    have k3 := (pg3_used (by omega)).1 (ru3_iff.1 H P (by omega)) I i1
    unfold bk3 at k3
    rw [if_neg (by simp [e4]), hb] at k3
    rw [e1]
    exact k3
  · intro H
    refine ru3_iff.2 fun p hp => ?_
    by_cases hs : (h.s p).st = 0
    · unfold pg3; rw [if_pos hs]
    · refine (pg3_used hs).2 fun i hi => ?_
      unfold bk3
      by_cases hb : hasB (h.s p).fr i = true
      · rw [if_pos hb]
      · rw [if_neg hb]
        have k2 := (pg2_used hs).1 (ru2_iff.1 h2 p hp) i hi
        unfold bk2 at k2
        rw [if_neg hb] at k2
        simp only [Bool.and_eq_true, beq_iff_eq] at k2
        obtain ⟨-, -, a0, a1, -⟩ := ob_spec hF k2.1
        have := H _ ((obL_mem h (bkA h p i) h.n).2 ⟨a0, a1, k2.1⟩)
        rw [k2.2] at this
        exact this
/-- The list of objects, as a contract by its length and numbers. -/
theorem olist_row {p : Option Addr} {c : Nat} {q : Option Addr} {d : Nat} {h : Hp} {w : World} (hS : Sz w) (hh : HpAt w p c q d h) (hF : formB h = true) {M : Nat} {z : Nat → Int} (eM : (obL h h.n).length = M) (ez : (fun i => (obL h h.n)[i]?.getD 0) = z) :
    Calls Tryd.prog 42 #[.agg #[.slice p h.n c, .slice q h.m d, .bool h.b]] w fun e w' => ∃ pl cl, e = .returned (.slice pl M cl) ∧ Ints .i64 w' pl M z ∧ Below w.heap.size w w' := by
  refine Calls.mono (olist_in hS hh.in hF) ?_
  rintro e w' ⟨pl, cl, rfl, hr, hb⟩
  have hi := hr.ints
  rw [eM, ez] at hi
  rw [eM]
  exact ⟨pl, cl, rfl, hi, hb⟩
theorem orefs_row {p : Option Addr} {c : Nat} {q : Option Addr} {d : Nat} {h : Hp} {w : World} {a : Int} (hS : Sz w) (hh : HpAt w p c q d h) (hF : formB h = true) {M : Nat} {z : Nat → Int} (eM : (rfH h a).length = M) (ez : (fun i => (rfH h a)[i]?.getD 0) = z) :
    Calls Tryd.prog 47 #[.agg #[.slice p h.n c, .slice q h.m d, .bool h.b], .int .i64 a] w fun e w' => ∃ pl cl, e = .returned (.slice pl M cl) ∧ Ints .i64 w' pl M z ∧ Below w.heap.size w w' := by
  refine Calls.mono (orefs_in hS hh.in hF) ?_
  rintro e w' ⟨pl, cl, rfl, hr, hb⟩
  have hi := hr.ints
  rw [eM, ez] at hi
  rw [eM]
  exact ⟨pl, cl, rfl, hi, hb⟩

set_option maxHeartbeats 8000000 in
theorem srule3_any (p : Option Addr) (c : Nat) (q : Option Addr) (d : Nat) (h : Hp) (w : World) (hS : Sz w) (hh : HpAt w p c q d h) (hF : formB h = true) (h2 : ru2 h = true) :
    Calls Tryd.prog 22 #[.agg #[.slice p h.n c, .slice q h.m d, .bool h.b]] w fun e w' => e = .returned (.bool (ru3 h)) ∧ Below w.heap.size w w' := by
  obtain ⟨w0, hw0⟩ : ∃ w0, w0 = w.alloc (.cells #[.slice p h.n c, .slice q h.m d, .bool h.b] 55) := ⟨_, rfl⟩
  have gB : Box3 w.heap.size (.slice p h.n c) (.slice q h.m d) (.bool h.b) w0 := by rw [hw0]; exact Box3.new _ _ _ _ _
  have hst : Below w.heap.size w w0 := by rw [hw0]; go_grown
  have hS0 := hS.below hst
  have hat := hh.below hst
  obtain ⟨l0, x0, x1, x2, -, -, -⟩ := id gB
  have hnl : h.n ≤ 512 := by have := form_iff.1 hF; omega
  have hcp := hat.ncap.1
  have hF' : Hid (formB h = true) := hF
  have hr3 := ru3_list hF h2
  have hso := fun a (ho : obB h a = true) => sound_obj hF h2 ho
  have hbl := fun a (ho : obB h a = true) => block_in hF (ob_spec hF ho).1
  obtain ⟨M, z, eM, ez, hM, hzm, hzs, hin⟩ := list_all hF
  have hLi := olist_row hS0 hat hF eM ez
  obtain ⟨⟨b, off, eq, hlt, -⟩, -⟩ := hat.ints 0 (by have := form_iff.1 hF; omega)
  subst eq
  clear eM ez hh hF h2 hlt
  go_enter Tryd.func22, Tryd.ntmps22
  go_upto_region 1 with fail
  rw [← hw0]
  clear hw0
  go_upto_region 2 with (first
    | (go_at_call 42; refine Calls.mono (hLi) ?_; rintro e w' ⟨pl, cl, rfl, hI, hb⟩; obtain ⟨hc, hf, hb, hz⟩ := bstep hb (w := w0) (by go_grown); try simp only [World.size_alloc, World.size_setCell, World.size_drew] at hc hf hz)
  )
  replace hat := hat.below hb
  replace gB := gB.below hb
  replace hS0 := hS0.below hb
  have hbW := bjoin hb hst
  clear hb hc hf hz x0 x1 x2 l0 hLi hst
  generalize w' = w5 at *
  go_loopg [11] M (fun g iv wr => ∃ t : Nat, t ≤ M ∧ g = M - t ∧ iv = .int .i64 t ∧ (∀ u : Nat, u < t → noB h (z u + 1 + obN h (z u)) (szW (obK h (z u)) - 1 - obN h (z u)).toNat = true) ∧ Below w5.heap.size w5 wr)
  case atStart => exact ⟨0, by omega, by omega, rfl, fun u hu => by omega, Below.refl _ _⟩
  case round =>
    obtain ⟨t, th, rfl, rfl, hall, hbw⟩ := hrel
    have gr := gB.below hbw
    have hbW6 := bjoin hbw hbW
    obtain ⟨l0, x0, x1, x2, -, -, -⟩ := id gr
    by_cases ht : t < M
    · obtain ⟨⟨bl, ol, eq1, hlt, v0⟩, -⟩ := (hI.below hbw) t ht
      subst eq1
      obtain ⟨X0, X1, hox⟩ := (obL_mem h (z t) h.n).1 (hzm t ht)
      have hG := oget_any _ _ _ _ h (z t) wr (hS0.below hbw) (hat.below hbw) hF'.out
      rw [hox] at hG
      obtain ⟨e1, n0, n1, -⟩ := hso _ hox
      obtain ⟨-, -, -, b3, b4⟩ := hbl _ hox
      rw [← e1] at n1 b3 b4
      have hK := sz_bound (obK h (z t))
      have hnext : noB h (z t + 1 + obN h (z t)) (szW (obK h (z t)) - 1 - obN h (z t)).toNat = true → ∀ u : Nat, u < t + 1 → noB h (z u + 1 + obN h (z u)) (szW (obK h (z u)) - 1 - obN h (z u)).toNat = true := fun e u hu => by
        by_cases eu : u = t
        · subst eu; exact e
        · exact hall u (by omega)
      have hfail : noB h (z t + 1 + obN h (z t)) (szW (obK h (z t)) - 1 - obN h (z t)).toNat = false → ru3 h = false := fun e => by
        cases er : ru3 h with
        | false => rfl
        | true => have := hr3.1 er _ (hzm t ht); rw [this] at e; cases e
      have hat6 := hat.below hbw
      have hS6 := hS0.below hbw
      have hN : ∀ (W : World) (sp : Option Addr) (sc : Nat), Below wr.heap.size wr W → (0 < (szW (obK h (z t)) - 1 - obN h (z t)).toNat → sp = some ⟨b, off + (z t + 1 + obN h (z t)).toNat, none⟩) → Calls Tryd.prog 44 #[.slice sp ((z t + szW (obK h (z t))).toNat - (z t + 1 + obN h (z t)).toNat) sc] W fun e w' => e = .returned (.bool (noB h (z t + 1 + obN h (z t)) (szW (obK h (z t)) - 1 - obN h (z t)).toNat)) ∧ Below W.heap.size W w' := fun W sp sc hb hsp => by
        rw [show (z t + szW (obK h (z t))).toNat - (z t + 1 + obN h (z t)).toNat = (szW (obK h (z t)) - 1 - obN h (z t)).toNat by omega]
        exact azero_part (hat6.below hb) (by omega) (by omega) hnl fun hp b' off' e => by injection e with e; injection e with e1 e2; subst e1 e2; exact hsp hp
      clear hall hox e1 hso hbl
      generalize obC h (z t) = C at *
      generalize noB h (z t + 1 + obN h (z t)) (szW (obK h (z t)) - 1 - obN h (z t)).toNat = V at *
      generalize obN h (z t) = N at *
      generalize obK h (z t) = K at *
      generalize z t = X at *
      go_upto_region 5 with (first
    | (go_at_call 43; refine Calls.mono (hG) ?_; rintro e w' ⟨rfl, hb⟩; obtain ⟨hc, hf, hb, hz⟩ := bstep hb (w := wr) (by go_grown); try simp only [World.size_alloc, World.size_setCell, World.size_drew] at hc hf hz)
      )
      obtain ⟨w8, hw8⟩ : ∃ W, W = w'.alloc (.cells #[.bool true, .bool C, .int .i64 K, .int .i64 N] 32) := ⟨_, rfl⟩
      have hB8 : Below w'.heap.size w' w8 := by rw [hw8]; exact (Below.refl _ _).alloc (Nat.le_refl _) _
      have gX : Box4 w'.heap.size (.bool true) (.bool C) (.int .i64 K) (.int .i64 N) w8 := by rw [hw8]; exact Box4.new _ _ _ _ _ _
      have hb8 : Below wr.heap.size wr w8 := bjoin hB8 hb
      have gr8 := gr.below hb8
      have hS8 := hS6.below hb8
      have hbw8 := bjoin hb8 hbw
      have hbW8 := bjoin hb8 hbW6
      have hN8 : ∀ (W : World) (sp : Option Addr) (sc : Nat), Below w8.heap.size w8 W → (0 < (szW K - 1 - N).toNat → sp = some ⟨b, off + (X + 1 + N).toNat, none⟩) → Calls Tryd.prog 44 #[.slice sp ((X + szW K).toNat - (X + 1 + N).toNat) sc] W fun e w' => e = .returned (.bool V) ∧ Below W.heap.size W w' := fun W sp sc hb => hN W sp sc (bjoin hb hb8)
      rw [← hw8]
      clear hw8 hB8 hc hf hz hb x0 x1 x2 l0 v0 hG hN gr hat6 hS6 hlt
      generalize w'.heap.size = BX at *
      obtain ⟨l0, x0, x1, x2, -, -, -⟩ := id gr8
      obtain ⟨lX, y0, y1, y2, y3, -, -, -, -⟩ := id gX
      have hi' : X + szW K ≤ c := by omega
      have hle : X + 1 + N ≤ X + szW K := by omega
      have hlo : 0 ≤ X + 1 + N := by omega
      have hle2 : X + 1 + N ≤ c := by omega
      by_cases hcc : c = (X + 1 + N).toNat
      · have hN9 := fun (W : World) (sp : Option Addr) (sc : Nat) (hb : Below w8.heap.size w8 W) => hN8 W sp sc hb (fun h => by omega)
        clear hN8
        subst hcc
        cases V with
        | true =>
          have hn' := hnext rfl
          refine wp_region_plus (by kernel_rfl) (by kernel_rfl) fun hpc => ?_
          repeat (first | go_big_quiet_step ((first | (go_at_call 45; exact quiet_plus (cwords_any _ _ (hS8.below (plus_below _ _)))) | (go_at_call 44; exact quiet_plus (hN9 _ _ _ (plus_below _ _))))) | quiet_step ((first | (go_at_call 45; exact quiet_plus (cwords_any _ _ (hS8.below (plus_below _ _)))) | (go_at_call 44; exact quiet_plus (hN9 _ _ _ (plus_below _ _))))))
          refine wpQuiet_nil ?_
          intro w' hbq
          clear hpc
          obtain ⟨hc, hf, hb, hz⟩ := bstep hbq (w := w8) (by go_grown)
          try simp only [World.size_alloc, World.size_setCell, World.size_drew] at hc hf hz
          go_wp2
          go_roundg (M - (t + 1))
          case measure => omega
          case rel => exact ⟨t + 1, by omega, rfl, by go_num, hn', bjoin hb hbw8⟩
        | false =>
          have hn' := hfail rfl
          refine wp_region_plus (by kernel_rfl) (by kernel_rfl) fun hpc => ?_
          repeat (first | go_big_quiet_step ((first | (go_at_call 45; exact quiet_plus (cwords_any _ _ (hS8.below (plus_below _ _)))) | (go_at_call 44; exact quiet_plus (hN9 _ _ _ (plus_below _ _))))) | quiet_step ((first | (go_at_call 45; exact quiet_plus (cwords_any _ _ (hS8.below (plus_below _ _)))) | (go_at_call 44; exact quiet_plus (hN9 _ _ _ (plus_below _ _))))))
          refine wpQuiet_nil ?_
          intro w' hbq
          clear hpc
          obtain ⟨hc, hf, hb, hz⟩ := bstep hbq (w := w8) (by go_grown)
          try simp only [World.size_alloc, World.size_setCell, World.size_drew] at hc hf hz
          go_wp2
          go_returns
          exact ⟨ret_bool (by simp [hn']), bjoin hb hbW8⟩
      · have hN9 := fun (W : World) (sc : Nat) (hb : Below w8.heap.size w8 W) => hN8 W _ sc hb (fun _ => rfl)
        cases V with
        | true =>
          have hn' := hnext rfl
          refine wp_region_plus (by kernel_rfl) (by kernel_rfl) fun hpc => ?_
          repeat (first | go_big_quiet_step ((first | (go_at_call 45; exact quiet_plus (cwords_any _ _ (hS8.below (plus_below _ _)))) | (go_at_call 44; exact quiet_plus (hN9 _ _ (plus_below _ _))))) | quiet_step ((first | (go_at_call 45; exact quiet_plus (cwords_any _ _ (hS8.below (plus_below _ _)))) | (go_at_call 44; exact quiet_plus (hN9 _ _ (plus_below _ _))))))
          refine wpQuiet_nil ?_
          intro w' hbq
          clear hpc
          obtain ⟨hc, hf, hb, hz⟩ := bstep hbq (w := w8) (by go_grown)
          try simp only [World.size_alloc, World.size_setCell, World.size_drew] at hc hf hz
          go_wp2
          go_roundg (M - (t + 1))
          case measure => omega
          case rel => exact ⟨t + 1, by omega, rfl, by go_num, hn', bjoin hb hbw8⟩
        | false =>
          have hn' := hfail rfl
          refine wp_region_plus (by kernel_rfl) (by kernel_rfl) fun hpc => ?_
          repeat (first | go_big_quiet_step ((first | (go_at_call 45; exact quiet_plus (cwords_any _ _ (hS8.below (plus_below _ _)))) | (go_at_call 44; exact quiet_plus (hN9 _ _ (plus_below _ _))))) | quiet_step ((first | (go_at_call 45; exact quiet_plus (cwords_any _ _ (hS8.below (plus_below _ _)))) | (go_at_call 44; exact quiet_plus (hN9 _ _ (plus_below _ _))))))
          refine wpQuiet_nil ?_
          intro w' hbq
          clear hpc
          obtain ⟨hc, hf, hb, hz⟩ := bstep hbq (w := w8) (by go_grown)
          try simp only [World.size_alloc, World.size_setCell, World.size_drew] at hc hf hz
          go_wp2
          go_returns
          exact ⟨ret_bool (by simp [hn']), bjoin hb hbW8⟩
    · have er : ru3 h = true := hr3.2 fun a ha => by
        obtain ⟨u, hu, rfl⟩ := hzs a ha
        exact hall u (by omega)
      go_wp2
      go_returns
      exact ⟨ret_bool (by rw [er]), hbW6⟩
end Go.Proofs.YthhehhlibkdmgaaDoor
