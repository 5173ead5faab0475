/- Contracts of sound.Check and sound.Ok (chapter 9), of every heap. -/
import Derived.Test.YthhehhlibkdmgaaDoorSoundC
namespace Go.Proofs.YthhehhlibkdmgaaDoor
set_option linter.unusedSimpArgs false
set_option linter.unusedVariables false
open Go.ChangeShapes Go.WideShapes Go.ChangeAt Go.RowKit Go.Joins

set_option maxHeartbeats 4000000 in
theorem smay_any (p : Option Addr) (c : Nat) (q : Option Addr) (d : Nat) (h : Hp) (a : Int) (w : World) (hS : Sz w) (hh : HpAt w p c q d h) (hF : formB h = true) (a0 : 0 ≤ a) (a1 : a < h.n) :
    Calls Tryd.prog 46 #[.agg #[.slice p h.n c, .slice q h.m d, .bool h.b], .int .i64 a] w fun e w' => e = .returned (.bool ((spH h (a / 32)).st != 1 && !blB h a)) ∧ Below w.heap.size w w' := by
  obtain ⟨w0, hw0⟩ : ∃ w0, w0 = w.alloc (.cells #[.slice p h.n c, .slice q h.m d, .bool h.b] 55) := ⟨_, rfl⟩
  have gB : Box3 w.heap.size (.slice p h.n c) (.slice q h.m d) (.bool h.b) w0 := by rw [hw0]; exact Box3.new _ _ _ _ _
  have hst : Below w.heap.size w w0 := by rw [hw0]; go_grown
  have hat := hh.below hst
  obtain ⟨l0, x0, x1, x2, -, -, -⟩ := id gB
  have hP : (a / 32).toNat < h.m := by have := form_iff.1 hF; omega
  have hn5 : a < 512 := by have := form_iff.1 hF; omega
  obtain ⟨⟨bs, os, eq2, hlt2, s0, -, -⟩, -⟩ := hat.spans (a / 32).toNat hP
  have hG := oblack_any p c q d h a w0 (hS.below hst) hat hF
  rw [show spH h (a / 32) = h.s (a / 32).toNat from rfl]
  subst eq2
  have hP32 : 0 ≤ a / 32 ∧ a / 32 < 16 := by omega
  obtain ⟨Q0, Q1⟩ := hP32
  generalize (h.s (a / 32).toNat).st = St at *
  cases hbb : blB h a with
  | true =>
    rw [hbb] at hG
    clear hat hh hF hbb
    go_enter Tryd.func46, Tryd.ntmps46
    go_upto_region 1 with fail
    rw [← hw0]
    clear hw0
    go_wp2_with (first
    | (go_at_call 64; refine Calls.mono (hG) ?_; rintro e w' ⟨rfl, hb⟩; obtain ⟨hc, hf, hb, hz⟩ := bstep hb (w := w0) (by go_grown); try simp only [World.size_alloc, World.size_setCell, World.size_drew] at hc hf hz)
    )
    go_returns
    exact ⟨ret_bool (by simp), bjoin hb hst⟩
  | false =>
    rw [hbb] at hG
    clear hat hh hF hbb
    go_enter Tryd.func46, Tryd.ntmps46
    go_upto_region 1 with fail
    rw [← hw0]
    clear hw0
    go_wp2_with (first
    | (go_at_call 64; refine Calls.mono (hG) ?_; rintro e w' ⟨rfl, hb⟩; obtain ⟨hc, hf, hb, hz⟩ := bstep hb (w := w0) (by go_grown); try simp only [World.size_alloc, World.size_setCell, World.size_drew] at hc hf hz)
    )
    go_returns
    exact ⟨ret_bool (by simp), bjoin hb hst⟩

set_option maxHeartbeats 8000000 in
theorem srule4_any (p : Option Addr) (c : Nat) (q : Option Addr) (d : Nat) (h : Hp) (w : World) (hS : Sz w) (hh : HpAt w p c q d h) (hF : formB h = true) :
    Calls Tryd.prog 23 #[.agg #[.slice p h.n c, .slice q h.m d, .bool h.b]] w fun e w' => e = .returned (.bool (ru4 h)) ∧ Below w.heap.size w w' := by
  obtain ⟨w0, hw0⟩ : ∃ w0, w0 = w.alloc (.cells #[.slice p h.n c, .slice q h.m d, .bool h.b] 55) := ⟨_, rfl⟩
  have gB : Box3 w.heap.size (.slice p h.n c) (.slice q h.m d) (.bool h.b) w0 := by rw [hw0]; exact Box3.new _ _ _ _ _
  have hst : Below w.heap.size w w0 := by rw [hw0]; go_grown
  have hS0 := hS.below hst
  have hat := hh.below hst
  obtain ⟨l0, x0, x1, x2, -, -, -⟩ := id gB
  have hF' : Hid (formB h = true) := hF
  obtain ⟨M, z, eM, ez, hM, hzm, hzs, hin⟩ := list_all hF
  have hLi := olist_row hS0 hat hF eM ez
  have hz4 : ru4 h = true ↔ ∀ t : Nat, t < M → reB h (z t) = true := by
    rw [ru4_iff]
    constructor
    · intro H t ht; exact H _ (hzm t ht)
    · intro H a ha; obtain ⟨t, ht, rfl⟩ := hzs a ha; exact H t ht
  clear eM ez hh hF
  go_enter Tryd.func23, Tryd.ntmps23
  go_upto_region 1 with fail
  rw [← hw0]
  clear hw0
  go_upto_region 2 with (first
    | (go_at_call 42; refine Calls.mono (hLi) ?_; rintro e w' ⟨pl, cl, rfl, hI, hb⟩; obtain ⟨hc, hf, hb, hz⟩ := bstep hb (w := w0) (by go_grown); try simp only [World.size_alloc, World.size_setCell, World.size_drew] at hc hf hz)
  )
  replace hat := hat.below hb
  replace gB := gB.below hb
  replace hS0 := hS0.below hb
  have hbW := bjoin hb hst
  clear hb hc hf hz x0 x1 x2 l0 hLi hst
  generalize w' = w5 at *
  go_loopg [13] M (fun g iv wr => ∃ t : Nat, t ≤ M ∧ g = M - t ∧ iv = .int .i64 t ∧ (∀ u : Nat, u < t → reB h (z u) = true) ∧ Below w5.heap.size w5 wr)
  case atStart => exact ⟨0, by omega, by omega, rfl, fun u hu => by omega, Below.refl _ _⟩
  case round =>
    obtain ⟨t, th, rfl, rfl, hall, hbw⟩ := hrel
    have gr := gB.below hbw
    have hbW6 := bjoin hbw hbW
    obtain ⟨l0, x0, x1, x2, -, -, -⟩ := id gr
    by_cases ht : t < M
    · obtain ⟨⟨bl, ol, eq1, hlt, v0⟩, -⟩ := (hI.below hbw) t ht
      subst eq1
      obtain ⟨X0, X1, hox⟩ := (obL_mem h (z t) h.n).1 (hzm t ht)
      have hat6 := hat.below hbw
      have hS6 := hS0.below hbw
      have hMg := smay_any _ _ _ _ h (z t) wr hS6 hat6 hF'.out X0 X1
      have eR : reB h (z t) = (if (spH h (z t / 32)).st != 1 && !blB h (z t) then true else (rfH h (z t)).all (obB h)) := rfl
      have hnext : reB h (z t) = true → ∀ u : Nat, u < t + 1 → reB h (z u) = true := fun e u hu => by
        by_cases eu : u = t
        · subst eu; exact e
        · exact hall u (by omega)
      have hfail : reB h (z t) = false → ru4 h = false := fun e => by
        cases er : ru4 h with
        | false => rfl
        | true => have := hz4.1 er t ht; rw [this] at e; cases e
      clear hox hall
      generalize ((spH h (z t / 32)).st != 1 && !blB h (z t)) = G at *
      cases G with
      | true =>
        have hn' := hnext (by rw [eR, if_pos rfl])
        go_wp2_with (first
    | (go_at_call 46; refine Calls.mono (hMg) ?_; rintro e w' ⟨rfl, hb⟩; obtain ⟨hc, hf, hb, hz⟩ := bstep hb (w := wr) (by go_grown); try simp only [World.size_alloc, World.size_setCell, World.size_drew] at hc hf hz)
        )
        go_roundg (M - (t + 1))
        case measure => omega
        case rel => exact ⟨t + 1, by omega, rfl, by go_num, hn', bjoin hb hbw⟩
      | false =>
        have eA : reB h (z t) = (rfH h (z t)).all (obB h) := by rw [eR, if_neg (by decide)]
        obtain ⟨R, y, eM, ey, hRl, hym, hys⟩ := refs_all hF'.out (z t)
        have hRe : ∀ W, Below wr.heap.size wr W → Calls Tryd.prog 47 #[.agg #[.slice p h.n c, .slice q h.m d, .bool h.b], .int .i64 (z t)] W fun e w' => ∃ pm cm, e = .returned (.slice pm R cm) ∧ Ints .i64 w' pm R y ∧ Below W.heap.size W w' := fun W hW => orefs_row (hS6.below hW) (hat6.below hW) hF'.out eM ey
        have hrr : reB h (z t) = true ↔ ∀ u : Nat, u < R → obB h (y u) = true := by
          rw [eA, List.all_eq_true]
          constructor
          · intro H u hu; exact H _ (hym u hu)
          · intro H r hr; obtain ⟨u, hu, rfl⟩ := hys r hr; exact H u hu
        clear eR eA
        generalize reB h (z t) = V at *
        generalize z t = X at *
        go_upto_region 5 with (first
    | (go_at_call 46; refine Calls.mono (hMg) ?_; rintro e w' ⟨rfl, hb⟩; obtain ⟨hc, hf, hb, hz⟩ := bstep hb (w := wr) (by go_grown); try simp only [World.size_alloc, World.size_setCell, World.size_drew] at hc hf hz)
        )
        have gr6 := gr.below hb
        have hbw6 := bjoin hb hbw
        have hbW7 := bjoin hb hbW6
        have hat7 := hat6.below hb
        have hS7 := hS6.below hb
        have hRe7 := hRe _ hb
        clear hb hc hf hz x0 x1 x2 l0 v0 hlt hMg gr hat6 hS6 hRe
        generalize w' = w6 at *
        obtain ⟨l0, x0, x1, x2, -, -, -⟩ := id gr6
        go_upto_region 6 with (first
    | (go_at_call 47; refine Calls.mono (hRe7) ?_; rintro e w' ⟨pm, cm, rfl, hJ, hb⟩; obtain ⟨hc, hf, hb, hz⟩ := bstep hb (w := w6) (by go_grown); try simp only [World.size_alloc, World.size_setCell, World.size_drew] at hc hf hz)
        )
        have gr8 := gr6.below hb
        have hbw8 := bjoin hb hbw6
        have hbW8 := bjoin hb hbW7
        have hat8 := hat7.below hb
        have hS8 := hS7.below hb
        clear hb hc hf hz x0 x1 x2 l0 hRe7 gr6 hat7 hS7
        generalize w' = w7 at *
        go_loopg [25] R (fun g iv wr => ∃ u : Nat, u ≤ R ∧ g = R - u ∧ iv = .int .i64 u ∧ (∀ k : Nat, k < u → obB h (y k) = true) ∧ Below w7.heap.size w7 wr)
        case atStart => exact ⟨0, by omega, by omega, rfl, fun k hk => by omega, Below.refl _ _⟩
        case round =>
          obtain ⟨u, uh, rfl, rfl, hyy, hbz⟩ := hrel
          have gr9 := gr8.below hbz
          obtain ⟨l0, x0, x1, x2, -, -, -⟩ := id gr9
          by_cases hu : u < R
          · obtain ⟨⟨bp, op, eq3, hl3, v3⟩, -⟩ := (hJ.below hbz) u hu
            subst eq3
            have hG := oget_any _ _ _ _ h (y u) wr (hS8.below hbz) (hat8.below hbz) hF'.out
            cases e : obB h (y u) with
            | false =>
              obtain ⟨o1, o2, o3⟩ := ob_no e
              have ek := hfail (by
                cases V with
                | false => rfl
                | true => have := hrr.1 rfl u hu; rw [this] at e; cases e)
              rw [e, o1, o2, o3] at hG
              clear e o1 o2 o3
              generalize y u = Y at *
              go_wp2_with (first
    | (go_at_call 43; refine Calls.mono (hG) ?_; rintro e w' ⟨rfl, hb⟩; obtain ⟨hc, hf, hb, hz⟩ := bstep hb (w := wr) (by go_grown); try simp only [World.size_alloc, World.size_setCell, World.size_drew] at hc hf hz)
              )
              go_returns
              exact ⟨ret_bool (by rw [ek]), by go_grown; exact bjoin hb (bjoin hbz hbW8)⟩
            | true =>
              have hy2 : ∀ k : Nat, k < u + 1 → obB h (y k) = true := fun k hk => by
                by_cases ek : k = u
                · subst ek; exact e
                · exact hyy k (by omega)
              rw [e] at hG
              clear e
              generalize obC h (y u) = C at *
              generalize obN h (y u) = N at *
              generalize obK h (y u) = K at *
              generalize y u = Y at *
              go_wp2_with (first
    | (go_at_call 43; refine Calls.mono (hG) ?_; rintro e w' ⟨rfl, hb⟩; obtain ⟨hc, hf, hb, hz⟩ := bstep hb (w := wr) (by go_grown); try simp only [World.size_alloc, World.size_setCell, World.size_drew] at hc hf hz)
              )
              go_roundg (R - (u + 1))
              case measure => omega
              case rel => exact ⟨u + 1, by omega, rfl, by go_num, hy2, (bjoin hb hbz).alloc (by have := hbz.size; omega) _⟩
          · obtain rfl : u = R := by omega
            have hn' := hnext (hrr.2 hyy)
            go_wp2
            go_roundg (M - (t + 1))
            case measure => omega
            case rel => exact ⟨t + 1, by omega, rfl, by go_num, hn', bjoin hbz hbw8⟩
    · have er : ru4 h = true := hz4.2 fun u hu => hall u (by omega)
      go_wp2
      go_returns
      exact ⟨ret_bool (by rw [er]), hbW6⟩

/-- What the rules ahead say. -/
structure CkAt (h : Hp) (i : Nat) : Prop where
  le : i ≤ 4
  one : 0 < i → formB h = true
  two : 1 < i → ru2 h = true
  three : 2 < i → ru3 h = true
  four : 3 < i → ru4 h = true
set_option maxHeartbeats 8000000 in
theorem scheck_any (p : Option Addr) (c : Nat) (q : Option Addr) (d : Nat) (h : Hp) (w : World) (hS : Sz w) (hh : HpAt w p c q d h) :
    Calls Tryd.prog 8 #[.agg #[.slice p h.n c, .slice q h.m d, .bool h.b]] w fun e w' => e = .returned (.int .i64 (ckH h)) ∧ Below w.heap.size w w' := by
  obtain ⟨w0, hw0⟩ : ∃ w0, w0 = w.alloc (.cells #[.slice p h.n c, .slice q h.m d, .bool h.b] 25) := ⟨_, rfl⟩
  have gB : Box3 w.heap.size (.slice p h.n c) (.slice q h.m d) (.bool h.b) w0 := by rw [hw0]; exact Box3.new _ _ _ _ _
  have hst : Below w.heap.size w w0 := by rw [hw0]; go_grown
  have hS0 := hS.below hst
  have hat := hh.below hst
  obtain ⟨l0, x0, x1, x2, -, -, -⟩ := id gB
  clear hh
  go_enter Tryd.func8, Tryd.ntmps8
  go_upto_region 1 with fail
  rw [← hw0]
  clear hw0
  go_upto_region 3 with fail
  obtain ⟨w4, hw4⟩ : ∃ W, W = w0.alloc (.cells #[.func (.func 20) #[] #[], .func (.func 21) #[] #[], .func (.func 22) #[] #[], .func (.func 23) #[] #[]] 53) := ⟨_, rfl⟩
  have hB4 : Below w0.heap.size w0 w4 := by rw [hw4]; exact (Below.refl _ _).alloc (Nat.le_refl _) _
  have gF : Box4 w0.heap.size (.func (.func 20) #[] #[]) (.func (.func 21) #[] #[]) (.func (.func 22) #[] #[]) (.func (.func 23) #[] #[]) w4 := by rw [hw4]; exact Box4.new _ _ _ _ _ _
  replace hat := hat.below hB4
  replace gB := gB.below hB4
  replace hS0 := hS0.below hB4
  replace hst := bjoin hB4 hst
  rw [← hw4]
  clear hw4 hB4 x0 x1 x2 l0
  generalize w0.heap.size = BF at *
  go_loopg [9] 4 (fun g iv wr => ∃ i : Nat, CkAt h i ∧ g = 4 - i ∧ iv = .int .i64 i ∧ Below w4.heap.size w4 wr)
  case atStart => exact ⟨0, ⟨by omega, fun h => by omega, fun h => by omega, fun h => by omega, fun h => by omega⟩, by omega, rfl, Below.refl _ _⟩
  case round =>
    obtain ⟨i, hck, rfl, rfl, hbw⟩ := hrel
    have gr := gB.below hbw
    have gf := gF.below hbw
    have hatr := hat.below hbw
    have hSr := hS0.below hbw
    have hbW := bjoin hbw hst
    obtain ⟨l0, x0, x1, x2, -, -, -⟩ := id gr
    obtain ⟨lF, y0, y1, y2, y3, -, -, -, -⟩ := id gf
    obtain ⟨hi4, k1, k2, k3, k4⟩ := hck
    rcases (show i = 0 ∨ i = 1 ∨ i = 2 ∨ i = 3 ∨ i = 4 by omega) with rfl | rfl | rfl | rfl | rfl
    · have hC := sform_any p c q d h wr hSr hatr
      cases hF : formB h with
      | true =>
        rw [hF] at hC
        have hck1 : CkAt h 1 := ⟨by omega, fun _ => hF, fun h => by omega, fun h => by omega, fun h => by omega⟩
        clear hat hatr hF
        go_wp2_with (first
    | (go_at_call 20; refine Calls.mono (hC) ?_; rintro e w' ⟨rfl, hb⟩; obtain ⟨hc, hf, hb, hz⟩ := bstep hb (w := wr) (by go_grown); try simp only [World.size_alloc, World.size_setCell, World.size_drew] at hc hf hz)
        )
        go_roundg 3
        case measure => omega
        case rel => exact ⟨1, hck1, rfl, rfl, bjoin hb hbw⟩
      | false =>
        rw [hF] at hC
        have e := ck_form hF
        clear hat hatr hF
        go_wp2_with (first
    | (go_at_call 20; refine Calls.mono (hC) ?_; rintro e w' ⟨rfl, hb⟩; obtain ⟨hc, hf, hb, hz⟩ := bstep hb (w := wr) (by go_grown); try simp only [World.size_alloc, World.size_setCell, World.size_drew] at hc hf hz)
        )
        go_returns
        exact ⟨ret_int (by simp [e]), bjoin hb hbW⟩
    · have hF := k1 (by omega)
      have hC := srule2_any p c q d h wr hSr hatr hF
      cases h2 : ru2 h with
      | true =>
        rw [h2] at hC
        have hck1 : CkAt h 2 := ⟨by omega, fun _ => hF, fun _ => h2, fun h => by omega, fun h => by omega⟩
        clear hat hatr hF h2 k1
        go_wp2_with (first
    | (go_at_call 21; refine Calls.mono (hC) ?_; rintro e w' ⟨rfl, hb⟩; obtain ⟨hc, hf, hb, hz⟩ := bstep hb (w := wr) (by go_grown); try simp only [World.size_alloc, World.size_setCell, World.size_drew] at hc hf hz)
        )
        go_roundg 2
        case measure => omega
        case rel => exact ⟨2, hck1, rfl, rfl, bjoin hb hbw⟩
      | false =>
        rw [h2] at hC
        have e := ck_two hF h2
        clear hat hatr hF h2 k1
        go_wp2_with (first
    | (go_at_call 21; refine Calls.mono (hC) ?_; rintro e w' ⟨rfl, hb⟩; obtain ⟨hc, hf, hb, hz⟩ := bstep hb (w := wr) (by go_grown); try simp only [World.size_alloc, World.size_setCell, World.size_drew] at hc hf hz)
        )
        go_returns
        exact ⟨ret_int (by simp [e]), bjoin hb hbW⟩
    · have hF := k1 (by omega)
      have h2 := k2 (by omega)
      have hC := srule3_any p c q d h wr hSr hatr hF h2
      cases h3 : ru3 h with
      | true =>
        rw [h3] at hC
        have hck1 : CkAt h 3 := ⟨by omega, fun _ => hF, fun _ => h2, fun _ => h3, fun h => by omega⟩
        clear hat hatr hF h2 h3 k1 k2
        go_wp2_with (first
    | (go_at_call 22; refine Calls.mono (hC) ?_; rintro e w' ⟨rfl, hb⟩; obtain ⟨hc, hf, hb, hz⟩ := bstep hb (w := wr) (by go_grown); try simp only [World.size_alloc, World.size_setCell, World.size_drew] at hc hf hz)
        )
        go_roundg 1
        case measure => omega
        case rel => exact ⟨3, hck1, rfl, rfl, bjoin hb hbw⟩
      | false =>
        rw [h3] at hC
        have e := ck_three hF h2 h3
        clear hat hatr hF h2 h3 k1 k2
        go_wp2_with (first
    | (go_at_call 22; refine Calls.mono (hC) ?_; rintro e w' ⟨rfl, hb⟩; obtain ⟨hc, hf, hb, hz⟩ := bstep hb (w := wr) (by go_grown); try simp only [World.size_alloc, World.size_setCell, World.size_drew] at hc hf hz)
        )
        go_returns
        exact ⟨ret_int (by simp [e]), bjoin hb hbW⟩
    · have hF := k1 (by omega)
      have h2 := k2 (by omega)
      have h3 := k3 (by omega)
      have hC := srule4_any p c q d h wr hSr hatr hF
      have e := ck_rest hF h2 h3
      cases h4 : ru4 h with
      | true =>
        rw [h4] at hC
        have hck1 : CkAt h 4 := ⟨by omega, fun _ => hF, fun _ => h2, fun _ => h3, fun _ => h4⟩
        clear hat hatr hF h2 h3 h4 k1 k2 k3 e
        go_wp2_with (first
    | (go_at_call 23; refine Calls.mono (hC) ?_; rintro e w' ⟨rfl, hb⟩; obtain ⟨hc, hf, hb, hz⟩ := bstep hb (w := wr) (by go_grown); try simp only [World.size_alloc, World.size_setCell, World.size_drew] at hc hf hz)
        )
        go_roundg 0
        case measure => omega
        case rel => exact ⟨4, hck1, rfl, rfl, bjoin hb hbw⟩
      | false =>
        rw [h4] at hC e
        clear hat hatr hF h2 h3 h4 k1 k2 k3
        go_wp2_with (first
    | (go_at_call 23; refine Calls.mono (hC) ?_; rintro e w' ⟨rfl, hb⟩; obtain ⟨hc, hf, hb, hz⟩ := bstep hb (w := wr) (by go_grown); try simp only [World.size_alloc, World.size_setCell, World.size_drew] at hc hf hz)
        )
        go_returns
        exact ⟨ret_int (by simp [e]), bjoin hb hbW⟩
    · have e : ckH h = 0 := ck_zero.2 ⟨k1 (by omega), k2 (by omega), k3 (by omega), k4 (by omega)⟩
      clear hat hatr k1 k2 k3 k4
      go_wp2
      go_returns
      exact ⟨ret_int (by simp [e]), hbW⟩
theorem sok_any (p : Option Addr) (c : Nat) (q : Option Addr) (d : Nat) (h : Hp) (w : World) (hS : Sz w) (hh : HpAt w p c q d h) :
    Calls Tryd.prog 10 #[.agg #[.slice p h.n c, .slice q h.m d, .bool h.b]] w fun e w' => e = .returned (.bool (ckH h == 0)) ∧ Below w.heap.size w w' := by
  obtain ⟨w0, hw0⟩ : ∃ w0, w0 = w.alloc (.cells #[.slice p h.n c, .slice q h.m d, .bool h.b] 25) := ⟨_, rfl⟩
  have gB : Box3 w.heap.size (.slice p h.n c) (.slice q h.m d) (.bool h.b) w0 := by rw [hw0]; exact Box3.new _ _ _ _ _
  have hst : Below w.heap.size w w0 := by rw [hw0]; go_grown
  have hC := scheck_any p c q d h w0 (hS.below hst) (hh.below hst)
  obtain ⟨l0, x0, x1, x2, -, -, -⟩ := id gB
  clear hh
  go_enter Tryd.func10, Tryd.ntmps10
  go_upto_region 1 with fail
  rw [← hw0]
  clear hw0
  go_wp2_with (first
    | (go_at_call 8; refine Calls.mono (hC) ?_; rintro e w' ⟨rfl, hb⟩; obtain ⟨hc, hf, hb, hz⟩ := bstep hb (w := w0) (by go_grown); try simp only [World.size_alloc, World.size_setCell, World.size_drew] at hc hf hz)
  )
  go_returns
  exact ⟨ret_bool (by simp), bjoin hb hst⟩
section
variable {p : Option Addr} {n c : Nat} {q : Option Addr} {m d : Nat} {b : Bool} {h : Hp} {w : World}
theorem scheck_in (hS : Sz w) (hh : HpIn w p n c q m d b h) :
    Calls Tryd.prog 8 #[.agg #[.slice p n c, .slice q m d, .bool b]] w fun e w' => e = .returned (.int .i64 (ckH h)) ∧ Below w.heap.size w w' := by
  obtain ⟨rfl, rfl, rfl, hh⟩ := hh
  exact scheck_any _ _ _ _ _ _ hS hh
theorem sok_in (hS : Sz w) (hh : HpIn w p n c q m d b h) :
    Calls Tryd.prog 10 #[.agg #[.slice p n c, .slice q m d, .bool b]] w fun e w' => e = .returned (.bool (ckH h == 0)) ∧ Below w.heap.size w w' := by
  obtain ⟨rfl, rfl, rfl, hh⟩ := hh
  exact sok_any _ _ _ _ _ _ hS hh
theorem rcheck9_in (hh : HpIn w p n c q m d b h) :
    Calls Tryd.prog 9 #[.agg #[.slice p n c, .slice q m d, .bool b]] w fun e w' => e = .returned (.int .i64 (ckH h)) ∧ Below w.heap.size w w' := by
  obtain ⟨rfl, rfl, rfl, hh⟩ := hh
  exact rcheck9_any _ _ _ _ _ _ hh
end
end Go.Proofs.YthhehhlibkdmgaaDoor
