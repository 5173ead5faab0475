/- Contracts of sound.areZero, hasForm, isRightBlock (chapter 9). -/
import Derived.Test.YthhehhlibkdmgaaDoorCheck09
namespace Go.Proofs.YthhehhlibkdmgaaDoor
set_option linter.unusedSimpArgs false
set_option linter.unusedVariables false
open Go.ChangeShapes Go.WideShapes Go.ChangeAt Go.RowKit Go.Joins

set_option maxHeartbeats 2000000 in
theorem azero_any (sp : Option Addr) (sn sc : Nat) (z : Nat → Int) (w : World) (hz : Ints .u64 w sp sn z) (hn : sn ≤ 512) :
    Calls Tryd.prog 44 #[.slice sp sn sc] w fun e w' => e = .returned (.bool ((List.range sn).all fun i => z i == 0)) ∧ Below w.heap.size w w' := by
  go_enter Tryd.func44, Tryd.ntmps44
  go_wp2
  go_loopg [7] sn (fun g iv wr => ∃ i : Int, 0 ≤ i ∧ i ≤ sn ∧ g = (sn - i).toNat ∧ iv = .int .i64 i ∧ (∀ t : Nat, (t : Int) < i → z t = 0) ∧ Below w.heap.size w wr)
  case atStart => exact ⟨0, by omega, by omega, by omega, rfl, fun t ht => by omega, Below.refl _ _⟩
  case round =>
    obtain ⟨i, il, ih, rfl, rfl, hall, hbw⟩ := hrel
    by_cases hi : i < sn
    · obtain ⟨⟨b, off, rfl, hlt, v0⟩, -⟩ := (hz.below hbw) i.toNat (by omega)
      by_cases e : z i.toNat = 0
      · have hall' : ∀ t : Nat, (t : Int) < i + 1 → z t = 0 := fun t ht => by
          by_cases et : (t : Int) = i
          · rw [show t = i.toNat by omega]; exact e
          · exact hall t (by omega)
        rw [e] at v0
        clear e hall
        go_wp2
        go_roundg ((sn : Int) - (i + 1)).toNat
        case measure => omega
        case rel => exact ⟨i + 1, by omega, by omega, rfl, by go_num, hall', hbw⟩
      · have e' : ((List.range sn).all fun i => z i == 0) = false := by
          cases hno : (List.range sn).all fun i => z i == 0 with
          | false => rfl
          | true => exact absurd (by have := List.all_eq_true.1 hno i.toNat (List.mem_range.2 (by omega)); simpa using this) e
        have d0 : (z i.toNat != 0) = true := by simp [e]
        generalize z i.toNat = X at *
        clear e hall
        go_wp2
        go_returns
        exact ⟨ret_bool (by simp only [e']), hbw⟩
    · have e' : ((List.range sn).all fun i => z i == 0) = true := List.all_eq_true.2 fun t ht => by
        have := hall t (by have := List.mem_range.1 ht; omega)
        simpa using this
      go_wp2
      go_returns
      exact ⟨ret_bool (by simp only [e']), hbw⟩
/-- A part of a heap's words. -/
theorem azero_part {p : Option Addr} {c : Nat} {q : Option Addr} {d : Nat} {h : Hp} {w : World} {a : Int} {n : Nat} (hh : HpAt w p c q d h) (a0 : 0 ≤ a) (a1 : a + n ≤ h.n) (hn : h.n ≤ 512) {sp : Option Addr} {sc : Nat} (hs : 0 < n → ∀ b off, p = some ⟨b, off, none⟩ → sp = some ⟨b, off + a.toNat, none⟩) :
    Calls Tryd.prog 44 #[.slice sp n sc] w fun e w' => e = .returned (.bool (noB h a n)) ∧ Below w.heap.size w w' := by
  refine azero_any sp n sc (fun i => woH h (a + i)) w (fun i hi => ?_) (by omega)
  obtain ⟨⟨b, off, e, hlt, v0⟩, hw⟩ := hh.ints (a + i).toNat (by omega)
  have e' := hs (by omega) b off e
  refine ⟨⟨b, off + a.toNat, e', hlt, ?_⟩, hw⟩
  rw [show off + (a + (i : Int)).toNat = off + a.toNat + i by omega] at v0
  exact v0

set_option maxHeartbeats 2000000 in
theorem sform_any (p : Option Addr) (c : Nat) (q : Option Addr) (d : Nat) (h : Hp) (w : World) (hS : Sz w) (hh : HpAt w p c q d h) :
    Calls Tryd.prog 20 #[.agg #[.slice p h.n c, .slice q h.m d, .bool h.b]] w fun e w' => e = .returned (.bool (formB h)) ∧ Below w.heap.size w w' := by
  obtain ⟨w0, hw0⟩ : ∃ w0, w0 = w.alloc (.cells #[.slice p h.n c, .slice q h.m d, .bool h.b] 55) := ⟨_, rfl⟩
  have gB : Box3 w.heap.size (.slice p h.n c) (.slice q h.m d) (.bool h.b) w0 := by rw [hw0]; exact Box3.new _ _ _ _ _
  have hst : Below w.heap.size w w0 := by rw [hw0]; go_grown
  obtain ⟨l0, x0, x1, x2, -, -, -⟩ := id gB
  have hFo := hform_any p c q d h w0 (hS.below hst) (hh.below hst)
  go_enter Tryd.func20, Tryd.ntmps20
  go_upto_region 1 with fail
  rw [← hw0]
  clear hw0
  go_wp2_with (first
    | (go_at_call 40; refine Calls.mono (hFo) ?_; rintro e w' ⟨rfl, hb⟩; obtain ⟨hc, hf, hb, hz⟩ := bstep hb (w := w0) (by go_grown); try simp only [World.size_alloc, World.size_setCell, World.size_drew] at hc hf hz)
  )
  go_returns
  exact ⟨rfl, bjoin hb hst⟩

set_option maxHeartbeats 4000000 in
theorem sblock_any (p : Option Addr) (c : Nat) (q : Option Addr) (d : Nat) (h : Hp) (a k : Int) (fr : Bool) (w : World) (hS : Sz w) (hh : HpAt w p c q d h) (hF : formB h = true) (a0 : 0 ≤ a) (a1 : a + szW k ≤ h.n) (k0 : 0 < szW k) :
    Calls Tryd.prog 59 #[.agg #[.slice p h.n c, .slice q h.m d, .bool h.b], .int .i64 a, .int .i64 k, .bool fr] w fun e w' => e = .returned (.bool (if fr = true then noB h a (szW k).toNat else obB h a && (obK h a == k))) ∧ Below w.heap.size w w' := by
  obtain ⟨w0, hw0⟩ : ∃ w0, w0 = w.alloc (.cells #[.slice p h.n c, .slice q h.m d, .bool h.b] 55) := ⟨_, rfl⟩
  have gB : Box3 w.heap.size (.slice p h.n c) (.slice q h.m d) (.bool h.b) w0 := by rw [hw0]; exact Box3.new _ _ _ _ _
  have hst : Below w.heap.size w w0 := by rw [hw0]; go_grown
  have hS0 := hS.below hst
  have hat := hh.below hst
  obtain ⟨l0, x0, x1, x2, -, -, -⟩ := id gB
  have hnl : h.n ≤ 512 := by have := form_iff.1 hF; omega
  have hcp := hat.ncap.1
  cases fr with
  | true =>
    rw [if_pos rfl]
    obtain ⟨⟨b, off, eq, hlt, -⟩, -⟩ := hat.ints 0 (by omega)
    subst eq
    have hN : ∀ W, Below w0.heap.size w0 W → Calls Tryd.prog 44 #[.slice (some ⟨b, off + a.toNat, none⟩) ((a + szW k).toNat - a.toNat) (c - a.toNat)] W fun e w' => e = .returned (.bool (noB h a (szW k).toNat)) ∧ Below W.heap.size W w' := fun W hb => by
      rw [show (a + szW k).toNat - a.toNat = (szW k).toNat by omega]
      exact azero_part (hat.below hb) a0 (by omega) hnl fun _ b' off' e => by injection e with e; injection e with e1 e2; subst e1 e2; rfl
    have hi' : a + szW k ≤ c := by omega
    have hle : a ≤ a + szW k := by omega
    have hne : ¬ c = a.toNat := by omega
    generalize noB h a (szW k).toNat = V at *
    clear hat hh hF hcp
    go_enter Tryd.func59, Tryd.ntmps59
    go_upto_region 1 with fail
    rw [← hw0]
    clear hw0
    go_upto_region 2 with fail
    refine wp_region_plus (by kernel_rfl) (by kernel_rfl) fun hpc => ?_
    repeat (first | go_big_quiet_step ((first | (go_at_call 45; exact quiet_plus (cwords_any _ _ (hS0.below (plus_below _ _)))) | (go_at_call 44; exact quiet_plus (hN _ (plus_below _ _))))) | quiet_step ((first | (go_at_call 45; exact quiet_plus (cwords_any _ _ (hS0.below (plus_below _ _)))) | (go_at_call 44; exact quiet_plus (hN _ (plus_below _ _))))))
    refine wpQuiet_nil ?_
    intro w' hbq
    clear hpc
    obtain ⟨hc, hf, hb, hz⟩ := bstep hbq (w := w0) (by go_grown)
    try simp only [World.size_alloc, World.size_setCell, World.size_drew] at hc hf hz
    go_wp2
    go_returns
    exact ⟨rfl, bjoin hb hst⟩
  | false =>
    rw [if_neg (by decide)]
    have hG := oget_any p c q d h a w0 hS0 hat hF
    cases ho : obB h a with
    | false =>
      obtain ⟨o1, o2, o3⟩ := ob_no ho
      rw [ho, o1, o2, o3] at hG
      clear hat hh hF hcp ho o1 o2 o3
      go_enter Tryd.func59, Tryd.ntmps59
      go_upto_region 1 with fail
      rw [← hw0]
      clear hw0
      go_wp2_with (first
    | (go_at_call 43; refine Calls.mono (hG) ?_; rintro e w' ⟨rfl, hb⟩; obtain ⟨hc, hf, hb, hz⟩ := bstep hb (w := w0) (by go_grown); try simp only [World.size_alloc, World.size_setCell, World.size_drew] at hc hf hz)
      )
      go_returns
      exact ⟨rfl, by go_grown; exact bjoin hb hst⟩
    | true =>
      rw [ho] at hG
      generalize obC h a = C at *
      generalize obN h a = N at *
      generalize obK h a = K at *
      clear hat hh hF hcp ho
      go_enter Tryd.func59, Tryd.ntmps59
      go_upto_region 1 with fail
      rw [← hw0]
      clear hw0
      go_wp2_with (first
    | (go_at_call 43; refine Calls.mono (hG) ?_; rintro e w' ⟨rfl, hb⟩; obtain ⟨hc, hf, hb, hz⟩ := bstep hb (w := w0) (by go_grown); try simp only [World.size_alloc, World.size_setCell, World.size_drew] at hc hf hz)
      )
      go_returns
      exact ⟨ret_bool (by simp), by go_grown; exact bjoin hb hst⟩
end Go.Proofs.YthhehhlibkdmgaaDoor
