import Derived.Test.YtkehankfnkjnlaaGreatDoorV05
import Derived.StillTailTactics
namespace Go.Proofs.YtkehankfnkjnlaaGreatDoor
set_option linter.unusedSimpArgs false
set_option linter.unusedVariables false
set_option maxHeartbeats 16000000
set_option maxRecDepth 20000
open Go.ChangeAt Go.ChangeShapes Go.Joins Go.RowKit Go.WideShapes
variable {h : Hp} {w w' W W' : World} {p q : Option Addr} {n g : Nat} {a : Int} {v : Value}
theorem HpAt.wf {c : Nat} {d : Nat} (hh : HpAt W p c q d h) : h.wf := ⟨hh.ints.wf, hh.spans.wf⟩
theorem zr4 (p : Option Addr) (c : Nat) (q : Option Addr) (d : Nat) (h : Hp) (w : World) (hh : HpAt w p c q d h) :
  Calls Tryz.prog 28 #[.agg #[.slice p h.n c, .slice q h.m d, .bool h.b]] w fun e w' => e = .returned (.bool (formB h)) ∧ Below w.heap.size w w' := by
 have hn := hh.nle
 have hmm := hh.mle
 simp only [maxLen] at hn hmm
 have eF := @zad h
 by_cases hs : 1 ≤ h.m ∧ h.m ≤ 16 ∧ h.n = 32 * h.m
 ·obtain ⟨s0, s1, hl⟩ := hs
  have d0 : decide ((h.m : Int) < 1) = false := by simp; omega
  have d1 : decide (16 < (h.m : Int)) = false := by simp; omega
  have d2 : ((h.n : Int) != 32 * (h.m : Int)) = false := by simp; omega
  have hH : Hid (h.n = 32 * h.m) := hl
  have hE : Hid (formB h = true ↔ 1 ≤ h.m ∧ h.m ≤ 16 ∧ h.n = 32 * h.m ∧ ∀ i, i < h.m → (h.s i).right = true) := eF
  clear hl eF
  go_enter Tryz.func28, Tryz.ntmps28
  go_upto_region 1 with fail
  obtain ⟨w0, hw0⟩ : ∃ w0, w0 = w.alloc (.cells #[.slice p h.n c, .slice q h.m d, .bool h.b] 27) := ⟨_, rfl⟩
  have hbx : Box3 w.heap.size (.slice p h.n c) (.slice q h.m d) (.bool h.b) w0 := by rw [hw0]; exact Box3.new _ _ _ _ _
  have hbA : Below w.heap.size w w0 := by rw [hw0]; go_grown
  have hsp := hh.spans.below hbA
  rw [← hw0]
  clear hw0 hh
  obtain ⟨hl, k0, k1, k2, -, -, -⟩ := hbx
  go_wp2
  go_loopg [3] h.m (fun g iv wr => ∃ i : Int, 0 ≤ i ∧ i ≤ h.m ∧ g = (h.m - i).toNat ∧ iv = .int .i64 i ∧ (∀ j : Nat, (j : Int) < i → (h.s j).right = true) ∧ Below w0.heap.size w0 wr)
  case atStart => exact ⟨0, by omega, by omega, by omega, rfl, fun j hj => by omega, Below.refl _ _⟩
  case round =>
   obtain ⟨i, il, ih, rfl, rfl, hall, hbw⟩ := hrel
   obtain ⟨hc, hf, hb, hz⟩ := bstep hbw (w := w0) (Below.refl _ _)
   by_cases hi : i < h.m
   ·obtain ⟨⟨b, off, rfl, hlt, s0, s1, s2⟩, hw⟩ := (hsp.below hbw) i.toNat (by omega)
    have hm : Mask (h.s i.toNat).fr := hw.2.2
    cases hr : rightB (h.s i.toNat).st (h.s i.toNat).cl (h.s i.toNat).fr with
    | true =>
     go_wp2_with (first
  | (go_at_call 61; refine Calls.mono (zh3 _ _ _ _ hm) ?_; rintro e w' ⟨rfl, hb⟩; obtain ⟨hc, hf, hb, hz⟩ := bstep hb (w := w0) (by go_grown); try simp only [World.size_alloc, World.size_setCell, World.size_drew] at hc hf hz)
     )
     go_roundg ((h.m : Int) - (i + 1)).toNat
     case measure => omega
     case rel => exact ⟨i + 1, by omega, by omega, rfl, rfl, fun j hj => by
      by_cases e : (j : Int) = i
      ·rw [show j = i.toNat by omega]; exact hr
      ·exact hall j (by omega), hb⟩
    | false =>
     have e : formB h = false := by
      cases e : formB h with
      | false => rfl
      | true => have := (hE.out.1 e).2.2.2 i.toNat (by omega); unfold Sp.right at this; rw [hr] at this; cases this
     go_wp2_with (first
  | (go_at_call 61; refine Calls.mono (zh3 _ _ _ _ hm) ?_; rintro e w' ⟨rfl, hb⟩; obtain ⟨hc, hf, hb, hz⟩ := bstep hb (w := w0) (by go_grown); try simp only [World.size_alloc, World.size_setCell, World.size_drew] at hc hf hz)
     )
     go_returns
     exact ⟨zab (by simp [e]), bjoin hb hbA⟩
   ·have e : formB h = true := hE.out.2 ⟨by omega, by omega, hH.out, fun j hj => hall j (by omega)⟩
    go_wp2
    go_returns
    exact ⟨zab (by simp [e]), bjoin hb hbA⟩
 ·have e : formB h = false := by
   cases e : formB h with
   | false => rfl
   | true => have := eF.1 e; exact absurd ⟨this.1, this.2.1, this.2.2.1⟩ hs
  rw [e]
  clear e eF
  by_cases h1 : 1 ≤ h.m ∧ h.m ≤ 16
  ·have d2 : ((h.n : Int) != 32 * (h.m : Int)) = true := by simp; omega
   obtain ⟨s0, s1⟩ := h1
   have d0 : decide ((h.m : Int) < 1) = false := by simp; omega
   have d1 : decide (16 < (h.m : Int)) = false := by simp; omega
   go_enter Tryz.func28, Tryz.ntmps28
   go_wp2
   go_returns
   exact ⟨rfl, by go_grown⟩
  ·go_enter Tryz.func28, Tryz.ntmps28
   go_wp2
   all_goals
    first
    | omega
    | (go_returns
       exact ⟨rfl, by go_grown⟩)
theorem zjg (c : Int) : 0 ≤ szW c ∧ szW c ≤ 16 := by have := zaq c; omega
theorem zgw {s : Sp} (hr : s.right = true) (hw : s.wf) : 0 ≤ usS s ∧ usS s ≤ 32 := by
 unfold usS usedN
 split
 ·rename_i hu
  rcases zaz.1 hr with ⟨h0, -⟩ | ⟨-, c0, c1, hs⟩
  ·rw [h0] at hu; cases hu
  ·obtain ⟨a, b⟩ := zjb hw.2.2 hs
   rcases zaq s.cl with ⟨-, h0, h1, -⟩ | ⟨-, h0, h1, -⟩ | ⟨-, h0, h1, -⟩ | ⟨-, h0, h1, -⟩ | ⟨-, h0, h1, -⟩
   all_goals rw [h1] at b ⊢; rw [h0]; omega
 ·simp
theorem zfb {s : Nat → Sp} : ∀ {k : Nat}, (∀ i, i < k → (s i).right = true ∧ (s i).wf) → 0 ≤ usT s k ∧ usT s k ≤ 32 * k
 | 0, _ => by simp [usT]
 | k + 1, h => by
  have := zfb (k := k) fun i hi => h i (by omega)
  have := zgw (h k (by omega)).1 (h k (by omega)).2
  simp only [usT]
  omega
theorem zn7 (s : Nat → Sp) {i : Int} (h : 0 ≤ i) : usT s (i + 1).toNat = usT s i.toNat + usS (s i.toNat) := by
 rw [show (i + 1).toNat = i.toNat + 1 by omega]; rfl
def usI (s : Nat → Sp) (i : Int) : Int := usT s i.toNat
theorem rused_any (p : Option Addr) (c : Nat) (q : Option Addr) (d : Nat) (h : Hp) (w : World) (hh : HpAt w p c q d h) (hF : formB h = true) :
  Calls Tryz.prog 15 #[.agg #[.slice p h.n c, .slice q h.m d, .bool h.b]] w fun e w' => e = .returned (.int .i64 (usH h)) ∧ Below w.heap.size w w' := by
 have hm16 := (zad.1 hF).2.1
 have hwf := hh.wf
 have hF' : Hid (formB h = true) := hF
 clear hF
 go_enter Tryz.func15, Tryz.ntmps15
 go_upto_region 1 with fail
 obtain ⟨w0, hw0⟩ : ∃ w0, w0 = w.alloc (.cells #[.slice p h.n c, .slice q h.m d, .bool h.b] 27) := ⟨_, rfl⟩
 have hbx : Box3 w.heap.size (.slice p h.n c) (.slice q h.m d) (.bool h.b) w0 := by rw [hw0]; exact Box3.new _ _ _ _ _
 have hbA : Below w.heap.size w w0 := by rw [hw0]; go_grown
 have hsp := hh.spans.below hbA
 rw [← hw0]
 clear hw0 hh
 obtain ⟨hl, k0, k1, k2, -, -, -⟩ := hbx
 go_wp2
 go_loopg [3, 4] h.m (fun g nv iv wr => ∃ i : Int, 0 ≤ i ∧ i ≤ h.m ∧ g = (h.m - i).toNat ∧ nv = .int .i64 (usI h.s i) ∧ iv = .int .i64 i ∧ Below w0.heap.size w0 wr)
 case atStart => exact ⟨0, by omega, by omega, by omega, rfl, rfl, Below.refl _ _⟩
 case round =>
  obtain ⟨i, il, ih, rfl, rfl, rfl, hbw⟩ := hrel
  obtain ⟨hc, hf, hb, hz⟩ := bstep hbw (w := w0) (Below.refl _ _)
  by_cases hi : i < h.m
  ·obtain ⟨⟨b, off, rfl, hlt, s0, s1, s2⟩, hw⟩ := (hsp.below hbw) i.toNat (by omega)
   have hm : Mask (h.s i.toNat).fr := hw.2.2
   have hbd : 0 ≤ usI h.s i ∧ usI h.s i ≤ 32 * i := by
    have := zfb (s := h.s) (k := i.toNat) fun j hj => ⟨(zad.1 hF'.out).2.2.2 j (by omega), hwf.2 j (by omega)⟩
    unfold usI; omega
   have hnx : usI h.s (i + 1) = usI h.s i + usS (h.s i.toNat) := zn7 h.s il
   have hrr : (h.s i.toNat).right = true := (zad.1 hF'.out).2.2.2 i.toNat (by omega)
   have hus := zgw hrr hw
   rcases zaz.1 hrr with ⟨h0, -⟩ | ⟨hst, cl0, cl1, hsm⟩
   ·have e : usS (h.s i.toNat) = 0 := by simp [usS, usedN, h0, useB]
    rw [e] at hnx
    clear hrr
    obtain ⟨n0, n1⟩ := hbd
    go_wp2
    go_roundg ((h.m : Int) - (i + 1)).toNat
    case measure => omega
    case rel => exact ⟨i + 1, by omega, by omega, rfl, by simp [hnx], rfl, by go_grown⟩
   ·have hu := (zg2 _).2 hst
    obtain ⟨n0, n1⟩ := hbd
    have hne : ((h.s i.toNat).st != 0) = true := by simp; omega
    obtain ⟨q0, q1⟩ := zjb hm hsm
    have eus : usS (h.s i.toNat) = (blW (h.s i.toNat).cl - countW (h.s i.toNat).fr) * szW (h.s i.toNat).cl := by simp [usS, usedN, hu]
    rw [eus] at hnx
    clear hrr hus eus hsm hu
    rcases zaq (h.s i.toNat).cl with ⟨-, e0, e1, -⟩ | ⟨-, e0, e1, -⟩ | ⟨-, e0, e1, -⟩ | ⟨-, e0, e1, -⟩ | ⟨e, -⟩
    case inr.inr.inr.inr => omega
    all_goals
     rw [e0, e1] at hnx
     rw [e1] at q1
     go_wp2_with fail
     refine zap (by kernel_rfl) (by kernel_rfl) fun hpc => ?_
     repeat (first | go_big_quiet_step ((first | (go_at_call 34; exact zak (za9 _ _)) | (go_at_call 44; exact zak (zkm _ _ _ _ hm)) | (go_at_call 33; exact zak (zco _ _)))) | quiet_step ((first | (go_at_call 34; exact zak (za9 _ _)) | (go_at_call 44; exact zak (zkm _ _ _ _ hm)) | (go_at_call 33; exact zak (zco _ _)))))
     refine wpQuiet_nil ?_
     intro w' hbq
     clear hpc
     obtain ⟨hc, hf, hb, hz⟩ := bstep hbq (w := wr) (by go_grown)
     try simp only [World.size_alloc, World.size_setCell, World.size_drew] at hc hf hz
     go_wp2
     go_roundg ((h.m : Int) - (i + 1)).toNat
     case measure => omega
     case rel => exact ⟨i + 1, by omega, by omega, rfl, by simp [hnx], rfl, bjoin hb hbw⟩
  ·obtain rfl : i = h.m := by omega
   go_wp2
   go_returns
   exact ⟨rfl, bjoin hb hbA⟩
theorem boxes {v0 v1 v2 u0 u1 u2 : Value} {t : TypeId} : ∃ w0, w0 = (w.alloc (.cells #[v0, v1, v2] t)).alloc (.cells #[u0, u1, u2] t) ∧ Box3 w.heap.size v0 v1 v2 w0 ∧ Box3 (w.heap.size + 1) u0 u1 u2 w0 ∧ Below w.heap.size w w0 := by
 refine ⟨_, rfl, (Box3.new w _ _ _ _).below ((Below.refl _ _).alloc (Nat.le_refl _) _), ?_, ?_⟩
 ·have := Box3.new (w.alloc (.cells #[v0, v1, v2] t)) u0 u1 u2 t
  simpa using this
 ·exact ((Below.refl _ _).alloc (Nat.le_refl _) _).alloc (by simp) _
theorem zpz (p p' : Option Addr) (c c' : Nat) (q q' : Option Addr) (d d' : Nat) (h k : Hp) (w : World) (hh : HpAt w p c q d h) (hk : HpAt w p' c' q' d' k) :
  Calls Tryz.prog 47 #[.agg #[.slice p h.n c, .slice q h.m d, .bool h.b], .agg #[.slice p' k.n c', .slice q' k.m d', .bool k.b]] w fun e w' => e = .returned (.bool (sameH h k)) ∧ Below w.heap.size w w' := by
 have hn := hh.nle
 have hmm := hh.mle
 have kn := hk.nle
 have kmm := hk.mle
 simp only [maxLen] at hmm kmm
 obtain ⟨w0, hw0, hbx, hbk, hbA⟩ := boxes (w := w) (v0 := .slice p h.n c) (v1 := .slice q h.m d) (v2 := .bool h.b) (u0 := .slice p' k.n c') (u1 := .slice q' k.m d') (u2 := .bool k.b) (t := 27)
 have hi1 := hh.ints.below hbA
 have hi2 := hk.ints.below hbA
 have hs1 := hh.spans.below hbA
 have hs2 := hk.spans.below hbA
 clear hh hk
 obtain ⟨hl, k0, k1, k2, -, -, -⟩ := hbx
 obtain ⟨hl', j0, j1, j2, -, -, -⟩ := hbk
 go_enter Tryz.func47, Tryz.ntmps47
 go_upto_region 1 with fail
 rw [← hw0]
 clear hw0
 have hdef : Hid (sameH h k = ((h.b == k.b) && (decide (h.m = k.m) && (sameZ h.n h.z k.n k.z && sameS h.m h.s k.s)))) := rfl
 by_cases eb : h.b = k.b
 ·by_cases em : h.m = k.m
  ·have d0 : (h.b == k.b) = true := by simp [eb]
   have d1 : ((h.m : Int) != (k.m : Int)) = false := by simp [em]
   have eH : Hid (sameH h k = (sameZ h.n h.z k.n k.z && sameS h.m h.s k.s)) := by
    show sameH h k = _
    rw [hdef.out]; simp [eb, em]
   have em' : Hid (h.m = k.m) := em
   clear eb em
   cases ez : sameZ h.n h.z k.n k.z with
   | false =>
    rw [ez] at eH
    go_wp2_with (first
  | (go_at_call 80; refine Calls.mono (zni _ _ _ _ _ _ _ _ _ hi1 hi2 hn kn) ?_; rintro e w' ⟨rfl, hb⟩; obtain ⟨hc, hf, hb, hz⟩ := bstep hb (w := w0) (by go_grown); try simp only [World.size_alloc, World.size_setCell, World.size_drew] at hc hf hz)
    )
    go_returns
    exact ⟨zab (by rw [eH.out]; rfl), bjoin hb hbA⟩
   | true =>
    rw [ez] at eH
    go_upto_region 3 with (first
  | (go_at_call 80; refine Calls.mono (zni _ _ _ _ _ _ _ _ _ hi1 hi2 hn kn) ?_; rintro e w' ⟨rfl, hb⟩; obtain ⟨hc, hf, hb, hz⟩ := bstep hb (w := w0) (by go_grown); try simp only [World.size_alloc, World.size_setCell, World.size_drew] at hc hf hz)
    )
    have hs1' := hs1.below hb
    have hs2' := hs2.below hb
    have hbB := hb
    go_wp2
    go_loopg [5] h.m (fun g iv wr => ∃ i : Int, 0 ≤ i ∧ i ≤ h.m ∧ g = (h.m - i).toNat ∧ iv = .int .i64 i ∧ (∀ j : Nat, (j : Int) < i → h.s j = k.s j) ∧ Below w'.heap.size w' wr)
    case atStart => exact ⟨0, by omega, by omega, by omega, rfl, fun j hj => by omega, Below.refl _ _⟩
    case round =>
     obtain ⟨i, il, ih, rfl, rfl, hall, hbw⟩ := hrel
     have hbW := bjoin hbw (bjoin hbB hbA)
     obtain ⟨hc, hf, hb, hz⟩ := bstep hbw (w := w') (Below.refl _ _)
     by_cases hi : i < h.m
     ·have hik : i < k.m := by have := em'.out; omega
      obtain ⟨⟨b, off, rfl, hlt, s0, s1, s2⟩, hw⟩ := (hs1'.below hbw) i.toNat (by omega)
      obtain ⟨⟨b', off', rfl, hlt', r0, r1, r2⟩, hw'⟩ := (hs2'.below hbw) i.toNat (by omega)
      by_cases e : h.s i.toNat = k.s i.toNat
      ·rw [e] at s0 s1 s2
       go_wp2
       go_region
       all_goals
        go_wp2
        go_roundg ((h.m : Int) - (i + 1)).toNat
        case measure => omega
        case rel => exact ⟨i + 1, by omega, by omega, rfl, rfl, fun j hj => by
         by_cases ej : (j : Int) = i
         ·rw [show j = i.toNat by omega]; exact e
         ·exact hall j (by omega), hb.drew⟩
      ·have eS : sameH h k = false := by
        rw [eH.out, Bool.true_and]
        cases es : sameS h.m h.s k.s with
        | false => rfl
        | true => exact absurd (zhn.1 es i.toNat (by omega)) e
       have ef : ¬ ((h.s i.toNat).st = (k.s i.toNat).st ∧ (h.s i.toNat).cl = (k.s i.toNat).cl ∧ (h.s i.toNat).fr = (k.s i.toNat).fr) := fun x => e (zn3.1 (by simp [spEq, x]))
       generalize h.s i.toNat = a at s0 s1 s2 ef
       generalize k.s i.toNat = a' at r0 r1 r2 ef
       obtain ⟨st, cl, fr⟩ := a
       obtain ⟨st', cl', fr'⟩ := a'
       simp only [] at s0 s1 s2 r0 r1 r2 ef
       clear e hall hw hw'
       by_cases f0 : st = st'
       ·by_cases f1 : cl = cl'
        ·have f2 : ¬ fr = fr' := fun x => ef ⟨f0, f1, x⟩
         subst f0 f1
         clear ef
         go_wp2
         go_region
         all_goals
          go_wp2
          go_returns
          exact ⟨zab (by simp [eS]), hbW.drew⟩
        ·subst f0
         clear ef
         go_wp2
         go_region
         all_goals
          go_wp2
          go_returns
          exact ⟨zab (by simp [eS]), hbW.drew⟩
       ·clear ef
        go_wp2
        go_region
        all_goals
         go_wp2
         go_returns
         exact ⟨zab (by simp [eS]), hbW.drew⟩
     ·have e : sameH h k = true := by
       rw [eH.out]
       exact zhn.2 fun j hj => hall j (by omega)
      go_wp2
      go_returns
      exact ⟨zab (by simp [e]), hbW⟩
  ·have d0 : (h.b == k.b) = true := by simp [eb]
   have d1 : ((h.m : Int) != (k.m : Int)) = true := by simp; omega
   have e : sameH h k = false := by rw [hdef.out]; simp [em]
   clear eb em
   go_wp2
   go_returns
   exact ⟨zab (by simp [e]), hbA⟩
 ·have d0 : (h.b == k.b) = false := by simp [eb]
  have e : sameH h k = false := by rw [hdef.out]; simp [eb]
  clear eb
  go_wp2
  go_returns
  exact ⟨zab (by simp [e]), hbA⟩
def fiAt (h : Hp) (a p i : Int) : Prop := fiB h a = true → p < a / 32 ∨ p = a / 32 ∧ i ≤ plI (spH h (a / 32)).cl a
theorem zxt (e : ¬ fiB h a = true) : fiB h a = false ∧ fiP h a = 0 ∧ fiI h a = 0 := by
 refine ⟨by simpa using e, ?_, ?_⟩
 ·unfold fiP; rw [if_neg e]
 ·unfold fiI; rw [if_neg e]
theorem zs7 (p : Option Addr) (c : Nat) (q : Option Addr) (d : Nat) (h : Hp) (a : Int) (w : World) (hh : HpAt w p c q d h) (hF : formB h = true) :
  Calls Tryz.prog 57 #[.agg #[.slice p h.n c, .slice q h.m d, .bool h.b], .int .i64 a] w fun e w' => e = .returned (.tuple #[.int .i64 (fiP h a), .int .i64 (fiI h a), .bool (fiB h a)]) ∧ Below w.heap.size w w' := by
 have hm16 := (zad.1 hF).2.1
 have hF' : Hid (formB h = true) := hF
 clear hF
 go_enter Tryz.func57, Tryz.ntmps57
 go_upto_region 1 with fail
 obtain ⟨w0, hw0⟩ : ∃ w0, w0 = w.alloc (.cells #[.slice p h.n c, .slice q h.m d, .bool h.b] 27) := ⟨_, rfl⟩
 have hbx : Box3 w.heap.size (.slice p h.n c) (.slice q h.m d) (.bool h.b) w0 := by rw [hw0]; exact Box3.new _ _ _ _ _
 have hbA : Below w.heap.size w w0 := by rw [hw0]; go_grown
 have hsp := hh.spans.below hbA
 rw [← hw0]
 clear hw0 hh
 obtain ⟨hl, k0, k1, k2, -, -, -⟩ := hbx
 go_wp2
 go_loopg [7] h.m (fun g jv wr => ∃ j : Int, 0 ≤ j ∧ j ≤ h.m ∧ g = (h.m - j).toNat ∧ jv = .int .i64 j ∧ fiAt h a j 0 ∧ Below w0.heap.size w0 wr)
 case atStart => exact ⟨0, by omega, by omega, by omega, rfl, fun e => by have := zbd hF'.out e; omega, Below.refl _ _⟩
 case round =>
  obtain ⟨j, jl, jh, rfl, rfl, hat, hbw⟩ := hrel
  obtain ⟨hc, hf, hb, hz⟩ := bstep hbw (w := w0) (Below.refl _ _)
  by_cases hj : j < h.m
  ·obtain ⟨⟨b, off, rfl, hlt, s0, s1, s2⟩, hw⟩ := (hsp.below hbw) j.toNat (by omega)
   have hrr := zcx hF'.out jl hj
   have hspj : spH h j = h.s j.toNat := rfl
   rw [hspj] at hrr
   rcases zaz.1 hrr with ⟨h0, -⟩ | ⟨hst, cl0, cl1, hsm⟩
   ·have hat' : fiAt h a (j + 1) 0 := fun e => by
     have h1 := zbd hF'.out e
     rcases hat e with h2 | ⟨h2, -⟩
     ·omega
     ·rw [← h2, hspj, h0] at h1; omega
    have d0 : ((h.s j.toNat).st == 0) = true := by simp [h0]
    clear hat hrr h0
    go_wp2
    go_roundg ((h.m : Int) - (j + 1)).toNat
    case measure => omega
    case rel => exact ⟨j + 1, by omega, by omega, rfl, rfl, hat', hb⟩
   ·have d0 : ((h.s j.toNat).st == 0) = false := by simp; omega
    have hne : Hid (¬ (spH h j).st = 0) := by show ¬ (h.s j.toNat).st = 0; omega
    have hb0 := zbc (h.s j.toNat).cl
    obtain ⟨b0, b1⟩ := hb0
    clear hrr hsm hc hf hb hz
    obtain ⟨w1, hw1⟩ : ∃ w1, w1 = wr := ⟨_, rfl⟩
    rw [← hw1] at hbw s0 s1 s2 hlt ⊢
    have k1' : w1.cell? ⟨w.heap.size, 1, none⟩ = some (.slice (some ⟨b, off, none⟩) h.m d) := by rw [hbw.cell (p := ⟨w.heap.size, 1, none⟩) hl]; exact k1
    have hl1 : w.heap.size < w1.heap.size := Nat.lt_of_lt_of_le hl hbw.size
    clear hw1
    go_wp2
    go_loopg [8] 16 (fun g iv wr => ∃ i : Int, 0 ≤ i ∧ i ≤ blW (h.s j.toNat).cl ∧ g = (16 - i).toNat ∧ iv = .int .i64 i ∧ fiAt h a j i ∧ Below w1.heap.size w1 wr)
    case atStart => exact ⟨0, by omega, by omega, rfl, rfl, hat, Below.refl _ _⟩
    case round =>
     clear hat
     obtain ⟨i, il, ih, rfl, rfl, hat, hbv⟩ := hrel
     have hbV := bjoin hbv (bjoin hbw hbA)
     obtain ⟨hc, hf, hb, hz⟩ := bstep hbv (w := w1) (Below.refl _ _)
     by_cases hi : i < blW (h.s j.toNat).cl
     ·obtain ⟨f0, f1, f2⟩ := fi_of hF'.out (p := j) (i := i) jl hj hne.out il hi
      rw [hspj] at f0 f1 f2
      by_cases he : 32 * j + i * szW (h.s j.toNat).cl = a
      ·rw [he] at f0 f1 f2
       have E : Hid (fiB h a = true ∧ fiP h a = j ∧ fiI h a = i) := ⟨f0, by unfold fiP; rw [if_pos f0, f1], by unfold fiI; rw [if_pos f0, f1]; exact f2⟩
       clear f0 f1 f2 hat
       rcases zaq (h.s j.toNat).cl with ⟨-, e0, e1, -⟩ | ⟨-, e0, e1, -⟩ | ⟨-, e0, e1, -⟩ | ⟨-, e0, e1, -⟩ | ⟨e, -⟩
       case inr.inr.inr.inr => omega
       all_goals
        rw [e0] at he
        rw [e1] at hi
        go_wp2_with (first
  | (go_at_call 34; refine Calls.mono (za9 _ _) ?_; rintro e w' ⟨rfl, hb⟩; obtain ⟨hc, hf, hb, hz⟩ := bstep hb (w := w1) (by go_grown); try simp only [World.size_alloc, World.size_setCell, World.size_drew] at hc hf hz)
  | (go_at_call 33; refine Calls.mono (zco _ _) ?_; rintro e w' ⟨rfl, hb⟩; obtain ⟨hc, hf, hb, hz⟩ := bstep hb (w := w1) (by go_grown); try simp only [World.size_alloc, World.size_setCell, World.size_drew] at hc hf hz)
        )
        go_returns
        exact ⟨by rw [E.out.1, E.out.2.1, E.out.2.2]; rfl, bjoin hb (bjoin hbw hbA)⟩
      ·have hat' : fiAt h a j (i + 1) := fun e => by
        rcases hat e with h2 | ⟨h2, h3⟩
        ·exact .inl h2
        ·refine .inr ⟨h2, ?_⟩
         have h4 := (zbd hF'.out e).2.2.2.2.2.2.2
         rw [← h2, hspj] at h4 h3 ⊢
         by_cases e3 : i = plI (h.s j.toNat).cl a
         ·rw [← e3] at h4; exact absurd h4 he
         ·omega
       have he' : Hid (¬ 32 * j + i * szW (h.s j.toNat).cl = a) := he
       clear f0 f1 f2 hat he
       rcases zaq (h.s j.toNat).cl with ⟨-, e0, e1, -⟩ | ⟨-, e0, e1, -⟩ | ⟨-, e0, e1, -⟩ | ⟨-, e0, e1, -⟩ | ⟨e, -⟩
       case inr.inr.inr.inr => omega
       all_goals
        have he := he'.out
        rw [e0] at he
        rw [e1] at hi
        go_wp2_with (first
  | (go_at_call 34; refine Calls.mono (za9 _ _) ?_; rintro e w' ⟨rfl, hb⟩; obtain ⟨hc, hf, hb, hz⟩ := bstep hb (w := w1) (by go_grown); try simp only [World.size_alloc, World.size_setCell, World.size_drew] at hc hf hz)
  | (go_at_call 33; refine Calls.mono (zco _ _) ?_; rintro e w' ⟨rfl, hb⟩; obtain ⟨hc, hf, hb, hz⟩ := bstep hb (w := w1) (by go_grown); try simp only [World.size_alloc, World.size_setCell, World.size_drew] at hc hf hz)
        )
        go_roundg (16 - (i + 1)).toNat
        case measure => omega
        case rel => exact ⟨i + 1, by omega, by omega, rfl, rfl, hat', hb⟩
     ·have hat' : fiAt h a (j + 1) 0 := fun e => by
       have h4 := (zbd hF'.out e).2.2.2.2.2.2.1
       have h5 := (zbd hF'.out e).2.2.2.2.2.1
       rcases hat e with h2 | ⟨h2, h3⟩
       ·by_cases h6 : j + 1 < a / 32
        ·exact .inl h6
        ·exact .inr ⟨by omega, h5⟩
       ·rw [← h2, hspj] at h4 h3; omega
      clear hat
      go_wp2_with (first
  | (go_at_call 34; refine Calls.mono (za9 _ _) ?_; rintro e w' ⟨rfl, hb⟩; obtain ⟨hc, hf, hb, hz⟩ := bstep hb (w := w1) (by go_grown); try simp only [World.size_alloc, World.size_setCell, World.size_drew] at hc hf hz)
      )
      go_roundg ((h.m : Int) - (j + 1)).toNat
      case measure => omega
      case rel => exact ⟨j + 1, by omega, by omega, rfl, rfl, hat', bjoin hb hbw⟩
  ·have e : ¬ fiB h a = true := fun e => by
    have h1 := zbd hF'.out e
    rcases hat e with h2 | ⟨h2, -⟩ <;> omega
   obtain ⟨q0, q1, q2⟩ := zxt e
   have E : Hid (fiB h a = false ∧ fiP h a = 0 ∧ fiI h a = 0) := ⟨q0, q1, q2⟩
   clear q0 q1 q2 e hat
   go_wp2
   go_returns
   exact ⟨by rw [E.out.1, E.out.2.1, E.out.2.2]; rfl, bjoin hb hbA⟩
theorem infoS : (Tryz.prog.info? 51).map (fun i => (i.zero, i.size, i.bytes)) = some (some (.agg #[.int .i64 0, .int .i64 0, .int .u32 0]), 3, 24) := by kernel_rfl
def NewV (n : Nat) (v : Value) : Prop := ∀ b, v.ownBlock = some b → n ≤ b
structure Src (B : Nat) (ok : Bool) (n m : Nat) (p : Option Addr) (c : Nat) (q : Option Addr) (d : Nat) (p' : Option Addr) (c' : Nat) (q' : Option Addr) (d' : Nat) : Prop where
 new : ok = true → NewV B (.slice p' n c') ∧ NewV B (.slice q' m d')
 old : ok = false → p' = p ∧ c' = c ∧ q' = q ∧ d' = d
theorem zhw {base : Nat} {e : TypeId} {size : Nat} {xs : List Value} (h : w.ownsRow base e size v n xs) : NewV base v := fun b hb => (h.lt b hb).1
theorem zts {base : Nat} {e1 e2 : TypeId} {p' : Option Addr} {c' : Nat} {q' : Option Addr} {d' : Nat} (h1 : w.ownsRow base e1 1 (.slice p' h.n c') h.n (vals .u64 h.n h.z)) (h2 : w.ownsRow base e2 3 (.slice q' h.m d') h.m (spVals h.m h.s)) (hw : h.wf) (hn : h.n ≤ maxLen) (hm : h.m ≤ maxLen) : HpAt w p' c' q' d' h where
 ints := zd0 h1 hw.1
 spans := zl9 h2 hw.2
 nle := hn
 mle := hm
 pnil := fun e => by
  subst e
  rcases h1.2 with ⟨hv, h0⟩ | ⟨g, cap', cur, hv, -⟩
  ·injection hv with _ _ e; exact ⟨h0, e⟩
  ·injection hv with e; cases e
 qnil := fun e => by
  subst e
  rcases h2.2 with ⟨hv, h0⟩ | ⟨g, cap', cur, hv, -⟩
  ·injection hv with _ _ e; exact ⟨h0, e⟩
  ·injection hv with e; cases e
 ncap := by
  rcases h1.2 with ⟨hv, h0⟩ | ⟨g, cap', cur, hv, -, -, h1, h2, -⟩
  ·injection hv with _ _ e; rw [h0, e]; exact ⟨Nat.le_refl _, by decide⟩
  ·injection hv with _ _ e; subst e; exact ⟨h1, h2⟩
 mcap := by
  rcases h2.2 with ⟨hv, h0⟩ | ⟨g, cap', cur, hv, -, -, h1, h2, -⟩
  ·injection hv with _ _ e; rw [h0, e]; exact ⟨Nat.le_refl _, by decide⟩
  ·injection hv with _ _ e; subst e; exact ⟨h1, h2⟩
theorem boxed2 {v0 v1 v2 u0 u1 u2 : Value} {t : TypeId} : ∃ w0, w0 = (w.alloc (.cells #[v0, v1, v2] t)).alloc (.cells #[u0, u1, u2] t) ∧ Box3 w.heap.size v0 v1 v2 w0 ∧ Box3 (w.heap.size + 1) u0 u1 u2 w0 ∧ Below w.heap.size w w0 := boxes
section
variable {P : Program} {ops : Array Oper} {md : Region.Mode} {C : World → Prop}
end
structure HpOwn (W : World) (base : Nat) (p : Option Addr) (c : Nat) (q : Option Addr) (d : Nat) (h : Hp) : Prop where
 words : W.ownsRow base 97 1 (.slice p h.n c) h.n (vals .u64 h.n h.z)
 spans : W.ownsRow base 51 3 (.slice q h.m d) h.m (spVals h.m h.s)
 ne : ∀ b b', (Value.slice p h.n c).ownBlock = some b → (Value.slice q h.m d).ownBlock = some b' → b ≠ b'
 wf : h.wf
 nle : h.n ≤ maxLen
 mle : h.m ≤ maxLen
section
variable {W W' : World} {base : Nat} {p : Option Addr} {c : Nat} {q : Option Addr} {d : Nat} {h : Hp}
theorem HpOwn.at (o : HpOwn W base p c q d h) : HpAt W p c q d h := zts o.words o.spans o.wf o.nle o.mle
theorem HpOwn.below (o : HpOwn W base p c q d h) (hb : Below W.heap.size W W') : HpOwn W' base p c q d h := ⟨zaa o.words hb, zaa o.spans hb, o.ne, o.wf, o.nle, o.mle⟩
theorem HpOwn.lower (o : HpOwn W base p c q d h) {base' : Nat} (hb : base' ≤ base) : HpOwn W base' p c q d h := ⟨zag o.words hb, zag o.spans hb, o.ne, o.wf, o.nle, o.mle⟩
theorem HpOwn.newW (o : HpOwn W base p c q d h) : NewV base (.slice p h.n c) := zhw o.words
theorem HpOwn.newS (o : HpOwn W base p c q d h) : NewV base (.slice q h.m d) := zhw o.spans
theorem HpOwn.other (o : HpOwn W base p c q d h) (h1 : (Value.slice p h.n c).ownBlock ≠ some g) (h2 : (Value.slice q h.m d).ownBlock ≠ some g) (i : Nat) (u : Value) : HpOwn (W.setCell ⟨g, i, none⟩ u) base p c q d h :=
 ⟨za0 o.words h1 i u, za0 o.spans h2 i u, o.ne, o.wf, o.nle, o.mle⟩
theorem HpOwn.under (o : HpOwn W base p c q d h) (hg : g < base) (i : Nat) (u : Value) : HpOwn (W.setCell ⟨g, i, none⟩ u) base p c q d h :=
 o.other (fun e => by have := o.newW g e; omega) (fun e => by have := o.newS g e; omega) i u
theorem HpOwn.word (o : HpOwn W base p c q d h) (h0 : 0 < h.n) : ∃ g, p = some ⟨g, 0, none⟩ ∧ base ≤ g ∧ g < W.heap.size := by
 rcases o.words.2 with ⟨-, h1⟩ | ⟨g, cap', cur, hv, hbg, hg, -⟩
 ·omega
 ·injection hv with hv
  refine ⟨g, hv, hbg, ?_⟩
  rcases Nat.lt_or_ge g W.heap.size with h' | h'
  ·exact h'
  ·rw [Array.getElem?_eq_none h'] at hg; cases hg
theorem HpOwn.span (o : HpOwn W base p c q d h) (h0 : 0 < h.m) : ∃ g, q = some ⟨g, 0, none⟩ ∧ base ≤ g ∧ g < W.heap.size := by
 rcases o.spans.2 with ⟨-, h1⟩ | ⟨g, cap', cur, hv, hbg, hg, -⟩
 ·omega
 ·injection hv with hv
  refine ⟨g, hv, hbg, ?_⟩
  rcases Nat.lt_or_ge g W.heap.size with h' | h'
  ·exact h'
  ·rw [Array.getElem?_eq_none h'] at hg; cases hg
theorem zrz (k : IntKind) (n : Nat) (z : Nat → Int) (i : Int) (h0 : 0 ≤ i) (v : Int) : (vals k n z).set i.toNat (.int k v) = vals k n (putZ z i v) := by
 rw [zvd]
 refine zfh k fun j _ => ?_
 unfold putZ
 by_cases e : (j : Int) = i
 ·rw [if_pos (by omega), if_pos e]
 ·rw [if_neg (by omega), if_neg e]
theorem HpOwn.store (o : HpOwn W base (some ⟨g, 0, none⟩) c q d h) {i v : Int} (h0 : 0 ≤ i) (hi : i < h.n) (hw : (Lit.int .u64 v).wf = true) :
  (∃ u, W.cell? ⟨g, i.toNat, none⟩ = some (.int .u64 u)) ∧ W.frozen? ⟨g, i.toNat, none⟩ = false ∧ HpOwn (W.setCell ⟨g, i.toNat, none⟩ (.int .u64 v)) base (some ⟨g, 0, none⟩) c q d { h with z := putZ h.z i v } := by
 refine ⟨⟨h.z i.toNat, ?_⟩, o.words.frozenAt _, ?_⟩
 ·rw [o.words.cellAt _ (by omega)]; exact za4 .u64 h.z (by omega)
 ·obtain ⟨hs, -⟩ := o.words.stored i.toNat (.int .u64 v)
  rw [zrz .u64 h.n h.z i h0 v] at hs
  refine ⟨hs, za0 o.spans (fun e => o.ne g g rfl e rfl) _ _, o.ne, ⟨fun j hj => ?_, o.wf.2⟩, o.nle, o.mle⟩
  show (Lit.int .u64 (putZ h.z i v j)).wf = true
  unfold putZ; split
  ·exact hw
  ·exact o.wf.1 j hj
theorem HpOwn.congr (o : HpOwn W base p c q d h) {z : Nat → Int} {s : Nat → Sp} {b : Bool} (hz : ∀ i, i < h.n → h.z i = z i) (hs : ∀ i, i < h.m → h.s i = s i) : HpOwn W base p c q d { n := h.n, z := z, m := h.m, s := s, b := b } :=
 ⟨by rw [← zfh .u64 hz]; exact o.words, by rw [← zjs hs]; exact o.spans, o.ne, ⟨fun i hi => by show (Lit.int .u64 (z i)).wf = true; rw [← hz i hi]; exact o.wf.1 i hi, fun i hi => by show (s i).wf; rw [← hs i hi]; exact o.wf.2 i hi⟩, o.nle, o.mle⟩
end
theorem zwa (z : Nat → Int) (a : Int) : zerZ z a 0 = z := by
 funext j; unfold zerZ; rw [if_neg (by omega)]
theorem zn1 {st cl fr i : Int} (hg : giveB st cl fr i = true) : giveF st cl fr i = withW fr i := by unfold giveF; rw [if_pos hg]
structure HpIn (W : World) (p : Option Addr) (n c : Nat) (q : Option Addr) (m d : Nat) (b : Bool) (h : Hp) : Prop where
 n_eq : n = h.n
 m_eq : m = h.m
 b_eq : b = h.b
 at' : HpAt W p c q d h
theorem HpIn.below {n c : Nat} {m d : Nat} {b : Bool} (hh : HpIn W p n c q m d b h) (hb : Below W.heap.size W W') : HpIn W' p n c q m d b h := ⟨hh.n_eq, hh.m_eq, hh.b_eq, hh.at'.below hb⟩
theorem HpAt.in {c : Nat} {d : Nat} (hh : HpAt W p c q d h) : HpIn W p h.n c q h.m d h.b h := ⟨rfl, rfl, rfl, hh⟩
theorem lo_n (h : Hp) (g : Int) : (loH h g).n = h.n ∧ (loH h g).m = h.m ∧ (loH h g).b = h.b := by unfold loH; split <;> exact ⟨rfl, rfl, rfl⟩
theorem fr_n (h : Hp) (a : Int) : (frH h a).n = h.n ∧ (frH h a).m = h.m ∧ (frH h a).b = h.b := by unfold frH; split <;> exact ⟨rfl, rfl, rfl⟩
section
variable {p : Option Addr} {n c : Nat} {q : Option Addr} {m d : Nat} {b : Bool} {h : Hp} {w : World}
theorem zus (hh : HpIn w p n c q m d b h) :
  Calls Tryz.prog 28 #[.agg #[.slice p n c, .slice q m d, .bool b]] w fun e w' => e = .returned (.bool (formB h)) ∧ Below w.heap.size w w' := by
 obtain ⟨rfl, rfl, rfl, hh⟩ := hh
 exact zr4 _ _ _ _ _ _ hh
end
def Clear (g : Nat) (p q : Option Addr) : Prop := (∀ b off sp, p = some ⟨b, off, sp⟩ → b ≠ g) ∧ ∀ b off sp, q = some ⟨b, off, sp⟩ → b ≠ g
theorem Spans.setCell {s : Nat → Sp} (h : Spans w p n s) (hg : ∀ b off sp, p = some ⟨b, off, sp⟩ → b ≠ g) (j : Nat) (u : Value) : Spans (w.setCell ⟨g, j, none⟩ u) p n s := fun i hi => by
 obtain ⟨⟨b, off, e, hlt, h0, h1, h2⟩, hw⟩ := h i hi
 have hb := Below.heap_setCell w ⟨g, j, none⟩ u b (hg b off none e)
 exact ⟨⟨b, off, e, by simpa [World.setCell] using hlt, by rw [World.cell?_of_block (w := w) (a := ⟨b, _, none⟩) hb]; exact h0, by rw [World.cell?_of_block (w := w) (a := ⟨b, _, none⟩) hb]; exact h1, by rw [World.cell?_of_block (w := w) (a := ⟨b, _, none⟩) hb]; exact h2⟩, hw⟩
theorem HpIn.setCell {n c : Nat} {m d : Nat} {b : Bool} (hh : HpIn W p n c q m d b h) (hg : Clear g p q) (j : Nat) (u : Value) : HpIn (W.setCell ⟨g, j, none⟩ u) p n c q m d b h :=
 ⟨hh.n_eq, hh.m_eq, hh.b_eq, ⟨hh.at'.ints.setCell (fun b off e => hg.1 b off none e) j u, hh.at'.spans.setCell hg.2 j u, hh.at'.nle, hh.at'.mle, hh.at'.pnil, hh.at'.qnil, hh.at'.ncap, hh.at'.mcap⟩⟩
def Lower (B : Nat) (p q : Option Addr) : Prop := (∀ b off sp, p = some ⟨b, off, sp⟩ → b < B) ∧ ∀ b off sp, q = some ⟨b, off, sp⟩ → b < B
theorem HpIn.lower {n c : Nat} {m d : Nat} {b : Bool} (hh : HpIn W p n c q m d b h) (hF : formB h = true) : Lower W.heap.size p q := by
 obtain ⟨m1, -, hn, -⟩ := zad.1 hF
 obtain ⟨⟨b1, o1, e1, l1, -⟩, -⟩ := hh.at'.ints 0 (by omega)
 obtain ⟨⟨b2, o2, e2, l2, -⟩, -⟩ := hh.at'.spans 0 (by omega)
 refine ⟨fun b' off sp e => ?_, fun b' off sp e => ?_⟩
 ·rw [e1] at e; injection e with e; injection e with e; omega
 ·rw [e2] at e; injection e with e; injection e with e; omega
theorem HpIn.stores {n c : Nat} {m d : Nat} {b : Bool} (hh : HpIn W p n c q m d b h) (hg : Clear g p q) (x y z : Value) :
  HpIn (((W.setCell ⟨g, 0, none⟩ x).setCell ⟨g, 1, none⟩ y).setCell ⟨g, 2, none⟩ z) p n c q m d b h := ((hh.setCell hg 0 x).setCell hg 1 y).setCell hg 2 z
def flipB (h : Hp) : Hp := { h with b := !h.b }
end Go.Proofs.YtkehankfnkjnlaaGreatDoor
