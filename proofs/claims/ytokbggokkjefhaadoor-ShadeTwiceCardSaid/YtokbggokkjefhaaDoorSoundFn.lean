/- Soundness as data: what chapter 9 says of a heap, plain definitions. -/
import Derived.Test.YtokbggokkjefhaaDoorObjIn
import Derived.Test.YtokbggokkjefhaaDoorMade
namespace Go.Proofs.YtokbggokkjefhaaDoor
set_option linter.unusedSimpArgs false
set_option linter.unusedVariables false
open Go.ChangeShapes Go.WideShapes Go.ChangeAt Go.RowKit

/-- Are so many words from an address on 0? -/
def noB (h : Hp) (a : Int) (n : Nat) : Bool := (List.range n).all fun i => woH h (a + i) == 0
theorem noB_iff {h : Hp} {a : Int} {n : Nat} : noB h a n = true ↔ ∀ i : Nat, i < n → woH h (a + i) = 0 := by simp [noB]
/-- Where a block begins. -/
def bkA (h : Hp) (p : Nat) (i : Int) : Int := 32 * p + i * szW (h.s p).cl
def bk2 (h : Hp) (p : Nat) (i : Int) : Bool := if hasB (h.s p).fr i = true then noB h (bkA h p i) (szW (h.s p).cl).toNat else obB h (bkA h p i) && (obK h (bkA h p i) == (h.s p).cl)
def bk3 (h : Hp) (p : Nat) (i : Int) : Bool := if hasB (h.s p).fr i = true then true else noB h (bkA h p i + 1 + obN h (bkA h p i)) (szW (h.s p).cl - 1 - obN h (bkA h p i)).toNat
def pg2 (h : Hp) (p : Nat) : Bool := if (h.s p).st = 0 then noB h (32 * p) 32 else (List.range (blW (h.s p).cl).toNat).all fun i => bk2 h p i
def pg3 (h : Hp) (p : Nat) : Bool := if (h.s p).st = 0 then true else (List.range (blW (h.s p).cl).toNat).all fun i => bk3 h p i
def ru2 (h : Hp) : Bool := (List.range h.m).all (pg2 h)
def ru3 (h : Hp) : Bool := (List.range h.m).all (pg3 h)
/-- What an object refers to, if it is asked. -/
def reB (h : Hp) (a : Int) : Bool := if (spH h (a / 32)).st != 1 && !blB h a then true else (rfH h a).all (obB h)
def ru4 (h : Hp) : Bool := (obL h h.n).all (reB h)
def ckH (h : Hp) : Int := if formB h = true then (if ru2 h = true then (if ru3 h = true then (if ru4 h = true then 0 else 4) else 3) else 2) else 1
theorem ck_zero {h : Hp} : ckH h = 0 ↔ formB h = true ∧ ru2 h = true ∧ ru3 h = true ∧ ru4 h = true := by
  unfold ckH
  constructor
  · intro e
    split at e
    · split at e
      · split at e
        · split at e
          · exact ⟨by assumption, by assumption, by assumption, by assumption⟩
          · omega
        · omega
      · omega
    · omega
  · rintro ⟨h1, h2, h3, h4⟩
    rw [if_pos h1, if_pos h2, if_pos h3, if_pos h4]
theorem ck_form {h : Hp} (hF : formB h = false) : ckH h = 1 := by unfold ckH; rw [if_neg (by simp [hF])]
theorem ck_two {h : Hp} (hF : formB h = true) (h2 : ru2 h = false) : ckH h = 2 := by unfold ckH; rw [if_pos hF, if_neg (by simp [h2])]
theorem ck_three {h : Hp} (hF : formB h = true) (h2 : ru2 h = true) (h3 : ru3 h = false) : ckH h = 3 := by unfold ckH; rw [if_pos hF, if_pos h2, if_neg (by simp [h3])]
theorem ck_rest {h : Hp} (hF : formB h = true) (h2 : ru2 h = true) (h3 : ru3 h = true) : ckH h = if ru4 h = true then 0 else 4 := by unfold ckH; rw [if_pos hF, if_pos h2, if_pos h3]
theorem ru2_iff {h : Hp} : ru2 h = true ↔ ∀ p, p < h.m → pg2 h p = true := by simp [ru2]
theorem ru3_iff {h : Hp} : ru3 h = true ↔ ∀ p, p < h.m → pg3 h p = true := by simp [ru3]
theorem ru4_iff {h : Hp} : ru4 h = true ↔ ∀ a ∈ obL h h.n, reB h a = true := by simp [ru4]
theorem pg2_used {h : Hp} {p : Nat} (hs : ¬ (h.s p).st = 0) : pg2 h p = true ↔ ∀ i : Nat, (i : Int) < blW (h.s p).cl → bk2 h p i = true := by
  unfold pg2; rw [if_neg hs]
  simp only [List.all_eq_true, List.mem_range]
  constructor
  · intro H i hi; exact H i (by omega)
  · intro H i hi; exact H i (by omega)
theorem pg3_used {h : Hp} {p : Nat} (hs : ¬ (h.s p).st = 0) : pg3 h p = true ↔ ∀ i : Nat, (i : Int) < blW (h.s p).cl → bk3 h p i = true := by
  unfold pg3; rw [if_neg hs]
  simp only [List.all_eq_true, List.mem_range]
  constructor
  · intro H i hi; exact H i (by omega)
  · intro H i hi; exact H i (by omega)

/-! What Made makes is sound. -/
theorem spH_nat (h : Hp) (p : Nat) : spH h (p : Int) = h.s p := by unfold spH; rw [Int.toNat_natCast]
theorem may_class {c : Bool} {k f : Int} (h : hmayB true c k f = true) : 0 ≤ k ∧ k < 4 ∧ 0 ≤ f ∧ f < szW k := by
  have hk : 0 ≤ k ∧ k < 4 := by
    simp [hmayB] at h
    omega
  rw [may_is hk.1 hk.2] at h
  simp at h
  exact ⟨hk.1, hk.2, h.1, h.2⟩
theorem laid_zero {h : Hp} {L : List (Int × Int)} (hl : Laid h L) {j : Int} (j0 : 0 ≤ j) (j1 : j < h.n) (hno : ∀ a, usedB h a = true → ¬ (a ≤ j ∧ j < a + szW (spH h (a / 32)).cl)) : woH h j = 0 :=
  hl.rest j.toNat (by omega) fun x hx hc => hno x.1 ((hl.all x.1).1 (List.mem_map_of_mem hx)) ⟨by omega, by rw [← hl.size x hx]; omega⟩
theorem laid_head {h : Hp} {L : List (Int × Int)} (hl : Laid h L) {a : Int} (hu : usedB h a = true) :
    obB h a = true ∧ obK h a = (spH h (a / 32)).cl ∧ 0 ≤ obN h a ∧ obN h a < szW (spH h (a / 32)).cl ∧ ∀ k : Int, 0 < k → k < szW (spH h (a / 32)).cl → woH h (a + k) = 0 := by
  obtain ⟨x, hx, rfl⟩ := List.mem_map.1 ((hl.all a).2 hu)
  obtain ⟨c, f, hm, hz⟩ := hl.head x hx
  obtain ⟨g1, g2, g3, g4⟩ := got_of hm
  have hf := hl.fi hx
  obtain ⟨b0, b1, b2, b3, b4⟩ := block_in hl.form hf
  obtain ⟨k0, k1, f0, f1⟩ := may_class hm
  have hw : woH h x.1 = hputW true c (spH h (x.1 / 32)).cl f := hz
  have ho : obB h x.1 = true := by
    unfold obB
    rw [hf, hw, g1, g4]
    simp
    omega
  obtain ⟨-, -, -, -, -, -, -, eK, eN, -⟩ := ob_spec hl.form ho
  rw [hw] at eK eN
  rw [g3] at eK
  rw [g4] at eN
  refine ⟨ho, eK, by omega, by omega, fun k k0 k1 => ?_⟩
  exact hl.tail x hx k k0 (by rw [hl.size x hx]; exact k1)
theorem laid_free {h : Hp} {L : List (Int × Int)} (hl : Laid h L) {p : Nat} (hp : p < h.m) (hs : ¬ (h.s p).st = 0) {i : Int} (i0 : 0 ≤ i) (i1 : i < blW (h.s p).cl) (hb : hasB (h.s p).fr i = true) {k : Int} (k0 : 0 ≤ k) (k1 : k < szW (h.s p).cl) : woH h (bkA h p i + k) = 0 := by
  obtain ⟨f1, f2, f3⟩ := fi_of (h := h) (p := (p : Int)) (i := i) hl.form (by omega) (by omega) (by rw [spH_nat]; exact hs) i0 (by rw [spH_nat]; exact i1)
  rw [spH_nat] at f1 f2 f3
  have e : 32 * (p : Int) + i * szW (h.s p).cl = bkA h p i := rfl
  rw [e] at f1 f2 f3
  obtain ⟨b0, b1, b2, b3, b4⟩ := block_in hl.form f1
  rw [f2, spH_nat] at b2 b3 b4
  refine laid_zero hl (by omega) (by omega) fun a hu hc => ?_
  have hfa : fiB h a = true := by simp only [usedB, Bool.and_eq_true] at hu; exact hu.1
  by_cases ea : a = bkA h p i
  · subst ea
    simp only [usedB, Bool.and_eq_true, Bool.not_eq_true'] at hu
    rw [f2, spH_nat, f3, hb] at hu
    exact absurd hu.2 (by simp)
  · have := blocks_apart hl.form hfa f1 ea
    rw [f2, spH_nat] at this
    omega
theorem laid_used {h : Hp} {L : List (Int × Int)} (hl : Laid h L) {p : Nat} (hp : p < h.m) (hs : ¬ (h.s p).st = 0) {i : Int} (i0 : 0 ≤ i) (i1 : i < blW (h.s p).cl) (hb : hasB (h.s p).fr i = false) : usedB h (bkA h p i) = true ∧ bkA h p i / 32 = p := by
  obtain ⟨f1, f2, f3⟩ := fi_of (h := h) (p := (p : Int)) (i := i) hl.form (by omega) (by omega) (by rw [spH_nat]; exact hs) i0 (by rw [spH_nat]; exact i1)
  rw [spH_nat] at f1 f2 f3
  have e : 32 * (p : Int) + i * szW (h.s p).cl = bkA h p i := rfl
  rw [e] at f1 f2 f3
  refine ⟨?_, f2⟩
  unfold usedB
  rw [f1, f2, spH_nat, f3, hb]
  rfl
theorem rfL_none {h : Hp} {a : Int} : ∀ k : Nat, (∀ j : Nat, j < k → woH h (a + 1 + j) = 0) → rfL h a k = []
  | 0, _ => rfl
  | k + 1, H => by
    rw [rfL_no (by rw [H k (by omega)]; decide)]
    exact rfL_none k fun j hj => H j (by omega)
theorem laid_ck {h : Hp} {L : List (Int × Int)} (hl : Laid h L) : ckH h = 0 := by
  have hnn := (form_iff.1 hl.form).2.2.1
  refine ck_zero.2 ⟨hl.form, ru2_iff.2 fun p hp => ?_, ru3_iff.2 fun p hp => ?_, ru4_iff.2 fun a ha => ?_⟩
  · by_cases hs : (h.s p).st = 0
    · unfold pg2
      rw [if_pos hs]
      refine noB_iff.2 fun t ht => laid_zero hl (by omega) (by omega) fun a hu hc => ?_
      have hfa : fiB h a = true := by simp only [usedB, Bool.and_eq_true] at hu; exact hu.1
      obtain ⟨b0, b1, b2, b3, b4⟩ := block_in hl.form hfa
      have ep : a / 32 = (p : Int) := by omega
      have := used_free (h := h) (a := a) (by rw [ep, spH_nat]; exact hs)
      rw [this] at hu
      cases hu
    · refine (pg2_used hs).2 fun i hi => ?_
      unfold bk2
      by_cases hb : hasB (h.s p).fr i = true
      · rw [if_pos hb]
        exact noB_iff.2 fun t ht => laid_free hl hp hs (by omega) hi hb (by omega) (by omega)
      · rw [if_neg hb]
        obtain ⟨hu, ep⟩ := laid_used hl hp hs (by omega) hi (by simpa using hb)
        obtain ⟨h1, h2, -⟩ := laid_head hl hu
        rw [ep, spH_nat] at h2
        rw [h1, h2]
        simp
  · by_cases hs : (h.s p).st = 0
    · unfold pg3; rw [if_pos hs]
    · refine (pg3_used hs).2 fun i hi => ?_
      unfold bk3
      by_cases hb : hasB (h.s p).fr i = true
      · rw [if_pos hb]
      · rw [if_neg hb]
        obtain ⟨hu, ep⟩ := laid_used hl hp hs (by omega) hi (by simpa using hb)
        obtain ⟨h1, h2, h3, h4, h5⟩ := laid_head hl hu
        rw [ep, spH_nat] at h4 h5
        refine noB_iff.2 fun t ht => ?_
        have := h5 (1 + obN h (bkA h p i) + t) (by omega) (by omega)
        rwa [show bkA h p i + (1 + obN h (bkA h p i) + (t : Int)) = bkA h p i + 1 + obN h (bkA h p i) + t by omega] at this
  · have ho := ((obL_mem h a h.n).1 ha).2.2
    obtain ⟨o1, o2, o3, o4, -⟩ := ob_spec hl.form ho
    have hu : usedB h a = true := by
      cases hu : usedB h a with
      | true => rfl
      | false =>
        have : woH h a = 0 := laid_zero hl o3 o4 fun b hb hc => by
          have hfb : fiB h b = true := by simp only [usedB, Bool.and_eq_true] at hb; exact hb.1
          by_cases eb : b = a
          · subst eb; rw [hu] at hb; cases hb
          · have h1 := blocks_apart hl.form hfb o1 eb
            have h2 := block_in hl.form o1
            omega
        rw [this] at o2
        exact absurd o2 (by decide)
    obtain ⟨-, -, h3, h4, h5⟩ := laid_head hl hu
    have er : rfH h a = [] := rfL_none _ fun j hj => by
      have := h5 (1 + j) (by omega) (by omega)
      rwa [show a + (1 + (j : Int)) = a + 1 + j by omega] at this
    unfold reB
    rw [er]
    simp
theorem laid_flip {h : Hp} {L : List (Int × Int)} (hl : Laid h L) : Laid (flipB h) L := ⟨hl.form, hl.wf, hl.all, hl.nodup, hl.size, hl.head, hl.tail, hl.rest, hl.sum⟩
theorem laid_deed {h : Hp} {L : List (Int × Int)} (hl : Laid h L) (d : Dd) : ∃ L', Laid (deH h d) L' := by
  unfold deH
  split
  · exact ⟨_, hl.open _ _⟩
  · split
    · exact ⟨_, (hl.lay _ _).1⟩
    · split
      · exact ⟨_, (hl.free _).1⟩
      · split
        · exact ⟨_, hl.close _⟩
        · exact ⟨_, laid_flip hl⟩
theorem laid_made {n : Nat} (h1 : 1 ≤ n) (h2 : n ≤ 16) (f : Nat → Dd) : ∀ k : Nat, ∃ L, Laid (maH (newH n) f k) L
  | 0 => ⟨_, Laid.new h1 h2⟩
  | k + 1 => by
    obtain ⟨L, hl⟩ := laid_made h1 h2 f k
    exact laid_deed hl (f k)
theorem made_sound {n : Nat} (h1 : 1 ≤ n) (h2 : n ≤ 16) (f : Nat → Dd) (k : Nat) : ckH (maH (newH n) f k) = 0 := by
  obtain ⟨L, hl⟩ := laid_made h1 h2 f k
  exact laid_ck hl

/-! What a sound heap is like. -/
theorem sound_word {h : Hp} (hF : formB h = true) (h2 : ru2 h = true) (h3 : ru3 h = true) {i : Int} (i0 : 0 ≤ i) (i1 : i < h.n) (hz : ¬ woH h i = 0) : ∃ a, obB h a = true ∧ a ≤ i ∧ i ≤ a + obN h a := by
  have hnn := (form_iff.1 hF).2.2.1
  obtain ⟨p, ep⟩ : ∃ p : Nat, (p : Int) = i / 32 := ⟨(i / 32).toNat, by omega⟩
  have hp : p < h.m := by omega
  have k2 := ru2_iff.1 h2 p hp
  have k3 := ru3_iff.1 h3 p hp
  by_cases hs : (h.s p).st = 0
  · unfold pg2 at k2
    rw [if_pos hs] at k2
    have := noB_iff.1 k2 (i % 32).toNat (by omega)
    rw [show 32 * (p : Int) + ((i % 32).toNat : Int) = i by omega] at this
    exact absurd this hz
  · have hb : ∃ b : Nat, (b : Int) < blW (h.s p).cl ∧ bkA h p b ≤ i ∧ i < bkA h p b + szW (h.s p).cl := by
      have hr := (form_iff.1 hF).2.2.2 p hp
      rcases right_iff.1 hr with ⟨h0, -⟩ | ⟨-, c0, c1, -⟩
      · exact absurd h0 hs
      · unfold bkA
        rcases cl_cases (h.s p).cl with ⟨-, e1, e2, -⟩ | ⟨-, e1, e2, -⟩ | ⟨-, e1, e2, -⟩ | ⟨-, e1, e2, -⟩ | ⟨e, -⟩
        · rw [e1, e2]; exact ⟨(i % 32 / 2).toNat, by omega, by omega, by omega⟩
        · rw [e1, e2]; exact ⟨(i % 32 / 4).toNat, by omega, by omega, by omega⟩
        · rw [e1, e2]; exact ⟨(i % 32 / 8).toNat, by omega, by omega, by omega⟩
        · rw [e1, e2]; exact ⟨(i % 32 / 16).toNat, by omega, by omega, by omega⟩
        · exact absurd ⟨c0, c1⟩ e
    obtain ⟨b, b1, b2, b3⟩ := hb
    replace k2 := (pg2_used hs).1 k2 b b1
    replace k3 := (pg3_used hs).1 k3 b b1
    unfold bk2 at k2
    unfold bk3 at k3
    by_cases hf : hasB (h.s p).fr b = true
    · rw [if_pos hf] at k2
      have := noB_iff.1 k2 (i - bkA h p b).toNat (by omega)
      rw [show bkA h p b + ((i - bkA h p b).toNat : Int) = i by omega] at this
      exact absurd this hz
    · rw [if_neg hf] at k2 k3
      simp only [Bool.and_eq_true] at k2
      refine ⟨bkA h p b, k2.1, b2, ?_⟩
      by_cases hc : i ≤ bkA h p b + obN h (bkA h p b)
      · exact hc
      · have := noB_iff.1 k3 (i - (bkA h p b + 1 + obN h (bkA h p b))).toNat (by omega)
        rw [show bkA h p b + 1 + obN h (bkA h p b) + ((i - (bkA h p b + 1 + obN h (bkA h p b))).toNat : Int) = i by omega] at this
        exact absurd this hz
theorem sound_refs {h : Hp} (h4 : ru4 h = true) {a : Int} (ha : a ∈ obL h h.n) (hq : (spH h (a / 32)).st = 1 ∨ blB h a = true) : ∀ r ∈ rfH h a, obB h r = true := by
  have := ru4_iff.1 h4 a ha
  unfold reB at this
  rw [if_neg (by rcases hq with e | e <;> simp [e])] at this
  exact List.all_eq_true.1 this
/-- An object of a sound heap fits its block, and its block isn't free. -/
theorem sound_obj {h : Hp} (hF : formB h = true) (h2 : ru2 h = true) {a : Int} (ho : obB h a = true) : obK h a = (spH h (a / 32)).cl ∧ 0 ≤ obN h a ∧ obN h a < szW (spH h (a / 32)).cl ∧ hasB (spH h (a / 32)).fr (plI (spH h (a / 32)).cl a) = false := by
  obtain ⟨o1, o2, o3, o4, -, -, -, eK, eN, hm⟩ := ob_spec hF ho
  obtain ⟨p0, p1, -, hst, -, i0, i1, ea⟩ := fi_spec hF o1
  obtain ⟨p, ep⟩ : ∃ p : Nat, (p : Int) = a / 32 := ⟨(a / 32).toNat, by omega⟩
  have esp : spH h (a / 32) = h.s p := by rw [← ep, spH_nat]
  rw [esp] at hst i0 i1 ea ⊢
  rw [← ep] at ea
  have hs : ¬ (h.s p).st = 0 := by omega
  obtain ⟨b, eb⟩ : ∃ b : Nat, (b : Int) = plI (h.s p).cl a := ⟨(plI (h.s p).cl a).toNat, by omega⟩
  rw [← eb] at i1 ea ⊢
  have k2 := (pg2_used hs).1 (ru2_iff.1 h2 p (by omega)) b i1
  unfold bk2 at k2
  have eA : bkA h p b = a := ea
  rw [eA] at k2
  obtain ⟨-, -, f0, f1⟩ := may_class hm
  rw [← eN, ← eK] at f1
  rw [← eN] at f0
  by_cases hf : hasB (h.s p).fr b = true
  · rw [if_pos hf] at k2
    have := noB_iff.1 k2 0 (by
      rcases cl_cases (h.s p).cl with ⟨-, e1, e2, -⟩ | ⟨-, e1, e2, -⟩ | ⟨-, e1, e2, -⟩ | ⟨-, e1, e2, -⟩ | ⟨-, e1, e2, -⟩
      all_goals (rw [e2] at i1; rw [e1]; omega))
    rw [show a + ((0 : Nat) : Int) = a by omega] at this
    rw [this] at o2
    exact absurd o2 (by decide)
  · rw [if_neg hf] at k2
    simp only [Bool.and_eq_true, beq_iff_eq] at k2
    exact ⟨k2.2, f0, by rw [k2.2] at f1; exact f1, by simpa using hf⟩
theorem wo_put {h : Hp} {p x b : Int} (b0 : 0 ≤ b) (hne : ¬ b = p) : woH (putH h p x) b = woH h b := by
  show putZ h.z p x b.toNat = h.z b.toNat
  unfold putZ; rw [if_neg (by omega)]
theorem wo_same {h : Hp} {p x : Int} (p0 : 0 ≤ p) : woH (putH h p x) p = x := by
  show putZ h.z p x p.toNat = x
  unfold putZ; rw [if_pos (by omega)]
theorem ob_put {h : Hp} {p x b : Int} (hne : ¬ b = p) : obB (putH h p x) b = obB h b ∧ obC (putH h p x) b = obC h b ∧ obK (putH h p x) b = obK h b ∧ obN (putH h p x) b = obN h b := by
  have hfi : fiB (putH h p x) b = fiB h b := rfl
  by_cases b0 : 0 ≤ b
  · have e := wo_put (h := h) (x := x) b0 hne
    have hob : obB (putH h p x) b = obB h b := by unfold obB; rw [e, hfi]
    exact ⟨hob, by unfold obC; rw [hob, e], by unfold obK; rw [hob, e], by unfold obN; rw [hob, e]⟩
  · have hf : fiB h b = false := by unfold fiB; rw [inI_no (by omega)]; rfl
    have o1 : obB h b = false := by unfold obB; rw [hf]; rfl
    have o2 : obB (putH h p x) b = false := by unfold obB; rw [hfi, hf]; rfl
    obtain ⟨a1, a2, a3⟩ := ob_no o1
    obtain ⟨b1, b2, b3⟩ := ob_no o2
    exact ⟨by rw [o1, o2], by rw [a1, b1], by rw [a2, b2], by rw [a3, b3]⟩
/-- One more bit where no object reaches. -/
theorem spoilt {h : Hp} (hF : formB h = true) {i : Int} (i0 : 0 ≤ i) (i1 : i < h.n) (hno : ∀ a, obB h a = true → ¬ (a ≤ i ∧ i ≤ a + obN h a)) : ckH (putH h i 1) = 2 ∨ ckH (putH h i 1) = 3 := by
  have hG : formB (putH h i 1) = true := hF
  cases h2 : ru2 (putH h i 1) with
  | false => exact .inl (ck_two hG h2)
  | true =>
    cases h3 : ru3 (putH h i 1) with
    | false => exact .inr (ck_three hG h2 h3)
    | true =>
      exfalso
      obtain ⟨a, ho, a1, a2⟩ := sound_word hG h2 h3 i0 (show i < (putH h i 1).n from i1) (by rw [wo_same i0]; decide)
      by_cases e : a = i
      · subst e
        have := (ob_spec hG ho).2.1
        rw [wo_same i0] at this
        exact absurd this (by decide)
      · obtain ⟨e1, -, -, e2⟩ := ob_put (h := h) (x := 1) (b := a) e
        rw [e1] at ho
        rw [e2] at a2
        exact hno a ho ⟨a1, a2⟩

/-! What leaves a heap sound. -/
theorem no_put {h : Hp} {a q x : Int} {n : Nat} (a0 : 0 ≤ a) (hq : ¬ (a ≤ q ∧ q < a + n)) : noB (putH h q x) a n = noB h a n := by
  rw [Bool.eq_iff_iff, noB_iff, noB_iff]
  constructor
  · intro H t ht
    have := H t ht
    rwa [wo_put (by omega) (by omega)] at this
  · intro H t ht
    rw [wo_put (by omega) (by omega)]
    exact H t ht
/-- A word of an object is of no other block. -/
theorem in_block {h : Hp} (hF : formB h = true) {a b q : Int} (ha : fiB h a = true) (hb : fiB h b = true) (a0 : a ≤ q) (a1 : q < a + szW (spH h (a / 32)).cl) (b0 : b ≤ q) (b1 : q < b + szW (spH h (b / 32)).cl) : b = a := by
  by_cases e : b = a
  · exact e
  · have := blocks_apart hF ha hb (fun h => e h.symm)
    omega
theorem keep_rules {h : Hp} {a q x : Int} (hF : formB h = true) (h2 : ru2 h = true) (h3 : ru3 h = true) (ho : obB h a = true) (q0 : a ≤ q) (q1 : q ≤ a + obN h a)
    (hob : ∀ b, obB (putH h q x) b = obB h b ∧ obK (putH h q x) b = obK h b ∧ obN (putH h q x) b = obN h b) : ru2 (putH h q x) = true ∧ ru3 (putH h q x) = true := by
  obtain ⟨o1, o2, o3, o4, -⟩ := ob_spec hF ho
  obtain ⟨sK, s0, s1, s2⟩ := sound_obj hF h2 ho
  obtain ⟨c0, c1, c2, c3, c4⟩ := block_in hF o1
  obtain ⟨-, -, -, hst, -⟩ := fi_spec hF o1
  have hbk : ∀ p i, bkA (putH h q x) p i = bkA h p i := fun p i => rfl
  have huse : ∀ p, p < h.m → ¬ (h.s p).st = 0 → ∀ b : Nat, (b : Int) < blW (h.s p).cl → 0 ≤ bkA h p b ∧ fiB h (bkA h p b) = true ∧ spH h (bkA h p b / 32) = h.s p ∧ plI (h.s p).cl (bkA h p b) = b := fun p hp hs b hb => by
    obtain ⟨f1, f2, f3⟩ := fi_of (h := h) (p := (p : Int)) (i := b) hF (by omega) (by omega) (by rw [spH_nat]; exact hs) (by omega) (by rw [spH_nat]; exact hb)
    rw [spH_nat] at f1 f2 f3
    have e : 32 * (p : Int) + b * szW (h.s p).cl = bkA h p b := rfl
    rw [e] at f1 f2 f3
    exact ⟨(block_in hF f1).1, f1, by rw [f2, spH_nat], f3⟩
  refine ⟨ru2_iff.2 fun p hp => ?_, ru3_iff.2 fun p hp => ?_⟩
  · have k2 := ru2_iff.1 h2 p hp
    by_cases hs : (h.s p).st = 0
    · unfold pg2 at k2 ⊢
      rw [if_pos hs] at k2
      rw [if_pos (show ((putH h q x).s p).st = 0 from hs), no_put (by omega) ?_]
      · exact k2
      · intro hc
        have ep : a / 32 = (p : Int) := by omega
        rw [ep, spH_nat] at hst
        omega
    · refine (pg2_used (h := putH h q x) hs).2 fun b hb => ?_
      have k := (pg2_used hs).1 k2 b hb
      obtain ⟨A0, A1, A2, A3⟩ := huse p hp hs b hb
      unfold bk2 at k ⊢
      rw [hbk]
      obtain ⟨e1, e2, e3⟩ := hob (bkA h p b)
      rw [e1, e2]
      by_cases hf : hasB (h.s p).fr b = true
      · rw [if_pos hf] at k
        rw [if_pos (show hasB ((putH h q x).s p).fr b = true from hf)]
        show noB (putH h q x) (bkA h p b) (szW (h.s p).cl).toNat = true
        rw [no_put A0 ?_]
        · exact k
        · intro hc
          have := in_block hF o1 A1 q0 (by omega) hc.1 (by rw [A2]; omega)
          rw [this] at A2 A3
          rw [A2, A3, hf] at s2
          cases s2
      · rw [if_neg hf] at k
        rw [if_neg (show ¬ hasB ((putH h q x).s p).fr b = true from hf)]
        exact k
  · have k3 := ru3_iff.1 h3 p hp
    by_cases hs : (h.s p).st = 0
    · unfold pg3; rw [if_pos (show ((putH h q x).s p).st = 0 from hs)]
    · refine (pg3_used (h := putH h q x) hs).2 fun b hb => ?_
      have k := (pg3_used hs).1 k3 b hb
      obtain ⟨A0, A1, A2, A3⟩ := huse p hp hs b hb
      unfold bk3 at k ⊢
      rw [hbk]
      obtain ⟨e1, e2, e3⟩ := hob (bkA h p b)
      rw [e3]
      by_cases hf : hasB (h.s p).fr b = true
      · rw [if_pos (show hasB ((putH h q x).s p).fr b = true from hf)]
      · rw [if_neg hf] at k
        rw [if_neg (show ¬ hasB ((putH h q x).s p).fr b = true from hf)]
        show noB (putH h q x) (bkA h p b + 1 + obN h (bkA h p b)) (szW (h.s p).cl - 1 - obN h (bkA h p b)).toNat = true
        have hN : 0 ≤ obN h (bkA h p b) := by
          cases hoA : obB h (bkA h p b) with
          | false => rw [(ob_no hoA).2.2]; omega
          | true => exact (sound_obj hF h2 hoA).2.1
        rw [no_put (by omega) ?_]
        · exact k
        · intro hc
          have := in_block hF o1 A1 q0 (by omega) (by omega) (by rw [A2]; omega)
          rw [this] at hc
          omega
theorem obL_congr {h g : Hp} (hob : ∀ b, obB g b = obB h b) : ∀ k, obL g k = obL h k
  | 0 => rfl
  | k + 1 => by
    have ih := obL_congr hob k
    unfold obL
    rw [hob, ih]
theorem rfL_mem {h : Hp} {a r : Int} : ∀ k : Nat, r ∈ rfL h a k ↔ ∃ j : Nat, j < k ∧ getK (woH h (a + 1 + j)) = 2 ∧ r = getN (woH h (a + 1 + j))
  | 0 => by simp [rfL]
  | k + 1 => by
    have ih := rfL_mem (h := h) (a := a) (r := r) k
    by_cases e : getK (woH h (a + 1 + k)) = 2
    · rw [rfL_yes e, List.mem_append, ih]
      constructor
      · rintro (⟨j, j0, j1, j2⟩ | hr)
        · exact ⟨j, by omega, j1, j2⟩
        · exact ⟨k, by omega, e, by simpa using hr⟩
      · rintro ⟨j, j0, j1, j2⟩
        by_cases ej : j = k
        · subst ej; exact .inr (by simpa using j2)
        · exact .inl ⟨j, by omega, j1, j2⟩
    · rw [rfL_no e, ih]
      constructor
      · rintro ⟨j, j0, j1, j2⟩; exact ⟨j, by omega, j1, j2⟩
      · rintro ⟨j, j0, j1, j2⟩
        by_cases ej : j = k
        · subst ej; exact absurd j1 e
        · exact ⟨j, by omega, j1, j2⟩
theorem rfH_mem {h : Hp} {a r : Int} : r ∈ rfH h a ↔ ∃ j : Nat, (j : Int) < obN h a ∧ getK (woH h (a + 1 + j)) = 2 ∧ r = getN (woH h (a + 1 + j)) := by
  unfold rfH
  rw [rfL_mem]
  constructor
  · rintro ⟨j, j0, j1⟩; exact ⟨j, by omega, j1⟩
  · rintro ⟨j, j0, j1⟩; exact ⟨j, by omega, j1⟩
theorem get_put {k n : Int} (hm : mayB k n = true) : getK (putV k n) = k ∧ getN (putV k n) = n := by
  rcases may_cases hm with ⟨rfl, rfl⟩ | ⟨rfl, h0⟩ | ⟨rfl, h0, h1⟩
  · decide
  · constructor
    · unfold putV getK; simp; omega
    · unfold putV getN; simp; omega
  · constructor
    · unfold putV getK; simp; omega
    · unfold putV getN; simp; omega
theorem stays_set {h : Hp} (hck : ckH h = 0) {a i k n : Int} (he : fdE h a i = 0) (hm : mayB k n = true) (hk : k = 2 → obB h n = true) : ckH (seH h a i k n) = 0 := by
  obtain ⟨hF, h2, h3, h4⟩ := ck_zero.1 hck
  have e1 : seH h a i k n = putH h (a + 1 + i) (putV k n) := by unfold seH seE; rw [if_pos (by rw [if_pos he, if_pos hm])]
  rcases fd_cases h a i with ⟨ho, i0, i1, -⟩ | ⟨-, -, e, -⟩ | ⟨-, e, -⟩
  · obtain ⟨o1, o2, o3, o4, -⟩ := ob_spec hF ho
    obtain ⟨sK, s0, s1, s2⟩ := sound_obj hF h2 ho
    have hq : fiB h (a + 1 + i) = false := by
      cases e : fiB h (a + 1 + i) with
      | false => rfl
      | true =>
        have := block_in hF e
        have := in_block hF o1 e (q := a + 1 + i) (by omega) (by omega) (by omega) (by omega)
        omega
    have hall : ∀ b, obB (putH h (a + 1 + i) (putV k n)) b = obB h b ∧ obC (putH h (a + 1 + i) (putV k n)) b = obC h b ∧ obK (putH h (a + 1 + i) (putV k n)) b = obK h b ∧ obN (putH h (a + 1 + i) (putV k n)) b = obN h b := fun b => by
      by_cases e : b = a + 1 + i
      · subst e
        have p1 : obB h (a + 1 + i) = false := by unfold obB; rw [hq]; rfl
        have p2 : obB (putH h (a + 1 + i) (putV k n)) (a + 1 + i) = false := by unfold obB; rw [show fiB (putH h (a + 1 + i) (putV k n)) (a + 1 + i) = fiB h (a + 1 + i) from rfl, hq]; rfl
        obtain ⟨a1, a2, a3⟩ := ob_no p1
        obtain ⟨b1, b2, b3⟩ := ob_no p2
        exact ⟨by rw [p1, p2], by rw [a1, b1], by rw [a2, b2], by rw [a3, b3]⟩
      · exact ob_put e
    obtain ⟨r2, r3⟩ := keep_rules (x := putV k n) hF h2 h3 ho (q := a + 1 + i) (by omega) (by omega) fun b => ⟨(hall b).1, (hall b).2.2.1, (hall b).2.2.2⟩
    rw [e1]
    refine ck_zero.2 ⟨hF, r2, r3, ru4_iff.2 fun b hb => ?_⟩
    have hb' : b ∈ obL h h.n := by rw [← obL_congr fun b => (hall b).1]; exact hb
    have kb := ru4_iff.1 h4 b hb'
    have hbl : blB (putH h (a + 1 + i) (putV k n)) b = blB h b := by unfold blB; rw [(hall b).1, (hall b).2.1]; rfl
    unfold reB at kb ⊢
    rw [hbl]
    show (if (spH h (b / 32)).st != 1 && !blB h b then true else (rfH (putH h (a + 1 + i) (putV k n)) b).all (obB (putH h (a + 1 + i) (putV k n)))) = true
    by_cases hc : ((spH h (b / 32)).st != 1 && !blB h b) = true
    · rw [if_pos hc]
    · rw [if_neg hc] at kb ⊢
      refine List.all_eq_true.2 fun r hr => ?_
      rw [(hall r).1]
      obtain ⟨j, j0, j1, rfl⟩ := rfH_mem.1 hr
      rw [(hall b).2.2.2] at j0
      have hb0 := ((obL_mem h b h.n).1 hb').1
      by_cases ej : b + 1 + j = a + 1 + i
      · rw [ej, wo_same (by omega)] at j1 ⊢
        obtain ⟨g1, g2⟩ := get_put hm
        rw [g1] at j1
        rw [g2]
        exact hk j1
      · rw [wo_put (by omega) ej] at j1 ⊢
        exact List.all_eq_true.1 kb _ (rfH_mem.2 ⟨j, j0, j1, rfl⟩)
  · omega
  · omega
theorem stays_paint {h : Hp} (hck : ckH h = 0) {a : Int} (ho : obB h a = true) (hr : ∀ r ∈ rfH h a, obB h r = true) : ckH (paH h a) = 0 := by
  obtain ⟨hF, h2, h3, h4⟩ := ck_zero.1 hck
  obtain ⟨o1, o2, o3, o4, o5, o6, oC, oK, oN, hm⟩ := ob_spec hF ho
  obtain ⟨sK, s0, s1, s2⟩ := sound_obj hF h2 ho
  have e1 : paH h a = putH h a (hputW true h.b (obK h a) (obN h a)) := by unfold paH; rw [if_pos ho]
  rw [← oK, ← oN] at hm
  obtain ⟨g1, g2, g3, g4⟩ := got_of (may_any_colour (c' := h.b) hm)
  have hoa : obB (putH h a (hputW true h.b (obK h a) (obN h a))) a = true := by
    unfold obB
    rw [wo_same o3, show fiB (putH h a (hputW true h.b (obK h a) (obN h a))) a = fiB h a from rfl, o1, g1, g4, oN]
    simp
    exact o5
  have hall : ∀ b, obB (putH h a (hputW true h.b (obK h a) (obN h a))) b = obB h b ∧ obK (putH h a (hputW true h.b (obK h a) (obN h a))) b = obK h b ∧ obN (putH h a (hputW true h.b (obK h a) (obN h a))) b = obN h b := fun b => by
    by_cases e : b = a
    · subst e
      obtain ⟨-, -, -, -, -, -, -, pK, pN, -⟩ := ob_spec (h := putH h b (hputW true h.b (obK h b) (obN h b))) hF hoa
      rw [wo_same o3] at pK pN
      exact ⟨by rw [hoa, ho], by rw [pK, g3], by rw [pN, g4]⟩
    · obtain ⟨a1, -, a2, a3⟩ := ob_put (h := h) (x := hputW true h.b (obK h a) (obN h a)) e
      exact ⟨a1, a2, a3⟩
  obtain ⟨r2, r3⟩ := keep_rules (x := hputW true h.b (obK h a) (obN h a)) hF h2 h3 ho (q := a) (by omega) (by omega) hall
  rw [e1]
  refine ck_zero.2 ⟨hF, r2, r3, ru4_iff.2 fun b hb => ?_⟩
  have hb' : b ∈ obL h h.n := by rw [← obL_congr fun b => (hall b).1]; exact hb
  obtain ⟨b0, b1, hob⟩ := (obL_mem h b h.n).1 hb'
  have kb := ru4_iff.1 h4 b hb'
  have hw : ∀ j : Nat, (j : Int) < obN h b → woH (putH h a (hputW true h.b (obK h a) (obN h a))) (b + 1 + j) = woH h (b + 1 + j) := fun j hj => by
    refine wo_put (by omega) fun e => ?_
    have hfb := (ob_spec hF hob).1
    obtain ⟨-, -, t1, -⟩ := sound_obj hF h2 hob
    have := in_block hF hfb o1 (q := a) (by omega) (by omega) (by omega) (by have := block_in hF o1; omega)
    omega
  unfold reB at kb ⊢
  by_cases eb : b = a
  · subst eb
    split
    · rfl
    · refine List.all_eq_true.2 fun r hr' => ?_
      rw [(hall r).1]
      obtain ⟨j, j0, j1, rfl⟩ := rfH_mem.1 hr'
      rw [(hall b).2.2] at j0
      rw [hw j j0] at j1 ⊢
      exact hr _ (rfH_mem.2 ⟨j, j0, j1, rfl⟩)
  · have hbl : blB (putH h a (hputW true h.b (obK h a) (obN h a))) b = blB h b := by
      unfold blB; rw [(hall b).1, (ob_put (h := h) (x := hputW true h.b (obK h a) (obN h a)) eb).2.1]; rfl
    rw [hbl]
    show (if (spH h (b / 32)).st != 1 && !blB h b then true else (rfH (putH h a (hputW true h.b (obK h a) (obN h a))) b).all (obB (putH h a (hputW true h.b (obK h a) (obN h a))))) = true
    by_cases hc : ((spH h (b / 32)).st != 1 && !blB h b) = true
    · rw [if_pos hc]
    · rw [if_neg hc] at kb ⊢
      refine List.all_eq_true.2 fun r hr' => ?_
      rw [(hall r).1]
      obtain ⟨j, j0, j1, rfl⟩ := rfH_mem.1 hr'
      rw [(hall b).2.2] at j0
      rw [hw j j0] at j1 ⊢
      exact List.all_eq_true.1 kb _ (rfH_mem.2 ⟨j, j0, j1, rfl⟩)

/-- The list of all objects as a row of numbers. -/
theorem list_all {h : Hp} (hF : formB h = true) : ∃ (M : Nat) (z : Nat → Int), (obL h h.n).length = M ∧ (fun i => (obL h h.n)[i]?.getD 0) = z ∧ M ≤ 512 ∧ (∀ t : Nat, t < M → z t ∈ obL h h.n) ∧ (∀ a, a ∈ obL h h.n → ∃ t : Nat, t < M ∧ z t = a) ∧ ∀ a, inZ M z a = obB h a := by
  have hl := obL_len h h.n
  have hn : h.n ≤ 512 := by have := form_iff.1 hF; omega
  have hz : ∀ t (ht : t < (obL h h.n).length), (obL h h.n)[t]?.getD 0 = (obL h h.n)[t] := fun t ht => by simp [ht]
  refine ⟨_, _, rfl, rfl, by omega, fun t ht => ?_, fun a ha => ?_, fun a => ?_⟩
  · show (obL h h.n)[t]?.getD 0 ∈ obL h h.n
    rw [hz t ht]
    exact List.getElem_mem ht
  · obtain ⟨t, ht, e'⟩ := List.getElem_of_mem ha
    exact ⟨t, ht, by show (obL h h.n)[t]?.getD 0 = a; rw [hz t ht]; exact e'⟩
  · rw [Bool.eq_iff_iff, inZ_iff]
    constructor
    · rintro ⟨t, ht, e⟩
      have e' : (obL h h.n)[t]?.getD 0 = a := e
      rw [hz t ht] at e'
      rw [← e']
      exact ((obL_mem h _ _).1 (List.getElem_mem ht)).2.2
    · intro e
      obtain ⟨-, -, a0, a1, -⟩ := ob_spec hF e
      obtain ⟨t, ht, e'⟩ := List.getElem_of_mem ((obL_mem h a h.n).2 ⟨a0, a1, e⟩)
      exact ⟨t, ht, by show (obL h h.n)[t]?.getD 0 = a; rw [hz t ht]; exact e'⟩
theorem refs_all {h : Hp} (hF : formB h = true) (a : Int) : ∃ (M : Nat) (y : Nat → Int), (rfH h a).length = M ∧ (fun i => (rfH h a)[i]?.getD 0) = y ∧ M ≤ 15 ∧ (∀ t : Nat, t < M → y t ∈ rfH h a) ∧ ∀ r, r ∈ rfH h a → ∃ t : Nat, t < M ∧ y t = r := by
  have hl : (rfH h a).length ≤ 15 := by
    unfold rfH
    have := rfL_len h a (obN h a).toNat
    have hb : 0 ≤ obN h a ∧ obN h a ≤ 15 := by
      cases ho : obB h a with
      | false => rw [(ob_no ho).2.2]; omega
      | true => have := gN_bound (X := woH h a); rw [(ob_spec hF ho).2.2.2.2.2.2.2.2.1]; exact this
    omega
  have hz : ∀ t (ht : t < (rfH h a).length), (rfH h a)[t]?.getD 0 = (rfH h a)[t] := fun t ht => by simp [ht]
  refine ⟨_, _, rfl, rfl, hl, fun t ht => ?_, fun r hr => ?_⟩
  · show (rfH h a)[t]?.getD 0 ∈ rfH h a
    rw [hz t ht]
    exact List.getElem_mem ht
  · obtain ⟨t, ht, e'⟩ := List.getElem_of_mem hr
    exact ⟨t, ht, by show (rfH h a)[t]?.getD 0 = r; rw [hz t ht]; exact e'⟩
end Go.Proofs.YtokbggokkjefhaaDoor
