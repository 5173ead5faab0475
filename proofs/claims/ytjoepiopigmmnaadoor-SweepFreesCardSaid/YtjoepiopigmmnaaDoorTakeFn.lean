/- Taking as data (chapter 11): plain lemmas. -/
import Derived.Test.YtjoepiopigmmnaaDoorRef11
namespace Go.Proofs.YtjoepiopigmmnaaDoor
set_option linter.unusedSimpArgs false
set_option linter.unusedVariables false

theorem right_in {h : Hp} {n : Nat} {y : Nat → Int} (hr : rightY h n y = true) {j : Nat} (hj : j < n * 4) : y j < h.m := by
  rcases rightY_iff.1 hr j hj with e | ⟨-, e, -⟩
  · omega
  · exact e
theorem right_use {h : Hp} {n : Nat} {y : Nat → Int} (hr : rightY h n y = true) {j : Nat} (hj : j < n * 4) (h0 : 0 ≤ y j) : ¬ (spH h (y j)).st = 0 ∧ (spH h (y j)).cl = (j % 4 : Nat) ∧ cntY y (y j) (n * 4) = 1 := by
  rcases rightY_iff.1 hr j hj with e | ⟨-, -, e⟩
  · omega
  · exact e
theorem find_in {f : Nat → Bool} {n i : Nat} (h : (List.range n).find? f = some i) : i < n ∧ f i = true := by
  rw [List.find?_range_eq_some] at h
  exact ⟨List.mem_range.1 h.2.1, h.1⟩
/-- What is known of the page that is found. -/
theorem page_is {h : Hp} {n : Nat} {y : Nat → Int} {m c p : Nat} (hr : rightY h n y = true) (hm : m < n) (hc : c < 4) (hp : pageY h n y m c = some p) : p < h.m ∧ ((h.s p).st = 0 ∨ ((h.s p).cl = c ∧ openY (h.s p) = true)) := by
  unfold pageY at hp
  split at hp
  · rename_i hown
    injection hp with hp
    have h1 := right_in hr (show m * 4 + c < n * 4 by omega)
    have h2 := right_use hr (show m * 4 + c < n * 4 by omega) hown.1
    subst hp
    refine ⟨by omega, .inr ⟨?_, hown.2⟩⟩
    have := h2.2.1
    rw [show (m * 4 + c) % 4 = c by omega] at this
    exact this
  · cases e : (List.range h.m).find? (roomY h n y c) with
    | some i =>
      rw [e] at hp
      injection hp with hp
      subst hp
      obtain ⟨h1, h2⟩ := find_in e
      simp only [roomY, Bool.and_eq_true, decide_eq_true_eq] at h2
      exact ⟨h1, .inr ⟨h2.1.1, h2.1.2⟩⟩
    | none =>
      rw [e, Option.none_or] at hp
      obtain ⟨h1, h2⟩ := find_in hp
      exact ⟨h1, .inl (by simpa using h2)⟩
/-- Is the page kept by a place of the caches? Where one is found that is clean: it is the mutator's own, or in none. -/
theorem page_free {h : Hp} {n : Nat} {y : Nat → Int} {m c p : Nat} (hp : pageY h n y m c = some p) : (y (m * 4 + c) = p) ∨ keptY n y p = false ∨ (h.s p).st = 0 := by
  unfold pageY at hp
  split at hp
  · rename_i hown
    injection hp with hp
    exact .inl (by omega)
  · cases e : (List.range h.m).find? (roomY h n y c) with
    | some i =>
      rw [e] at hp
      injection hp with hp
      subst hp
      obtain ⟨-, h2⟩ := find_in e
      simp only [roomY, Bool.and_eq_true, decide_eq_true_eq] at h2
      exact .inr (.inl (by simpa using h2.2))
    | none =>
      rw [e, Option.none_or] at hp
      obtain ⟨-, h2⟩ := find_in hp
      exact .inr (.inr (by simpa using h2))
/-- The class, as a place. -/
theorem ofC_at (f : Int) : 0 ≤ ofC f ∧ ofC f < 4 := by
  unfold ofC
  repeat' split
  all_goals omega
/-- The page for so many fields, if there is a class for them. -/
def takeP (h : Hp) (n : Nat) (y : Nat → Int) (m : Nat) (f : Int) : Option Nat := if ofB f = true then pageY h n y m (ofC f).toNat else none
def takeH (h : Hp) (n : Nat) (y : Nat → Int) (m : Nat) (f : Int) : Hp := match takeP h n y m f with
  | some p => laH (opH h p (ofC f)) p f
  | none => h
def takeA (h : Hp) (n : Nat) (y : Nat → Int) (m : Nat) (f : Int) : Int := match takeP h n y m f with
  | some p => laA (opH h p (ofC f)) p f
  | none => 0
def takeY (h : Hp) (n : Nat) (y : Nat → Int) (m : Nat) (f : Int) : Nat → Int := match takeP h n y m f with
  | some p => fun j => if j = m * 4 + (ofC f).toNat then p else y j
  | none => y
theorem sz_of {f : Int} (h0 : 0 ≤ f) (h1 : f ≤ 15) : f < szW (ofC f) := by
  unfold ofC szW
  repeat' split
  all_goals omega
theorem whole_least {c : Int} (h0 : 0 ≤ c) (h1 : c < 4) : leastB (wholeW (blW c)) = true := by
  have : c = 0 ∨ c = 1 ∨ c = 2 ∨ c = 3 := by omega
  rcases this with rfl | rfl | rfl | rfl <;> decide
theorem open_st {s : Sp} (h : openY s = true) : s.st = 1 ∧ leastB s.fr = true := by
  simp only [openY, Bool.and_eq_true, decide_eq_true_eq] at h
  refine ⟨h.1, ?_⟩
  by_cases e : s.fr = 0
  · rw [e] at h
    exact absurd h.2 (by decide)
  · simp [leastB, e]
/-- What is found can be laid in. -/
theorem take_lays {h : Hp} {n : Nat} {y : Nat → Int} {m p : Nat} {f : Int} (hF : formB h = true) (hr : rightY h n y = true) (hm : m < n) (hp : takeP h n y m f = some p) : p < h.m ∧ laB (opH h p (ofC f)) p f = true := by
  unfold takeP at hp
  split at hp
  · rename_i hB
    obtain ⟨c0, c1⟩ := ofC_at f
    obtain ⟨hpm, hs⟩ := page_is hr hm (by omega) hp
    refine ⟨hpm, ?_⟩
    have hf : 0 ≤ f ∧ f ≤ 15 := by simpa [ofB] using hB
    have hsz := sz_of hf.1 hf.2
    have hin : inI h.m (p : Int) = true := by simp [inI]; omega
    have hcl : clB (ofC f) = true := by simp [clB]; omega
    by_cases h0 : (h.s p).st = 0
    · have ho : opB h p (ofC f) = true := by
        have : (spH h p).st = 0 := by simpa [spH] using h0
        simp [opB, hin, hcl, this]
      have hg : opH h p (ofC f) = withS h p ⟨1, ofC f, wholeW (blW (ofC f))⟩ := by unfold opH; rw [if_pos ho]
      have hsp : spH (withS h p ⟨1, ofC f, wholeW (blW (ofC f))⟩) p = ⟨1, ofC f, wholeW (blW (ofC f))⟩ := by simp [spH, withS, setS]
      rw [hg]
      unfold laB
      rw [hsp]
      simp [withS, hin, hf.1, hsz, takeB, whole_least c0 c1]
    · obtain ⟨hc, hO⟩ := hs.resolve_left h0
      obtain ⟨h1, h2⟩ := open_st hO
      have ho : ¬ opB h p (ofC f) = true := by
        have : ¬ (spH h p).st = 0 := by simpa [spH] using h0
        simp [opB, this]
      have hg : opH h p (ofC f) = h := by unfold opH; rw [if_neg ho]
      have hsp : spH h (p : Int) = h.s p := by simp [spH]
      rw [hg]
      unfold laB
      rw [hsp]
      have hsz' : f < szW (h.s p).cl := by rw [hc, Int.toNat_of_nonneg c0]; exact hsz
      simp [hin, hf.1, hsz', takeB, h1, h2]
  · cases hp
end Go.Proofs.YtjoepiopigmmnaaDoor
