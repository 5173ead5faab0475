/- Contracts of the reference's Open, Close, Lay, Free (chapter 7). -/
import Derived.Test.YtjlflbaglaillaaDoorRef07
import Derived.Test.YtjlflbaglaillaaDoorRefWith
namespace Go.Proofs.YtjlflbaglaillaaDoor
set_option linter.unusedSimpArgs false
set_option linter.unusedVariables false
open Go.ChangeShapes Go.WideShapes Go.ChangeAt Go.RowKit Go.Joins

/-- A new address, or none. -/
def NewV (n : Nat) (v : Value) : Prop := ∀ b, v.ownBlock = some b → n ≤ b
/-- Whence an answer's rows are: new, if it was done; else those that came in. -/
structure Src (B : Nat) (ok : Bool) (n m : Nat) (p : Option Addr) (c : Nat) (q : Option Addr) (d : Nat) (p' : Option Addr) (c' : Nat) (q' : Option Addr) (d' : Nat) : Prop where
  new : ok = true → NewV B (.slice p' n c') ∧ NewV B (.slice q' m d')
  old : ok = false → p' = p ∧ c' = c ∧ q' = q ∧ d' = d
theorem owned_newV {w : World} {base : Nat} {e : TypeId} {size : Nat} {v : Value} {n : Nat} {xs : List Value} (h : w.ownsRow base e size v n xs) : NewV base v := fun b hb => (h.lt b hb).1
theorem at_with {w : World} {base : Nat} {e1 e2 : TypeId} {p' : Option Addr} {c' : Nat} {q' : Option Addr} {d' : Nat} {h : Hp} (h1 : w.ownsRow base e1 1 (.slice p' h.n c') h.n (vals .u64 h.n h.z)) (h2 : w.ownsRow base e2 3 (.slice q' h.m d') h.m (spVals h.m h.s)) (hw : h.wf) (hn : h.n ≤ maxLen) (hm : h.m ≤ maxLen) : HpAt w p' c' q' d' h where
  ints := ints_owned h1 hw.1
  spans := spans_owned h2 hw.2
  nle := hn
  mle := hm
  pnil := fun e => by
    subst e
    rcases h1.2 with ⟨hv, h0⟩ | ⟨g, cap', cur, hv, -⟩
    · injection hv with _ _ e; exact ⟨h0, e⟩
    · injection hv with e; cases e
  qnil := fun e => by
    subst e
    rcases h2.2 with ⟨hv, h0⟩ | ⟨g, cap', cur, hv, -⟩
    · injection hv with _ _ e; exact ⟨h0, e⟩
    · injection hv with e; cases e
set_option maxHeartbeats 2000000 in
theorem ropen_any (p : Option Addr) (c : Nat) (q : Option Addr) (d : Nat) (h : Hp) (g k : Int) (w : World) (hh : HpAt w p c q d h) (hF : formB h = true) :
    Calls Tryd.prog 20 #[.agg #[.slice p h.n c, .slice q h.m d, .bool h.b], .int .i64 g, .int .i64 k] w fun e w' => ∃ p' c' q' d', e = .returned (.tuple #[.agg #[.slice p' h.n c', .slice q' h.m d', .bool h.b], .bool (opB h g k)]) ∧
      HpAt w' p' c' q' d' (opH h g k) ∧ Src w.heap.size (opB h g k) h.n h.m p c q d p' c' q' d' ∧ Below w.heap.size w w' := by
  have hm16 := (form_iff.1 hF).2.1
  have hnn := (form_iff.1 hF).2.2.1
  have hwf := hh.wf
  cases ho : opB h g k with
  | true =>
    obtain ⟨p0, p1, k0, k1, hs⟩ := op_spec hF ho
    have eo : opH h g k = withS h g ⟨1, k, wholeW (blW k)⟩ := by unfold opH; rw [if_pos ho]
    have hx : (⟨1, k, wholeW (blW k)⟩ : Sp).wf := ⟨⟨by show (-9223372036854775808 : Int) ≤ 1; decide, by show (1 : Int) ≤ 9223372036854775807; decide⟩, ⟨by show -9223372036854775808 ≤ k; omega, by show k ≤ 9223372036854775807; omega⟩, mask_whole _⟩
    have hst : (h.s g.toNat).st = 0 := by have : spH h g = h.s g.toNat := rfl; rw [← this, hs]
    obtain ⟨⟨b, off, rfl, hlt, s0, s1, s2⟩, hw⟩ := hh.spans g.toNat (by omega)
    rw [hst] at s0
    have hle : h.n ≤ 17592186043904 := by omega
    rw [eo]
    have hHid : Hid (h.n = 32 * h.m) := hnn
    clear hnn hs hst eo ho
    go_enter Tryd.func20, Tryd.ntmps20
    go_upto_region 3 with fail
    obtain ⟨w0, hw0⟩ : ∃ w0, w0 = (w.alloc (.cells #[.slice p h.n c, .slice (some ⟨b, off, none⟩) h.m d, .bool h.b] 25)).alloc (.cells #[.slice none 0 0, .slice none 0 0, .bool false] 25) := ⟨_, rfl⟩
    have hst : Below w.heap.size w w0 := by rw [hw0]; go_grown
    have hat := hh.below hst
    have hR : Box3 (w.heap.size + 1) (.slice none 0 0) (.slice none 0 0) (.bool false) w0 := by rw [hw0]; have := Box3.new (w.alloc (.cells #[.slice p h.n c, .slice (some ⟨b, off, none⟩) h.m d, .bool h.b] 25)) (.slice none 0 0) (.slice none 0 0) (.bool false) 25; simpa using this
    have hB0 : Box3 w.heap.size (.slice p h.n c) (.slice (some ⟨b, off, none⟩) h.m d) (.bool h.b) w0 := by rw [hw0]; exact (Box3.new w _ _ _ _).below ((Below.refl _ _).alloc (Nat.le_refl _) _)
    rw [← hw0]
    clear hw0
    obtain ⟨l0, x0, x1, x2, -, -, -⟩ := hB0
    obtain ⟨l1, y0, y1, y2, f0, f1, f2⟩ := hR
    go_region_with (first
    | (go_at_call 34; refine Calls.mono (rcblocks_any _ _) ?_; rintro e w' ⟨rfl, hb⟩; obtain ⟨hc, hf, hb, hz⟩ := bstep hb (w := w0) (by go_grown); try simp only [World.size_alloc, World.size_setCell, World.size_drew] at hc hf hz)
    | (go_at_call 43; refine Calls.mono (rwhole_any _ _) ?_; rintro e w' ⟨rfl, hb⟩; obtain ⟨hc, hf, hb, hz⟩ := bstep hb (w := w0) (by go_grown); try simp only [World.size_alloc, World.size_setCell, World.size_drew] at hc hf hz)
    | (go_at_call 42; refine Calls.mono (rwithH_any _ _ _ _ _ _ ⟨1, k, wholeW (blW k)⟩ _ (hat.below (by go_grown)) hx hle hm16) ?_; rintro e w' ⟨p', c', q', d', rfl, hoW, hoS, hne, hb⟩; obtain ⟨hc, hf, hb, hz⟩ := bstep hb (w := w0) (by go_grown); try simp only [World.size_alloc, World.size_setCell, World.size_drew] at hc hf hz)
    )
    all_goals
      have hB := hb
      have hlW := fun k e => (hoW.lt k e).1
      have hlS := fun k e => (hoS.lt k e).1
      have hge : w.heap.size + 2 ≤ w'.heap.size := by have := hb.size; omega
      go_wp2
      refine bodyPost_ret (by simp [results, Tryd.results20, go_sem, *]; try rfl) rfl ?_
      have nW : ∀ {v : Value} {e : TypeId} {size n : Nat} {xs : List Value} {W : World} {B : Nat}, W.ownsRow B e size v n xs → w.heap.size + 2 ≤ B → v.ownBlock ≠ some (w.heap.size + 1) := fun ho hB e => by have := (ho.lt _ e).1; omega
      refine ⟨p', c', q', d', rfl, ?_, ?_, ?_⟩
      · exact at_with (h := withS h g ⟨1, k, wholeW (blW k)⟩)
          (owned_setCell (owned_setCell (owned_setCell (owned_base hoW (show w.heap.size + 2 ≤ _ by omega)) (nW (owned_base hoW (show w.heap.size + 2 ≤ _ by omega)) (Nat.le_refl _)) _ _) (nW (owned_base hoW (show w.heap.size + 2 ≤ _ by omega)) (Nat.le_refl _)) _ _) (nW (owned_base hoW (show w.heap.size + 2 ≤ _ by omega)) (Nat.le_refl _)) _ _)
          (owned_setCell (owned_setCell (owned_setCell (owned_base hoS (show w.heap.size + 2 ≤ _ by omega)) (nW (owned_base hoS (show w.heap.size + 2 ≤ _ by omega)) (Nat.le_refl _)) _ _) (nW (owned_base hoS (show w.heap.size + 2 ≤ _ by omega)) (Nat.le_refl _)) _ _) (nW (owned_base hoS (show w.heap.size + 2 ≤ _ by omega)) (Nat.le_refl _)) _ _)
          (wf_with hwf hx) hh.nle hh.mle
      · exact ⟨fun _ => ⟨owned_newV (owned_base hoW (by omega)), owned_newV (owned_base hoS (by omega))⟩, fun h => (by cases h)⟩
      · exact (((bjoin hB hst).setCell (Nat.le_succ _) _).setCell (Nat.le_succ _) _).setCell (Nat.le_succ _) _
  | false =>
    have eo : opH h g k = h := by unfold opH; rw [if_neg (by simp [ho])]
    rw [eo]
    clear eo hnn
    by_cases hg : 0 ≤ g ∧ g < h.m
    · obtain ⟨p0, p1⟩ := hg
      obtain ⟨⟨b, off, rfl, hlt, s0, s1, s2⟩, hw⟩ := hh.spans g.toNat (by omega)
      by_cases hk : 0 ≤ k ∧ k < 4
      · obtain ⟨k0, k1⟩ := hk
        have hst : ¬ (h.s g.toNat).st = 0 := fun e => by
          have : opB h g k = true := by
            unfold opB clB
            rw [inI_yes p0 p1, decide_eq_true k0, decide_eq_true k1, show (spH h g).st = 0 from e]; rfl
          rw [ho] at this; cases this
        have d0 : ((h.s g.toNat).st != 0) = true := by simpa using hst
        clear hst ho
        go_enter Tryd.func20, Tryd.ntmps20
        go_wp2
        refine bodyPost_ret (by simp [results, Tryd.results20, go_sem, *]; try rfl) rfl ?_
        first | exact ⟨p, c, _, d, rfl, hh.below (by go_grown), ⟨fun h => (by cases h), fun _ => ⟨rfl, rfl, rfl, rfl⟩⟩, by go_grown⟩ | exact ⟨hh.below (by go_grown), ⟨fun h => (by cases h), fun _ => ⟨rfl, rfl, rfl, rfl⟩⟩, by go_grown⟩
      · clear ho
        by_cases hk0 : 0 ≤ k
        · go_enter Tryd.func20, Tryd.ntmps20
          go_wp2
          refine bodyPost_ret (by simp [results, Tryd.results20, go_sem, *]; try rfl) rfl ?_
          first | exact ⟨p, c, _, d, rfl, hh.below (by go_grown), ⟨fun h => (by cases h), fun _ => ⟨rfl, rfl, rfl, rfl⟩⟩, by go_grown⟩ | exact ⟨hh.below (by go_grown), ⟨fun h => (by cases h), fun _ => ⟨rfl, rfl, rfl, rfl⟩⟩, by go_grown⟩
        · go_enter Tryd.func20, Tryd.ntmps20
          go_wp2
          refine bodyPost_ret (by simp [results, Tryd.results20, go_sem, *]; try rfl) rfl ?_
          first | exact ⟨p, c, _, d, rfl, hh.below (by go_grown), ⟨fun h => (by cases h), fun _ => ⟨rfl, rfl, rfl, rfl⟩⟩, by go_grown⟩ | exact ⟨hh.below (by go_grown), ⟨fun h => (by cases h), fun _ => ⟨rfl, rfl, rfl, rfl⟩⟩, by go_grown⟩
    · clear ho
      by_cases hg0 : 0 ≤ g
      · go_enter Tryd.func20, Tryd.ntmps20
        go_wp2
        refine bodyPost_ret (by simp [results, Tryd.results20, go_sem, *]; try rfl) rfl ?_
        first | exact ⟨p, c, q, d, rfl, hh.below (by go_grown), ⟨fun h => (by cases h), fun _ => ⟨rfl, rfl, rfl, rfl⟩⟩, by go_grown⟩ | exact ⟨hh.below (by go_grown), ⟨fun h => (by cases h), fun _ => ⟨rfl, rfl, rfl, rfl⟩⟩, by go_grown⟩
      · go_enter Tryd.func20, Tryd.ntmps20
        go_wp2
        refine bodyPost_ret (by simp [results, Tryd.results20, go_sem, *]; try rfl) rfl ?_
        first | exact ⟨p, c, q, d, rfl, hh.below (by go_grown), ⟨fun h => (by cases h), fun _ => ⟨rfl, rfl, rfl, rfl⟩⟩, by go_grown⟩ | exact ⟨hh.below (by go_grown), ⟨fun h => (by cases h), fun _ => ⟨rfl, rfl, rfl, rfl⟩⟩, by go_grown⟩
end Go.Proofs.YtjlflbaglaillaaDoor
