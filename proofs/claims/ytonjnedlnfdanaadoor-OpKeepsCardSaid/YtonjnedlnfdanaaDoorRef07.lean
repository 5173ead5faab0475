/- Contracts of the reference's Form, Find, Used, Same, with, Open, Close, Lay, Free (chapter 7). -/
import Derived.Test.YtonjnedlnfdanaaDoorHeapFn
import Derived.Test.YtonjnedlnfdanaaDoorRef06
import Derived.Test.YtonjnedlnfdanaaDoorRef02
import Derived.Test.YtonjnedlnfdanaaDoorSpans
import Derived.Deep.Cut
import Derived.Test.YtonjnedlnfdanaaDoorBase
import Derived.StillTailTactics
namespace Go.Proofs.YtonjnedlnfdanaaDoor
set_option linter.unusedSimpArgs false
set_option linter.unusedVariables false
open Go.ChangeShapes Go.WideShapes Go.ChangeAt Go.RowKit

theorem HpAt.wf {W : World} {p : Option Addr} {c : Nat} {q : Option Addr} {d : Nat} {h : Hp} (hh : HpAt W p c q d h) : h.wf := ⟨hh.ints.wf, hh.spans.wf⟩
set_option maxHeartbeats 1000000 in
theorem rform_any (p : Option Addr) (c : Nat) (q : Option Addr) (d : Nat) (h : Hp) (w : World) (hh : HpAt w p c q d h) :
    Calls Tryd.prog 6 #[.agg #[.slice p h.n c, .slice q h.m d, .bool h.b]] w fun e w' => e = .returned (.bool (formB h)) ∧ Below w.heap.size w w' := by
  have hn := hh.nle
  have hmm := hh.mle
  simp only [maxLen] at hn hmm
  have eF := @form_iff h
  by_cases hs : 1 ≤ h.m ∧ h.m ≤ 16 ∧ h.n = 32 * h.m
  · obtain ⟨s0, s1, hl⟩ := hs
    have d0 : decide ((h.m : Int) < 1) = false := by simp; omega
    have d1 : decide (16 < (h.m : Int)) = false := by simp; omega
    have d2 : ((h.n : Int) != 32 * (h.m : Int)) = false := by simp; omega
    have hH : Hid (h.n = 32 * h.m) := hl
    have hE : Hid (formB h = true ↔ 1 ≤ h.m ∧ h.m ≤ 16 ∧ h.n = 32 * h.m ∧ ∀ i, i < h.m → (h.s i).right = true) := eF
    clear hl eF
    go_enter Tryd.func6, Tryd.ntmps6
    go_upto_region 1 with fail
    obtain ⟨w0, hw0⟩ : ∃ w0, w0 = w.alloc (.cells #[.slice p h.n c, .slice q h.m d, .bool h.b] 25) := ⟨_, rfl⟩
    have hbx : Box3 w.heap.size (.slice p h.n c) (.slice q h.m d) (.bool h.b) w0 := by rw [hw0]; exact Box3.new _ _ _ _ _
    have hbA : Below w.heap.size w w0 := by rw [hw0]; go_grown
    have hsp := hh.spans.below hbA
    rw [← hw0]
    clear hw0 hh
    obtain ⟨hl, k0, k1, k2, -, -, -⟩ := hbx
    go_wp2
    go_loopg [3] h.m (fun g iv wr => ∃ i : Int, 0 ≤ i ∧ i ≤ h.m ∧ g = (h.m - i).toNat ∧ iv = .int .i64 i ∧ (∀ j : Nat, (j : Int) < i → (h.s j).right = true) ∧ Below w0.heap.size w0 wr)
    case atStart => exact ⟨0, by omega, by omega, by omega, rfl, fun j hj => by omega, Below.refl _ _⟩
    case round =>
      obtain ⟨i, il, ih, rfl, rfl, hall, hbw⟩ := hrel
      obtain ⟨hc, hf, hb, hz⟩ := bstep hbw (w := w0) (Below.refl _ _)
      by_cases hi : i < h.m
      · obtain ⟨⟨b, off, rfl, hlt, s0, s1, s2⟩, hw⟩ := (hsp.below hbw) i.toNat (by omega)
        have hm : Mask (h.s i.toNat).fr := hw.2.2
        cases hr : rightB (h.s i.toNat).st (h.s i.toNat).cl (h.s i.toNat).fr with
        | true =>
          go_wp2_with (first
    | (go_at_call 10; refine Calls.mono (rright_any _ _ _ _ hm) ?_; rintro e w' ⟨rfl, hb⟩; obtain ⟨hc, hf, hb, hz⟩ := bstep hb (w := w0) (by go_grown); try simp only [World.size_alloc, World.size_setCell, World.size_drew] at hc hf hz)
          )
          go_roundg ((h.m : Int) - (i + 1)).toNat
          case measure => omega
          case rel => exact ⟨i + 1, by omega, by omega, rfl, rfl, fun j hj => by
            by_cases e : (j : Int) = i
            · rw [show j = i.toNat by omega]; exact hr
            · exact hall j (by omega), hb⟩
        | false =>
          have e : formB h = false := by
            cases e : formB h with
            | false => rfl
            | true => have := (hE.out.1 e).2.2.2 i.toNat (by omega); unfold Sp.right at this; rw [hr] at this; cases this
          go_wp2_with (first
    | (go_at_call 10; refine Calls.mono (rright_any _ _ _ _ hm) ?_; rintro e w' ⟨rfl, hb⟩; obtain ⟨hc, hf, hb, hz⟩ := bstep hb (w := w0) (by go_grown); try simp only [World.size_alloc, World.size_setCell, World.size_drew] at hc hf hz)
          )
          go_returns
          exact ⟨ret_bool (by simp [e]), bjoin hb hbA⟩
      · have e : formB h = true := hE.out.2 ⟨by omega, by omega, hH.out, fun j hj => hall j (by omega)⟩
        go_wp2
        go_returns
        exact ⟨ret_bool (by simp [e]), bjoin hb hbA⟩
  · have e : formB h = false := by
      cases e : formB h with
      | false => rfl
      | true => have := eF.1 e; exact absurd ⟨this.1, this.2.1, this.2.2.1⟩ hs
    rw [e]
    clear e eF
    by_cases h1 : 1 ≤ h.m ∧ h.m ≤ 16
    · have d2 : ((h.n : Int) != 32 * (h.m : Int)) = true := by simp; omega
      obtain ⟨s0, s1⟩ := h1
      have d0 : decide ((h.m : Int) < 1) = false := by simp; omega
      have d1 : decide (16 < (h.m : Int)) = false := by simp; omega
      go_enter Tryd.func6, Tryd.ntmps6
      go_wp2
      go_returns
      exact ⟨rfl, by go_grown⟩
    · go_enter Tryd.func6, Tryd.ntmps6
      go_wp2
      all_goals
        first
        | omega
        | (go_returns
           exact ⟨rfl, by go_grown⟩)

theorem sz_bound (c : Int) : 0 ≤ szW c ∧ szW c ≤ 16 := by have := cl_cases c; omega
theorem bl_sz (c : Int) : blW c * szW c ≤ 32 := by
  rcases cl_cases c with ⟨-, h0, h1, -⟩ | ⟨-, h0, h1, -⟩ | ⟨-, h0, h1, -⟩ | ⟨-, h0, h1, -⟩ | ⟨-, h0, h1, -⟩
  all_goals rw [h0, h1]; decide
/-- A right span's used words: at most a page's. -/
theorem usS_bound {s : Sp} (hr : s.right = true) (hw : s.wf) : 0 ≤ usS s ∧ usS s ≤ 32 := by
  unfold usS usedN
  split
  · rename_i hu
    rcases right_iff.1 hr with ⟨h0, -⟩ | ⟨-, c0, c1, hs⟩
    · rw [h0] at hu; cases hu
    · obtain ⟨a, b⟩ := count_le hw.2.2 hs
      rcases cl_cases s.cl with ⟨-, h0, h1, -⟩ | ⟨-, h0, h1, -⟩ | ⟨-, h0, h1, -⟩ | ⟨-, h0, h1, -⟩ | ⟨-, h0, h1, -⟩
      all_goals rw [h1] at b ⊢; rw [h0]; omega
  · simp
theorem usT_bound {s : Nat → Sp} : ∀ {k : Nat}, (∀ i, i < k → (s i).right = true ∧ (s i).wf) → 0 ≤ usT s k ∧ usT s k ≤ 32 * k
  | 0, _ => by simp [usT]
  | k + 1, h => by
    have := usT_bound (k := k) fun i hi => h i (by omega)
    have := usS_bound (h k (by omega)).1 (h k (by omega)).2
    simp only [usT]
    omega
theorem usT_next (s : Nat → Sp) {i : Int} (h : 0 ≤ i) : usT s (i + 1).toNat = usT s i.toNat + usS (s i.toNat) := by
  rw [show (i + 1).toNat = i.toNat + 1 by omega]; rfl
def usI (s : Nat → Sp) (i : Int) : Int := usT s i.toNat

theorem boxes {w : World} {v0 v1 v2 u0 u1 u2 : Value} {t : TypeId} : ∃ w0, w0 = (w.alloc (.cells #[v0, v1, v2] t)).alloc (.cells #[u0, u1, u2] t) ∧ Box3 w.heap.size v0 v1 v2 w0 ∧ Box3 (w.heap.size + 1) u0 u1 u2 w0 ∧ Below w.heap.size w w0 := by
  refine ⟨_, rfl, (Box3.new w _ _ _ _).below ((Below.refl _ _).alloc (Nat.le_refl _) _), ?_, ?_⟩
  · have := Box3.new (w.alloc (.cells #[v0, v1, v2] t)) u0 u1 u2 t
    simpa using this
  · exact ((Below.refl _ _).alloc (Nat.le_refl _) _).alloc (by simp) _
/-- The block that begins at a lies from page p, index i on. -/
def fiAt (h : Hp) (a p i : Int) : Prop := fiB h a = true → p < a / 32 ∨ p = a / 32 ∧ i ≤ plI (spH h (a / 32)).cl a
theorem fi_no {h : Hp} {a : Int} (e : ¬ fiB h a = true) : fiB h a = false ∧ fiP h a = 0 ∧ fiI h a = 0 := by
  refine ⟨by simpa using e, ?_, ?_⟩
  · unfold fiP; rw [if_neg e]
  · unfold fiI; rw [if_neg e]
set_option maxHeartbeats 2000000 in
theorem rfind_any (p : Option Addr) (c : Nat) (q : Option Addr) (d : Nat) (h : Hp) (a : Int) (w : World) (hh : HpAt w p c q d h) (hF : formB h = true) :
    Calls Tryd.prog 28 #[.agg #[.slice p h.n c, .slice q h.m d, .bool h.b], .int .i64 a] w fun e w' => e = .returned (.tuple #[.int .i64 (fiP h a), .int .i64 (fiI h a), .bool (fiB h a)]) ∧ Below w.heap.size w w' := by
  have hm16 := (form_iff.1 hF).2.1
  have hF' : Hid (formB h = true) := hF
  clear hF
  go_enter Tryd.func28, Tryd.ntmps28
  go_upto_region 1 with fail
  obtain ⟨w0, hw0⟩ : ∃ w0, w0 = w.alloc (.cells #[.slice p h.n c, .slice q h.m d, .bool h.b] 25) := ⟨_, rfl⟩
  have hbx : Box3 w.heap.size (.slice p h.n c) (.slice q h.m d) (.bool h.b) w0 := by rw [hw0]; exact Box3.new _ _ _ _ _
  have hbA : Below w.heap.size w w0 := by rw [hw0]; go_grown
  have hsp := hh.spans.below hbA
  rw [← hw0]
  clear hw0 hh
  obtain ⟨hl, k0, k1, k2, -, -, -⟩ := hbx
  go_wp2
  go_loopg [7] h.m (fun g jv wr => ∃ j : Int, 0 ≤ j ∧ j ≤ h.m ∧ g = (h.m - j).toNat ∧ jv = .int .i64 j ∧ fiAt h a j 0 ∧ Below w0.heap.size w0 wr)
  case atStart => exact ⟨0, by omega, by omega, by omega, rfl, fun e => by have := fi_spec hF'.out e; omega, Below.refl _ _⟩
  case round =>
    obtain ⟨j, jl, jh, rfl, rfl, hat, hbw⟩ := hrel
    obtain ⟨hc, hf, hb, hz⟩ := bstep hbw (w := w0) (Below.refl _ _)
    by_cases hj : j < h.m
    · obtain ⟨⟨b, off, rfl, hlt, s0, s1, s2⟩, hw⟩ := (hsp.below hbw) j.toNat (by omega)
      have hrr := form_at hF'.out jl hj
      have hspj : spH h j = h.s j.toNat := rfl
      rw [hspj] at hrr
      rcases right_iff.1 hrr with ⟨h0, -⟩ | ⟨hst, cl0, cl1, hsm⟩
      · have hat' : fiAt h a (j + 1) 0 := fun e => by
          have h1 := fi_spec hF'.out e
          rcases hat e with h2 | ⟨h2, -⟩
          · omega
          · rw [← h2, hspj, h0] at h1; omega
        have d0 : ((h.s j.toNat).st == 0) = true := by simp [h0]
        clear hat hrr h0
        go_wp2
        go_roundg ((h.m : Int) - (j + 1)).toNat
        case measure => omega
        case rel => exact ⟨j + 1, by omega, by omega, rfl, rfl, hat', hb⟩
      · have d0 : ((h.s j.toNat).st == 0) = false := by simp; omega
        have hne : Hid (¬ (spH h j).st = 0) := by show ¬ (h.s j.toNat).st = 0; omega
        have hb0 := bl_bound (h.s j.toNat).cl
        obtain ⟨b0, b1⟩ := hb0
        clear hrr hsm hc hf hb hz
        obtain ⟨w1, hw1⟩ : ∃ w1, w1 = wr := ⟨_, rfl⟩
        rw [← hw1] at hbw s0 s1 s2 hlt ⊢
        have k1' : w1.cell? ⟨w.heap.size, 1, none⟩ = some (.slice (some ⟨b, off, none⟩) h.m d) := by rw [hbw.cell (p := ⟨w.heap.size, 1, none⟩) hl]; exact k1
        have hl1 : w.heap.size < w1.heap.size := Nat.lt_of_lt_of_le hl hbw.size
        clear hw1
        go_wp2
        go_loopg [8] 16 (fun g iv wr => ∃ i : Int, 0 ≤ i ∧ i ≤ blW (h.s j.toNat).cl ∧ g = (16 - i).toNat ∧ iv = .int .i64 i ∧ fiAt h a j i ∧ Below w1.heap.size w1 wr)
        case atStart => exact ⟨0, by omega, by omega, rfl, rfl, hat, Below.refl _ _⟩
        case round =>
          clear hat
          obtain ⟨i, il, ih, rfl, rfl, hat, hbv⟩ := hrel
          have hbV := bjoin hbv (bjoin hbw hbA)
          obtain ⟨hc, hf, hb, hz⟩ := bstep hbv (w := w1) (Below.refl _ _)
          by_cases hi : i < blW (h.s j.toNat).cl
          · obtain ⟨f0, f1, f2⟩ := fi_of hF'.out (p := j) (i := i) jl hj hne.out il hi
            rw [hspj] at f0 f1 f2
            by_cases he : 32 * j + i * szW (h.s j.toNat).cl = a
            · rw [he] at f0 f1 f2
              have E : Hid (fiB h a = true ∧ fiP h a = j ∧ fiI h a = i) := ⟨f0, by unfold fiP; rw [if_pos f0, f1], by unfold fiI; rw [if_pos f0, f1]; exact f2⟩
              clear f0 f1 f2 hat
              rcases cl_cases (h.s j.toNat).cl with ⟨-, e0, e1, -⟩ | ⟨-, e0, e1, -⟩ | ⟨-, e0, e1, -⟩ | ⟨-, e0, e1, -⟩ | ⟨e, -⟩
              case inr.inr.inr.inr => omega
              all_goals
                rw [e0] at he
                rw [e1] at hi
                go_wp2_with (first
    | (go_at_call 17; refine Calls.mono (rcblocks_any _ _) ?_; rintro e w' ⟨rfl, hb⟩; obtain ⟨hc, hf, hb, hz⟩ := bstep hb (w := w1) (by go_grown); try simp only [World.size_alloc, World.size_setCell, World.size_drew] at hc hf hz)
    | (go_at_call 24; refine Calls.mono (rcwords_any _ _) ?_; rintro e w' ⟨rfl, hb⟩; obtain ⟨hc, hf, hb, hz⟩ := bstep hb (w := w1) (by go_grown); try simp only [World.size_alloc, World.size_setCell, World.size_drew] at hc hf hz)
                )
                go_returns
                exact ⟨by rw [E.out.1, E.out.2.1, E.out.2.2]; rfl, bjoin hb (bjoin hbw hbA)⟩
            · have hat' : fiAt h a j (i + 1) := fun e => by
                rcases hat e with h2 | ⟨h2, h3⟩
                · exact .inl h2
                · refine .inr ⟨h2, ?_⟩
                  have h4 := (fi_spec hF'.out e).2.2.2.2.2.2.2
                  rw [← h2, hspj] at h4 h3 ⊢
                  by_cases e3 : i = plI (h.s j.toNat).cl a
                  · rw [← e3] at h4; exact absurd h4 he
                  · omega
              have he' : Hid (¬ 32 * j + i * szW (h.s j.toNat).cl = a) := he
              clear f0 f1 f2 hat he
              rcases cl_cases (h.s j.toNat).cl with ⟨-, e0, e1, -⟩ | ⟨-, e0, e1, -⟩ | ⟨-, e0, e1, -⟩ | ⟨-, e0, e1, -⟩ | ⟨e, -⟩
              case inr.inr.inr.inr => omega
              all_goals
                have he := he'.out
                rw [e0] at he
                rw [e1] at hi
                go_wp2_with (first
    | (go_at_call 17; refine Calls.mono (rcblocks_any _ _) ?_; rintro e w' ⟨rfl, hb⟩; obtain ⟨hc, hf, hb, hz⟩ := bstep hb (w := w1) (by go_grown); try simp only [World.size_alloc, World.size_setCell, World.size_drew] at hc hf hz)
    | (go_at_call 24; refine Calls.mono (rcwords_any _ _) ?_; rintro e w' ⟨rfl, hb⟩; obtain ⟨hc, hf, hb, hz⟩ := bstep hb (w := w1) (by go_grown); try simp only [World.size_alloc, World.size_setCell, World.size_drew] at hc hf hz)
                )
                go_roundg (16 - (i + 1)).toNat
                case measure => omega
                case rel => exact ⟨i + 1, by omega, by omega, rfl, rfl, hat', hb⟩
          · have hat' : fiAt h a (j + 1) 0 := fun e => by
              have h4 := (fi_spec hF'.out e).2.2.2.2.2.2.1
              have h5 := (fi_spec hF'.out e).2.2.2.2.2.1
              rcases hat e with h2 | ⟨h2, h3⟩
              · by_cases h6 : j + 1 < a / 32
                · exact .inl h6
                · exact .inr ⟨by omega, h5⟩
              · rw [← h2, hspj] at h4 h3; omega
            clear hat
            go_wp2_with (first
    | (go_at_call 17; refine Calls.mono (rcblocks_any _ _) ?_; rintro e w' ⟨rfl, hb⟩; obtain ⟨hc, hf, hb, hz⟩ := bstep hb (w := w1) (by go_grown); try simp only [World.size_alloc, World.size_setCell, World.size_drew] at hc hf hz)
            )
            go_roundg ((h.m : Int) - (j + 1)).toNat
            case measure => omega
            case rel => exact ⟨j + 1, by omega, by omega, rfl, rfl, hat', bjoin hb hbw⟩
    · have e : ¬ fiB h a = true := fun e => by
        have h1 := fi_spec hF'.out e
        rcases hat e with h2 | ⟨h2, -⟩ <;> omega
      obtain ⟨q0, q1, q2⟩ := fi_no e
      have E : Hid (fiB h a = false ∧ fiP h a = 0 ∧ fiI h a = 0) := ⟨q0, q1, q2⟩
      clear q0 q1 q2 e hat
      go_wp2
      go_returns
      exact ⟨by rw [E.out.1, E.out.2.1, E.out.2.2]; rfl, bjoin hb hbA⟩
end Go.Proofs.YtonjnedlnfdanaaDoor
/-! Contract of the reference's with: a heap with another span, and its words, in new memory. -/
namespace Go.Proofs.YtonjnedlnfdanaaDoor
set_option linter.unusedSimpArgs false
set_option linter.unusedVariables false
open Go.ChangeShapes Go.WideShapes Go.ChangeAt Go.RowKit Go.Joins

theorem infoS : (Tryd.prog.info? 46).map (fun i => (i.zero, i.size, i.bytes)) = some (some (.agg #[.int .i64 0, .int .i64 0, .int .u32 0]), 3, 24) := by kernel_rfl
theorem four_boxes {w : World} {x0 x1 x2 y0 y1 y2 z0 z1 z2 u0 u1 u2 : Value} {t t' : TypeId} : ∃ w0, w0 = (((w.alloc (.cells #[x0, x1, x2] t)).alloc (.cells #[y0, y1, y2] t')).alloc (.cells #[z0, z1, z2] t)).alloc (.cells #[u0, u1, u2] t) ∧
    Box3 w.heap.size x0 x1 x2 w0 ∧ Box3 (w.heap.size + 1) y0 y1 y2 w0 ∧ Box3 (w.heap.size + 1 + 1) z0 z1 z2 w0 ∧ Box3 (w.heap.size + 1 + 1 + 1) u0 u1 u2 w0 ∧ Below w.heap.size w w0 ∧ w0.heap.size = w.heap.size + 4 := by
  have a0 := Box3.new w x0 x1 x2 t
  have a1 := Box3.new (w.alloc (.cells #[x0, x1, x2] t)) y0 y1 y2 t'
  have a2 := Box3.new ((w.alloc (.cells #[x0, x1, x2] t)).alloc (.cells #[y0, y1, y2] t')) z0 z1 z2 t
  have a3 := Box3.new (((w.alloc (.cells #[x0, x1, x2] t)).alloc (.cells #[y0, y1, y2] t')).alloc (.cells #[z0, z1, z2] t)) u0 u1 u2 t
  have st : ∀ (W : World) (o : Obj), Below W.heap.size W (W.alloc o) := fun W o => (Below.refl _ _).alloc (Nat.le_refl _) _
  refine ⟨_, rfl, ((a0.below (st _ _)).below (st _ _)).below (st _ _), ?_, ?_, ?_, ?_, ?_⟩
  · have := (a1.below (st _ (.cells #[z0, z1, z2] t))).below (st _ (.cells #[u0, u1, u2] t))
    simpa only [World.size_alloc] using this
  · have := a2.below (st _ (.cells #[u0, u1, u2] t))
    simpa only [World.size_alloc] using this
  · simpa only [World.size_alloc] using a3
  · exact (((st w _).trans ((st _ _).mono (by simp))).trans ((st _ _).mono (by simp; omega))).trans ((st _ _).mono (by simp; omega))
  · simp
theorem owned_row {w : World} {base : Nat} {e : TypeId} {v : Value} {n : Nat} {s : Nat → Sp} {y : Sp} (h : w.ownsRow base e 3 v (n + 1) (spVals n s ++ y.vals)) (e1 : s n = y) : w.ownsRow base e 3 v (n + 1) (spVals (n + 1) s) := by
  rw [← spVals_snoc, e1]; exact h
set_option maxHeartbeats 8000000 in
theorem rwithH_any (p : Option Addr) (c : Nat) (q : Option Addr) (d : Nat) (h : Hp) (g : Int) (x : Sp) (w : World) (hh : HpAt w p c q d h) (hx : x.wf) (hn : h.n ≤ 17592186043904) (hm16 : h.m ≤ 16) :
    Calls Tryd.prog 22 #[.agg #[.slice p h.n c, .slice q h.m d, .bool h.b], .int .i64 g, .agg #[.int .i64 x.st, .int .i64 x.cl, .int .u32 x.fr]] w fun e w' => ∃ p' c' q' d', e = .returned (.agg #[.slice p' h.n c', .slice q' h.m d', .bool h.b]) ∧
      w'.ownsRow w.heap.size 36 1 (.slice p' h.n c') h.n (vals .u64 h.n h.z) ∧ w'.ownsRow w.heap.size 46 3 (.slice q' h.m d') h.m (spVals h.m (setS h.s g x)) ∧ (∀ b b', (Value.slice p' h.n c').ownBlock = some b → (Value.slice q' h.m d').ownBlock = some b' → b ≠ b') ∧ Below w.heap.size w w' := by
  obtain ⟨i0, hi, hz0, hz1, hz2⟩ := info_parts infoW
  obtain ⟨i1, hi', hz0', hz1', hz2'⟩ := info_parts infoS
  go_enter Tryd.func22, Tryd.ntmps22
  go_upto_region 2 with fail
  obtain ⟨w0, hw0, hB0, hB1, hB2, hB3, hbA, hsz⟩ := four_boxes (w := w) (x0 := .slice p h.n c) (x1 := .slice q h.m d) (x2 := .bool h.b) (y0 := .int .i64 x.st) (y1 := .int .i64 x.cl) (y2 := .int .u32 x.fr) (z0 := .slice none 0 0) (z1 := .slice none 0 0) (z2 := .bool false) (u0 := .slice none 0 0) (u1 := .slice none 0 0) (u2 := .bool h.b) (t := 25) (t' := 46)
  rw [← hw0]
  clear hw0
  have hin := hh.ints.below hbA
  have hsp := hh.spans
  have hpn := hh.pnil
  have hB0' := hB0
  obtain ⟨l0, k0, k1, k2, -, -, -⟩ := hB0
  have hb3 := hB3
  obtain ⟨l3, j0, j1, j2, f0, f1, f2⟩ := hb3
  have hle : w.heap.size ≤ w0.heap.size := by omega
  go_upto_region 3 with (first
    | (at_builtin; refine wpList_append_ints rfl (.tmp 14) (.tmp 16) 22 rfl (w.heap.size + 4) 36 i0 (.int .u64 0) 8 Tryd.underlying22 hi hz0 hz1 hz2 rfl (.slice none 0 0) 0 [] rfl (World.ownsRow_nil w0 _ _ _) .u64 p h.n c h.z rfl hin hpn (by simp only [maxLen]; omega) (by omega) (by omega) ?_; intro ov w1 hown1 hgrow1; obtain ⟨q1, c1, rfl, hq1⟩ := owned_new hown1; have hb3' := hB3.grown hgrow1 (by simp [Value.ownBlock]); obtain ⟨l3', j0', j1', j2', f0', f1', f2'⟩ := hb3')
  )
  have hst : Below w0.heap.size w0 w1 := (Below.refl _ _).grown hgrow1 (Nat.le_refl _) (by intro k hk; simp [Value.ownBlock] at hk)
  obtain ⟨w2, hw2⟩ : ∃ w2, w2 = w1.setCell ⟨w.heap.size + 1 + 1 + 1, 0, none⟩ (.slice q1 h.n c1) := ⟨_, rfl⟩
  have gB3 : Box3 (w.heap.size + 1 + 1 + 1) (.slice q1 h.n c1) (.slice none 0 0) (.bool h.b) w2 := by rw [hw2]; exact (hB3.below hst).store0 _
  have gB0 : Box3 w.heap.size (.slice p h.n c) (.slice q h.m d) (.bool h.b) w2 := by rw [hw2]; exact (hB0'.below hst).other (by omega) _ _
  have gB1 : Box3 (w.heap.size + 1) (.int .i64 x.st) (.int .i64 x.cl) (.int .u32 x.fr) w2 := by rw [hw2]; exact (hB1.below hst).other (by omega) _ _
  have gB2 : Box3 (w.heap.size + 1 + 1) (.slice none 0 0) (.slice none 0 0) (.bool false) w2 := by rw [hw2]; exact (hB2.below hst).other (by omega) _ _
  have hbB : Below w.heap.size w w2 := by rw [hw2]; exact (bjoin hst hbA).setCell (by show w.heap.size ≤ w.heap.size + 1 + 1 + 1; omega) _
  rw [Nat.zero_add, List.nil_append] at hown1
  have hown2 : w2.ownsRow (w.heap.size + 4) 36 1 (.slice q1 h.n c1) h.n (vals .u64 h.n h.z) := by rw [hw2]; exact ownsRow_setCell_below hown1 (by show w.heap.size + 1 + 1 + 1 < _; omega) _
  have hsz2 : w.heap.size + 4 ≤ w2.heap.size := by rw [hw2]; simp; have := hgrow1.size; omega
  rw [← hw2]
  clear hw2 hown1 hgrow1 hst hbA hB3 hB2 hB1 hB0' l0 l3 l3' k0 k1 k2 j0 j1 j2 f0 f1 f2 j0' j1' j2' f0' f1' f2' hin hsz hle
  go_wp2
  go_loopg [8] h.m (fun gg iv wr => ∃ (i : Nat) (gs : Value), i ≤ h.m ∧ gg = h.m - i ∧ iv = .int .i64 i ∧ Box3 w.heap.size (.slice p h.n c) (.slice q h.m d) (.bool h.b) wr ∧ Box3 (w.heap.size + 1) (.int .i64 x.st) (.int .i64 x.cl) (.int .u32 x.fr) wr ∧ Box3 (w.heap.size + 1 + 1) (.slice none 0 0) (.slice none 0 0) (.bool false) wr ∧ Box3 (w.heap.size + 1 + 1 + 1) (.slice q1 h.n c1) gs (.bool h.b) wr ∧
      wr.ownsRow (w.heap.size + 4) 36 1 (.slice q1 h.n c1) h.n (vals .u64 h.n h.z) ∧ wr.ownsRow w2.heap.size 46 3 gs i (spVals i (setS h.s g x)) ∧ Below w.heap.size w wr ∧ w2.heap.size ≤ wr.heap.size)
  case atStart => exact ⟨0, .slice none 0 0, by omega, by omega, rfl, gB0, gB1, gB2, gB3, hown2, World.ownsRow_nil _ _ _ _, hbB, Nat.le_refl _⟩
  case round =>
    clear gB0 gB1 gB2 gB3 hbB
    obtain ⟨i, gs, ih, rfl, rfl, gB0, gB1, gB2, gB3, hownW, hownS, hbw, hsw⟩ := hrel
    obtain ⟨q2, c2, rfl, hq2⟩ := owned_new hownS
    have g0 := gB0
    have g3 := gB3
    obtain ⟨l0, k0, k1, k2, -, -, -⟩ := g0
    obtain ⟨l3, j0, j1, j2, f0, f1, f2⟩ := g3
    have hlw : ∀ k, (Value.slice q1 h.n c1).ownBlock = some k → w.heap.size + 4 ≤ k ∧ k < w2.heap.size := fun k hk => by
      have := hownW.lt k hk
      have := hown2.lt k hk
      omega
    have hls : ∀ k, (Value.slice q2 i c2).ownBlock = some k → w2.heap.size ≤ k ∧ k < wr.heap.size := fun k hk => hownS.lt k hk
    by_cases him : i < h.m
    · obtain ⟨⟨b, off, rfl, hlt, s0, s1, s2⟩, hwf⟩ := (hsp.below hbw) i him
      have g1 := gB1
      obtain ⟨lb, b0, b1, b2, -, -, -⟩ := g1
      by_cases e : (i : Int) = g
      · subst e
        have hset : setS h.s i x i = x := by unfold setS; rw [if_pos rfl]
        go_upto_region 9 with fail
        obtain ⟨wx, hwx⟩ : ∃ wx, wx = wr.alloc (.cells #[.int .i64 x.st, .int .i64 x.cl, .int .u32 x.fr] 46) := ⟨_, rfl⟩
        have hX : Box3 wr.heap.size (.int .i64 x.st) (.int .i64 x.cl) (.int .u32 x.fr) wx := by rw [hwx]; exact Box3.new wr _ _ _ _
        have hst : Below wr.heap.size wr wx := by rw [hwx]; exact (Below.refl _ _).alloc (Nat.le_refl _) _
        rw [← hwx]
        clear hwx
        have gX0 := gB0.below hst
        have gX1 := gB1.below hst
        have gX2 := gB2.below hst
        have gX3 := gB3.below hst
        have hWx := owned_below hownW hst
        have hSx := owned_below hownS hst
        have hbX := bjoin hst hbw
        have hsX : wr.heap.size + 1 ≤ wx.heap.size := by have := hX.1; omega
        clear gB0 gB1 gB2 gB3 hownW hownS hst l0 k0 k1 k2 l3 j0 j1 j2 f0 f1 f2 s0 s1 s2 hlt
        have g0 := gX0
        have g3 := gX3
        obtain ⟨l0, k0, k1, k2, -, -, -⟩ := g0
        obtain ⟨l3, j0, j1, j2, f0, f1, f2⟩ := g3
        obtain ⟨lX, r0, r1, r2, -, -, -⟩ := hX
        go_wp2_with (first
          | (at_builtin; refine wpList_append_own _ rfl (.tmp 36) (.tmp 38) 23 rfl w2.heap.size 46 i1 (.agg #[.int .i64 0, .int .i64 0, .int .u32 0]) 3 24 Tryd.underlying23 hi' hz0' hz1' hz2' rfl (by decide) (.slice q2 i c2) i _ rfl (hSx.alloc _) ⟨wx.heap.size, 0, none⟩ 1 1 (Sp.vals x) rfl rfl (three_new _ _ _ _ _) (vals_oneCell _) (by simp only [maxLen]; omega) (by omega) (by simp; omega) ?_; intro ov w6 hown6 hgrow6 _; obtain ⟨q3, c3, rfl, hq3⟩ := owned_new hown6; have hbt : Below wx.heap.size wx (wx.alloc (.cells #[.int .i64 x.st, .int .i64 x.cl, .int .u32 x.fr] 46)) := (Below.refl _ _).alloc (Nat.le_refl _) _; have gY3 := (gX3.below hbt).grown hgrow6 (fun e => by have := hls _ e; omega); obtain ⟨l3', j0', j1', j2', f0', f1', f2'⟩ := gY3)
        )
        have hbt : Below wx.heap.size wx (wx.alloc (.cells #[.int .i64 x.st, .int .i64 x.cl, .int .u32 x.fr] 46)) := (Below.refl _ _).alloc (Nat.le_refl _) _
        have hne : ∀ b, b < w2.heap.size → (Value.slice q2 i c2).ownBlock ≠ some b := fun b hb e => by have := (hls _ e).1; omega
        have gZ0 := ((gX0.below hbt).grown hgrow6 (hne _ (by omega))).other (g := w.heap.size + 1 + 1 + 1) (by omega) 1 (.slice q3 (i + 1) c3)
        have gZ1 := ((gX1.below hbt).grown hgrow6 (hne _ (by omega))).other (g := w.heap.size + 1 + 1 + 1) (by omega) 1 (.slice q3 (i + 1) c3)
        have gZ2 := ((gX2.below hbt).grown hgrow6 (hne _ (by omega))).other (g := w.heap.size + 1 + 1 + 1) (by omega) 1 (.slice q3 (i + 1) c3)
        have gZ3 := ((gX3.below hbt).grown hgrow6 (hne _ (by omega))).store1 (.slice q3 (i + 1) c3)
        have hWz := owned_setCell ((owned_below hWx hbt).kept hgrow6 (by
          cases hob : (Value.slice q1 h.n c1).ownBlock with
          | none => exact .inl rfl
          | some b => exact .inr fun e => hne b (hlw b hob).2 e.symm)) (g := w.heap.size + 1 + 1 + 1) (fun e => by have := (hlw _ e).1; omega) 1 (.slice q3 (i + 1) c3)
        have hl6 : ∀ k, (Value.slice q3 (i + 1) c3).ownBlock = some k → w2.heap.size ≤ k := fun k hk => (hown6.lt k hk).1
        have hSz := owned_setCell (owned_row hown6 hset) (g := w.heap.size + 1 + 1 + 1) (fun e => by have := hl6 _ e; omega) 1 (.slice q3 (i + 1) c3)
        have hbZ : Below w.heap.size w (w6.setCell ⟨w.heap.size + 1 + 1 + 1, 1, none⟩ (.slice q3 (i + 1) c3)) := ((hbX.alloc (by omega) _).grown hgrow6 (by simp; omega) (fun k hk => by have := hls k hk; omega)).setCell (by show w.heap.size ≤ w.heap.size + 1 + 1 + 1; omega) _
        have hsZ : w2.heap.size ≤ (w6.setCell ⟨w.heap.size + 1 + 1 + 1, 1, none⟩ (.slice q3 (i + 1) c3)).heap.size := by
          have := hgrow6.size
          simp at this ⊢
          omega
        clear gX0 gX1 gX2 gX3 hWx hSx hbX hown6 hgrow6 hbt
        go_wp2
        go_roundg (h.m - (i + 1))
        case measure => omega
        case rel => exact ⟨i + 1, _, by omega, rfl, by go_num, gZ0, gZ1, gZ2, gZ3, hWz, hSz, hbZ, hsZ⟩
      · have hset : setS h.s g x i = h.s i := by unfold setS; rw [if_neg e]
        have d0 : ((i : Int) == g) = false := by simp [e]
        clear e
        go_upto_region 9 with fail
        obtain ⟨wx, hwx⟩ : ∃ wx, wx = wr.alloc (.cells #[.int .i64 (h.s i).st, .int .i64 (h.s i).cl, .int .u32 (h.s i).fr] 46) := ⟨_, rfl⟩
        have hX : Box3 wr.heap.size (.int .i64 (h.s i).st) (.int .i64 (h.s i).cl) (.int .u32 (h.s i).fr) wx := by rw [hwx]; exact Box3.new wr _ _ _ _
        have hst : Below wr.heap.size wr wx := by rw [hwx]; exact (Below.refl _ _).alloc (Nat.le_refl _) _
        rw [← hwx]
        clear hwx
        have gX0 := gB0.below hst
        have gX1 := gB1.below hst
        have gX2 := gB2.below hst
        have gX3 := gB3.below hst
        have hWx := owned_below hownW hst
        have hSx := owned_below hownS hst
        have hbX := bjoin hst hbw
        have hsX : wr.heap.size + 1 ≤ wx.heap.size := by have := hX.1; omega
        clear gB0 gB1 gB2 gB3 hownW hownS hst l0 k0 k1 k2 l3 j0 j1 j2 f0 f1 f2 s0 s1 s2 hlt
        have g0 := gX0
        have g3 := gX3
        obtain ⟨l0, k0, k1, k2, -, -, -⟩ := g0
        obtain ⟨l3, j0, j1, j2, f0, f1, f2⟩ := g3
        obtain ⟨lX, r0, r1, r2, -, -, -⟩ := hX
        go_wp2_with (first
          | (at_builtin; refine wpList_append_own _ rfl (.tmp 36) (.tmp 38) 23 rfl w2.heap.size 46 i1 (.agg #[.int .i64 0, .int .i64 0, .int .u32 0]) 3 24 Tryd.underlying23 hi' hz0' hz1' hz2' rfl (by decide) (.slice q2 i c2) i _ rfl (hSx.alloc _) ⟨wx.heap.size, 0, none⟩ 1 1 (Sp.vals (h.s i)) rfl rfl (three_new _ _ _ _ _) (vals_oneCell _) (by simp only [maxLen]; omega) (by omega) (by simp; omega) ?_; intro ov w6 hown6 hgrow6 _; obtain ⟨q3, c3, rfl, hq3⟩ := owned_new hown6; have hbt : Below wx.heap.size wx (wx.alloc (.cells #[.int .i64 (h.s i).st, .int .i64 (h.s i).cl, .int .u32 (h.s i).fr] 46)) := (Below.refl _ _).alloc (Nat.le_refl _) _; have gY3 := (gX3.below hbt).grown hgrow6 (fun e => by have := hls _ e; omega); obtain ⟨l3', j0', j1', j2', f0', f1', f2'⟩ := gY3)
        )
        have hbt : Below wx.heap.size wx (wx.alloc (.cells #[.int .i64 (h.s i).st, .int .i64 (h.s i).cl, .int .u32 (h.s i).fr] 46)) := (Below.refl _ _).alloc (Nat.le_refl _) _
        have hne : ∀ b, b < w2.heap.size → (Value.slice q2 i c2).ownBlock ≠ some b := fun b hb e => by have := (hls _ e).1; omega
        have gZ0 := ((gX0.below hbt).grown hgrow6 (hne _ (by omega))).other (g := w.heap.size + 1 + 1 + 1) (by omega) 1 (.slice q3 (i + 1) c3)
        have gZ1 := ((gX1.below hbt).grown hgrow6 (hne _ (by omega))).other (g := w.heap.size + 1 + 1 + 1) (by omega) 1 (.slice q3 (i + 1) c3)
        have gZ2 := ((gX2.below hbt).grown hgrow6 (hne _ (by omega))).other (g := w.heap.size + 1 + 1 + 1) (by omega) 1 (.slice q3 (i + 1) c3)
        have gZ3 := ((gX3.below hbt).grown hgrow6 (hne _ (by omega))).store1 (.slice q3 (i + 1) c3)
        have hWz := owned_setCell ((owned_below hWx hbt).kept hgrow6 (by
          cases hob : (Value.slice q1 h.n c1).ownBlock with
          | none => exact .inl rfl
          | some b => exact .inr fun e => hne b (hlw b hob).2 e.symm)) (g := w.heap.size + 1 + 1 + 1) (fun e => by have := (hlw _ e).1; omega) 1 (.slice q3 (i + 1) c3)
        have hl6 : ∀ k, (Value.slice q3 (i + 1) c3).ownBlock = some k → w2.heap.size ≤ k := fun k hk => (hown6.lt k hk).1
        have hSz := owned_setCell (owned_row hown6 hset) (g := w.heap.size + 1 + 1 + 1) (fun e => by have := hl6 _ e; omega) 1 (.slice q3 (i + 1) c3)
        have hbZ : Below w.heap.size w (w6.setCell ⟨w.heap.size + 1 + 1 + 1, 1, none⟩ (.slice q3 (i + 1) c3)) := ((hbX.alloc (by omega) _).grown hgrow6 (by simp; omega) (fun k hk => by have := hls k hk; omega)).setCell (by show w.heap.size ≤ w.heap.size + 1 + 1 + 1; omega) _
        have hsZ : w2.heap.size ≤ (w6.setCell ⟨w.heap.size + 1 + 1 + 1, 1, none⟩ (.slice q3 (i + 1) c3)).heap.size := by
          have := hgrow6.size
          simp at this ⊢
          omega
        clear gX0 gX1 gX2 gX3 hWx hSx hbX hown6 hgrow6 hbt
        go_wp2
        go_roundg (h.m - (i + 1))
        case measure => omega
        case rel => exact ⟨i + 1, _, by omega, rfl, by go_num, gZ0, gZ1, gZ2, gZ3, hWz, hSz, hbZ, hsZ⟩
    · obtain rfl : i = h.m := by omega
      have g2 := gB2
      obtain ⟨l2, b0, b1, b2, v0, v1, v2⟩ := g2
      have hWz := owned_setCell (owned_setCell (owned_setCell hownW (g := w.heap.size + 1 + 1) (fun e => by have := (hlw _ e).1; omega) 0 (.slice q1 h.n c1)) (g := w.heap.size + 1 + 1) (fun e => by have := (hlw _ e).1; omega) 1 (.slice q2 h.m c2)) (g := w.heap.size + 1 + 1) (fun e => by have := (hlw _ e).1; omega) 2 (.bool h.b)
      have hSz := owned_setCell (owned_setCell (owned_setCell hownS (g := w.heap.size + 1 + 1) (fun e => by have := (hls _ e).1; omega) 0 (.slice q1 h.n c1)) (g := w.heap.size + 1 + 1) (fun e => by have := (hls _ e).1; omega) 1 (.slice q2 h.m c2)) (g := w.heap.size + 1 + 1) (fun e => by have := (hls _ e).1; omega) 2 (.bool h.b)
      have hbZ : Below w.heap.size w (((wr.setCell ⟨w.heap.size + 1 + 1, 0, none⟩ (.slice q1 h.n c1)).setCell ⟨w.heap.size + 1 + 1, 1, none⟩ (.slice q2 h.m c2)).setCell ⟨w.heap.size + 1 + 1, 2, none⟩ (.bool h.b)) :=
        ((hbw.setCell (by show w.heap.size ≤ w.heap.size + 1 + 1; omega) _).setCell (by show w.heap.size ≤ w.heap.size + 1 + 1; omega) _).setCell (by show w.heap.size ≤ w.heap.size + 1 + 1; omega) _
      clear gB0 gB1 gB2 gB3 hownW hownS
      go_wp2
      refine bodyPost_ret (by simp [results, Tryd.results22, go_sem, *]; try rfl) rfl ?_
      exact ⟨q1, c1, q2, c2, rfl, owned_base hWz (by omega), owned_base hSz (by omega), fun b b' e e' => by have := (hlw b e).2; have := (hls b' e').1; omega, hbZ⟩
end Go.Proofs.YtonjnedlnfdanaaDoor
/-! Contracts of the reference's Open, Close, Lay, Free (chapter 7). -/
namespace Go.Proofs.YtonjnedlnfdanaaDoor
set_option linter.unusedSimpArgs false
set_option linter.unusedVariables false
open Go.ChangeShapes Go.WideShapes Go.ChangeAt Go.RowKit Go.Joins

/-- A new address, or none. -/
def NewV (n : Nat) (v : Value) : Prop := ∀ b, v.ownBlock = some b → n ≤ b
/-- Whence an answer's rows are: new, if it was done; else those that came in. -/
structure Src (B : Nat) (ok : Bool) (n m : Nat) (p : Option Addr) (c : Nat) (q : Option Addr) (d : Nat) (p' : Option Addr) (c' : Nat) (q' : Option Addr) (d' : Nat) : Prop where
  new : ok = true → NewV B (.slice p' n c') ∧ NewV B (.slice q' m d')
  old : ok = false → p' = p ∧ c' = c ∧ q' = q ∧ d' = d
theorem owned_newV {w : World} {base : Nat} {e : TypeId} {size : Nat} {v : Value} {n : Nat} {xs : List Value} (h : w.ownsRow base e size v n xs) : NewV base v := fun b hb => (h.lt b hb).1
theorem at_with {w : World} {base : Nat} {e1 e2 : TypeId} {p' : Option Addr} {c' : Nat} {q' : Option Addr} {d' : Nat} {h : Hp} (h1 : w.ownsRow base e1 1 (.slice p' h.n c') h.n (vals .u64 h.n h.z)) (h2 : w.ownsRow base e2 3 (.slice q' h.m d') h.m (spVals h.m h.s)) (hw : h.wf) (hn : h.n ≤ maxLen) (hm : h.m ≤ maxLen) : HpAt w p' c' q' d' h where
  ints := ints_owned h1 hw.1
  spans := spans_owned h2 hw.2
  nle := hn
  mle := hm
  pnil := fun e => by
    subst e
    rcases h1.2 with ⟨hv, h0⟩ | ⟨g, cap', cur, hv, -⟩
    · injection hv with _ _ e; exact ⟨h0, e⟩
    · injection hv with e; cases e
  qnil := fun e => by
    subst e
    rcases h2.2 with ⟨hv, h0⟩ | ⟨g, cap', cur, hv, -⟩
    · injection hv with _ _ e; exact ⟨h0, e⟩
    · injection hv with e; cases e
  ncap := by
    rcases h1.2 with ⟨hv, h0⟩ | ⟨g, cap', cur, hv, -, -, h1, h2, -⟩
    · injection hv with _ _ e; rw [h0, e]; exact ⟨Nat.le_refl _, by decide⟩
    · injection hv with _ _ e; subst e; exact ⟨h1, h2⟩
  mcap := by
    rcases h2.2 with ⟨hv, h0⟩ | ⟨g, cap', cur, hv, -, -, h1, h2, -⟩
    · injection hv with _ _ e; rw [h0, e]; exact ⟨Nat.le_refl _, by decide⟩
    · injection hv with _ _ e; subst e; exact ⟨h1, h2⟩
set_option maxHeartbeats 2000000 in
theorem ropen_any (p : Option Addr) (c : Nat) (q : Option Addr) (d : Nat) (h : Hp) (g k : Int) (w : World) (hh : HpAt w p c q d h) (hF : formB h = true) :
    Calls Tryd.prog 12 #[.agg #[.slice p h.n c, .slice q h.m d, .bool h.b], .int .i64 g, .int .i64 k] w fun e w' => ∃ p' c' q' d', e = .returned (.tuple #[.agg #[.slice p' h.n c', .slice q' h.m d', .bool h.b], .bool (opB h g k)]) ∧
      HpAt w' p' c' q' d' (opH h g k) ∧ Src w.heap.size (opB h g k) h.n h.m p c q d p' c' q' d' ∧ Below w.heap.size w w' := by
  have hm16 := (form_iff.1 hF).2.1
  have hnn := (form_iff.1 hF).2.2.1
  have hwf := hh.wf
  cases ho : opB h g k with
  | true =>
    obtain ⟨p0, p1, k0, k1, hs⟩ := op_spec hF ho
    have eo : opH h g k = withS h g ⟨1, k, wholeW (blW k)⟩ := by unfold opH; rw [if_pos ho]
    have hx : (⟨1, k, wholeW (blW k)⟩ : Sp).wf := ⟨⟨by show (-9223372036854775808 : Int) ≤ 1; decide, by show (1 : Int) ≤ 9223372036854775807; decide⟩, ⟨by show -9223372036854775808 ≤ k; omega, by show k ≤ 9223372036854775807; omega⟩, mask_whole _⟩
    have hst : (h.s g.toNat).st = 0 := by have : spH h g = h.s g.toNat := rfl; rw [← this, hs]
    obtain ⟨⟨b, off, rfl, hlt, s0, s1, s2⟩, hw⟩ := hh.spans g.toNat (by omega)
    rw [hst] at s0
    have hle : h.n ≤ 17592186043904 := by omega
    rw [eo]
    have hHid : Hid (h.n = 32 * h.m) := hnn
    clear hnn hs hst eo ho
    go_enter Tryd.func12, Tryd.ntmps12
    go_upto_region 3 with fail
    obtain ⟨w0, hw0⟩ : ∃ w0, w0 = (w.alloc (.cells #[.slice p h.n c, .slice (some ⟨b, off, none⟩) h.m d, .bool h.b] 25)).alloc (.cells #[.slice none 0 0, .slice none 0 0, .bool false] 25) := ⟨_, rfl⟩
    have hst : Below w.heap.size w w0 := by rw [hw0]; go_grown
    have hat := hh.below hst
    have hR : Box3 (w.heap.size + 1) (.slice none 0 0) (.slice none 0 0) (.bool false) w0 := by rw [hw0]; have := Box3.new (w.alloc (.cells #[.slice p h.n c, .slice (some ⟨b, off, none⟩) h.m d, .bool h.b] 25)) (.slice none 0 0) (.slice none 0 0) (.bool false) 25; simpa using this
    have hB0 : Box3 w.heap.size (.slice p h.n c) (.slice (some ⟨b, off, none⟩) h.m d) (.bool h.b) w0 := by rw [hw0]; exact (Box3.new w _ _ _ _).below ((Below.refl _ _).alloc (Nat.le_refl _) _)
    rw [← hw0]
    clear hw0
    obtain ⟨l0, x0, x1, x2, -, -, -⟩ := hB0
    obtain ⟨l1, y0, y1, y2, f0, f1, f2⟩ := hR
    go_region_with (first
    | (go_at_call 17; refine Calls.mono (rcblocks_any _ _) ?_; rintro e w' ⟨rfl, hb⟩; obtain ⟨hc, hf, hb, hz⟩ := bstep hb (w := w0) (by go_grown); try simp only [World.size_alloc, World.size_setCell, World.size_drew] at hc hf hz)
    | (go_at_call 23; refine Calls.mono (rwhole_any _ _) ?_; rintro e w' ⟨rfl, hb⟩; obtain ⟨hc, hf, hb, hz⟩ := bstep hb (w := w0) (by go_grown); try simp only [World.size_alloc, World.size_setCell, World.size_drew] at hc hf hz)
    | (go_at_call 22; refine Calls.mono (rwithH_any _ _ _ _ _ _ ⟨1, k, wholeW (blW k)⟩ _ (hat.below (by go_grown)) hx hle hm16) ?_; rintro e w' ⟨p', c', q', d', rfl, hoW, hoS, hne, hb⟩; obtain ⟨hc, hf, hb, hz⟩ := bstep hb (w := w0) (by go_grown); try simp only [World.size_alloc, World.size_setCell, World.size_drew] at hc hf hz)
    )
    all_goals
      have hB := hb
      have hlW := fun k e => (hoW.lt k e).1
      have hlS := fun k e => (hoS.lt k e).1
      have hge : w.heap.size + 2 ≤ w'.heap.size := by have := hb.size; omega
      go_wp2
      refine bodyPost_ret (by simp [results, Tryd.results12, go_sem, *]; try rfl) rfl ?_
      have nW : ∀ {v : Value} {e : TypeId} {size n : Nat} {xs : List Value} {W : World} {B : Nat}, W.ownsRow B e size v n xs → w.heap.size + 2 ≤ B → v.ownBlock ≠ some (w.heap.size + 1) := fun ho hB e => by have := (ho.lt _ e).1; omega
      refine ⟨p', c', q', d', rfl, ?_, ?_, ?_⟩
      · exact at_with (h := withS h g ⟨1, k, wholeW (blW k)⟩)
          (owned_setCell (owned_setCell (owned_setCell (owned_base hoW (show w.heap.size + 2 ≤ _ by omega)) (nW (owned_base hoW (show w.heap.size + 2 ≤ _ by omega)) (Nat.le_refl _)) _ _) (nW (owned_base hoW (show w.heap.size + 2 ≤ _ by omega)) (Nat.le_refl _)) _ _) (nW (owned_base hoW (show w.heap.size + 2 ≤ _ by omega)) (Nat.le_refl _)) _ _)
          (owned_setCell (owned_setCell (owned_setCell (owned_base hoS (show w.heap.size + 2 ≤ _ by omega)) (nW (owned_base hoS (show w.heap.size + 2 ≤ _ by omega)) (Nat.le_refl _)) _ _) (nW (owned_base hoS (show w.heap.size + 2 ≤ _ by omega)) (Nat.le_refl _)) _ _) (nW (owned_base hoS (show w.heap.size + 2 ≤ _ by omega)) (Nat.le_refl _)) _ _)
          (wf_with hwf hx) hh.nle hh.mle
      · exact ⟨fun _ => ⟨owned_newV (owned_base hoW (by omega)), owned_newV (owned_base hoS (by omega))⟩, fun h => (by cases h)⟩
      · exact (((bjoin hB hst).setCell (Nat.le_succ _) _).setCell (Nat.le_succ _) _).setCell (Nat.le_succ _) _
  | false =>
    have eo : opH h g k = h := by unfold opH; rw [if_neg (by simp [ho])]
    rw [eo]
    clear eo hnn
    by_cases hg : 0 ≤ g ∧ g < h.m
    · obtain ⟨p0, p1⟩ := hg
      obtain ⟨⟨b, off, rfl, hlt, s0, s1, s2⟩, hw⟩ := hh.spans g.toNat (by omega)
      by_cases hk : 0 ≤ k ∧ k < 4
      · obtain ⟨k0, k1⟩ := hk
        have hst : ¬ (h.s g.toNat).st = 0 := fun e => by
          have : opB h g k = true := by
            unfold opB clB
            rw [inI_yes p0 p1, decide_eq_true k0, decide_eq_true k1, show (spH h g).st = 0 from e]; rfl
          rw [ho] at this; cases this
        have d0 : ((h.s g.toNat).st != 0) = true := by simpa using hst
        clear hst ho
        go_enter Tryd.func12, Tryd.ntmps12
        go_wp2
        refine bodyPost_ret (by simp [results, Tryd.results12, go_sem, *]; try rfl) rfl ?_
        first | exact ⟨p, c, _, d, rfl, hh.below (by go_grown), ⟨fun h => (by cases h), fun _ => ⟨rfl, rfl, rfl, rfl⟩⟩, by go_grown⟩ | exact ⟨hh.below (by go_grown), ⟨fun h => (by cases h), fun _ => ⟨rfl, rfl, rfl, rfl⟩⟩, by go_grown⟩
      · clear ho
        by_cases hk0 : 0 ≤ k
        · go_enter Tryd.func12, Tryd.ntmps12
          go_wp2
          refine bodyPost_ret (by simp [results, Tryd.results12, go_sem, *]; try rfl) rfl ?_
          first | exact ⟨p, c, _, d, rfl, hh.below (by go_grown), ⟨fun h => (by cases h), fun _ => ⟨rfl, rfl, rfl, rfl⟩⟩, by go_grown⟩ | exact ⟨hh.below (by go_grown), ⟨fun h => (by cases h), fun _ => ⟨rfl, rfl, rfl, rfl⟩⟩, by go_grown⟩
        · go_enter Tryd.func12, Tryd.ntmps12
          go_wp2
          refine bodyPost_ret (by simp [results, Tryd.results12, go_sem, *]; try rfl) rfl ?_
          first | exact ⟨p, c, _, d, rfl, hh.below (by go_grown), ⟨fun h => (by cases h), fun _ => ⟨rfl, rfl, rfl, rfl⟩⟩, by go_grown⟩ | exact ⟨hh.below (by go_grown), ⟨fun h => (by cases h), fun _ => ⟨rfl, rfl, rfl, rfl⟩⟩, by go_grown⟩
    · clear ho
      by_cases hg0 : 0 ≤ g
      · go_enter Tryd.func12, Tryd.ntmps12
        go_wp2
        refine bodyPost_ret (by simp [results, Tryd.results12, go_sem, *]; try rfl) rfl ?_
        first | exact ⟨p, c, q, d, rfl, hh.below (by go_grown), ⟨fun h => (by cases h), fun _ => ⟨rfl, rfl, rfl, rfl⟩⟩, by go_grown⟩ | exact ⟨hh.below (by go_grown), ⟨fun h => (by cases h), fun _ => ⟨rfl, rfl, rfl, rfl⟩⟩, by go_grown⟩
      · go_enter Tryd.func12, Tryd.ntmps12
        go_wp2
        refine bodyPost_ret (by simp [results, Tryd.results12, go_sem, *]; try rfl) rfl ?_
        first | exact ⟨p, c, q, d, rfl, hh.below (by go_grown), ⟨fun h => (by cases h), fun _ => ⟨rfl, rfl, rfl, rfl⟩⟩, by go_grown⟩ | exact ⟨hh.below (by go_grown), ⟨fun h => (by cases h), fun _ => ⟨rfl, rfl, rfl, rfl⟩⟩, by go_grown⟩
end Go.Proofs.YtonjnedlnfdanaaDoor
/-! Contract of the reference's Close (chapter 7). -/
namespace Go.Proofs.YtonjnedlnfdanaaDoor
set_option linter.unusedSimpArgs false
set_option linter.unusedVariables false
open Go.ChangeShapes Go.WideShapes Go.ChangeAt Go.RowKit Go.Joins

theorem boxed2 {w : World} {v0 v1 v2 u0 u1 u2 : Value} {t : TypeId} : ∃ w0, w0 = (w.alloc (.cells #[v0, v1, v2] t)).alloc (.cells #[u0, u1, u2] t) ∧ Box3 w.heap.size v0 v1 v2 w0 ∧ Box3 (w.heap.size + 1) u0 u1 u2 w0 ∧ Below w.heap.size w w0 := boxes
set_option maxHeartbeats 4000000 in
theorem rclose_any (p : Option Addr) (c : Nat) (q : Option Addr) (d : Nat) (h : Hp) (g : Int) (w : World) (hh : HpAt w p c q d h) (hF : formB h = true) :
    Calls Tryd.prog 15 #[.agg #[.slice p h.n c, .slice q h.m d, .bool h.b], .int .i64 g] w fun e w' => ∃ p' c' q' d', e = .returned (.tuple #[.agg #[.slice p' h.n c', .slice q' h.m d', .bool h.b], .bool (loB h g)]) ∧
      HpAt w' p' c' q' d' (loH h g) ∧ Src w.heap.size (loB h g) h.n h.m p c q d p' c' q' d' ∧ Below w.heap.size w w' := by
  have hm16 := (form_iff.1 hF).2.1
  have hle : h.n ≤ 17592186043904 := by have := (form_iff.1 hF).2.2.1; omega
  have hwf := hh.wf
  obtain ⟨w0, hw0, hB0, hR, hst⟩ := boxed2 (w := w) (v0 := .slice p h.n c) (v1 := .slice q h.m d) (v2 := .bool h.b) (u0 := .slice none 0 0) (u1 := .slice none 0 0) (u2 := .bool false) (t := 25)
  have hat := hh.below hst
  obtain ⟨l0, x0, x1, x2, -, -, -⟩ := hB0
  obtain ⟨l1, y0, y1, y2, f0, f1, f2⟩ := hR
  cases ho : loB h g with
  | true =>
    obtain ⟨p0, p1, -⟩ := lo_spec hF hwf ho
    have eo : loH h g = withS h g ⟨0, 0, 0⟩ := by unfold loH; rw [if_pos ho]
    have ho' := ho
    unfold loB at ho'
    rw [inI_yes p0 p1, show spH h g = h.s g.toNat from rfl] at ho'
    simp only [Bool.true_and, Bool.and_eq_true, Bool.not_eq_true'] at ho'
    obtain ⟨d0, d1⟩ := ho'
    have d2 : (countW (h.s g.toNat).fr != blW (h.s g.toNat).cl) = false := by simp [bne, d1]
    obtain ⟨⟨b, off, rfl, hlt, s0, s1, s2⟩, hw⟩ := hat.spans g.toNat (by omega)
    have hm : Mask (h.s g.toNat).fr := hw.2.2
    rw [eo]
    clear eo ho d1
    go_enter Tryd.func15, Tryd.ntmps15
    go_upto_region 1 with fail
    rw [← hw0]
    clear hw0
    refine wp_region_plus (by kernel_rfl) (by kernel_rfl) fun hpc => ?_
    repeat (first | go_big_quiet_step ((first | (go_at_call 30; exact quiet_plus (rfree_any _ _ _ _ hm)) | (go_at_call 17; exact quiet_plus (rcblocks_any _ _)))) | quiet_step ((first | (go_at_call 30; exact quiet_plus (rfree_any _ _ _ _ hm)) | (go_at_call 17; exact quiet_plus (rcblocks_any _ _)))))
    refine wpQuiet_nil ?_
    intro w' hbq
    clear hpc
    obtain ⟨hc, hf, hb, hz⟩ := bstep hbq (w := w0) (by go_grown)
    try simp only [World.size_alloc, World.size_setCell, World.size_drew] at hc hf hz
    go_wp2_with (first
    | (go_at_call 22; refine Calls.mono (rwithH_any _ _ _ _ _ _ ⟨0, 0, 0⟩ _ (hat.below (by go_grown)) wf_zero hle hm16) ?_; rintro e w' ⟨p', c', q', d', rfl, hoW, hoS, hne, hb⟩; obtain ⟨hc, hf, hb, hz⟩ := bstep hb (w := w0) (by go_grown); try simp only [World.size_alloc, World.size_setCell, World.size_drew] at hc hf hz)
    )
    have hB := hb
    have hlW := fun k e => (hoW.lt k e).1
    have hlS := fun k e => (hoS.lt k e).1
    have hge : w.heap.size + 2 ≤ w'.heap.size := by have := hb.size; omega
    refine bodyPost_ret (by simp [results, Tryd.results15, go_sem, *]; try rfl) rfl ?_
    have nW : ∀ {v : Value} {e : TypeId} {size n : Nat} {xs : List Value} {W : World} {B : Nat}, W.ownsRow B e size v n xs → w.heap.size + 2 ≤ B → v.ownBlock ≠ some (w.heap.size + 1) := fun ho hB e => by have := (ho.lt _ e).1; omega
    refine ⟨p', c', q', d', rfl, ?_, ?_, ?_⟩
    · exact at_with (h := withS h g ⟨0, 0, 0⟩)
        (owned_setCell (owned_setCell (owned_setCell (owned_base hoW (show w.heap.size + 2 ≤ _ by omega)) (nW (owned_base hoW (show w.heap.size + 2 ≤ _ by omega)) (Nat.le_refl _)) _ _) (nW (owned_base hoW (show w.heap.size + 2 ≤ _ by omega)) (Nat.le_refl _)) _ _) (nW (owned_base hoW (show w.heap.size + 2 ≤ _ by omega)) (Nat.le_refl _)) _ _)
        (owned_setCell (owned_setCell (owned_setCell (owned_base hoS (show w.heap.size + 2 ≤ _ by omega)) (nW (owned_base hoS (show w.heap.size + 2 ≤ _ by omega)) (Nat.le_refl _)) _ _) (nW (owned_base hoS (show w.heap.size + 2 ≤ _ by omega)) (Nat.le_refl _)) _ _) (nW (owned_base hoS (show w.heap.size + 2 ≤ _ by omega)) (Nat.le_refl _)) _ _)
        (wf_with hwf wf_zero) hh.nle hh.mle
    · exact ⟨fun _ => ⟨owned_newV (owned_base hoW (by omega)), owned_newV (owned_base hoS (by omega))⟩, fun h => (by cases h)⟩
    · exact (((bjoin hB hst).setCell (Nat.le_succ _) _).setCell (Nat.le_succ _) _).setCell (Nat.le_succ _) _
  | false =>
    have eo : loH h g = h := by unfold loH; rw [if_neg (by simp [ho])]
    rw [eo]
    clear eo
    by_cases hg : 0 ≤ g ∧ g < h.m
    · obtain ⟨p0, p1⟩ := hg
      have ho' := ho
      unfold loB at ho'
      rw [inI_yes p0 p1, show spH h g = h.s g.toNat from rfl] at ho'
      simp only [Bool.true_and] at ho'
      obtain ⟨⟨b, off, rfl, hlt, s0, s1, s2⟩, hw⟩ := hat.spans g.toNat (by omega)
      have hm : Mask (h.s g.toNat).fr := hw.2.2
      cases d0 : ((h.s g.toNat).st == 0) with
      | true =>
        clear ho ho'
        go_enter Tryd.func15, Tryd.ntmps15
        go_upto_region 1 with fail
        rw [← hw0]
        clear hw0
        refine wp_region_plus (by kernel_rfl) (by kernel_rfl) fun hpc => ?_
        repeat (first | go_big_quiet_step ((first | (go_at_call 30; exact quiet_plus (rfree_any _ _ _ _ hm)) | (go_at_call 17; exact quiet_plus (rcblocks_any _ _)))) | quiet_step ((first | (go_at_call 30; exact quiet_plus (rfree_any _ _ _ _ hm)) | (go_at_call 17; exact quiet_plus (rcblocks_any _ _)))))
        refine wpQuiet_nil ?_
        intro w' hbq
        clear hpc
        obtain ⟨hc, hf, hb, hz⟩ := bstep hbq (w := w) (by go_grown)
        try simp only [World.size_alloc, World.size_setCell, World.size_drew] at hc hf hz
        go_wp2
        refine bodyPost_ret (by simp [results, Tryd.results15, go_sem, *]; try rfl) rfl ?_
        first | exact ⟨p, c, _, d, rfl, hh.below (by go_grown), ⟨fun h => (by cases h), fun _ => ⟨rfl, rfl, rfl, rfl⟩⟩, by go_grown⟩ | exact ⟨hh.below (by go_grown), ⟨fun h => (by cases h), fun _ => ⟨rfl, rfl, rfl, rfl⟩⟩, by go_grown⟩
      | false =>
        have d1 : (countW (h.s g.toNat).fr == blW (h.s g.toNat).cl) = false := by simpa [d0] using ho'
        have d2 : (countW (h.s g.toNat).fr != blW (h.s g.toNat).cl) = true := by simp [bne, d1]
        clear ho ho' d1
        go_enter Tryd.func15, Tryd.ntmps15
        go_upto_region 1 with fail
        rw [← hw0]
        clear hw0
        refine wp_region_plus (by kernel_rfl) (by kernel_rfl) fun hpc => ?_
        repeat (first | go_big_quiet_step ((first | (go_at_call 30; exact quiet_plus (rfree_any _ _ _ _ hm)) | (go_at_call 17; exact quiet_plus (rcblocks_any _ _)))) | quiet_step ((first | (go_at_call 30; exact quiet_plus (rfree_any _ _ _ _ hm)) | (go_at_call 17; exact quiet_plus (rcblocks_any _ _)))))
        refine wpQuiet_nil ?_
        intro w' hbq
        clear hpc
        obtain ⟨hc, hf, hb, hz⟩ := bstep hbq (w := w) (by go_grown)
        try simp only [World.size_alloc, World.size_setCell, World.size_drew] at hc hf hz
        go_wp2
        refine bodyPost_ret (by simp [results, Tryd.results15, go_sem, *]; try rfl) rfl ?_
        first | exact ⟨p, c, _, d, rfl, hh.below (by go_grown), ⟨fun h => (by cases h), fun _ => ⟨rfl, rfl, rfl, rfl⟩⟩, by go_grown⟩ | exact ⟨hh.below (by go_grown), ⟨fun h => (by cases h), fun _ => ⟨rfl, rfl, rfl, rfl⟩⟩, by go_grown⟩
    · clear ho
      by_cases hg0 : 0 ≤ g
      · have hg1 : (h.m : Int) ≤ g := by omega
        go_enter Tryd.func15, Tryd.ntmps15
        go_upto_region 1 with fail
        rw [← hw0]
        clear hw0
        refine wp_region_plus (by kernel_rfl) (by kernel_rfl) fun hpc => ?_
        repeat (first | go_big_quiet_step (fail) | quiet_step (fail))
        refine wpQuiet_nil ?_
        intro w' hbq
        clear hpc
        obtain ⟨hc, hf, hb, hz⟩ := bstep hbq (w := w) (by go_grown)
        try simp only [World.size_alloc, World.size_setCell, World.size_drew] at hc hf hz
        go_wp2
        refine bodyPost_ret (by simp [results, Tryd.results15, go_sem, *]; try rfl) rfl ?_
        first | exact ⟨p, c, q, d, rfl, hh.below (by go_grown), ⟨fun h => (by cases h), fun _ => ⟨rfl, rfl, rfl, rfl⟩⟩, by go_grown⟩ | exact ⟨hh.below (by go_grown), ⟨fun h => (by cases h), fun _ => ⟨rfl, rfl, rfl, rfl⟩⟩, by go_grown⟩
      · have hg1 : g < 0 := by omega
        go_enter Tryd.func15, Tryd.ntmps15
        go_upto_region 1 with fail
        rw [← hw0]
        clear hw0
        refine wp_region_plus (by kernel_rfl) (by kernel_rfl) fun hpc => ?_
        repeat (first | go_big_quiet_step (fail) | quiet_step (fail))
        refine wpQuiet_nil ?_
        intro w' hbq
        clear hpc
        obtain ⟨hc, hf, hb, hz⟩ := bstep hbq (w := w) (by go_grown)
        try simp only [World.size_alloc, World.size_setCell, World.size_drew] at hc hf hz
        go_wp2
        refine bodyPost_ret (by simp [results, Tryd.results15, go_sem, *]; try rfl) rfl ?_
        first | exact ⟨p, c, q, d, rfl, hh.below (by go_grown), ⟨fun h => (by cases h), fun _ => ⟨rfl, rfl, rfl, rfl⟩⟩, by go_grown⟩ | exact ⟨hh.below (by go_grown), ⟨fun h => (by cases h), fun _ => ⟨rfl, rfl, rfl, rfl⟩⟩, by go_grown⟩
end Go.Proofs.YtonjnedlnfdanaaDoor
/-! A region that draws its order, whose operations but the last read, or call what makes new memory alone, and that ends in stores of one forced order: one walk, in the order of the text. -/
namespace Go.Proofs.YtonjnedlnfdanaaDoor
set_option linter.unusedSimpArgs false
set_option linter.unusedVariables false
open Go.ChangeShapes Go.WideShapes Go.ChangeAt Go.RowKit

section
variable {P : Program} {ops : Array Oper} {md : Region.Mode} {C : World → Prop}
/-- Whatever order is picked, of the operations below n alone. -/
def headQ (P : Program) (md : Region.Mode) (ops : Array Oper) (C : World → Prop) (n : Nat) (L : Array Bool → Act → Prop) : Nat → Array Bool → Act → Prop
  | 0, l, a => L l a
  | f + 1, l, a => Region.ready md ops l ≠ [] ∧ ∀ i ∈ Region.ready md ops l, i < n ∧ qOp P ops C i (headQ P md ops C n L f (l.setIfInBounds i true)) a
theorem any_of_headQ {n g : Nat} {L : Array Bool → Act → Prop} {Q' : Exit → Act → World → Prop} (hL : ∀ l a w, C w → L l a → wpAny P md ops Q' g l a w) :
    ∀ (f : Nat) (l : Array Bool) (a : Act) (w : World), C w → headQ P md ops C n L f l a → wpAny P md ops Q' (f + g) l a w
  | 0, l, a, w, hw, h => by rw [Nat.zero_add]; exact hL l a w hw h
  | f + 1, l, a, w, hw, h => by
    rw [show f + 1 + g = (f + g) + 1 by omega]
    exact ⟨fun h0 => absurd h0 h.1, fun i hi => wpOp_of_qOp hw (fun a' w' hw' h' => any_of_headQ hL f _ a' w' hw' h') (h.2 i hi).2⟩
theorem headQ_first {n i : Nat} {o : Oper} {v : Value} {L : Array Bool → Act → Prop} (ho : ops[i]? = some o) (hsel : ∀ (j : Nat) (x : Oper) cs b, ops[j]? = some x → x.op ≠ .select cs b)
    (hs : Region.sinkB md ops n = true) (hc : Region.chainB md ops n = true) (hn : n < ops.size) (hin : i < n) (hdone : ∀ l a, L l a → ∀ j ∈ Region.ready md ops l, n ≤ j) :
    ∀ (f : Nat) (l : Array Bool) (a : Act), HeadInv md ops n l →
      (∀ j x, ops[j]? = some x → j ≠ i → l.getD j true = false → (∀ e ∈ x.after, Region.binds md e = true → e.on ≠ i) → o.apart ops x = true) →
      i ∈ Region.ready md ops l → YieldsIn P ops C o v a → headQ P md ops C n L f (l.setIfInBounds i true) (a.put o.dst v) → headQ P md ops C n L (f + 1) l a := by
  intro f
  induction f with
  | zero =>
    intro l a inv _ hr hy H
    refine ⟨fun h => (by rw [h] at hr; cases hr), fun j hj => ?_⟩
    have hjn : j < n := by
      rcases Nat.lt_or_ge j n with h | h
      · exact h
      · exact absurd hj (tail_waits hs hc hn inv _ i rfl hin (mem_ready.1 hr).1 j h)
    refine ⟨hjn, ?_⟩
    by_cases e : j = i
    · subst e; exact hy.qOp ho H
    · have := hdone _ _ H j (ready_mono hj e); omega
  | succ f ih =>
    intro l a inv hfree hr hy H
    have hun := (mem_ready.1 hr).1
    refine ⟨fun h => (by rw [h] at hr; cases hr), fun j hj => ?_⟩
    have hjn : j < n := by
      rcases Nat.lt_or_ge j n with h | h
      · exact h
      · exact absurd hj (tail_waits hs hc hn inv _ i rfl hin hun j h)
    refine ⟨hjn, ?_⟩
    by_cases e : j = i
    · subst e; exact hy.qOp ho H
    · have h1 := (H.2 j (ready_mono hj e)).2
      obtain ⟨hjun, x, hx, hall⟩ := mem_ready.1 hj
      have hnot : ∀ y ∈ x.after, Region.binds md y = true → y.on ≠ i := fun y hy hb heq => by
        have h2 := hall y hy hb
        rw [heq, getD_both hun] at h2
        cases h2
      have h2 := qOp_put hx (hfree j x hx e hjun hnot) (fun cs b => hsel i o cs b ho) (fun cs b => hsel j x cs b hx) hy h1
      refine qOp_mono (fun a' h3 => ih (l.setIfInBounds j true) a' (inv.set hj hjn) (fun k y hk hki hu hno => hfree k y hk hki ?_ hno) (ready_mono hr (Ne.symm e)) h3.1 ?_) h2
      · by_cases hjk : j = k
        · subst hjk; exact hjun
        · rw [getD_set_ne true hjk] at hu; exact hu
      · rw [Array.setIfInBounds_comm _ _ e]
        exact h3.2
theorem headQ_lex {n g : Nat} {Q : Act → Prop} (hsel : Region.noSelect ops = true) (hs : Region.sinkB md ops n = true) (hc : Region.chainB md ops n = true) (hn : n < ops.size) :
    ∀ (l : List Oper) (k : Nat) (b : Array Bool) (a : Act), (∀ j, j < l.length → l[j]? = ops[k + j]?) → k + l.length = n → HeadInv md ops n b →
    Region.lexHead md ops g l.length k b = true → wpQuiet P ops C Q l a → headQ P md ops C n (fun b' a' => Region.seqB md ops g n b' = true ∧ Q a') l.length b a
  | [], k, b, a, _, hk, _, hB, h => by
    have : k = n := by simpa using hk
    subst this
    exact ⟨by simpa [Region.lexHead] using hB, h⟩
  | o :: l, k, b, a, hl, hk, inv, hB, h => by
    have h0 : ops[k]? = some o := by simpa using (hl 0 (by simp)).symm
    simp only [List.length_cons, Region.lexHead, Bool.and_eq_true] at hB
    obtain ⟨⟨hr, hf⟩, hB'⟩ := hB
    simp only [List.length_cons] at hk
    have hr' : k ∈ Region.ready md ops b := by simpa using hr
    have hst : qOp P ops C k (wpQuiet P ops C Q l) a := by unfold qOp; simp only [h0]; exact h
    obtain ⟨v, hy, hK⟩ := yieldsIn_of_qOp h0 hst
    exact headQ_first h0 (Region.noSelect_spec hsel) hs hc hn (by omega) (fun b' a' hL => seqB_ready hL.1) l.length b a inv (Region.free_spec h0 hf) hr' hy
      (headQ_lex hsel hs hc hn l (k + 1) _ _ (fun j hj => by have := hl (j + 1) (by simp; omega); simpa [Nat.add_assoc, Nat.add_comm 1 j] using this) (by omega) (inv.set hr' (by omega)) hB' hK)
theorem wp_region_quiet_tail {id : Nat} {Q : Exit → Act → World → Prop} {a : Act} {w : World} {l : List Oper} (n : Nat) (hm : P.follows .mixedOrders = true) (hB : Region.lexTailB .any l.toArray n = true) (hC : C { w with drawn := w.drawn + 1 })
    (h : wpQuiet P l.toArray C (fun a' => ∀ w', C w' → wpList P l.toArray Q (l.drop n) a' w') (l.take n) a) : (Code.region id l.toArray true).wp P Q a w := by
  simp only [Region.lexTailB, Bool.and_eq_true, decide_eq_true_eq] at hB
  obtain ⟨⟨⟨⟨hsel, hn⟩, hs⟩, hc⟩, hlex⟩ := hB
  have hn' : n < l.length := by simpa using hn
  have htl : (l.take n).length = n := by simp; omega
  have inv0 : HeadInv .any l.toArray n (Array.replicate l.toArray.size false) :=
    ⟨by simp, fun j x _ hl => (by rw [getD_replicate_false] at hl; cases hl), fun t _ ht => getD_in (by simpa using ht) (getD_replicate_false _ _)⟩
  have H := headQ_lex (md := .any) (g := l.toArray.size - n) hsel hs hc hn (l.take n) 0 _ a (fun j hj => by
    have hj' : j < n := by rw [htl] at hj; exact hj
    simp [hj']) (by simpa using htl) inv0 (by rw [htl]; exact hlex) h
  refine wp_region_any hm ?_
  have := any_of_headQ (Q' := Q) (g := l.toArray.size - n) (fun b a' w' hw' hL => by
    have := wpAny_of_seq (P := P) (md := .any) (Q' := Q) (l.drop n) n b a' w' (fun j => by simp [List.getElem?_drop]) (by rw [List.length_drop, show l.length - n = l.toArray.size - n by simp]; exact hL.1) (hL.2 w' hw')
    rwa [List.length_drop, show l.length - n = l.toArray.size - n by simp] at this) _ _ _ _ hC H
  rw [htl, show n + (l.toArray.size - n) = l.toArray.size by omega] at this
  exact this
end
theorem wp_region_plus_tail {P : Program} {id : Nat} {Q : Exit → Act → World → Prop} {a : Act} {W : World} {l : List Oper} (n : Nat) (hm : P.follows .mixedOrders = true) (hB : Region.lexTailB .any l.toArray n = true)
    (h : (∀ (x : World) (b o : Nat), (⟨b + 1 - W.heap.size, 0, none⟩ : Addr) = ⟨0, 0, none⟩ → (plus W x).cell? ⟨b, o, none⟩ = W.cell? ⟨b, o, none⟩) →
      wpQuiet P l.toArray (fun w' => ∃ x, w' = plus W x) (fun a' => ∀ w', Below W.heap.size W w' → wpList P l.toArray Q (l.drop n) a' w') (l.take n) a) : (Code.region id l.toArray true).wp P Q a W :=
  wp_region_quiet_tail (C := fun w' => ∃ x, w' = plus W x) n hm hB (plus_of ⟨rfl, rfl, rfl, Nat.le_refl _, fun _ _ => rfl⟩) (by
    have e : (fun a' => ∀ w', Below W.heap.size W w' → wpList P l.toArray Q (l.drop n) a' w') = (fun a' => ∀ w', (∃ x, w' = plus W x) → wpList P l.toArray Q (l.drop n) a' w') := by
      funext a'
      refine propext ⟨fun h w' ⟨x, e⟩ => h w' (e ▸ plus_below W x), fun h w' hb => h _ (plus_of hb)⟩
    rw [← e]
    exact h (plus_cell W))
end Go.Proofs.YtonjnedlnfdanaaDoor
/-! Heaps in memory of the call's own: what stays of them, what a store makes of them; the reference's with, so said. -/
namespace Go.Proofs.YtonjnedlnfdanaaDoor
set_option linter.unusedSimpArgs false
set_option linter.unusedVariables false
open Go.ChangeShapes Go.WideShapes Go.ChangeAt Go.RowKit Go.Joins

structure HpOwn (W : World) (base : Nat) (p : Option Addr) (c : Nat) (q : Option Addr) (d : Nat) (h : Hp) : Prop where
  words : W.ownsRow base 36 1 (.slice p h.n c) h.n (vals .u64 h.n h.z)
  spans : W.ownsRow base 46 3 (.slice q h.m d) h.m (spVals h.m h.s)
  ne : ∀ b b', (Value.slice p h.n c).ownBlock = some b → (Value.slice q h.m d).ownBlock = some b' → b ≠ b'
  wf : h.wf
  nle : h.n ≤ maxLen
  mle : h.m ≤ maxLen
section
variable {W W' : World} {base : Nat} {p : Option Addr} {c : Nat} {q : Option Addr} {d : Nat} {h : Hp}
theorem HpOwn.at (o : HpOwn W base p c q d h) : HpAt W p c q d h := at_with o.words o.spans o.wf o.nle o.mle
theorem HpOwn.below (o : HpOwn W base p c q d h) (hb : Below W.heap.size W W') : HpOwn W' base p c q d h := ⟨owned_below o.words hb, owned_below o.spans hb, o.ne, o.wf, o.nle, o.mle⟩
theorem HpOwn.lower (o : HpOwn W base p c q d h) {base' : Nat} (hb : base' ≤ base) : HpOwn W base' p c q d h := ⟨owned_base o.words hb, owned_base o.spans hb, o.ne, o.wf, o.nle, o.mle⟩
theorem HpOwn.newW (o : HpOwn W base p c q d h) : NewV base (.slice p h.n c) := owned_newV o.words
theorem HpOwn.newS (o : HpOwn W base p c q d h) : NewV base (.slice q h.m d) := owned_newV o.spans
/-- A write into another block. -/
theorem HpOwn.other (o : HpOwn W base p c q d h) {g : Nat} (h1 : (Value.slice p h.n c).ownBlock ≠ some g) (h2 : (Value.slice q h.m d).ownBlock ≠ some g) (i : Nat) (u : Value) : HpOwn (W.setCell ⟨g, i, none⟩ u) base p c q d h :=
  ⟨owned_setCell o.words h1 i u, owned_setCell o.spans h2 i u, o.ne, o.wf, o.nle, o.mle⟩
theorem HpOwn.under (o : HpOwn W base p c q d h) {g : Nat} (hg : g < base) (i : Nat) (u : Value) : HpOwn (W.setCell ⟨g, i, none⟩ u) base p c q d h :=
  o.other (fun e => by have := o.newW g e; omega) (fun e => by have := o.newS g e; omega) i u
/-- The block of the words. -/
theorem HpOwn.word (o : HpOwn W base p c q d h) (h0 : 0 < h.n) : ∃ g, p = some ⟨g, 0, none⟩ ∧ base ≤ g ∧ g < W.heap.size := by
  rcases o.words.2 with ⟨-, h1⟩ | ⟨g, cap', cur, hv, hbg, hg, -⟩
  · omega
  · injection hv with hv
    refine ⟨g, hv, hbg, ?_⟩
    rcases Nat.lt_or_ge g W.heap.size with h' | h'
    · exact h'
    · rw [Array.getElem?_eq_none h'] at hg; cases hg
theorem HpOwn.span (o : HpOwn W base p c q d h) (h0 : 0 < h.m) : ∃ g, q = some ⟨g, 0, none⟩ ∧ base ≤ g ∧ g < W.heap.size := by
  rcases o.spans.2 with ⟨-, h1⟩ | ⟨g, cap', cur, hv, hbg, hg, -⟩
  · omega
  · injection hv with hv
    refine ⟨g, hv, hbg, ?_⟩
    rcases Nat.lt_or_ge g W.heap.size with h' | h'
    · exact h'
    · rw [Array.getElem?_eq_none h'] at hg; cases hg
theorem vals_putZ (k : IntKind) (n : Nat) (z : Nat → Int) (i : Int) (h0 : 0 ≤ i) (v : Int) : (vals k n z).set i.toNat (.int k v) = vals k n (putZ z i v) := by
  rw [vals_set]
  refine vals_congr k fun j _ => ?_
  unfold putZ
  by_cases e : (j : Int) = i
  · rw [if_pos (by omega), if_pos e]
  · rw [if_neg (by omega), if_neg e]
/-- A word stored. -/
theorem HpOwn.store {g : Nat} (o : HpOwn W base (some ⟨g, 0, none⟩) c q d h) {i v : Int} (h0 : 0 ≤ i) (hi : i < h.n) (hw : (Lit.int .u64 v).wf = true) :
    (∃ u, W.cell? ⟨g, i.toNat, none⟩ = some (.int .u64 u)) ∧ W.frozen? ⟨g, i.toNat, none⟩ = false ∧ HpOwn (W.setCell ⟨g, i.toNat, none⟩ (.int .u64 v)) base (some ⟨g, 0, none⟩) c q d { h with z := putZ h.z i v } := by
  refine ⟨⟨h.z i.toNat, ?_⟩, o.words.frozenAt _, ?_⟩
  · rw [o.words.cellAt _ (by omega)]; exact vals_get .u64 h.z (by omega)
  · obtain ⟨hs, -⟩ := o.words.stored i.toNat (.int .u64 v)
    rw [vals_putZ .u64 h.n h.z i h0 v] at hs
    refine ⟨hs, owned_setCell o.spans (fun e => o.ne g g rfl e rfl) _ _, o.ne, ⟨fun j hj => ?_, o.wf.2⟩, o.nle, o.mle⟩
    show (Lit.int .u64 (putZ h.z i v j)).wf = true
    unfold putZ; split
    · exact hw
    · exact o.wf.1 j hj
theorem HpOwn.congr (o : HpOwn W base p c q d h) {z : Nat → Int} {s : Nat → Sp} {b : Bool} (hz : ∀ i, i < h.n → h.z i = z i) (hs : ∀ i, i < h.m → h.s i = s i) : HpOwn W base p c q d { n := h.n, z := z, m := h.m, s := s, b := b } :=
  ⟨by rw [← vals_congr .u64 hz]; exact o.words, by rw [← spVals_congr hs]; exact o.spans, o.ne, ⟨fun i hi => by show (Lit.int .u64 (z i)).wf = true; rw [← hz i hi]; exact o.wf.1 i hi, fun i hi => by show (s i).wf; rw [← hs i hi]; exact o.wf.2 i hi⟩, o.nle, o.mle⟩
end
theorem zer_none (z : Nat → Int) (a : Int) : zerZ z a 0 = z := by
  funext j; unfold zerZ; rw [if_neg (by omega)]
theorem zer_next (z : Nat → Int) (a k : Int) (h : 0 ≤ k) : putZ (zerZ z a k) (a + k) 0 = zerZ z a (k + 1) := by
  funext j; unfold putZ zerZ
  by_cases e : (j : Int) = a + k
  · rw [if_pos e, if_pos (by omega)]
  · rw [if_neg e]
    by_cases e2 : a ≤ (j : Int) ∧ (j : Int) < a + k
    · rw [if_pos e2, if_pos (by omega)]
    · rw [if_neg e2, if_neg (by omega)]
theorem rwithO_any (p : Option Addr) (c : Nat) (q : Option Addr) (d : Nat) (h : Hp) (g : Int) (x : Sp) (w : World) (hh : HpAt w p c q d h) (hx : x.wf) (hF : formB h = true) :
    Calls Tryd.prog 22 #[.agg #[.slice p h.n c, .slice q h.m d, .bool h.b], .int .i64 g, .agg #[.int .i64 x.st, .int .i64 x.cl, .int .u32 x.fr]] w fun e w' => ∃ p' c' q' d', e = .returned (.agg #[.slice p' h.n c', .slice q' h.m d', .bool h.b]) ∧ HpOwn w' w.heap.size p' c' q' d' (withS h g x) ∧ Below w.heap.size w w' := by
  obtain ⟨-, h2, h3, -⟩ := form_iff.1 hF
  refine Calls.mono (rwithH_any p c q d h g x w hh hx (by omega) h2) ?_
  rintro e w' ⟨p', c', q', d', rfl, hoW, hoS, hne, hb⟩
  exact ⟨p', c', q', d', rfl, ⟨hoW, hoS, hne, wf_with hh.wf hx, hh.nle, hh.mle⟩, hb⟩
end Go.Proofs.YtonjnedlnfdanaaDoor
/-! Contract of the reference's Free (chapter 7). -/
namespace Go.Proofs.YtonjnedlnfdanaaDoor
set_option linter.unusedSimpArgs false
set_option linter.unusedVariables false
open Go.ChangeShapes Go.WideShapes Go.ChangeAt Go.RowKit Go.Joins

theorem give_val {st cl fr i : Int} (hg : giveB st cl fr i = true) : giveF st cl fr i = withW fr i := by unfold giveF; rw [if_pos hg]
set_option maxHeartbeats 8000000 in
theorem rfree7_any (p : Option Addr) (c : Nat) (q : Option Addr) (d : Nat) (h : Hp) (a : Int) (w : World) (hh : HpAt w p c q d h) (hF : formB h = true) :
    Calls Tryd.prog 14 #[.agg #[.slice p h.n c, .slice q h.m d, .bool h.b], .int .i64 a] w fun e w' => ∃ p' c' q' d', e = .returned (.tuple #[.agg #[.slice p' h.n c', .slice q' h.m d', .bool h.b], .bool (frB h a)]) ∧
      HpAt w' p' c' q' d' (frH h a) ∧ Src w.heap.size (frB h a) h.n h.m p c q d p' c' q' d' ∧ Below w.heap.size w w' := by
  have hwf := hh.wf
  obtain ⟨w0, hw0, hB0, hR, hst⟩ := boxed2 (w := w) (v0 := .slice p h.n c) (v1 := .slice q h.m d) (v2 := .bool h.b) (u0 := .slice none 0 0) (u1 := .slice none 0 0) (u2 := .bool false) (t := 25)
  have hat := hh.below hst
  have gB0 := hB0
  have gR := hR
  obtain ⟨l0, x0, x1, x2, -, -, -⟩ := hB0
  obtain ⟨l1, y0, y1, y2, f0, f1, f2⟩ := hR
  have hF' : Hid (formB h = true) := hF
  cases hf : fiB h a with
  | false =>
    have efr : frB h a = false := by unfold frB; rw [hf]; rfl
    have eH : frH h a = h := by unfold frH; rw [if_neg (by simp [efr])]
    rw [eH, efr]
    clear eH efr hF
    go_enter Tryd.func14, Tryd.ntmps14
    go_upto_region 1 with fail
    rw [← hw0]
    clear hw0
    go_wp2_with (first
    | (go_at_call 28; refine Calls.mono (rfind_any _ _ _ _ h _ _ hat hF'.out) ?_; rintro e w' ⟨rfl, hb⟩; obtain ⟨hc, hf, hb, hz⟩ := bstep hb (w := w0) (by go_grown); try simp only [World.size_alloc, World.size_setCell, World.size_drew] at hc hf hz)
    )
    refine bodyPost_ret (by simp [results, Tryd.results14, go_sem, *]; try rfl) rfl ?_
    exact ⟨p, c, q, d, rfl, hh.below (by go_grown; exact bjoin hb hst), ⟨fun h => (by cases h), fun _ => ⟨rfl, rfl, rfl, rfl⟩⟩, by go_grown; exact bjoin hb hst⟩
  | true =>
    obtain ⟨p0, p1, p2, hstt, -, i0, i1, -⟩ := fi_spec hF hf
    have eP : fiP h a = a / 32 := by unfold fiP; rw [if_pos hf]
    have eI : fiI h a = plI (spH h (a / 32)).cl a := by unfold fiI; rw [if_pos hf]
    obtain ⟨k0, -, -, k3, k4⟩ := block_in hF hf
    have hmask := wf_mask hwf p0 p1
    have hspw := hwf.2 (a / 32).toNat (by omega)
    have eF : frB h a = giveB (spH h (a / 32)).st (spH h (a / 32)).cl (spH h (a / 32)).fr (plI (spH h (a / 32)).cl a) := by unfold frB; rw [hf]; rfl
    have eH : frB h a = true → frH h a = { withS h (a / 32) ⟨(spH h (a / 32)).st, (spH h (a / 32)).cl, withW (spH h (a / 32)).fr (plI (spH h (a / 32)).cl a)⟩ with z := zerZ h.z a (szW (spH h (a / 32)).cl) } := fun e => by unfold frH; rw [if_pos e]
    have eN : frB h a = false → frH h a = h := fun e => by unfold frH; rw [if_neg (by simp [e])]
    generalize a / 32 = P at *
    generalize plI (spH h P).cl a = I at *
    rw [show spH h P = h.s P.toNat from rfl] at *
    obtain ⟨⟨b, off, rfl, hlt, s0, s1, s2⟩, -⟩ := hat.spans P.toNat (by omega)
    generalize h.s P.toNat = S at *
    obtain ⟨st, cl, fr⟩ := S
    simp only [] at *
    cases hg : giveB st cl fr I with
    | false =>
      rw [hg] at eF
      rw [eN eF, eF]
      clear eF eN eH hF
      go_enter Tryd.func14, Tryd.ntmps14
      go_upto_region 1 with fail
      rw [← hw0]
      clear hw0
      go_wp2_with (first
    | (go_at_call 28; refine Calls.mono (rfind_any _ _ _ _ h _ _ hat hF'.out) ?_; rintro e w' ⟨rfl, hb⟩; obtain ⟨hc, hf, hb, hz⟩ := bstep hb (w := w0) (by go_grown); try simp only [World.size_alloc, World.size_setCell, World.size_drew] at hc hf hz)
    | (go_at_call 29; refine Calls.mono (rgive_any _ _ _ _ _ hmask) ?_; rintro e w' ⟨rfl, hb⟩; obtain ⟨hc, hf, hb, hz⟩ := bstep hb (w := w0) (by go_grown); try simp only [World.size_alloc, World.size_setCell, World.size_drew] at hc hf hz)
      )
      refine bodyPost_ret (by simp [results, Tryd.results14, go_sem, *]; try rfl) rfl ?_
      exact ⟨p, c, _, d, rfl, hh.below (by go_grown; exact bjoin hb hst), ⟨fun h => (by cases h), fun _ => ⟨rfl, rfl, rfl, rfl⟩⟩, by go_grown; exact bjoin hb hst⟩
    | true =>
      rw [hg] at eF
      have eG := give_val hg
      have hx : (⟨st, cl, withW fr I⟩ : Sp).wf := ⟨hspw.1, hspw.2.1, mask_with hmask⟩
      rw [eH eF, eF]
      clear eF eN eH hF
      go_enter Tryd.func14, Tryd.ntmps14
      go_upto_region 1 with fail
      rw [← hw0]
      clear hw0
      go_upto_region 7 with (first
    | (go_at_call 28; refine Calls.mono (rfind_any _ _ _ _ h _ _ hat hF'.out) ?_; rintro e w' ⟨rfl, hb⟩; obtain ⟨hc, hf, hb, hz⟩ := bstep hb (w := w0) (by go_grown); try simp only [World.size_alloc, World.size_setCell, World.size_drew] at hc hf hz)
    | (go_at_call 29; refine Calls.mono (rgive_any _ _ _ _ _ hmask) ?_; rintro e w' ⟨rfl, hb⟩; obtain ⟨hc, hf, hb, hz⟩ := bstep hb (w := w0) (by go_grown); try simp only [World.size_alloc, World.size_setCell, World.size_drew] at hc hf hz)
      )
      obtain ⟨w5, hw5⟩ : ∃ w5, w5 = w'.alloc (.cells #[.int .i64 st, .int .i64 cl, .int .u32 (withW fr I)] 46) := ⟨_, rfl⟩
      have hB5 : Below w0.heap.size w0 w5 := by rw [hw5]; exact hb.alloc hb.size _
      have gS : SpBox w'.heap.size st cl (withW fr I) w5 := by rw [hw5]; exact SpBox.new _ _ _ _ _
      have hSl : w0.heap.size ≤ w'.heap.size := hb.size
      rw [← hw5]
      clear hw5 hb hc hf hz x0 x1 x2 y0 y1 y2 f0 f1 f2 s0 s1 s2 hlt
      generalize w'.heap.size = S at *
      replace gB0 := gB0.below hB5
      replace gR := gR.below hB5
      have hat5 := hat.below hB5
      have g0 := gB0
      obtain ⟨l0', x0, x1, x2, -, -, -⟩ := g0
      have gs := gS
      obtain ⟨lS, s0, s1, s2, -, -, -⟩ := gs
      go_upto_region 8 with (first
    | (go_at_call 22; refine Calls.mono (rwithO_any _ _ _ _ h _ ⟨st, cl, withW fr I⟩ _ hat5 hx hF'.out) ?_; rintro e w' ⟨p', c', q', d', rfl, hown, hb⟩; obtain ⟨hc, hf, hb, hz⟩ := bstep hb (w := w5) (by go_grown); try simp only [World.size_alloc, World.size_setCell, World.size_drew] at hc hf hz)
      )
      have hn0 : 0 < h.n := by omega
      have hn5 : h.n ≤ 512 := by have := form_iff.1 hF'.out; omega
      have hsz : szW cl ≤ 16 := by have := cl_cases cl; omega
      obtain ⟨gw, rfl, hgB, hgG⟩ := hown.word hn0
      obtain ⟨w7, hw7⟩ : ∃ w7, w7 = w'.alloc (.cells #[.slice (some ⟨gw, 0, none⟩) h.n c', .slice q' h.m d', .bool h.b] 25) := ⟨_, rfl⟩
      have hB7 : Below w5.heap.size w5 w7 := by rw [hw7]; exact hb.alloc hb.size _
      have hB6 : Below w'.heap.size w' w7 := by rw [hw7]; exact (Below.refl _ _).alloc (Nat.le_refl _) _
      have gG : Box3 w'.heap.size (.slice (some ⟨gw, 0, none⟩) h.n c') (.slice q' h.m d') (.bool h.b) w7 := by rw [hw7]; exact Box3.new _ _ _ _ _
      replace hown := hown.below hB6
      have hGl : w5.heap.size ≤ w'.heap.size := hb.size
      replace gR := gR.below hB7
      replace gS := gS.below hB7
      have hbW : Below w.heap.size w w7 := bjoin hB7 (bjoin hB5 hst)
      rw [← hw7]
      clear hw7 hb hc hf hz x0 x1 x2 s0 s1 s2 gB0 hB5 hB6 hB7 hat5 hat hh hst l0'
      generalize w'.heap.size = G at *
      have hown0 : HpOwn w7 w5.heap.size (some ⟨gw, 0, none⟩) c' q' d' { withS h P ⟨st, cl, withW fr I⟩ with z := zerZ h.z a 0 } := by rw [zer_none]; exact hown
      clear hown
      generalize w5.heap.size = B at *
      go_wp2
      go_loopg [12] (szW cl).toNat (fun g kv wr => ∃ k : Int, 0 ≤ k ∧ k ≤ szW cl ∧ g = (szW cl - k).toNat ∧ kv = .int .i64 k ∧ Box3 (w.heap.size + 1) (.slice none 0 0) (.slice none 0 0) (.bool false) wr ∧ SpBox S st cl (withW fr I) wr ∧ Box3 G (.slice (some ⟨gw, 0, none⟩) h.n c') (.slice q' h.m d') (.bool h.b) wr ∧ HpOwn wr B (some ⟨gw, 0, none⟩) c' q' d' { withS h P ⟨st, cl, withW fr I⟩ with z := zerZ h.z a k } ∧ Below w.heap.size w wr)
      case atStart => exact ⟨0, by omega, by omega, by omega, rfl, gR, gS, gG, hown0, hbW⟩
      case round =>
        clear gR gS gG hown0 hbW
        obtain ⟨k, kl, kh, rfl, rfl, gR, gS, gG, hown, hbw⟩ := hrel
        have hs := gS
        obtain ⟨lS, s0, s1, s2, -, -, -⟩ := hs
        have hs := gG
        obtain ⟨lG, x0, x1, x2, -, -, -⟩ := hs
        by_cases hk : k < szW cl
        · obtain ⟨⟨u, u0⟩, u1, -⟩ := hown.store (i := a + k) (v := 0) (by omega) (show a + k < h.n by omega) (by decide)
          go_wp2_with (first
    | (go_at_call 24; refine Calls.mono (rcwords_any _ _) ?_; rintro e w' ⟨rfl, hb⟩; obtain ⟨hc, hf, hb, hz⟩ := bstep hb (w := wr) (by go_grown); try simp only [World.size_alloc, World.size_setCell, World.size_drew] at hc hf hz)
          )
          have hown' := (hown.below (by assumption)).store (i := a + k) (v := 0) (by omega) (show a + k < h.n by omega) (by decide)
          go_roundg (szW cl - (k + 1)).toNat
          case measure => omega
          case rel => exact ⟨k + 1, by omega, by omega, rfl, by go_num, (gR.below hb).other (by omega) _ _, (gS.below hb).other (by omega) _ _, (gG.below hb).other (by omega) _ _, by rw [← zer_next _ _ _ kl]; exact hown'.2.2, (bjoin hb hbw).setCell (by show w.heap.size ≤ gw; omega) _⟩
        · obtain rfl : k = szW cl := by omega
          have hs := gR
          obtain ⟨lR, y0, y1, y2, f0, f1, f2⟩ := hs
          go_wp2_with (first
    | (go_at_call 24; refine Calls.mono (rcwords_any _ _) ?_; rintro e w' ⟨rfl, hb⟩; obtain ⟨hc, hf, hb, hz⟩ := bstep hb (w := wr) (by go_grown); try simp only [World.size_alloc, World.size_setCell, World.size_drew] at hc hf hz)
          )
          refine bodyPost_ret (by simp [results, Tryd.results14, go_sem, *]; try rfl) rfl ?_
          have ho := ((((hown.below hb).under (g := w.heap.size + 1) (by omega) 0 (.slice (some ⟨gw, 0, none⟩) h.n c')).under (g := w.heap.size + 1) (by omega) 1 (.slice q' h.m d')).under (g := w.heap.size + 1) (by omega) 2 (.bool h.b)).lower (show w.heap.size ≤ B by omega)
          exact ⟨_, c', q', d', rfl, ho.at, ⟨fun _ => ⟨ho.newW, ho.newS⟩, fun h => (by cases h)⟩, (((bjoin hb hbw).setCell (Nat.le_succ _) _).setCell (Nat.le_succ _) _).setCell (Nat.le_succ _) _⟩
end Go.Proofs.YtonjnedlnfdanaaDoor
/-! Contract of the reference's Lay (chapter 7). -/
namespace Go.Proofs.YtonjnedlnfdanaaDoor
set_option linter.unusedSimpArgs false
set_option linter.unusedVariables false
open Go.ChangeShapes Go.WideShapes Go.ChangeAt Go.RowKit Go.Joins

theorem take_val {st fr : Int} (hg : takeB st fr = true) : takeI st fr = leastW fr ∧ takeF st fr = woutW fr (leastW fr) := ⟨by unfold takeI; rw [if_pos hg], by unfold takeF; rw [if_pos hg]⟩
theorem la_no {h : Hp} {g f : Int} (e : laB h g f = false) : laH h g f = h ∧ laA h g f = 0 := ⟨by unfold laH; rw [if_neg (by simp [e])], by unfold laA; rw [if_neg (by simp [e])]⟩
/-- Where the object comes to lie. -/
theorem la_at {h : Hp} {g f : Int} (hf : formB h = true) (hw : h.wf) (e : laB h g f = true) : 0 ≤ laA h g f ∧ laA h g f + szW (spH h g).cl ≤ h.n ∧ laA h g f = 32 * g + leastW (spH h g).fr * szW (spH h g).cl ∧ hmayB true h.b (spH h g).cl f = true := by
  obtain ⟨p0, p1, p2, f0, f1, ht, hst, c0, c1, l0, l1⟩ := la_spec hf hw e
  obtain ⟨i0, i1, -⟩ := fi_of hf (p := g) (i := leastW (spH h g).fr) p0 p1 (by omega) l0 l1
  have ea : laA h g f = 32 * g + leastW (spH h g).fr * szW (spH h g).cl := by unfold laA; rw [if_pos e]
  obtain ⟨k0, -, -, k3, -⟩ := block_in hf i0
  rw [i1] at k3
  rw [ea]
  exact ⟨k0, k3, rfl, may_of c0 c1 f0 f1⟩
set_option maxHeartbeats 16000000 in
theorem rlay_any (p : Option Addr) (c : Nat) (q : Option Addr) (d : Nat) (h : Hp) (g f : Int) (w : World) (hh : HpAt w p c q d h) (hF : formB h = true) :
    Calls Tryd.prog 13 #[.agg #[.slice p h.n c, .slice q h.m d, .bool h.b], .int .i64 g, .int .i64 f] w fun e w' => ∃ p' c' q' d', e = .returned (.tuple #[.agg #[.slice p' h.n c', .slice q' h.m d', .bool h.b], .int .i64 (laA h g f), .bool (laB h g f)]) ∧
      HpAt w' p' c' q' d' (laH h g f) ∧ Src w.heap.size (laB h g f) h.n h.m p c q d p' c' q' d' ∧ Below w.heap.size w w' := by
  have hwf := hh.wf
  have hmm : h.m ≤ 16 := (form_iff.1 hF).2.1
  obtain ⟨w0, hw0, hB0, hR, hst⟩ := boxed2 (w := w) (v0 := .slice p h.n c) (v1 := .slice q h.m d) (v2 := .bool h.b) (u0 := .slice none 0 0) (u1 := .slice none 0 0) (u2 := .bool false) (t := 25)
  have hat := hh.below hst
  have gB0 := hB0
  have gR := hR
  obtain ⟨l0, x0, x1, x2, -, -, -⟩ := hB0
  obtain ⟨l1, y0, y1, y2, f0, f1, f2⟩ := hR
  have hF' : Hid (formB h = true) := hF
  by_cases hg : 0 ≤ g ∧ g < h.m
  · obtain ⟨p0, p1⟩ := hg
    have hmask := wf_mask hwf p0 p1
    have hright := form_at hF p0 p1
    have hspw := hwf.2 g.toNat (by omega)
    have hLA : laB h g f = true → laA h g f = 32 * g + leastW (spH h g).fr * szW (spH h g).cl ∧ 0 ≤ laA h g f ∧ laA h g f + szW (spH h g).cl ≤ h.n ∧ hmayB true h.b (spH h g).cl f = true ∧
        laH h g f = { withS h g ⟨(spH h g).st, (spH h g).cl, woutW (spH h g).fr (leastW (spH h g).fr)⟩ with z := putZ (zerZ h.z (laA h g f) (szW (spH h g).cl)) (laA h g f) (hputW true h.b (spH h g).cl f) } ∧
        adB g (spH h g).cl (leastW (spH h g).fr) = true ∧ adW g (spH h g).cl (leastW (spH h g).fr) = laA h g f := fun e => by
      obtain ⟨a0, a1, a2, a3⟩ := la_at hF hwf e
      obtain ⟨-, -, p2, -, -, -, -, -, -, l0, l1⟩ := la_spec hF hwf e
      obtain ⟨b0, b1⟩ := ad_in (c := (spH h g).cl) p0 p2 l0 l1
      exact ⟨a2, a0, a1, a3, by rw [a2]; unfold laH; rw [if_pos e], b0, by rw [b1, a2]⟩
    have hLB : laB h g f = (decide (0 ≤ f) && (decide (f < szW (spH h g).cl) && takeB (spH h g).st (spH h g).fr)) := by unfold laB; rw [inI_yes p0 p1, Bool.true_and]
    have hLN := la_no (h := h) (g := g) (f := f)
    rw [show spH h g = h.s g.toNat from rfl] at *
    obtain ⟨⟨b, off, rfl, hlt, s0, s1, s2⟩, -⟩ := hat.spans g.toNat (by omega)
    generalize h.s g.toNat = S at *
    obtain ⟨st, cl, fr⟩ := S
    simp only [] at *
    have hz16 : 0 ≤ szW cl ∧ szW cl ≤ 16 := by have := cl_cases cl; omega
    obtain ⟨z0, z1⟩ := hz16
    by_cases hf0 : 0 ≤ f
    · by_cases hf1 : f < szW cl
      · cases ht : takeB st fr with
        | false =>
          have e : laB h g f = false := by rw [hLB, ht]; simp
          obtain ⟨e1, e2⟩ := hLN e
          rw [e, e1, e2]
          clear e e1 e2 hF hLA hLB hLN
          go_enter Tryd.func13, Tryd.ntmps13
          go_upto_region 1 with fail
          rw [← hw0]
          clear hw0
          go_wp2_with (first
    | (go_at_call 24; refine Calls.mono (rcwords_any _ _) ?_; rintro e w' ⟨rfl, hb⟩; obtain ⟨hc, hf, hb, hz⟩ := bstep hb (w := w0) (by go_grown); try simp only [World.size_alloc, World.size_setCell, World.size_drew] at hc hf hz)
    | (go_at_call 25; refine Calls.mono (rtake_any _ _ _ _ hmask hright) ?_; rintro e w' ⟨rfl, hb⟩; obtain ⟨hc, hf, hb, hz⟩ := bstep hb (w := w0) (by go_grown); try simp only [World.size_alloc, World.size_setCell, World.size_drew] at hc hf hz)
          )
          refine bodyPost_ret (by simp [results, Tryd.results13, go_sem, *]; try rfl) rfl ?_
          first | exact ⟨p, c, _, d, rfl, hh.below (by go_grown; exact bjoin hb hst), ⟨fun h => (by cases h), fun _ => ⟨rfl, rfl, rfl, rfl⟩⟩, by go_grown; exact bjoin hb hst⟩ | exact ⟨hh.below (by go_grown; exact bjoin hb hst), ⟨fun h => (by cases h), fun _ => ⟨rfl, rfl, rfl, rfl⟩⟩, by go_grown; exact bjoin hb hst⟩
        | true =>
          have e : laB h g f = true := by rw [hLB, ht, decide_eq_true hf0, decide_eq_true hf1]; rfl
          obtain ⟨a0, a1, a2, a3, a4, a5, a6⟩ := hLA e
          obtain ⟨t0, t1⟩ := take_val ht
          have hx : (⟨st, cl, woutW fr (leastW fr)⟩ : Sp).wf := ⟨hspw.1, hspw.2.1, mask_wout _ _⟩
          rw [e, a4]
          clear a0 a4 hLA hLB hLN hF
          generalize laA h g f = A at *
          go_enter Tryd.func13, Tryd.ntmps13
          go_upto_region 1 with fail
          rw [← hw0]
          clear hw0
          go_upto_region 6 with (first
    | (go_at_call 24; refine Calls.mono (rcwords_any _ _) ?_; rintro e w' ⟨rfl, hb⟩; obtain ⟨hc, hf, hb, hz⟩ := bstep hb (w := w0) (by go_grown); try simp only [World.size_alloc, World.size_setCell, World.size_drew] at hc hf hz)
    | (go_at_call 25; refine Calls.mono (rtake_any _ _ _ _ hmask hright) ?_; rintro e w' ⟨rfl, hb⟩; obtain ⟨hc, hf, hb, hz⟩ := bstep hb (w := w0) (by go_grown); try simp only [World.size_alloc, World.size_setCell, World.size_drew] at hc hf hz)
          )
          have hn0 : 0 < h.n := by omega
          have hn5 : h.n ≤ 512 := by have := form_iff.1 hF'.out; omega
          obtain ⟨w5, hw5⟩ : ∃ w5, w5 = w'.alloc (.cells #[.int .i64 st, .int .i64 cl, .int .u32 (woutW fr (leastW fr))] 46) := ⟨_, rfl⟩
          have hB5 : Below w0.heap.size w0 w5 := by rw [hw5]; exact hb.alloc hb.size _
          have gS : SpBox w'.heap.size st cl (woutW fr (leastW fr)) w5 := by rw [hw5]; exact SpBox.new _ _ _ _ _
          have hSl : w0.heap.size ≤ w'.heap.size := hb.size
          rw [← hw5]
          clear hw5 hb hc hf hz x0 x1 x2 y0 y1 y2 f0 f1 f2 s0 s1 s2 hlt
          generalize w'.heap.size = S at *
          replace gB0 := gB0.below hB5
          replace gR := gR.below hB5
          have hat5 := hat.below hB5
          have g0 := gB0
          obtain ⟨l0', x0, x1, x2, -, -, -⟩ := g0
          have gs := gS
          obtain ⟨lS, s0, s1, s2, -, -, -⟩ := gs
          go_upto_region 7 with (first
    | (go_at_call 22; refine Calls.mono (rwithO_any _ _ _ _ h _ ⟨st, cl, woutW fr (leastW fr)⟩ _ hat5 hx hF'.out) ?_; rintro e w' ⟨p', c', q', d', rfl, hown, hb⟩; obtain ⟨hc, hf, hb, hz⟩ := bstep hb (w := w5) (by go_grown); try simp only [World.size_alloc, World.size_setCell, World.size_drew] at hc hf hz)
          )
          obtain ⟨gw, rfl, hgB, hgG⟩ := hown.word hn0
          obtain ⟨w7, hw7⟩ : ∃ w7, w7 = w'.alloc (.cells #[.slice (some ⟨gw, 0, none⟩) h.n c', .slice q' h.m d', .bool h.b] 25) := ⟨_, rfl⟩
          have hB7 : Below w5.heap.size w5 w7 := by rw [hw7]; exact hb.alloc hb.size _
          have hB6 : Below w'.heap.size w' w7 := by rw [hw7]; exact (Below.refl _ _).alloc (Nat.le_refl _) _
          have gG : Box3 w'.heap.size (.slice (some ⟨gw, 0, none⟩) h.n c') (.slice q' h.m d') (.bool h.b) w7 := by rw [hw7]; exact Box3.new _ _ _ _ _
          replace hown := hown.below hB6
          have hGl : w5.heap.size ≤ w'.heap.size := hb.size
          replace gB0 := gB0.below hB7
          replace gR := gR.below hB7
          replace gS := gS.below hB7
          have hbW : Below w.heap.size w w7 := bjoin hB7 (bjoin hB5 hst)
          rw [← hw7]
          clear hw7 hb hc hf hz x0 x1 x2 s0 s1 s2 hB5 hB6 hB7 hat5 hat hh hst l0'
          generalize w'.heap.size = G at *
          have hown0 : HpOwn w7 w5.heap.size (some ⟨gw, 0, none⟩) c' q' d' { withS h g ⟨st, cl, woutW fr (leastW fr)⟩ with z := zerZ h.z A 0 } := by rw [zer_none]; exact hown
          clear hown
          have hs := gS
          obtain ⟨lS', s0, s1, s2, -, -, -⟩ := hs
          go_upto_region 8 with (first
    | (go_at_call 26; refine Calls.mono (raddress_any _ _ _ _) ?_; rintro e w' ⟨rfl, hb⟩; obtain ⟨hc, hf, hb, hz⟩ := bstep hb (w := w7) (by go_grown); try simp only [World.size_alloc, World.size_setCell, World.size_drew] at hc hf hz)
          )
          have hB8 := hb
          generalize w5.heap.size = B at *
          replace gB0 := gB0.below hB8
          replace gR := gR.below hB8
          replace gS := gS.below hB8
          replace gG := gG.below hB8
          replace hown0 := hown0.below hB8
          replace hbW := bjoin hB8 hbW
          clear hb hc hf hz s0 s1 s2 lS' hB8
          go_wp2
          go_loopg [15] (szW cl).toNat (fun n kv wr => ∃ k : Int, 0 ≤ k ∧ k ≤ szW cl ∧ n = (szW cl - k).toNat ∧ kv = .int .i64 k ∧ Box3 w.heap.size (.slice p h.n c) (.slice (some ⟨b, off, none⟩) h.m d) (.bool h.b) wr ∧ Box3 (w.heap.size + 1) (.slice none 0 0) (.slice none 0 0) (.bool false) wr ∧ SpBox S st cl (woutW fr (leastW fr)) wr ∧ Box3 G (.slice (some ⟨gw, 0, none⟩) h.n c') (.slice q' h.m d') (.bool h.b) wr ∧ HpOwn wr B (some ⟨gw, 0, none⟩) c' q' d' { withS h g ⟨st, cl, woutW fr (leastW fr)⟩ with z := zerZ h.z A k } ∧ Below w.heap.size w wr)
          case atStart => exact ⟨0, by omega, by omega, by omega, rfl, gB0, gR, gS, gG, hown0, hbW⟩
          case round =>
            clear gB0 gR gS gG hown0 hbW
            obtain ⟨k, kl, kh, rfl, rfl, gB0, gR, gS, gG, hown, hbw⟩ := hrel
            have hs := gS
            obtain ⟨lS, s0, s1, s2, -, -, -⟩ := hs
            have hs := gG
            obtain ⟨lG, x0, x1, x2, -, -, -⟩ := hs
            by_cases hk : k < szW cl
            · obtain ⟨⟨u, u0⟩, u1, -⟩ := hown.store (i := A + k) (v := 0) (by omega) (show A + k < h.n by omega) (by decide)
              go_wp2_with (first
    | (go_at_call 24; refine Calls.mono (rcwords_any _ _) ?_; rintro e w' ⟨rfl, hb⟩; obtain ⟨hc, hf, hb, hz⟩ := bstep hb (w := wr) (by go_grown); try simp only [World.size_alloc, World.size_setCell, World.size_drew] at hc hf hz)
              )
              have hown' := (hown.below (by assumption)).store (i := A + k) (v := 0) (by omega) (show A + k < h.n by omega) (by decide)
              go_roundg (szW cl - (k + 1)).toNat
              case measure => omega
              case rel => exact ⟨k + 1, by omega, by omega, rfl, by go_num, (gB0.below hb).other (by omega) _ _, (gR.below hb).other (by omega) _ _, (gS.below hb).other (by omega) _ _, (gG.below hb).other (by omega) _ _, by rw [← zer_next _ _ _ kl]; exact hown'.2.2, (bjoin hb hbw).setCell (by show w.heap.size ≤ gw; omega) _⟩
            · obtain rfl : k = szW cl := by omega
              have hwd : (Lit.int .u64 (hputW true h.b cl f)).wf = true := by have := hput_lt a3; exact wf_u64_of this.1 (by omega)
              obtain ⟨⟨u, u0⟩, u1, -⟩ := hown.store (i := A) (v := hputW true h.b cl f) (by omega) (show A < h.n by omega) hwd
              have hs := gR
              obtain ⟨lR, y0, y1, y2, f0, f1, f2⟩ := hs
              have hs := gB0
              obtain ⟨lB, b0, b1, b2, -, -, -⟩ := hs
              go_upto_region 12 with (first
    | (go_at_call 24; refine Calls.mono (rcwords_any _ _) ?_; rintro e w' ⟨rfl, hb⟩; obtain ⟨hc, hf, hb, hz⟩ := bstep hb (w := wr) (by go_grown); try simp only [World.size_alloc, World.size_setCell, World.size_drew] at hc hf hz)
              )
              have hB9 := hb
              replace gB0 := gB0.below hB9
              replace gR := gR.below hB9
              replace gS := gS.below hB9
              replace gG := gG.below hB9
              replace hown := hown.below hB9
              replace hbw := bjoin hB9 hbw
              clear hb hc hf hz s0 s1 s2 x0 x1 x2 y0 y1 y2 f0 f1 f2 b0 b1 b2 u0 u1 lS lG lR lB hB9
              generalize w' = w8 at gB0 gR gS gG hown hbw ⊢
              obtain ⟨⟨u, u0⟩, u1, ho⟩ := hown.store (i := A) (v := hputW true h.b cl f) (by omega) (show A < h.n by omega) hwd
              have hs := gS
              obtain ⟨lS, s0, s1, s2, -, -, -⟩ := hs
              have hs := gG
              obtain ⟨lG, x0, x1, x2, -, -, -⟩ := hs
              have hs := gR
              obtain ⟨lR, y0, y1, y2, f0, f1, f2⟩ := hs
              have hs := gB0
              obtain ⟨lB, b0, b1, b2, -, -, -⟩ := hs
              refine wp_region_plus_tail 11 (by kernel_rfl) (by kernel_rfl) fun hpc => ?_
              simp only [List.take_succ_cons, List.take_zero, List.drop_succ_cons, List.drop_zero]
              repeat (first | go_big_quiet_step ((first | (go_at_call 27; exact quiet_plus (rhput_any _ _ _ _ _ a3)))) | quiet_step ((first | (go_at_call 27; exact quiet_plus (rhput_any _ _ _ _ _ a3)))))
              refine wpQuiet_nil ?_
              intro w' hbq
              clear hpc
              obtain ⟨hc, hf, hb, hz⟩ := bstep hbq (w := w8) (by go_grown)
              try simp only [World.size_alloc, World.size_setCell, World.size_drew] at hc hf hz
              have ho := ((hown.below hb).store (i := A) (v := hputW true h.b cl f) (by omega) (show A < h.n by omega) hwd).2.2
              go_wp2
              refine bodyPost_ret (by simp [results, Tryd.results13, go_sem, *]; try rfl) rfl ?_
              have hz := (((ho.under (g := w.heap.size + 1) (by omega) 0 (.slice (some ⟨gw, 0, none⟩) h.n c')).under (g := w.heap.size + 1) (by omega) 1 (.slice q' h.m d')).under (g := w.heap.size + 1) (by omega) 2 (.bool h.b)).lower (show w.heap.size ≤ B by omega)
              exact ⟨_, c', q', d', rfl, hz.at, ⟨fun _ => ⟨hz.newW, hz.newS⟩, fun h => (by cases h)⟩, ((((bjoin hb hbw).setCell (by show w.heap.size ≤ gw; omega) _).setCell (Nat.le_succ _) _).setCell (Nat.le_succ _) _).setCell (Nat.le_succ _) _⟩
      · have e : laB h g f = false := by rw [hLB, decide_eq_false hf1]; simp
        obtain ⟨e1, e2⟩ := hLN e
        rw [e, e1, e2]
        clear e e1 e2 hF hLA hLB hLN
        go_enter Tryd.func13, Tryd.ntmps13
        go_upto_region 1 with fail
        rw [← hw0]
        clear hw0
        go_wp2_with (first
    | (go_at_call 24; refine Calls.mono (rcwords_any _ _) ?_; rintro e w' ⟨rfl, hb⟩; obtain ⟨hc, hf, hb, hz⟩ := bstep hb (w := w0) (by go_grown); try simp only [World.size_alloc, World.size_setCell, World.size_drew] at hc hf hz)
        )
        refine bodyPost_ret (by simp [results, Tryd.results13, go_sem, *]; try rfl) rfl ?_
        first | exact ⟨p, c, _, d, rfl, hh.below (by go_grown; exact bjoin hb hst), ⟨fun h => (by cases h), fun _ => ⟨rfl, rfl, rfl, rfl⟩⟩, by go_grown; exact bjoin hb hst⟩ | exact ⟨hh.below (by go_grown; exact bjoin hb hst), ⟨fun h => (by cases h), fun _ => ⟨rfl, rfl, rfl, rfl⟩⟩, by go_grown; exact bjoin hb hst⟩
    · have e : laB h g f = false := by rw [hLB, decide_eq_false hf0]; simp
      obtain ⟨e1, e2⟩ := hLN e
      rw [e, e1, e2]
      clear e e1 e2 hF hLA hLB hLN
      go_enter Tryd.func13, Tryd.ntmps13
      go_upto_region 1 with fail
      rw [← hw0]
      clear hw0
      go_wp2
      refine bodyPost_ret (by simp [results, Tryd.results13, go_sem, *]; try rfl) rfl ?_
      first | exact ⟨p, c, _, d, rfl, hh.below (by go_grown), ⟨fun h => (by cases h), fun _ => ⟨rfl, rfl, rfl, rfl⟩⟩, by go_grown⟩ | exact ⟨hh.below (by go_grown), ⟨fun h => (by cases h), fun _ => ⟨rfl, rfl, rfl, rfl⟩⟩, by go_grown⟩
  · have e : laB h g f = false := by unfold laB; rw [inI_no hg]; rfl
    obtain ⟨e1, e2⟩ := la_no e
    rw [e, e1, e2]
    clear e e1 e2 hF
    by_cases hg0 : 0 ≤ g
    · have hg1 : (h.m : Int) ≤ g := by omega
      go_enter Tryd.func13, Tryd.ntmps13
      go_upto_region 1 with fail
      rw [← hw0]
      clear hw0
      go_wp2
      refine bodyPost_ret (by simp [results, Tryd.results13, go_sem, *]; try rfl) rfl ?_
      first | exact ⟨p, c, q, d, rfl, hh.below (by go_grown), ⟨fun h => (by cases h), fun _ => ⟨rfl, rfl, rfl, rfl⟩⟩, by go_grown⟩ | exact ⟨hh.below (by go_grown), ⟨fun h => (by cases h), fun _ => ⟨rfl, rfl, rfl, rfl⟩⟩, by go_grown⟩
    · have hg1 : g < 0 := by omega
      go_enter Tryd.func13, Tryd.ntmps13
      go_upto_region 1 with fail
      rw [← hw0]
      clear hw0
      go_wp2
      refine bodyPost_ret (by simp [results, Tryd.results13, go_sem, *]; try rfl) rfl ?_
      first | exact ⟨p, c, q, d, rfl, hh.below (by go_grown), ⟨fun h => (by cases h), fun _ => ⟨rfl, rfl, rfl, rfl⟩⟩, by go_grown⟩ | exact ⟨hh.below (by go_grown), ⟨fun h => (by cases h), fun _ => ⟨rfl, rfl, rfl, rfl⟩⟩, by go_grown⟩
end Go.Proofs.YtonjnedlnfdanaaDoor
/-! A heap's three cells with their lengths as they stand in a walk, and the contracts of the reference's functions so said. -/
namespace Go.Proofs.YtonjnedlnfdanaaDoor
set_option linter.unusedSimpArgs false
set_option linter.unusedVariables false
open Go.ChangeShapes Go.WideShapes Go.ChangeAt Go.RowKit Go.Joins

/-- The value of three cells is the heap h. -/
structure HpIn (W : World) (p : Option Addr) (n c : Nat) (q : Option Addr) (m d : Nat) (b : Bool) (h : Hp) : Prop where
  n_eq : n = h.n
  m_eq : m = h.m
  b_eq : b = h.b
  at' : HpAt W p c q d h
def hpV (p : Option Addr) (n c : Nat) (q : Option Addr) (m d : Nat) (b : Bool) : Value := .agg #[.slice p n c, .slice q m d, .bool b]
theorem HpIn.below {W W' : World} {p : Option Addr} {n c : Nat} {q : Option Addr} {m d : Nat} {b : Bool} {h : Hp} (hh : HpIn W p n c q m d b h) (hb : Below W.heap.size W W') : HpIn W' p n c q m d b h := ⟨hh.n_eq, hh.m_eq, hh.b_eq, hh.at'.below hb⟩
theorem HpAt.in {W : World} {p : Option Addr} {c : Nat} {q : Option Addr} {d : Nat} {h : Hp} (hh : HpAt W p c q d h) : HpIn W p h.n c q h.m d h.b h := ⟨rfl, rfl, rfl, hh⟩
theorem op_n (h : Hp) (g k : Int) : (opH h g k).n = h.n ∧ (opH h g k).m = h.m ∧ (opH h g k).b = h.b := by unfold opH; split <;> exact ⟨rfl, rfl, rfl⟩
theorem lo_n (h : Hp) (g : Int) : (loH h g).n = h.n ∧ (loH h g).m = h.m ∧ (loH h g).b = h.b := by unfold loH; split <;> exact ⟨rfl, rfl, rfl⟩
theorem la_n (h : Hp) (g f : Int) : (laH h g f).n = h.n ∧ (laH h g f).m = h.m ∧ (laH h g f).b = h.b := by unfold laH; split <;> exact ⟨rfl, rfl, rfl⟩
theorem fr_n (h : Hp) (a : Int) : (frH h a).n = h.n ∧ (frH h a).m = h.m ∧ (frH h a).b = h.b := by unfold frH; split <;> exact ⟨rfl, rfl, rfl⟩
section
variable {p : Option Addr} {n c : Nat} {q : Option Addr} {m d : Nat} {b : Bool} {h : Hp} {w : World}
theorem rform_in (hh : HpIn w p n c q m d b h) :
    Calls Tryd.prog 6 #[.agg #[.slice p n c, .slice q m d, .bool b]] w fun e w' => e = .returned (.bool (formB h)) ∧ Below w.heap.size w w' := by
  obtain ⟨rfl, rfl, rfl, hh⟩ := hh
  exact rform_any _ _ _ _ _ _ hh
theorem rfind_in {a : Int} (hh : HpIn w p n c q m d b h) (hF : formB h = true) :
    Calls Tryd.prog 28 #[.agg #[.slice p n c, .slice q m d, .bool b], .int .i64 a] w fun e w' => e = .returned (.tuple #[.int .i64 (fiP h a), .int .i64 (fiI h a), .bool (fiB h a)]) ∧ Below w.heap.size w w' := by
  obtain ⟨rfl, rfl, rfl, hh⟩ := hh
  exact rfind_any _ _ _ _ _ _ _ hh hF
theorem ropen_in {g k : Int} (hh : HpIn w p n c q m d b h) (hF : formB h = true) :
    Calls Tryd.prog 12 #[.agg #[.slice p n c, .slice q m d, .bool b], .int .i64 g, .int .i64 k] w fun e w' => ∃ p' c' q' d', e = .returned (.tuple #[.agg #[.slice p' n c', .slice q' m d', .bool b], .bool (opB h g k)]) ∧
      HpIn w' p' n c' q' m d' b (opH h g k) ∧ Src w.heap.size (opB h g k) n m p c q d p' c' q' d' ∧ Below w.heap.size w w' := by
  obtain ⟨rfl, rfl, rfl, hh⟩ := hh
  refine Calls.mono (ropen_any _ _ _ _ _ g k _ hh hF) ?_
  rintro e w' ⟨p', c', q', d', rfl, h1, h2, h3⟩
  obtain ⟨a1, a2, a3⟩ := op_n h g k
  exact ⟨p', c', q', d', rfl, ⟨a1.symm, a2.symm, a3.symm, h1⟩, h2, h3⟩
theorem rclose_in {g : Int} (hh : HpIn w p n c q m d b h) (hF : formB h = true) :
    Calls Tryd.prog 15 #[.agg #[.slice p n c, .slice q m d, .bool b], .int .i64 g] w fun e w' => ∃ p' c' q' d', e = .returned (.tuple #[.agg #[.slice p' n c', .slice q' m d', .bool b], .bool (loB h g)]) ∧
      HpIn w' p' n c' q' m d' b (loH h g) ∧ Src w.heap.size (loB h g) n m p c q d p' c' q' d' ∧ Below w.heap.size w w' := by
  obtain ⟨rfl, rfl, rfl, hh⟩ := hh
  refine Calls.mono (rclose_any _ _ _ _ _ g _ hh hF) ?_
  rintro e w' ⟨p', c', q', d', rfl, h1, h2, h3⟩
  obtain ⟨a1, a2, a3⟩ := lo_n h g
  exact ⟨p', c', q', d', rfl, ⟨a1.symm, a2.symm, a3.symm, h1⟩, h2, h3⟩
theorem rfree_in {a : Int} (hh : HpIn w p n c q m d b h) (hF : formB h = true) :
    Calls Tryd.prog 14 #[.agg #[.slice p n c, .slice q m d, .bool b], .int .i64 a] w fun e w' => ∃ p' c' q' d', e = .returned (.tuple #[.agg #[.slice p' n c', .slice q' m d', .bool b], .bool (frB h a)]) ∧
      HpIn w' p' n c' q' m d' b (frH h a) ∧ Src w.heap.size (frB h a) n m p c q d p' c' q' d' ∧ Below w.heap.size w w' := by
  obtain ⟨rfl, rfl, rfl, hh⟩ := hh
  refine Calls.mono (rfree7_any _ _ _ _ _ a _ hh hF) ?_
  rintro e w' ⟨p', c', q', d', rfl, h1, h2, h3⟩
  obtain ⟨a1, a2, a3⟩ := fr_n h a
  exact ⟨p', c', q', d', rfl, ⟨a1.symm, a2.symm, a3.symm, h1⟩, h2, h3⟩
theorem rlay_in {g f : Int} (hh : HpIn w p n c q m d b h) (hF : formB h = true) :
    Calls Tryd.prog 13 #[.agg #[.slice p n c, .slice q m d, .bool b], .int .i64 g, .int .i64 f] w fun e w' => ∃ p' c' q' d', e = .returned (.tuple #[.agg #[.slice p' n c', .slice q' m d', .bool b], .int .i64 (laA h g f), .bool (laB h g f)]) ∧
      HpIn w' p' n c' q' m d' b (laH h g f) ∧ Src w.heap.size (laB h g f) n m p c q d p' c' q' d' ∧ Below w.heap.size w w' := by
  obtain ⟨rfl, rfl, rfl, hh⟩ := hh
  refine Calls.mono (rlay_any _ _ _ _ _ g f _ hh hF) ?_
  rintro e w' ⟨p', c', q', d', rfl, h1, h2, h3⟩
  obtain ⟨a1, a2, a3⟩ := la_n h g f
  exact ⟨p', c', q', d', rfl, ⟨a1.symm, a2.symm, a3.symm, h1⟩, h2, h3⟩
end
/-- The block holds neither row. -/
def Clear (g : Nat) (p q : Option Addr) : Prop := (∀ b off sp, p = some ⟨b, off, sp⟩ → b ≠ g) ∧ ∀ b off sp, q = some ⟨b, off, sp⟩ → b ≠ g
theorem Spans.setCell {w : World} {p : Option Addr} {n : Nat} {s : Nat → Sp} (h : Spans w p n s) {g : Nat} (hg : ∀ b off sp, p = some ⟨b, off, sp⟩ → b ≠ g) (j : Nat) (u : Value) : Spans (w.setCell ⟨g, j, none⟩ u) p n s := fun i hi => by
  obtain ⟨⟨b, off, e, hlt, h0, h1, h2⟩, hw⟩ := h i hi
  have hb := Below.heap_setCell w ⟨g, j, none⟩ u b (hg b off none e)
  exact ⟨⟨b, off, e, by simpa [World.setCell] using hlt, by rw [World.cell?_of_block (w := w) (a := ⟨b, _, none⟩) hb]; exact h0, by rw [World.cell?_of_block (w := w) (a := ⟨b, _, none⟩) hb]; exact h1, by rw [World.cell?_of_block (w := w) (a := ⟨b, _, none⟩) hb]; exact h2⟩, hw⟩
theorem HpIn.setCell {W : World} {p : Option Addr} {n c : Nat} {q : Option Addr} {m d : Nat} {b : Bool} {h : Hp} (hh : HpIn W p n c q m d b h) {g : Nat} (hg : Clear g p q) (j : Nat) (u : Value) : HpIn (W.setCell ⟨g, j, none⟩ u) p n c q m d b h :=
  ⟨hh.n_eq, hh.m_eq, hh.b_eq, ⟨hh.at'.ints.setCell (fun b off e => hg.1 b off none e) j u, hh.at'.spans.setCell hg.2 j u, hh.at'.nle, hh.at'.mle, hh.at'.pnil, hh.at'.qnil, hh.at'.ncap, hh.at'.mcap⟩⟩
/-- All its rows lie below. -/
def Lower (B : Nat) (p q : Option Addr) : Prop := (∀ b off sp, p = some ⟨b, off, sp⟩ → b < B) ∧ ∀ b off sp, q = some ⟨b, off, sp⟩ → b < B
theorem Src.clear {B : Nat} {ok : Bool} {n m : Nat} {p : Option Addr} {c : Nat} {q : Option Addr} {d : Nat} {p' : Option Addr} {c' : Nat} {q' : Option Addr} {d' : Nat} (s : Src B ok n m p c q d p' c' q' d') {g A : Nat} (hA : Lower A p q) (h1 : A ≤ g) (h2 : g < B) : Clear g p' q' := by
  cases ok with
  | true =>
    obtain ⟨a, b⟩ := s.new rfl
    refine ⟨fun b' off sp e => ?_, fun b' off sp e => ?_⟩
    · have := a b' (by rw [e]; rfl); omega
    · have := b b' (by rw [e]; rfl); omega
  | false =>
    obtain ⟨rfl, -, rfl, -⟩ := s.old rfl
    refine ⟨fun b' off sp e => ?_, fun b' off sp e => ?_⟩
    · have := hA.1 b' off sp e; omega
    · have := hA.2 b' off sp e; omega
theorem HpIn.lower {W : World} {p : Option Addr} {n c : Nat} {q : Option Addr} {m d : Nat} {b : Bool} {h : Hp} (hh : HpIn W p n c q m d b h) (hF : formB h = true) : Lower W.heap.size p q := by
  obtain ⟨m1, -, hn, -⟩ := form_iff.1 hF
  obtain ⟨⟨b1, o1, e1, l1, -⟩, -⟩ := hh.at'.ints 0 (by omega)
  obtain ⟨⟨b2, o2, e2, l2, -⟩, -⟩ := hh.at'.spans 0 (by omega)
  refine ⟨fun b' off sp e => ?_, fun b' off sp e => ?_⟩
  · rw [e1] at e; injection e with e; injection e with e; omega
  · rw [e2] at e; injection e with e; injection e with e; omega
theorem HpIn.stores {W : World} {p : Option Addr} {n c : Nat} {q : Option Addr} {m d : Nat} {b : Bool} {h : Hp} (hh : HpIn W p n c q m d b h) {g : Nat} (hg : Clear g p q) (x y z : Value) :
    HpIn (((W.setCell ⟨g, 0, none⟩ x).setCell ⟨g, 1, none⟩ y).setCell ⟨g, 2, none⟩ z) p n c q m d b h := ((hh.setCell hg 0 x).setCell hg 1 y).setCell hg 2 z
theorem Lower.clear {A : Nat} {p q : Option Addr} (h : Lower A p q) {g : Nat} (hg : A ≤ g) : Clear g p q :=
  ⟨fun b off sp e => by have := h.1 b off sp e; omega, fun b off sp e => by have := h.2 b off sp e; omega⟩
/-- The heap of the other colour. -/
def flipB (h : Hp) : Hp := { h with b := !h.b }
theorem HpIn.flip {W : World} {p : Option Addr} {n c : Nat} {q : Option Addr} {m d : Nat} {b : Bool} {h : Hp} (hh : HpIn W p n c q m d b h) : HpIn W p n c q m d (!b) (flipB h) :=
  ⟨hh.n_eq, hh.m_eq, by rw [hh.b_eq]; rfl, ⟨hh.at'.ints, hh.at'.spans, hh.at'.nle, hh.at'.mle, hh.at'.pnil, hh.at'.qnil, hh.at'.ncap, hh.at'.mcap⟩⟩
theorem la_z {h : Hp} {g f : Int} (e : laB h g f = true) : (laH h g f).z = putZ (zerZ h.z (laA h g f) (szW (spH h g).cl)) (laA h g f) (hputW true h.b (spH h g).cl f) := by
  have ea : laA h g f = 32 * g + leastW (spH h g).fr * szW (spH h g).cl := by unfold laA; rw [if_pos e]
  rw [ea]; unfold laH; rw [if_pos e]
/-- The cell of a word. -/
theorem HpIn.word {W : World} {p : Option Addr} {n c : Nat} {q : Option Addr} {m d : Nat} {b : Bool} {h : Hp} (hh : HpIn W p n c q m d b h) (h0 : 0 < n) : ∃ g o, p = some ⟨g, o, none⟩ ∧ g < W.heap.size ∧ ∀ i : Int, 0 ≤ i → i < n → W.cell? ⟨g, o + i.toNat, none⟩ = some (.int .u64 (h.z i.toNat)) := by
  have hn := hh.n_eq
  obtain ⟨⟨g, o, e, l, -⟩, -⟩ := hh.at'.ints 0 (by omega)
  refine ⟨g, o, e, l, fun i i0 i1 => ?_⟩
  obtain ⟨⟨g', o', e', -, hc⟩, -⟩ := hh.at'.ints i.toNat (by omega)
  rw [e] at e'
  injection e' with e'
  injection e' with e1 e2
  subst e1 e2
  exact hc
/-- What New answers. -/
def nuB (n : Int) : Bool := decide (1 ≤ n) && decide (n ≤ 16)
def nuH (n : Int) : Hp := if nuB n = true then newH n.toNat else ⟨0, fun _ => 0, 0, fun _ => ⟨0, 0, 0⟩, false⟩
def nuE (n : Int) : Int := if nuB n = true then 0 else 1
theorem nu_yes {n : Int} (h : nuB n = true) : nuH n = newH n.toNat ∧ nuE n = 0 ∧ 1 ≤ n ∧ n ≤ 16 := by
  refine ⟨by unfold nuH; rw [if_pos h], by unfold nuE; rw [if_pos h], ?_⟩
  simpa [nuB] using h
theorem nu_no {n : Int} (h : nuB n = false) : nuH n = ⟨0, fun _ => 0, 0, fun _ => ⟨0, 0, 0⟩, false⟩ ∧ nuE n = 1 := ⟨by unfold nuH; rw [if_neg (by simp [h])], by unfold nuE; rw [if_neg (by simp [h])]⟩
theorem nil_in (W : World) : HpIn W none 0 0 none 0 0 false ⟨0, fun _ => 0, 0, fun _ => ⟨0, 0, 0⟩, false⟩ :=
  ⟨rfl, rfl, rfl, ⟨fun i hi => absurd hi (Nat.not_lt_zero _), fun i hi => absurd hi (Nat.not_lt_zero _), by decide, by decide, fun _ => ⟨rfl, rfl⟩, fun _ => ⟨rfl, rfl⟩, ⟨Nat.le_refl _, by decide⟩, ⟨Nat.le_refl _, by decide⟩⟩⟩
end Go.Proofs.YtonjnedlnfdanaaDoor
