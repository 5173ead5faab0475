/- Contracts of the code's marking (chapter 17): New, of a room that may not be. -/
import Derived.Test.YtiofeebiejkajaaDoorB48
import Derived.Test.YtiofeebiejkajaaDoorB45
import Derived.Test.YtiofeebiejkajaaDoorB46
import Derived.Test.YtiofeebiejkajaaDoorB47
namespace Go.Proofs.YtiofeebiejkajaaDoor
set_option linter.unusedSimpArgs false
set_option linter.unusedVariables false
open Go.ChangeShapes Go.WideShapes Go.ChangeAt Go.RowKit Go.Joins

set_option maxHeartbeats 8000000 in
set_option maxRecDepth 20000 in
theorem mnew_no (r : Int) {pb : Option Addr} {nb cb : Nat} {pv : Option Addr} {nr cv : Nat} {w : World} (h : ¬ (0 ≤ r ∧ r ≤ 16)) (hn : nb ≤ 1000) (hr : nr ≤ 1000000)
    (hbb : ∃ br : Nat → Int, Ints .i64 w pb nb br := by exact ⟨fun _ => 0, fun i hi => absurd hi (Nat.not_lt_zero i)⟩) (hr64 : (Lit.int .i64 r).wf = true := by decide) (hq : pb = none → cb = 0 := by first | (intro e; cases e; done) | (intro _; rfl)) :
    Calls Tryd.prog 20 #[.int .i64 r, .slice pb nb cb, .slice pv nr cv] w fun e w' => e = .returned (.tuple #[.agg #[.int .i64 0, .slice none 0 0, .slice none 0 0, .slice none 0 0, .int .i64 0, .int .i64 0, .int .i64 0, .bool false], .bool false]) ∧ Below w.heap.size w w' := by
  obtain ⟨br, hb⟩ := hbb
  obtain ⟨w0, hw0⟩ : ∃ w0, w0 = w.alloc (.cells #[.int .i64 0, .slice none 0 0, .slice none 0 0, .slice none 0 0, .int .i64 0, .int .i64 0, .int .i64 0, .bool false] 32) := ⟨_, rfl⟩
  have gR : TBox 32 w.heap.size #[.int .i64 0, .slice none 0 0, .slice none 0 0, .slice none 0 0, .int .i64 0, .int .i64 0, .int .i64 0, .bool false] w0 := by rw [hw0]; exact TBox.new _ _ _
  have hb0 : Below w.heap.size w w0 := by rw [hw0]; exact (Below.refl _ _).alloc (Nat.le_refl _) _
  obtain ⟨i0, hi, hz0, hz1, hz2⟩ := info_parts grey_info
  have hb2 : i0.bytes * (1 + nb) ≤ 281474976710656 := by rw [hz2]; omega
  have hb3 : 1 + nb ≤ maxLen := by simp only [maxLen]; omega
  have hG := fun W => gnew_any r W
  rw [show gnB r = false by simp [gnB]; omega] at hG
  generalize gnR r = RR at hG
  go_enter Tryd.func20, Tryd.ntmps20
  go_upto_region 1 with fail
  rw [← hw0]
  clear hw0
  go_upto_region 2 with (first
    | (at_make; refine wpList_make_own w0 rfl (.const (.int .i64 0)) (.tmp 15) 29 rfl w0.heap.size 28 i0 (.agg #[.int .i64 0, .slice none 0 0]) 2 Tryd.underlying29 hi hz0 hz1 .i64 .i64 (1 + nb) (1 + nb) rfl rfl (by omega) hb2 hb3 (Nat.le_refl _) ?_; intro w1 hown1 hgrow1)
  )
  have hbw1 : Below w.heap.size w w1 := hb0.grown hgrow1 hb0.size (fun k hk => by cases hk)
  have gR1 := gR.below ((Below.refl w0.heap.size w0).grown hgrow1 (Nat.le_refl _) (fun k hk => by cases hk))
  obtain ⟨w2, hw2⟩ : ∃ W, W = (w1.alloc (.cells #[.int .i64 r] 3)).alloc (.cells #[.slice (some ⟨w1.heap.size, 0, none⟩) 1 1, .slice pb nb cb] 26) := ⟨_, rfl⟩
  obtain ⟨t1, t2, hb2'⟩ := tbox_two hw2
  have hbw2 := bjoin hb2' hbw1
  have hC := concatI_any (w1.heap.size + 1) (some ⟨w1.heap.size, 0, none⟩) pb 1 1 nb cb (fun _ => r) br w2 t2.lt (t2.cell 0) (t2.cell 1) (one_row t1 hr64) (hb.below hbw2) (fun e => by cases e) (fun e => ⟨ints_none hb e, hq e⟩) (by omega) (by omega)
  rw [rr_vals] at hC
  have gR2 := gR1.below hb2'
  have hs2 := hb2'.size
  have hrr64 : ∀ i, i < 1 + nb → (Lit.int .i64 (rrF r br i)).wf = true := fun i hi => by
    unfold rrF
    split
    · exact hr64
    · exact hb.wf _ (by omega)
  go_upto_region 3 with (first
    | (go_at_call 39; rw [← hw2]; refine Calls.mono hC ?_; rintro e w3 ⟨pc, cc, rfl, ho3, hb3⟩)
  )
  have hZ3 : Ints .i64 w3 pc (1 + nb) (rrF r br) := ints_owned ho3 hrr64
  have gR3 := gR2.below hb3
  have hbw3 := bjoin hb3 hbw2
  clear hC hw2 t1 t2 hb2' ho3 hown1 gR1 gR2 gR hgrow1 hb3 hbw1 hbw2 hs2
  generalize w0.heap.size = g at *
  go_loopg [23] (1 + nb) (fun gh iv wr => gh = 1 + nb ∧ iv = .int .i64 0 ∧ Below w3.heap.size w3 wr)
  case atStart => exact ⟨rfl, rfl, Below.refl _ _⟩
  case round =>
    obtain ⟨rfl, rfl, hbr⟩ := hrel
    obtain ⟨⟨b, off, rfl, hl, hc⟩, hwf⟩ := (hZ3.below hbr) 0 (by omega)
    have gR6 := gR3.below hbr
    have hbwr := bjoin hbr hbw3
    rw [Nat.add_zero] at hc
    rw [show rrF r br 0 = r from rfl] at hc
    obtain ⟨hl6, x0, x1, x2, x3, x4, x5, x6, x7⟩ := mk_all gR6
    obtain ⟨f0, f1, f2, f3, f4, f5, f6, f7⟩ := mk_frozen gR6
    have h1n : (0 : Int) < 1 + nb := by omega
    clear hZ3 gR3 hb h
    go_upto_region 7 with (first
    | (go_at_call 40; refine Calls.mono (hG _) ?_; rintro e w' ⟨rfl, hb⟩; obtain ⟨hc, hf, hb, hz⟩ := bstep hb (w := wr) (by go_grown); try simp only [World.size_alloc, World.size_setCell, World.size_drew] at hc hf hz)
    )
    have hba : Below w'.heap.size w' (w'.alloc (.cells #[.int .i64 RR, .slice none 0 0] 28)) := (Below.refl _ _).alloc (Nat.le_refl _) _
    have q6 := (gR6.below hb).below hba
    have v6 : VarT 32 8 w.heap.size (w'.alloc (.cells #[.int .i64 RR, .slice none 0 0] 28)) := ⟨_, rfl, plain_mkN, q6⟩
    have hP : TBox 32 w.heap.size #[.int .i64 0, .slice none 0 0, .slice none 0 0, .slice none 0 0, .int .i64 0, .int .i64 0, .int .i64 0, .bool false] _ := v6.full8
    have hE := (bjoin hba (bjoin hb hbwr)).trans (putsL_below (Nat.le_refl w.heap.size) [.int .i64 0, .slice none 0 0, .slice none 0 0, .slice none 0 0, .int .i64 0, .int .i64 0, .int .i64 0, .bool false] 0 _)
    obtain ⟨w9, hw9⟩ : ∃ W, W = putsL w.heap.size 0 [.int .i64 0, .slice none 0 0, .slice none 0 0, .slice none 0 0, .int .i64 0, .int .i64 0, .int .i64 0, .bool false] (w'.alloc (.cells #[.int .i64 RR, .slice none 0 0] 28)) := ⟨_, rfl⟩
    rw [← hw9] at hE hP
    simp only [putsL, Nat.reduceAdd] at hw9
    clear hba v6 q6
    go_wp2
    rw [← hw9]
    clear x0 x1 x2 x3 x4 x5 x6 x7 f0 f1 f2 f3 f4 f5 f6 f7 hl6 hw9 hc hf hb hz hbr hbwr
    obtain ⟨hl6, x0, x1, x2, x3, x4, x5, x6, x7⟩ := mk_all hP
    clear hP
    refine bodyPost_ret (by simp [results, Tryd.results20, go_sem, *]; try rfl) rfl ?_
    exact ⟨rfl, hE⟩
end Go.Proofs.YtiofeebiejkajaaDoor
namespace Go.Proofs.YtiofeebiejkajaaDoor
set_option linter.unusedSimpArgs false
set_option linter.unusedVariables false
end Go.Proofs.YtiofeebiejkajaaDoor
