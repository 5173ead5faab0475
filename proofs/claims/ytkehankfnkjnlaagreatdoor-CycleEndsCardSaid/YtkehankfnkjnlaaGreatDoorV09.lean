import Derived.Test.YtkehankfnkjnlaaGreatDoorV03
namespace Go.Proofs.YtkehankfnkjnlaaGreatDoor
set_option linter.unusedSimpArgs false
set_option linter.unusedVariables false
set_option maxHeartbeats 16000000
set_option maxRecDepth 20000
open Go.ChangeAt Go.ChangeShapes Go.Joins Go.RowKit Go.WideShapes
variable {h : Hp} {w w' W W' : World} {p q : Option Addr} {n g : Nat} {a : Int} {v : Value}
structure OkS (st : Int) : Prop where
 out : st = 0 ∨ st = 1 ∨ st = 2
theorem zf5 {st cl fr : Int} (h : rightB st cl fr = true) : OkS st := by
 rcases zaz.1 h with ⟨h, -⟩ | ⟨h | h, -⟩
 ·exact ⟨.inl h⟩
 ·exact ⟨.inr (.inl h)⟩
 ·exact ⟨.inr (.inr h)⟩
theorem zdw (st cl fr : Int) (w : World) (hk : OkS st) :
  Calls Tryz.prog 98 #[.agg #[.int .i64 st, .int .i64 cl, .int .u32 fr]] w fun e w' => e = .returned (.bool (useB st)) ∧ Below w.heap.size w w' := by
 rcases hk.out with rfl | rfl | rfl
 all_goals
  go_enter Tryz.func98, Tryz.ntmps98
  go_wp2
  go_returns
  exact ⟨rfl, by go_grown⟩
theorem zdc (c : Int) (w : World) (hS : Sz w) :
  Calls Tryz.prog 149 #[.int .i64 c] w fun e w' => e = .returned (.int .u32 (wholeW (blW c))) ∧ Below w.heap.size w w' := by
 go_enter Tryz.func149, Tryz.ntmps149
 go_wp2_with (first
  | (go_at_call 99; refine zm (zc7 _ _ (hS.below (by go_grown))) ?_; rintro e w' ⟨rfl, hb⟩; (first | replace hS := hS.below hb | replace hS := (hS.below (by go_grown)).below hb | skip); obtain ⟨hc, hf, hb, hz⟩ := bstep hb (w := w) (by go_grown); try simp only [za, zb, zd] at hc hf hz)
  | (go_at_call 185; refine zm (zs4 _ _) ?_; rintro e w' ⟨rfl, hb⟩; (first | replace hS := hS.below hb | replace hS := (hS.below (by go_grown)).below hb | skip); obtain ⟨hc, hf, hb, hz⟩ := bstep hb (w := w) (by go_grown); try simp only [za, zb, zd] at hc hf hz)
 )
 go_returns
 exact ⟨rfl, by go_grown⟩
theorem zvu (c : Int) : (wholeW (blW c) == 0) = !clB c := by
 rcases zaq c with ⟨h, -, e, -⟩ | ⟨h, -, e, -⟩ | ⟨h, -, e, -⟩ | ⟨h, -, e, -⟩ | ⟨h, -, e, -⟩
 all_goals
  rw [e]
  have : clB c = _ := show (decide (0 ≤ c) && decide (c < 4)) = _ from rfl
  simp [clB, wholeW]
  omega
theorem zlu (c : Int) : (wholeW (blW c) != 0) = clB c := by
 rw [bne, zvu, Bool.not_not]
theorem zw1 (c i : Int) : hasB (wholeW (blW c)) i = (decide (0 ≤ i) && decide (i < blW c)) := by
 have hb := zbc c
 by_cases h : 0 ≤ i ∧ i < 32
 ·rw [zci _ h.1 h.2, decide_eq_true h.1, Bool.true_and]
 ·rw [zmb h]
  by_cases h0 : 0 ≤ i
  ·rw [decide_eq_false (show ¬ i < blW c by omega), Bool.and_false]
  ·rw [decide_eq_false h0]; rfl
theorem zql {m i : Int} (hm : Mask m) (h0 : 0 ≤ i) (h1 : i < 32) : withW m i = m ↔ hasB m i = true := by
 constructor
 ·intro h
  have := zd6 m i i
  rw [h, zbz h0 h1] at this
  simpa using this
 ·intro h
  refine zga (zfd hm) hm fun j j0 j1 => ?_
  rw [zd6, zbz h0 h1]
  by_cases e : j = i
  ·subst e; simp [h]
  ·simp [e]
theorem zr6 (st cl fr i : Int) (w : World) (hk : OkS st) (hm : Mask fr) (hS : Sz w) :
  Calls Tryz.prog 183 #[.agg #[.int .i64 st, .int .i64 cl, .int .u32 fr], .int .i64 i] w fun e w' => e = .returned (.tuple #[.agg #[.int .i64 st, .int .i64 cl, .int .u32 (giveF st cl fr i)], .bool (giveB st cl fr i)]) ∧ Below w.heap.size w w' := by
 have hwm := zd1 (blW cl)
 cases hu : useB st with
 | false =>
  have hg : giveB st cl fr i = false := by simp [giveB, hu]
  have e : giveF st cl fr i = fr := by unfold giveF; rw [if_neg (by simp [hg])]
  rw [e, hg]
  clear e hg
  go_enter Tryz.func183, Tryz.ntmps183
  go_wp2_with (first
  | (go_at_call 98; refine zm (zdw _ _ _ _ hk) ?_; rintro e w' ⟨rfl, hb⟩; (first | replace hS := hS.below hb | replace hS := (hS.below (by go_grown)).below hb | skip); obtain ⟨hc, hf, hb, hz⟩ := bstep hb (w := w) (by go_grown); try simp only [za, zb, zd] at hc hf hz)
  )
  refine bodyPost_ret (by simp [results, Tryz.results183, go_sem, *]; try rfl) rfl ?_
  exact ⟨rfl, by go_grown⟩
 | true =>
  have hal := zw1 cl i
  cases ha : hasB (wholeW (blW cl)) i with
  | false =>
   have hg : giveB st cl fr i = false := by
    rw [hal] at ha
    unfold giveB
    rw [← Bool.and_assoc (decide (0 ≤ i)), ha, Bool.false_and, Bool.and_false]
   have e : giveF st cl fr i = fr := by unfold giveF; rw [if_neg (by simp [hg])]
   rw [e, hg]
   clear e hg hal
   go_enter Tryz.func183, Tryz.ntmps183
   go_wp2_with (first
  | (go_at_call 98; refine zm (zdw _ _ _ _ hk) ?_; rintro e w' ⟨rfl, hb⟩; (first | replace hS := hS.below hb | replace hS := (hS.below (by go_grown)).below hb | skip); obtain ⟨hc, hf, hb, hz⟩ := bstep hb (w := w) (by go_grown); try simp only [za, zb, zd] at hc hf hz)
  | (go_at_call 149; refine zm (zdc _ _ (hS.below (by go_grown))) ?_; rintro e w' ⟨rfl, hb⟩; (first | replace hS := hS.below hb | replace hS := (hS.below (by go_grown)).below hb | skip); obtain ⟨hc, hf, hb, hz⟩ := bstep hb (w := w) (by go_grown); try simp only [za, zb, zd] at hc hf hz)
  | (go_at_call 202; refine zm (zl4 _ _ _ hwm) ?_; rintro e w' ⟨rfl, hb⟩; (first | replace hS := hS.below hb | replace hS := (hS.below (by go_grown)).below hb | skip); obtain ⟨hc, hf, hb, hz⟩ := bstep hb (w := w) (by go_grown); try simp only [za, zb, zd] at hc hf hz)
   )
   refine bodyPost_ret (by simp [results, Tryz.results183, go_sem, *]; try rfl) rfl ?_
   exact ⟨rfl, by go_grown⟩
  | true =>
   rw [ha] at hal
   have hal' := hal.symm
   simp only [Bool.and_eq_true, decide_eq_true_eq] at hal'
   obtain ⟨i0, i1⟩ := hal'
   have hb := zbc cl
   have hsame := zql hm i0 (show i < 32 by omega)
   have hE : Hid (giveF st cl fr i = withW fr i ∧ giveB st cl fr i = !hasB fr i) := by
    have hg : giveB st cl fr i = !hasB fr i := by simp [giveB, hu, i0, i1]
    refine ⟨?_, hg⟩
    unfold giveF
    rw [hg]
    cases hh : hasB fr i with
    | true => simp [hsame.2 hh]
    | false => simp
   clear i0 i1 hb hal
   cases hh : hasB fr i with
   | true =>
    have heq : withW fr i = fr := hsame.2 hh
    clear hsame
    go_enter Tryz.func183, Tryz.ntmps183
    go_wp2_with (first
  | (go_at_call 98; refine zm (zdw _ _ _ _ hk) ?_; rintro e w' ⟨rfl, hb⟩; (first | replace hS := hS.below hb | replace hS := (hS.below (by go_grown)).below hb | skip); obtain ⟨hc, hf, hb, hz⟩ := bstep hb (w := w) (by go_grown); try simp only [za, zb, zd] at hc hf hz)
  | (go_at_call 149; refine zm (zdc _ _ (hS.below (by go_grown))) ?_; rintro e w' ⟨rfl, hb⟩; (first | replace hS := hS.below hb | replace hS := (hS.below (by go_grown)).below hb | skip); obtain ⟨hc, hf, hb, hz⟩ := bstep hb (w := w) (by go_grown); try simp only [za, zb, zd] at hc hf hz)
  | (go_at_call 202; refine zm (zl4 _ _ _ hwm) ?_; rintro e w' ⟨rfl, hb⟩; (first | replace hS := hS.below hb | replace hS := (hS.below (by go_grown)).below hb | skip); obtain ⟨hc, hf, hb, hz⟩ := bstep hb (w := w) (by go_grown); try simp only [za, zb, zd] at hc hf hz)
  | (go_at_call 203; refine zm (znm _ _ _ hm) ?_; rintro e w' ⟨rfl, hb⟩; (first | replace hS := hS.below hb | replace hS := (hS.below (by go_grown)).below hb | skip); obtain ⟨hc, hf, hb, hz⟩ := bstep hb (w := w) (by go_grown); try simp only [za, zb, zd] at hc hf hz)
    )
    go_region
    go_wp2
    refine bodyPost_ret (by simp [results, Tryz.results183, go_sem, *]; try rfl) rfl ?_
    exact ⟨by rw [hE.out.1, hE.out.2, hh, heq]; rfl, by go_grown⟩
   | false =>
    have hne : (withW fr i == fr) = false := by
     have : ¬ withW fr i = fr := fun e => by rw [hsame.1 e] at hh; cases hh
     simpa using this
    clear hsame
    go_enter Tryz.func183, Tryz.ntmps183
    go_wp2_with (first
  | (go_at_call 98; refine zm (zdw _ _ _ _ hk) ?_; rintro e w' ⟨rfl, hb⟩; (first | replace hS := hS.below hb | replace hS := (hS.below (by go_grown)).below hb | skip); obtain ⟨hc, hf, hb, hz⟩ := bstep hb (w := w) (by go_grown); try simp only [za, zb, zd] at hc hf hz)
  | (go_at_call 149; refine zm (zdc _ _ (hS.below (by go_grown))) ?_; rintro e w' ⟨rfl, hb⟩; (first | replace hS := hS.below hb | replace hS := (hS.below (by go_grown)).below hb | skip); obtain ⟨hc, hf, hb, hz⟩ := bstep hb (w := w) (by go_grown); try simp only [za, zb, zd] at hc hf hz)
  | (go_at_call 202; refine zm (zl4 _ _ _ hwm) ?_; rintro e w' ⟨rfl, hb⟩; (first | replace hS := hS.below hb | replace hS := (hS.below (by go_grown)).below hb | skip); obtain ⟨hc, hf, hb, hz⟩ := bstep hb (w := w) (by go_grown); try simp only [za, zb, zd] at hc hf hz)
  | (go_at_call 203; refine zm (znm _ _ _ hm) ?_; rintro e w' ⟨rfl, hb⟩; (first | replace hS := hS.below hb | replace hS := (hS.below (by go_grown)).below hb | skip); obtain ⟨hc, hf, hb, hz⟩ := bstep hb (w := w) (by go_grown); try simp only [za, zb, zd] at hc hf hz)
    )
    go_region
    go_wp2
    refine bodyPost_ret (by simp [results, Tryz.results183, go_sem, *]; try rfl) rfl ?_
    exact ⟨by rw [hE.out.1, hE.out.2, hh]; rfl, by go_grown⟩
theorem zhy (st cl fr : Int) (w : World) (hk : OkS st) (hS : Sz w) :
  Calls Tryz.prog 112 #[.agg #[.int .i64 st, .int .i64 cl, .int .u32 fr]] w fun e w' => e = .returned (.bool (emptyB st cl fr)) ∧ Below w.heap.size w w' := by
 cases hu : useB st
 all_goals
  go_enter Tryz.func112, Tryz.ntmps112
  go_wp2_with fail
  refine zap (by kernel_rfl) (by kernel_rfl) fun hpc => ?_
  repeat (first | go_big_quiet_step ((first | (go_at_call 98; exact zak (zdw _ _ _ _ hk)) | (go_at_call 149; exact zak (zdc _ _ ((hS.below (by go_grown)).below (za1 _ _)))))) | quiet_step ((first | (go_at_call 98; exact zak (zdw _ _ _ _ hk)) | (go_at_call 149; exact zak (zdc _ _ ((hS.below (by go_grown)).below (za1 _ _)))))))
  refine wpQuiet_nil ?_
  intro w' hbq
  clear hpc
  obtain ⟨hc, hf, hb, hz⟩ := bstep hbq (w := w) (by go_grown)
  try simp only [za, zb, zd] at hc hf hz
  go_wp2
  go_returns
  exact ⟨zab (by simp [emptyB, hu]), by go_grown⟩
theorem zjz (st cl fr : Int) (w : World) (hk : OkS st) (hm : Mask fr) (hS : Sz w) :
  Calls Tryz.prog 64 #[.agg #[.int .i64 st, .int .i64 cl, .int .u32 fr]] w fun e w' => e = .returned (.int .i64 (usedN st cl fr)) ∧ Below w.heap.size w w' := by
 have hb := zbc cl
 have hc : 0 ≤ countW fr ∧ countW fr ≤ 32 := zcj (hasB fr) 32
 obtain ⟨b0, b1⟩ := hb
 obtain ⟨c0, c1⟩ := hc
 cases hu : useB st with
 | false =>
  go_enter Tryz.func64, Tryz.ntmps64
  go_wp2_with (first
  | (go_at_call 98; refine zm (zdw _ _ _ _ hk) ?_; rintro e w' ⟨rfl, hb⟩; (first | replace hS := hS.below hb | replace hS := (hS.below (by go_grown)).below hb | skip); obtain ⟨hc, hf, hb, hz⟩ := bstep hb (w := w) (by go_grown); try simp only [za, zb, zd] at hc hf hz)
  )
  go_returns
  exact ⟨za5 (by simp [usedN, hu]), by go_grown⟩
 | true =>
  go_enter Tryz.func64, Tryz.ntmps64
  go_wp2_with (first
  | (go_at_call 98; refine zm (zdw _ _ _ _ hk) ?_; rintro e w' ⟨rfl, hb⟩; (first | replace hS := hS.below hb | replace hS := (hS.below (by go_grown)).below hb | skip); obtain ⟨hc, hf, hb, hz⟩ := bstep hb (w := w) (by go_grown); try simp only [za, zb, zd] at hc hf hz)
  )
  refine zap (by kernel_rfl) (by kernel_rfl) fun hpc => ?_
  repeat (first | go_big_quiet_step ((first | (go_at_call 99; exact zak (zc7 _ _ ((hS.below (by go_grown)).below (za1 _ _)))) | (go_at_call 100; exact zak (zkt _ _ hm)))) | quiet_step ((first | (go_at_call 99; exact zak (zc7 _ _ ((hS.below (by go_grown)).below (za1 _ _)))) | (go_at_call 100; exact zak (zkt _ _ hm)))))
  refine wpQuiet_nil ?_
  intro w' hbq
  clear hpc
  obtain ⟨hc, hf, hb, hz⟩ := bstep hbq (w := w) (by go_grown)
  try simp only [za, zb, zd] at hc hf hz
  go_wp2
  go_returns
  exact ⟨za5 (by simp [usedN, hu]), by go_grown⟩
theorem zoz (cl fr : Int) : rightB 0 cl fr = (decide (cl = 0) && decide (fr = 0)) := by simp [rightB]
theorem zom {st : Int} (cl fr : Int) (h : ¬ st = 0) : rightB st cl fr = (useB st && (clB cl && smallB cl fr)) := by simp [rightB, h]
theorem zh5 (st cl fr : Int) (w : World) (hm : Mask fr) (hS : Sz w) :
  Calls Tryz.prog 121 #[.agg #[.int .i64 st, .int .i64 cl, .int .u32 fr]] w fun e w' => e = .returned (.bool (rightB st cl fr)) ∧ Below w.heap.size w w' := by
 by_cases h0 : st = 0
 ·subst h0
  rw [zoz]
  by_cases h1 : cl = 0
  ·by_cases h2 : fr = 0
   all_goals
    go_enter Tryz.func121, Tryz.ntmps121
    go_wp2
    go_returns
    exact ⟨zab (by simp [h1, h2]), by go_grown⟩
  ·go_enter Tryz.func121, Tryz.ntmps121
   go_wp2
   go_returns
   exact ⟨zab (by simp [h1]), by go_grown⟩
 ·rw [zom cl fr h0]
  have hanot := zml hm (zd1 (blW cl))
  have hsm := zqc (cl := cl) hm
  have hwn := zlu cl
  have h : st = 1 ∨ st = 2 ∨ (¬ st = 1 ∧ ¬ st = 2) := by omega
  rcases h with rfl | rfl | ⟨h1, h2⟩
  ·cases hcl : clB cl
   all_goals
    rw [hcl] at hwn
    go_enter Tryz.func121, Tryz.ntmps121
    go_wp2_with (first
  | (go_at_call 149; refine zm (zdc _ _ (hS.below (by go_grown))) ?_; rintro e w' ⟨rfl, hb⟩; (first | replace hS := hS.below hb | replace hS := (hS.below (by go_grown)).below hb | skip); obtain ⟨hc, hf, hb, hz⟩ := bstep hb (w := w) (by go_grown); try simp only [za, zb, zd] at hc hf hz)
    )
    go_returns
    exact ⟨zab (by simp [useB, hanot, hsm]), by go_grown⟩
  ·cases hcl : clB cl
   all_goals
    rw [hcl] at hwn
    go_enter Tryz.func121, Tryz.ntmps121
    go_wp2_with (first
  | (go_at_call 149; refine zm (zdc _ _ (hS.below (by go_grown))) ?_; rintro e w' ⟨rfl, hb⟩; (first | replace hS := hS.below hb | replace hS := (hS.below (by go_grown)).below hb | skip); obtain ⟨hc, hf, hb, hz⟩ := bstep hb (w := w) (by go_grown); try simp only [za, zb, zd] at hc hf hz)
    )
    go_returns
    exact ⟨zab (by simp [useB, hanot, hsm]), by go_grown⟩
  ·go_enter Tryz.func121, Tryz.ntmps121
   go_wp2
   go_returns
   exact ⟨zab (by simp [useB, h1, h2]), by go_grown⟩
end Go.Proofs.YtkehankfnkjnlaaGreatDoor
