/- The awake test of layer 19's laws. -/
import Derived.Test.YtonjnedlnfdanaaDoorOp
import Derived.Test.YtonjnedlnfdanaaDoorMade
import Derived.Test.YtonjnedlnfdanaaDoorListV
namespace Go.Proofs.YtonjnedlnfdanaaDoor
set_option linter.unusedSimpArgs false
set_option linter.unusedVariables false
open Go.ChangeShapes Go.WideShapes Go.ChangeAt Go.RowKit Go.Joins

def dd19 : Nat → Dd := fun i => if i = 0 then ⟨0, 0, 0⟩ else ⟨1, 0, 1⟩
def h19 : Hp := maH (newH 1) dd19 2
def L19 : List Vl := [⟨0, 0⟩, ⟨1, 3⟩, ⟨2, 0⟩, ⟨2, 8⟩]
def s19 : Nat → Vl := fun i => L19[i]?.getD ⟨0, 0⟩
theorem made19 : formB h19 = true ∧ h19.n = 32 ∧ h19.m = 1 := by decide +kernel
theorem cks19 : ckO h19 0 s19 4 1 0 0 0 = 3 ∧ ckO h19 4 s19 9 1 1 0 0 = 7 ∧ ckO h19 4 s19 9 1 0 0 0 = 2 ∧ ckO h19 4 s19 9 1 2 0 0 = 0 ∧ ckO h19 4 s19 4 1 2 0 0 = 5 ∧ ckO h19 4 s19 9 1 2 1 0 = 4 ∧ ckO h19 4 s19 9 1 3 0 0 = 1 ∧ ckO h19 4 s19 4 2 2 0 4 = 3 ∧ ckO h19 4 s19 4 7 0 0 0 = 1 := by decide +kernel
theorem deeds19 (w : World) (t : TypeId) : Deeds (w.alloc (.cells #[.int .i64 0, .int .i64 0, .int .i64 0, .int .i64 1, .int .i64 0, .int .i64 1] t)) (some ⟨w.heap.size, 0, none⟩) 2 dd19 := by
  have hg := heap_alloc_new w (.cells #[.int .i64 0, .int .i64 0, .int .i64 0, .int .i64 1, .int .i64 0, .int .i64 1] t)
  intro i hi
  match i, hi with
  | 0, _ => exact ⟨⟨w.heap.size, 0, rfl, by simp, by rw [cell_of_row _ _ _ _ _ _ hg]; rfl, by rw [cell_of_row _ _ _ _ _ _ hg]; rfl, by rw [cell_of_row _ _ _ _ _ _ hg]; rfl⟩, by show (⟨0, 0, 0⟩ : Dd).wf; simp [Dd.wf, In64]⟩
  | 1, _ => exact ⟨⟨w.heap.size, 0, rfl, by simp, by rw [cell_of_row _ _ _ _ _ _ hg]; rfl, by rw [cell_of_row _ _ _ _ _ _ hg]; rfl, by rw [cell_of_row _ _ _ _ _ _ hg]; rfl⟩, by show (⟨1, 0, 1⟩ : Dd).wf; simp [Dd.wf, In64]⟩
theorem rmade19 (p : Option Addr) (cap : Nat) (w : World) (hin : Deeds w p 2 dd19) :
    Calls Tryd.prog 8 #[.int .i64 1, .slice p 2 cap] w fun e w' => ∃ p' c' q' d', e = .returned (.agg #[.slice p' 32 c', .slice q' 1 d', .bool h19.b]) ∧ HpIn w' p' 32 c' q' 1 d' h19.b h19 ∧ Below w.heap.size w w' := by
  refine Calls.mono (rmade_any 1 p 2 cap dd19 w (by decide) (by decide) hin (by decide)) ?_
  rintro e w' ⟨p', c', q', d', rfl, h1, -, -, -, hb⟩
  exact ⟨p', c', q', d', rfl, h1, hb⟩
theorem vals19 (w : World) : VAt (w.alloc (.cells #[.int .i64 0, .int .i64 0, .int .i64 1, .int .i64 3, .int .i64 2, .int .i64 0, .int .i64 2, .int .i64 8] 30)) (some ⟨w.heap.size, 0, none⟩) 4 4 s19 :=
  va_list (L := L19) (made_own (Nat.le_refl _) rfl rfl (by decide) (by decide)) (by decide) (fun v hv => by
    simp only [L19, List.mem_cons, List.not_mem_nil, or_false] at hv
    rcases hv with rfl | rfl | rfl | rfl <;> exact ⟨by decide, by decide⟩)
set_option maxHeartbeats 16000000 in
set_option maxRecDepth 20000 in
theorem awake19_any (w : World) (hS : Sz w) : Calls Tryd.prog 5 #[] w fun e w' => e = .returned (.bool true) ∧ Below w.heap.size w w' := by
  have hM := fun p cap W hin => rmade19 p cap W hin
  have hC : ∀ (W : World) (p : Option Addr) (c : Nat) (q : Option Addr) (d : Nat) (pv : Option Addr) (n cv : Nat) (r k a b e : Int), Below w.heap.size w W → HpIn W p 32 c q 1 d h19.b h19 → VAt W pv cv n s19 → Calls Tryd.prog 7 #[.agg #[.slice p 32 c, .slice q 1 d, .bool h19.b], .slice pv n cv, .int .i64 r, .agg #[.int .i64 k, .int .i64 a, .int .i64 b, .int .i64 e]] W fun e' w' => e' = .returned (.int .i64 (ckO h19 n s19 r k a b e)) ∧ Below W.heap.size W w' := fun W p c q d pv n cv r k a b e hW hh hv => by
    obtain ⟨e1, e2, -, ha⟩ := hh
    have := ocheck_any p c q d h19 pv n cv s19 r k a b e W (hS.below hW) ha made19.1 hv
    rw [made19.2.1, made19.2.2] at this
    exact this
  have hP := fun k W => opushes_any k W
  have hp3 : puO 3 = true := rfl
  have hp5 : puO 5 = false := rfl
  obtain ⟨k0, k1, k2, k3, k4, k5, k6, k7, k8⟩ := cks19
  generalize puO = PU at *
  generalize h19.b = hb19 at *
  generalize h19 = H at *
  go_enter Tryd.func5, Tryd.ntmps5
  go_upto_region 2 with (first
    | (go_at_call 8; refine Calls.mono (hM _ _ _ (deeds19 _ _)) ?_; rintro e w1 ⟨p, c, q, d, rfl, hh, hb1⟩)
  )
  obtain ⟨w2, hw2⟩ : ∃ W, W = (w1.alloc (.cells #[.slice p 32 c, .slice q 1 d, .bool hb19] 25)) := ⟨_, rfl⟩
  have gH : TBox 25 w1.heap.size #[.slice p 32 c, .slice q 1 d, .bool hb19] w2 := by rw [hw2]; exact TBox.new _ _ _
  have hb2 : Below w1.heap.size w1 w2 := by rw [hw2]; exact (Below.refl _ _).alloc (Nat.le_refl _) _
  rw [← hw2]
  clear hw2 hM
  have hbd := (Below.refl w.heap.size w).alloc (Nat.le_refl _) (.cells #[.int .i64 0, .int .i64 0, .int .i64 0, .int .i64 1, .int .i64 0, .int .i64 1] 40)
  have hbW := bjoin hb2 (bjoin hb1 hbd)
  replace hh := hh.below hb2
  clear hb1 hb2 hbd
  generalize w1.heap.size = BH at *
  obtain ⟨w3, hw3⟩ : ∃ W, W = w2.alloc (.cells #[.int .i64 0, .int .i64 0, .int .i64 1, .int .i64 3, .int .i64 2, .int .i64 0, .int .i64 2, .int .i64 8] 30) := ⟨_, rfl⟩
  have hv3 : VAt w3 (some ⟨w2.heap.size, 0, none⟩) 4 4 s19 := by rw [hw3]; exact vals19 w2
  have hb3 : Below w2.heap.size w2 w3 := by rw [hw3]; exact (Below.refl _ _).alloc (Nat.le_refl _) _
  have gH3 := gH.below hb3
  have hh3 := hh.below hb3
  have hbW3 := bjoin hb3 hbW
  obtain ⟨l0, x0, x1, x2⟩ := three19 gH
  obtain ⟨l1, y0, y1, y2⟩ := three19 gH3
  have hw3' : Hid (w3 = w2.alloc (.cells #[.int .i64 0, .int .i64 0, .int .i64 1, .int .i64 3, .int .i64 2, .int .i64 0, .int .i64 2, .int .i64 8] 30)) := hw3
  have hb0 : Below w3.heap.size w3 (w2.alloc (.cells #[.int .i64 0, .int .i64 0, .int .i64 1, .int .i64 3, .int .i64 2, .int .i64 0, .int .i64 2, .int .i64 8] 30)) := by rw [← hw3]; exact Below.refl _ _
  have hCk : ∀ (W : World) (pv : Option Addr) (n cv : Nat) (r k a b e : Int), Below w3.heap.size w3 W → ((pv = none ∧ n = 0 ∧ cv = 0) ∨ (pv = some ⟨w2.heap.size, 0, none⟩ ∧ n = 4 ∧ cv = 4)) → Calls Tryd.prog 7 #[.agg #[.slice p 32 c, .slice q 1 d, .bool hb19], .slice pv n cv, .int .i64 r, .agg #[.int .i64 k, .int .i64 a, .int .i64 b, .int .i64 e]] W fun e' w' => e' = .returned (.int .i64 (ckO H n s19 r k a b e)) ∧ Below W.heap.size W w' := fun W pv n cv r k a b e hW hor => by
    refine hC W p c q d pv n cv r k a b e (hbW3.trans (hW.mono hbW3.size)) (hh3.below hW) ?_
    rcases hor with ⟨rfl, rfl, rfl⟩ | ⟨rfl, rfl, rfl⟩
    · exact va_nil _ _
    · exact hv3.below hW
  clear hC hv3 hh hh3 gH gH3 hb3 hbW hw3 hw3'
  go_wp2_with (first
    | (go_at_call 7; refine Calls.mono (hCk _ _ _ _ _ _ _ _ _ (by first | exact hb0 | go_grown) (by first | exact .inl ⟨rfl, rfl, rfl⟩ | exact .inr ⟨rfl, rfl, rfl⟩)) ?_; rintro e' w' ⟨rfl, hb⟩; obtain ⟨hc, hf, hb, hz⟩ := bstep hb (w := w3) (by first | exact hb0 | go_grown); try simp only [World.size_alloc, World.size_setCell, World.size_drew] at hc hf hz)
    | (go_at_call 9; refine Calls.mono (hP _ _) ?_; rintro e' w' ⟨rfl, hb⟩; obtain ⟨hc, hf, hb, hz⟩ := bstep hb (w := w3) (by go_grown); try simp only [World.size_alloc, World.size_setCell, World.size_drew] at hc hf hz)
  )
  go_returns
  exact ⟨rfl, bjoin hb hbW3⟩
end Go.Proofs.YtonjnedlnfdanaaDoor
