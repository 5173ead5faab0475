/- The awake test of layer 5's laws. -/
import Derived.Test.YtjhclnalgdnplaaDoorArena
namespace Go.Proofs.YtjhclnalgdnplaaDoor
set_option linter.unusedSimpArgs false
set_option linter.unusedVariables false
open Go.ChangeShapes Go.WideShapes Go.ChangeAt Go.RowKit

set_option maxHeartbeats 2000000 in
theorem awake_any (w : World) (hS : Sz w) :
    Calls Tryd.prog 9 #[] w fun e w' => e = .returned (.bool true) ∧ Below w.heap.size w w' := by
  have n1 : newN 1 = 32 := rfl
  have n2 : newN 17 = 0 := rfl
  have n3 : newE 1 = 0 := rfl
  have n4 : newE 17 = 1 := rfl
  have p1 : inI 32 31 = true := rfl
  have p2 : inI 32 32 = false := rfl
  have p3 : getZ 32 (putZ (fun _ => 0) 31 5) 31 = 5 := rfl
  have p4 : adW 1 2 3 = 56 := rfl
  have p5 : adB 1 2 3 = true := rfl
  have p6 : plP 2 56 = 1 := rfl
  have p7 : plI 2 56 = 3 := rfl
  have p8 : plB 2 56 = true := rfl
  have p9 : plB 2 57 = false := rfl
  go_enter Tryd.func9, Tryd.ntmps9
  go_wp2_with (first
    | (go_at_call 10; refine (anew_any _ _).mono ?_; rintro e w' ⟨q0, k0, rfl, h0, hb⟩; (try (rw [n1] at h0; have hin := h0)); (try replace hS := hS.below hb); (try replace hin := hin.below hb); (try replace hx := hx.below hb); obtain ⟨hc, hf, hb, hz⟩ := bstep hb (w := w) (by go_grown); try simp only [World.size_alloc, World.size_setCell, World.size_drew] at hc hf hz)
    | (go_at_call 13; refine (astore_any _ 32 _ _ _ 5 _ hin (by decide) (by decide)).mono ?_; rintro e w' ⟨q2, k2, rfl, hx, -, hb⟩; (try replace hS := hS.below hb); (try replace hin := hin.below hb); (try replace hx := hx.below hb); obtain ⟨hc, hf, hb, hz⟩ := bstep hb (w := w) (by go_grown); try simp only [World.size_alloc, World.size_setCell, World.size_drew] at hc hf hz)
    | (go_at_call 11; refine (aload_any _ _ _ _ _ _ hx).mono ?_; rintro e w' ⟨rfl, hb⟩; (try replace hS := hS.below hb); (try replace hin := hin.below hb); (try replace hx := hx.below hb); obtain ⟨hc, hf, hb, hz⟩ := bstep hb (w := w) (by go_grown); try simp only [World.size_alloc, World.size_setCell, World.size_drew] at hc hf hz)
    | (go_at_call 16; refine (aaddress_any _ _ _ _ hS).mono ?_; rintro e w' ⟨rfl, hb⟩; (try replace hS := hS.below hb); (try replace hin := hin.below hb); (try replace hx := hx.below hb); obtain ⟨hc, hf, hb, hz⟩ := bstep hb (w := w) (by go_grown); try simp only [World.size_alloc, World.size_setCell, World.size_drew] at hc hf hz)
    | (go_at_call 18; refine (aplace_any _ _ _ hS).mono ?_; rintro e w' ⟨rfl, hb⟩; (try replace hS := hS.below hb); (try replace hin := hin.below hb); (try replace hx := hx.below hb); obtain ⟨hc, hf, hb, hz⟩ := bstep hb (w := w) (by go_grown); try simp only [World.size_alloc, World.size_setCell, World.size_drew] at hc hf hz)
    )
  go_returns
  exact ⟨rfl, by go_grown⟩

end Go.Proofs.YtjhclnalgdnplaaDoor
