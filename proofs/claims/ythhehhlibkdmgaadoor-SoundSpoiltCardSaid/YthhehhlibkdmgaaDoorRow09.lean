/- The reference's List and Refs by length and numbers (chapter 8). -/
import Derived.Test.YthhehhlibkdmgaaDoorAwake09
import Derived.Test.YthhehhlibkdmgaaDoorLate
import Derived.Test.YthhehhlibkdmgaaDoorObjGot
namespace Go.Proofs.YthhehhlibkdmgaaDoor
set_option linter.unusedSimpArgs false
set_option linter.unusedVariables false
open Go.ChangeShapes Go.WideShapes Go.ChangeAt Go.RowKit Go.Joins

/-- The reference's list of objects, by its length and numbers. -/
theorem rlist_row2 {p : Option Addr} {c : Nat} {q : Option Addr} {d : Nat} {h : Hp} {w : World} (hh : HpAt w p c q d h) (hF : formB h = true) {M : Nat} {z : Nat → Int} (eM : (obL h h.n).length = M) (ez : (fun i => (obL h h.n)[i]?.getD 0) = z) :
    Calls Tryd.prog 12 #[.agg #[.slice p h.n c, .slice q h.m d, .bool h.b]] w fun e w' => ∃ pl cl, e = .returned (.slice pl M cl) ∧ Ints .i64 w' pl M z ∧ Below w.heap.size w w' := by
  refine Calls.mono (rlist8_any p c q d h w hh hF) ?_
  rintro e w' ⟨v, rfl, hown, hb⟩
  obtain ⟨pl, cl, rfl, hr⟩ := row_owned hown (obL_wf h (by have := form_iff.1 hF; omega))
  have hi := hr.ints
  rw [eM, ez] at hi
  rw [eM]
  exact ⟨pl, cl, rfl, hi, hb⟩
theorem rrefs_row2 {p : Option Addr} {c : Nat} {q : Option Addr} {d : Nat} {h : Hp} {w : World} {a : Int} (hh : HpAt w p c q d h) (hF : formB h = true) {R : Nat} {y : Nat → Int} (eM : (rfH h a).length = R) (ey : (fun i => (rfH h a)[i]?.getD 0) = y) :
    Calls Tryd.prog 14 #[.agg #[.slice p h.n c, .slice q h.m d, .bool h.b], .int .i64 a] w fun e w' => ∃ pm cm, e = .returned (.slice pm R cm) ∧ Ints .i64 w' pm R y ∧ Below w.heap.size w w' := by
  refine Calls.mono (rrefs8_any p c q d h a w hh hF) ?_
  rintro e w' ⟨v, rfl, hown, hb⟩
  obtain ⟨pm, cm, rfl, hr⟩ := row_owned hown (rfH_wf hh.wf hF a)
  have hi := hr.ints
  rw [eM, ey] at hi
  rw [eM]
  exact ⟨pm, cm, rfl, hi, hb⟩
/-- The answer of the reference's Get. -/
theorem rget_at {p : Option Addr} {c : Nat} {q : Option Addr} {d : Nat} {h : Hp} {w : World} {a : Int} (hh : HpAt w p c q d h) (hF : formB h = true) (ho : obB h a = true) :
    Calls Tryd.prog 13 #[.agg #[.slice p h.n c, .slice q h.m d, .bool h.b], .int .i64 a] w fun e w' => e = .returned (.tuple #[.agg #[.bool true, .bool (obC h a), .int .i64 (obK h a), .int .i64 (obN h a)], .bool true]) ∧ Below w.heap.size w w' := by
  have := rget8_any p c q d h a w hh hF
  rw [ho] at this
  exact this
end Go.Proofs.YthhehhlibkdmgaaDoor
