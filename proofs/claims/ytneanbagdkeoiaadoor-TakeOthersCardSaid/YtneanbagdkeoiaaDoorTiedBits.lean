/- What a listed table math/bits.deBruijn32tab gives the walks. -/
import Derived.Test.YtneanbagdkeoiaaDoorBase
import Derived.Test.YtneanbagdkeoiaaDoorBits
namespace Go.Proofs.YtneanbagdkeoiaaDoor
set_option linter.unusedSimpArgs false
set_option linter.unusedVariables false
open Go.ChangeShapes Go.WideShapes Go.ChangeAt Go.RowKit Go.Joins

theorem tab_of {W : World} {l rest : List (String × DataW Unit)} (h : laidMetH Tryd.prog l W) (hp : (l.all fun x => x.2.handleName?.isNone) = true)
    (hm : (l.filter fun x => x.1 == "math/bits.deBruijn32tab") = ("math/bits.deBruijn32tab", Lib.tabData .u8 (Lib.deBruijn32tab.map fun n : Nat => (n : Int))) :: rest) : Tab W := by
  have ht := tab_is (g := 1) (t := 119) (e := 5) (n := 32) h hp hm (by kernel_rfl) (by kernel_rfl) Tryd.underlying119 Tryd.underlying5 (by kernel_rfl) (by kernel_rfl)
  have hc : ∀ j, j < 32 → W.cell? ⟨1, j, none⟩ = some (.int .u8 (Lib.deBruijn32tab.getD j 0 : Nat)) := fun j hj => by
    have := ht.cell (show Tryd.prog.globalNamed "math/bits.deBruijn32tab" = some 1 by kernel_rfl) j (by simpa [Lib.deBruijn32tab] using hj)
    rw [this]
    have hl : j < Lib.deBruijn32tab.length := hj
    simp [List.getD, hl]
  exact ⟨World.block_lt_of_cell? W _ (hc 0 (by decide)), hc⟩
end Go.Proofs.YtneanbagdkeoiaaDoor
