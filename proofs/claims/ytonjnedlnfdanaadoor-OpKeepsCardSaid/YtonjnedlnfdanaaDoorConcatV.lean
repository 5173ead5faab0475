/- slices.Grow of nil and slices.Concat of two rows, at values. -/
import Derived.Test.YtonjnedlnfdanaaDoorAppRow
import Derived.Test.YtonjnedlnfdanaaDoorRef14
import Derived.Lib.AppendZerosOnto
import Derived.Laws.AppendOwnNone
namespace Go.Proofs.YtonjnedlnfdanaaDoor
set_option linter.unusedSimpArgs false
set_option linter.unusedVariables false
open Go.ChangeShapes Go.WideShapes Go.ChangeAt Go.RowKit Go.Joins

end Go.Proofs.YtonjnedlnfdanaaDoor
