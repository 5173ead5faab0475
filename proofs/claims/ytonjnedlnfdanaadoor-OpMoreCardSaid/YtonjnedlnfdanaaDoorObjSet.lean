/- Contracts of the code's object.store, object.Set, object.Paint (chapter 8). -/
import Derived.Test.YtonjnedlnfdanaaDoorObject
namespace Go.Proofs.YtonjnedlnfdanaaDoor
set_option linter.unusedSimpArgs false
set_option linter.unusedVariables false
open Go.ChangeShapes Go.WideShapes Go.ChangeAt Go.RowKit Go.Joins

end Go.Proofs.YtonjnedlnfdanaaDoor
