import Derived.Test.YtkehankfnkjnlaaGreatDoorV01
namespace Go.Proofs.YtkehankfnkjnlaaGreatDoor
set_option linter.unusedSimpArgs false
set_option linter.unusedVariables false
set_option maxHeartbeats 16000000
set_option maxRecDepth 20000
open Go.ChangeAt Go.ChangeShapes Go.Joins Go.RowKit Go.WideShapes
theorem zt {b : Bool} (h : b = true := by simp [Region.binds]) : b = true := h
end Go.Proofs.YtkehankfnkjnlaaGreatDoor
