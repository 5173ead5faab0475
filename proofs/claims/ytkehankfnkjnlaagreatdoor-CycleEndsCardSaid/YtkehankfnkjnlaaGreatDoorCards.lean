/-
  DERIVED. GIVEN WITH THE SEED: THE CARDS: each row of YtkehankfnkjnlaaGreatDoorRows.lean that lists a variable, with what it lists TIED to the program's text (the seventh form; the later family's looks); each row that meets fmt, with fmt's text TOLD by the authors' own Lean function (tested against real Go, not proved from fmt's source: count such statements apart). THE CARD IS WHAT COUNTS. Prove the row's statement (the work); the ties are given (YtkehankfnkjnlaaGreatDoorTie.lean); close each card by the builder's one call (the guide's Derived/Test/ToyasCard.lean, 'card_holds'). Laid BY PROGRAM, IN A SANDBOX (cutbox-door.mjs). By AI agents, Wed Nov 11 2026. No macro, syntax, notation, axiom, sorry.
-/
import Derived.Test.YtkehankfnkjnlaaGreatDoorRows
import GoSem.ClaimSeven
namespace Go.Proofs.YtkehankfnkjnlaaGreatDoor
namespace Rows

/-- THE TIED CARD OF 'flotsamlaw20.CycleEnds'. -/
def cycleEndsCard : Claim7 := { stood := { row := cycleEndsRow, standIns := [], harness := (true, "77e10e6948e1cb6b76057977a1652a8dc83c1e52771500d7a90269e55426328f"), looks := false }, kinds := [], alts := [], laidByText := true, laidKinds := [.data], laidTests := true, laidLooks := .later }
def CycleEndsCardSaid : Prop := Claim7.holds Tryz.pinned (.plain (OpenSpec.ofChange cycleEndsSpec)) cycleEndsCard

/-- THE TIED CARD OF 'flotsamlaw20.CycleSums'. -/
def cycleSumsCard : Claim7 := { stood := { row := cycleSumsRow, standIns := [], harness := (true, "77e10e6948e1cb6b76057977a1652a8dc83c1e52771500d7a90269e55426328f"), looks := false }, kinds := [], alts := [], laidByText := true, laidKinds := [.data], laidTests := true, laidLooks := .later }
def CycleSumsCardSaid : Prop := Claim7.holds Tryz.pinned (.plain (OpenSpec.ofChange cycleSumsSpec)) cycleSumsCard

/-- THE TIED CARD OF 'flotsamlaw20.CycleKeeps'. -/
def cycleKeepsCard : Claim7 := { stood := { row := cycleKeepsRow, standIns := [], harness := (true, "77e10e6948e1cb6b76057977a1652a8dc83c1e52771500d7a90269e55426328f"), looks := false }, kinds := [], alts := [], laidByText := true, laidKinds := [.data], laidTests := true, laidLooks := .later }
def CycleKeepsCardSaid : Prop := Claim7.holds Tryz.pinned (.plain (OpenSpec.ofChange cycleKeepsSpec)) cycleKeepsCard

/-- THE TIED CARD OF 'flotsamlaw20.CyclePhases'. -/
def cyclePhasesCard : Claim7 := { stood := { row := cyclePhasesRow, standIns := [], harness := (true, "77e10e6948e1cb6b76057977a1652a8dc83c1e52771500d7a90269e55426328f"), looks := false }, kinds := [], alts := [], laidByText := true, laidKinds := [.data], laidTests := true, laidLooks := .later }
def CyclePhasesCardSaid : Prop := Claim7.holds Tryz.pinned (.plain (OpenSpec.ofChange cyclePhasesSpec)) cyclePhasesCard

/-- THE SECOND FORM's CARD OF 'flotsamlaw20.CycleEnds'. -/
def cycleEndsUptoCard : Claim7 := { stood := { row := cycleEndsUptoRow, standIns := [], harness := (true, "77e10e6948e1cb6b76057977a1652a8dc83c1e52771500d7a90269e55426328f"), looks := false }, kinds := [], alts := [], laidByText := true, laidKinds := [.data], laidTests := true, laidLooks := .later }
def CycleEndsUptoCardSaid : Prop := Claim7.holds Tryz.pinned (.plain (OpenSpec.upto cycleEndsSpec)) cycleEndsUptoCard

/-- THE SECOND FORM's CARD OF 'flotsamlaw20.CycleSums'. -/
def cycleSumsUptoCard : Claim7 := { stood := { row := cycleSumsUptoRow, standIns := [], harness := (true, "77e10e6948e1cb6b76057977a1652a8dc83c1e52771500d7a90269e55426328f"), looks := false }, kinds := [], alts := [], laidByText := true, laidKinds := [.data], laidTests := true, laidLooks := .later }
def CycleSumsUptoCardSaid : Prop := Claim7.holds Tryz.pinned (.plain (OpenSpec.upto cycleSumsSpec)) cycleSumsUptoCard

/-- THE SECOND FORM's CARD OF 'flotsamlaw20.CycleKeeps'. -/
def cycleKeepsUptoCard : Claim7 := { stood := { row := cycleKeepsUptoRow, standIns := [], harness := (true, "77e10e6948e1cb6b76057977a1652a8dc83c1e52771500d7a90269e55426328f"), looks := false }, kinds := [], alts := [], laidByText := true, laidKinds := [.data], laidTests := true, laidLooks := .later }
def CycleKeepsUptoCardSaid : Prop := Claim7.holds Tryz.pinned (.plain (OpenSpec.upto cycleKeepsSpec)) cycleKeepsUptoCard

/-- THE SECOND FORM's CARD OF 'flotsamlaw20.CyclePhases'. -/
def cyclePhasesUptoCard : Claim7 := { stood := { row := cyclePhasesUptoRow, standIns := [], harness := (true, "77e10e6948e1cb6b76057977a1652a8dc83c1e52771500d7a90269e55426328f"), looks := false }, kinds := [], alts := [], laidByText := true, laidKinds := [.data], laidTests := true, laidLooks := .later }
def CyclePhasesUptoCardSaid : Prop := Claim7.holds Tryz.pinned (.plain (OpenSpec.upto cyclePhasesSpec)) cyclePhasesUptoCard
end Rows
end Go.Proofs.YtkehankfnkjnlaaGreatDoor
