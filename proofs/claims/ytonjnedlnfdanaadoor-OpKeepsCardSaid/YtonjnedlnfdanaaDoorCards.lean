/-
  DERIVED. GIVEN WITH THE SEED: THE CARDS: each row of YtonjnedlnfdanaaDoorRows.lean that lists a variable, with what it lists TIED to the program's text (the seventh form; the later family's looks); each row that meets fmt, with fmt's text TOLD by the authors' own Lean function (tested against real Go, not proved from fmt's source: count such statements apart). THE CARD IS WHAT COUNTS. Prove the row's statement (the work); the ties are given (YtonjnedlnfdanaaDoorTie.lean); close each card by the builder's one call (the guide's Derived/Test/ToyasCard.lean, 'card_holds'). Laid BY PROGRAM, IN A SANDBOX (cutbox-door.mjs). By AI agents, Wed Nov 11 2026. No macro, syntax, notation, axiom, sorry.
-/
import Derived.Test.YtonjnedlnfdanaaDoorRows
import GoSem.ClaimSeven
namespace Go.Proofs.YtonjnedlnfdanaaDoor
namespace Rows

/-- THE TIED CARD OF 'flotsamlaw19.OpMore'. -/
def opMoreCard : Claim7 := { stood := { row := opMoreRow, standIns := [], harness := (true, "a4e16072d0b8a80a6a9a8ec20c3dee9269dd19b262ba38d691ec3a0650b8ed94"), looks := false }, kinds := [], alts := [], laidByText := true, laidKinds := [.data], laidTests := true, laidLooks := .later }
def OpMoreCardSaid : Prop := Claim7.holds Tryd.pinned (.plain (OpenSpec.ofChange opMoreSpec)) opMoreCard

/-- THE TIED CARD OF 'flotsamlaw19.OpKeeps'. -/
def opKeepsCard : Claim7 := { stood := { row := opKeepsRow, standIns := [], harness := (true, "a4e16072d0b8a80a6a9a8ec20c3dee9269dd19b262ba38d691ec3a0650b8ed94"), looks := false }, kinds := [], alts := [], laidByText := true, laidKinds := [.data], laidTests := true, laidLooks := .later }
def OpKeepsCardSaid : Prop := Claim7.holds Tryd.pinned (.plain (OpenSpec.ofChange opKeepsSpec)) opKeepsCard

/-- THE SECOND FORM's CARD OF 'flotsamlaw19.OpMore'. -/
def opMoreUptoCard : Claim7 := { stood := { row := opMoreUptoRow, standIns := [], harness := (true, "a4e16072d0b8a80a6a9a8ec20c3dee9269dd19b262ba38d691ec3a0650b8ed94"), looks := false }, kinds := [], alts := [], laidByText := true, laidKinds := [.data], laidTests := true, laidLooks := .later }
def OpMoreUptoCardSaid : Prop := Claim7.holds Tryd.pinned (.plain (OpenSpec.upto opMoreSpec)) opMoreUptoCard

/-- THE SECOND FORM's CARD OF 'flotsamlaw19.OpKeeps'. -/
def opKeepsUptoCard : Claim7 := { stood := { row := opKeepsUptoRow, standIns := [], harness := (true, "a4e16072d0b8a80a6a9a8ec20c3dee9269dd19b262ba38d691ec3a0650b8ed94"), looks := false }, kinds := [], alts := [], laidByText := true, laidKinds := [.data], laidTests := true, laidLooks := .later }
def OpKeepsUptoCardSaid : Prop := Claim7.holds Tryd.pinned (.plain (OpenSpec.upto opKeepsSpec)) opKeepsUptoCard
end Rows
end Go.Proofs.YtonjnedlnfdanaaDoor
