/-
  DERIVED. GIVEN WITH THE SEED: THE CARDS: each row of YtkjbefaaejlknaaDoorRows.lean that lists a variable, with what it lists TIED to the program's text (the seventh form; the later family's looks); each row that meets fmt, with fmt's text TOLD by the authors' own Lean function (tested against real Go, not proved from fmt's source: count such statements apart). THE CARD IS WHAT COUNTS. Prove the row's statement (the work); the ties are given (YtkjbefaaejlknaaDoorTie.lean); close each card by the builder's one call (the guide's Derived/Test/ToyasCard.lean, 'card_holds'). Laid BY PROGRAM, IN A SANDBOX (cutbox-door.mjs). By AI agents, Wed Nov 11 2026. No macro, syntax, notation, axiom, sorry.
-/
import Derived.Test.YtkjbefaaejlknaaDoorRows
import GoSem.ClaimSeven
namespace Go.Proofs.YtkjbefaaejlknaaDoor
namespace Rows

/-- THE TIED CARD OF 'flotsamlaw08.ObjectKeeps'. -/
def objectKeepsCard : Claim7 := { stood := { row := objectKeepsRow, standIns := [], harness := (true, "823ae93ce94718880ec8de15e427cf71d573217c2b1f3b552164061b4a176e2d"), looks := false }, kinds := [], alts := [], laidByText := true, laidKinds := [.data], laidTests := true, laidLooks := .later }
def ObjectKeepsCardSaid : Prop := Claim7.holds Tryd.pinned (.plain (OpenSpec.ofChange objectKeepsSpec)) objectKeepsCard

/-- THE TIED CARD OF 'flotsamlaw08.ObjectLists'. -/
def objectListsCard : Claim7 := { stood := { row := objectListsRow, standIns := [], harness := (true, "823ae93ce94718880ec8de15e427cf71d573217c2b1f3b552164061b4a176e2d"), looks := false }, kinds := [], alts := [], laidByText := true, laidKinds := [.data], laidTests := true, laidLooks := .later }
def ObjectListsCardSaid : Prop := Claim7.holds Tryd.pinned (.plain (OpenSpec.ofChange objectListsSpec)) objectListsCard

/-- THE SECOND FORM's CARD OF 'flotsamlaw08.ObjectKeeps'. -/
def objectKeepsUptoCard : Claim7 := { stood := { row := objectKeepsUptoRow, standIns := [], harness := (true, "823ae93ce94718880ec8de15e427cf71d573217c2b1f3b552164061b4a176e2d"), looks := false }, kinds := [], alts := [], laidByText := true, laidKinds := [.data], laidTests := true, laidLooks := .later }
def ObjectKeepsUptoCardSaid : Prop := Claim7.holds Tryd.pinned (.plain (OpenSpec.upto objectKeepsSpec)) objectKeepsUptoCard

/-- THE SECOND FORM's CARD OF 'flotsamlaw08.ObjectLists'. -/
def objectListsUptoCard : Claim7 := { stood := { row := objectListsUptoRow, standIns := [], harness := (true, "823ae93ce94718880ec8de15e427cf71d573217c2b1f3b552164061b4a176e2d"), looks := false }, kinds := [], alts := [], laidByText := true, laidKinds := [.data], laidTests := true, laidLooks := .later }
def ObjectListsUptoCardSaid : Prop := Claim7.holds Tryd.pinned (.plain (OpenSpec.upto objectListsSpec)) objectListsUptoCard
end Rows
end Go.Proofs.YtkjbefaaejlknaaDoor
