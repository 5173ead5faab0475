/-
  DERIVED. GIVEN WITH THE SEED: THE CARDS: each row of YthhehhlibkdmgaaDoorRows.lean that lists a variable, with what it lists TIED to the program's text (the seventh form; the later family's looks); each row that meets fmt, with fmt's text TOLD by the authors' own Lean function (tested against real Go, not proved from fmt's source: count such statements apart). THE CARD IS WHAT COUNTS. Prove the row's statement (the work); the ties are given (YthhehhlibkdmgaaDoorTie.lean); close each card by the builder's one call (the guide's Derived/Test/ToyasCard.lean, 'card_holds'). Laid BY PROGRAM, IN A SANDBOX (cutbox-door.mjs). By AI agents, Wed Nov 11 2026. No macro, syntax, notation, axiom, sorry.
-/
import Derived.Test.YthhehhlibkdmgaaDoorRows
import GoSem.ClaimSeven
namespace Go.Proofs.YthhehhlibkdmgaaDoor
namespace Rows

/-- THE TIED CARD OF 'flotsamlaw09.SoundChecks'. -/
def soundChecksCard : Claim7 := { stood := { row := soundChecksRow, standIns := [], harness := (true, "0319e39815f5d4fc24417ff8cd6ea6b0fe21decf05268195319bf92839ff0bc8"), looks := false }, kinds := [], alts := [], laidByText := true, laidKinds := [.data], laidTests := true, laidLooks := .later }
def SoundChecksCardSaid : Prop := Claim7.holds Tryd.pinned (.plain (OpenSpec.ofChange soundChecksSpec)) soundChecksCard

/-- THE TIED CARD OF 'flotsamlaw09.SoundApart'. -/
def soundApartCard : Claim7 := { stood := { row := soundApartRow, standIns := [], harness := (true, "0319e39815f5d4fc24417ff8cd6ea6b0fe21decf05268195319bf92839ff0bc8"), looks := false }, kinds := [], alts := [], laidByText := true, laidKinds := [.data], laidTests := true, laidLooks := .later }
def SoundApartCardSaid : Prop := Claim7.holds Tryd.pinned (.plain (OpenSpec.ofChange soundApartSpec)) soundApartCard

/-- THE TIED CARD OF 'flotsamlaw09.SoundSpoilt'. -/
def soundSpoiltCard : Claim7 := { stood := { row := soundSpoiltRow, standIns := [], harness := (true, "0319e39815f5d4fc24417ff8cd6ea6b0fe21decf05268195319bf92839ff0bc8"), looks := false }, kinds := [], alts := [], laidByText := true, laidKinds := [.data], laidTests := true, laidLooks := .later }
def SoundSpoiltCardSaid : Prop := Claim7.holds Tryd.pinned (.plain (OpenSpec.ofChange soundSpoiltSpec)) soundSpoiltCard

/-- THE TIED CARD OF 'flotsamlaw09.SoundStays'. -/
def soundStaysCard : Claim7 := { stood := { row := soundStaysRow, standIns := [], harness := (true, "0319e39815f5d4fc24417ff8cd6ea6b0fe21decf05268195319bf92839ff0bc8"), looks := false }, kinds := [], alts := [], laidByText := true, laidKinds := [.data], laidTests := true, laidLooks := .later }
def SoundStaysCardSaid : Prop := Claim7.holds Tryd.pinned (.plain (OpenSpec.ofChange soundStaysSpec)) soundStaysCard

/-- THE SECOND FORM's CARD OF 'flotsamlaw09.SoundChecks'. -/
def soundChecksUptoCard : Claim7 := { stood := { row := soundChecksUptoRow, standIns := [], harness := (true, "0319e39815f5d4fc24417ff8cd6ea6b0fe21decf05268195319bf92839ff0bc8"), looks := false }, kinds := [], alts := [], laidByText := true, laidKinds := [.data], laidTests := true, laidLooks := .later }
def SoundChecksUptoCardSaid : Prop := Claim7.holds Tryd.pinned (.plain (OpenSpec.upto soundChecksSpec)) soundChecksUptoCard

/-- THE SECOND FORM's CARD OF 'flotsamlaw09.SoundApart'. -/
def soundApartUptoCard : Claim7 := { stood := { row := soundApartUptoRow, standIns := [], harness := (true, "0319e39815f5d4fc24417ff8cd6ea6b0fe21decf05268195319bf92839ff0bc8"), looks := false }, kinds := [], alts := [], laidByText := true, laidKinds := [.data], laidTests := true, laidLooks := .later }
def SoundApartUptoCardSaid : Prop := Claim7.holds Tryd.pinned (.plain (OpenSpec.upto soundApartSpec)) soundApartUptoCard

/-- THE SECOND FORM's CARD OF 'flotsamlaw09.SoundSpoilt'. -/
def soundSpoiltUptoCard : Claim7 := { stood := { row := soundSpoiltUptoRow, standIns := [], harness := (true, "0319e39815f5d4fc24417ff8cd6ea6b0fe21decf05268195319bf92839ff0bc8"), looks := false }, kinds := [], alts := [], laidByText := true, laidKinds := [.data], laidTests := true, laidLooks := .later }
def SoundSpoiltUptoCardSaid : Prop := Claim7.holds Tryd.pinned (.plain (OpenSpec.upto soundSpoiltSpec)) soundSpoiltUptoCard

/-- THE SECOND FORM's CARD OF 'flotsamlaw09.SoundStays'. -/
def soundStaysUptoCard : Claim7 := { stood := { row := soundStaysUptoRow, standIns := [], harness := (true, "0319e39815f5d4fc24417ff8cd6ea6b0fe21decf05268195319bf92839ff0bc8"), looks := false }, kinds := [], alts := [], laidByText := true, laidKinds := [.data], laidTests := true, laidLooks := .later }
def SoundStaysUptoCardSaid : Prop := Claim7.holds Tryd.pinned (.plain (OpenSpec.upto soundStaysSpec)) soundStaysUptoCard
end Rows
end Go.Proofs.YthhehhlibkdmgaaDoor
