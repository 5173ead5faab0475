/-
  DERIVED. GIVEN WITH THE SEED: THE CARDS: each row of YtjlflbaglaillaaDoorRows.lean that lists a variable, with what it lists TIED to the program's text (the seventh form; the later family's looks); each row that meets fmt, with fmt's text TOLD by the authors' own Lean function (tested against real Go, not proved from fmt's source: count such statements apart). THE CARD IS WHAT COUNTS. Prove the row's statement (the work); the ties are given (YtjlflbaglaillaaDoorTie.lean); close each card by the builder's one call (the guide's Derived/Test/ToyasCard.lean, 'card_holds'). Laid BY PROGRAM, IN A SANDBOX (cutbox-door.mjs). By AI agents, Wed Nov 11 2026. No macro, syntax, notation, axiom, sorry.
-/
import Derived.Test.YtjlflbaglaillaaDoorRows
import GoSem.ClaimSeven
namespace Go.Proofs.YtjlflbaglaillaaDoor
namespace Rows

/-- THE TIED CARD OF 'flotsamlaw07.HeapForms'. -/
def heapFormsCard : Claim7 := { stood := { row := heapFormsRow, standIns := [], harness := (true, "4319912ea4b27ca89517975b0d81ad0153941401844a695d32a61ba51c2bf89d"), looks := false }, kinds := [], alts := [], laidByText := true, laidKinds := [.data, .data], laidTests := true, laidLooks := .later }
def HeapFormsCardSaid : Prop := Claim7.holds Tryd.pinned (.plain (OpenSpec.ofChange heapFormsSpec)) heapFormsCard

/-- THE TIED CARD OF 'flotsamlaw07.HeapDoes'. -/
def heapDoesCard : Claim7 := { stood := { row := heapDoesRow, standIns := [], harness := (true, "4319912ea4b27ca89517975b0d81ad0153941401844a695d32a61ba51c2bf89d"), looks := false }, kinds := [], alts := [], laidByText := true, laidKinds := [.data, .data], laidTests := true, laidLooks := .later }
def HeapDoesCardSaid : Prop := Claim7.holds Tryd.pinned (.plain (OpenSpec.ofChange heapDoesSpec)) heapDoesCard

/-- THE TIED CARD OF 'flotsamlaw07.HeapApart'. -/
def heapApartCard : Claim7 := { stood := { row := heapApartRow, standIns := [], harness := (true, "4319912ea4b27ca89517975b0d81ad0153941401844a695d32a61ba51c2bf89d"), looks := false }, kinds := [], alts := [], laidByText := true, laidKinds := [.data, .data], laidTests := true, laidLooks := .later }
def HeapApartCardSaid : Prop := Claim7.holds Tryd.pinned (.plain (OpenSpec.ofChange heapApartSpec)) heapApartCard

/-- THE TIED CARD OF 'flotsamlaw07.HeapKeeps'. -/
def heapKeepsCard : Claim7 := { stood := { row := heapKeepsRow, standIns := [], harness := (true, "4319912ea4b27ca89517975b0d81ad0153941401844a695d32a61ba51c2bf89d"), looks := false }, kinds := [], alts := [], laidByText := true, laidKinds := [.data, .data], laidTests := true, laidLooks := .later }
def HeapKeepsCardSaid : Prop := Claim7.holds Tryd.pinned (.plain (OpenSpec.ofChange heapKeepsSpec)) heapKeepsCard

/-- THE TIED CARD OF 'flotsamlaw07.HeapBack'. -/
def heapBackCard : Claim7 := { stood := { row := heapBackRow, standIns := [], harness := (true, "4319912ea4b27ca89517975b0d81ad0153941401844a695d32a61ba51c2bf89d"), looks := false }, kinds := [], alts := [], laidByText := true, laidKinds := [.data, .data], laidTests := true, laidLooks := .later }
def HeapBackCardSaid : Prop := Claim7.holds Tryd.pinned (.plain (OpenSpec.ofChange heapBackSpec)) heapBackCard

/-- THE TIED CARD OF 'flotsamlaw07.HeapColour'. -/
def heapColourCard : Claim7 := { stood := { row := heapColourRow, standIns := [], harness := (true, "4319912ea4b27ca89517975b0d81ad0153941401844a695d32a61ba51c2bf89d"), looks := false }, kinds := [], alts := [], laidByText := true, laidKinds := [.data, .data], laidTests := true, laidLooks := .later }
def HeapColourCardSaid : Prop := Claim7.holds Tryd.pinned (.plain (OpenSpec.ofChange heapColourSpec)) heapColourCard

/-- THE SECOND FORM's CARD OF 'flotsamlaw07.HeapForms'. -/
def heapFormsUptoCard : Claim7 := { stood := { row := heapFormsUptoRow, standIns := [], harness := (true, "4319912ea4b27ca89517975b0d81ad0153941401844a695d32a61ba51c2bf89d"), looks := false }, kinds := [], alts := [], laidByText := true, laidKinds := [.data, .data], laidTests := true, laidLooks := .later }
def HeapFormsUptoCardSaid : Prop := Claim7.holds Tryd.pinned (.plain (OpenSpec.upto heapFormsSpec)) heapFormsUptoCard

/-- THE SECOND FORM's CARD OF 'flotsamlaw07.HeapDoes'. -/
def heapDoesUptoCard : Claim7 := { stood := { row := heapDoesUptoRow, standIns := [], harness := (true, "4319912ea4b27ca89517975b0d81ad0153941401844a695d32a61ba51c2bf89d"), looks := false }, kinds := [], alts := [], laidByText := true, laidKinds := [.data, .data], laidTests := true, laidLooks := .later }
def HeapDoesUptoCardSaid : Prop := Claim7.holds Tryd.pinned (.plain (OpenSpec.upto heapDoesSpec)) heapDoesUptoCard

/-- THE SECOND FORM's CARD OF 'flotsamlaw07.HeapApart'. -/
def heapApartUptoCard : Claim7 := { stood := { row := heapApartUptoRow, standIns := [], harness := (true, "4319912ea4b27ca89517975b0d81ad0153941401844a695d32a61ba51c2bf89d"), looks := false }, kinds := [], alts := [], laidByText := true, laidKinds := [.data, .data], laidTests := true, laidLooks := .later }
def HeapApartUptoCardSaid : Prop := Claim7.holds Tryd.pinned (.plain (OpenSpec.upto heapApartSpec)) heapApartUptoCard

/-- THE SECOND FORM's CARD OF 'flotsamlaw07.HeapKeeps'. -/
def heapKeepsUptoCard : Claim7 := { stood := { row := heapKeepsUptoRow, standIns := [], harness := (true, "4319912ea4b27ca89517975b0d81ad0153941401844a695d32a61ba51c2bf89d"), looks := false }, kinds := [], alts := [], laidByText := true, laidKinds := [.data, .data], laidTests := true, laidLooks := .later }
def HeapKeepsUptoCardSaid : Prop := Claim7.holds Tryd.pinned (.plain (OpenSpec.upto heapKeepsSpec)) heapKeepsUptoCard

/-- THE SECOND FORM's CARD OF 'flotsamlaw07.HeapBack'. -/
def heapBackUptoCard : Claim7 := { stood := { row := heapBackUptoRow, standIns := [], harness := (true, "4319912ea4b27ca89517975b0d81ad0153941401844a695d32a61ba51c2bf89d"), looks := false }, kinds := [], alts := [], laidByText := true, laidKinds := [.data, .data], laidTests := true, laidLooks := .later }
def HeapBackUptoCardSaid : Prop := Claim7.holds Tryd.pinned (.plain (OpenSpec.upto heapBackSpec)) heapBackUptoCard

/-- THE SECOND FORM's CARD OF 'flotsamlaw07.HeapColour'. -/
def heapColourUptoCard : Claim7 := { stood := { row := heapColourUptoRow, standIns := [], harness := (true, "4319912ea4b27ca89517975b0d81ad0153941401844a695d32a61ba51c2bf89d"), looks := false }, kinds := [], alts := [], laidByText := true, laidKinds := [.data, .data], laidTests := true, laidLooks := .later }
def HeapColourUptoCardSaid : Prop := Claim7.holds Tryd.pinned (.plain (OpenSpec.upto heapColourSpec)) heapColourUptoCard
end Rows
end Go.Proofs.YtjlflbaglaillaaDoor
