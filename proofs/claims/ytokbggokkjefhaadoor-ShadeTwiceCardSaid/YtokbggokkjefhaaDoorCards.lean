/-
  DERIVED. GIVEN WITH THE SEED: THE CARDS: each row of YtokbggokkjefhaaDoorRows.lean that lists a variable, with what it lists TIED to the program's text (the seventh form; the later family's looks); each row that meets fmt, with fmt's text TOLD by the authors' own Lean function (tested against real Go, not proved from fmt's source: count such statements apart). THE CARD IS WHAT COUNTS. Prove the row's statement (the work); the ties are given (YtokbggokkjefhaaDoorTie.lean); close each card by the builder's one call (the guide's Derived/Test/ToyasCard.lean, 'card_holds'). Laid BY PROGRAM, IN A SANDBOX (cutbox-door.mjs). By AI agents, Wed Nov 11 2026. No macro, syntax, notation, axiom, sorry.
-/
import Derived.Test.YtokbggokkjefhaaDoorRows
import GoSem.ClaimSeven
namespace Go.Proofs.YtokbggokkjefhaaDoor
namespace Rows

/-- THE TIED CARD OF 'flotsamlaw16.ShadeBlack'. -/
def shadeBlackCard : Claim7 := { stood := { row := shadeBlackRow, standIns := [], harness := (true, "6ef351fabaceb77f7170fd89529baea29d54cde26c4cce2a2406eb6ef4667159"), looks := false }, kinds := [], alts := [], laidByText := true, laidKinds := [.data], laidTests := true, laidLooks := .later }
def ShadeBlackCardSaid : Prop := Claim7.holds Tryd.pinned (.plain (OpenSpec.ofChange shadeBlackSpec)) shadeBlackCard

/-- THE TIED CARD OF 'flotsamlaw16.ShadeKeeps'. -/
def shadeKeepsCard : Claim7 := { stood := { row := shadeKeepsRow, standIns := [], harness := (true, "6ef351fabaceb77f7170fd89529baea29d54cde26c4cce2a2406eb6ef4667159"), looks := false }, kinds := [], alts := [], laidByText := true, laidKinds := [.data], laidTests := true, laidLooks := .later }
def ShadeKeepsCardSaid : Prop := Claim7.holds Tryd.pinned (.plain (OpenSpec.ofChange shadeKeepsSpec)) shadeKeepsCard

/-- THE TIED CARD OF 'flotsamlaw16.ShadeTwice'. -/
def shadeTwiceCard : Claim7 := { stood := { row := shadeTwiceRow, standIns := [], harness := (true, "6ef351fabaceb77f7170fd89529baea29d54cde26c4cce2a2406eb6ef4667159"), looks := false }, kinds := [], alts := [], laidByText := true, laidKinds := [.data], laidTests := true, laidLooks := .later }
def ShadeTwiceCardSaid : Prop := Claim7.holds Tryd.pinned (.plain (OpenSpec.ofChange shadeTwiceSpec)) shadeTwiceCard

/-- THE SECOND FORM's CARD OF 'flotsamlaw16.ShadeBlack'. -/
def shadeBlackUptoCard : Claim7 := { stood := { row := shadeBlackUptoRow, standIns := [], harness := (true, "6ef351fabaceb77f7170fd89529baea29d54cde26c4cce2a2406eb6ef4667159"), looks := false }, kinds := [], alts := [], laidByText := true, laidKinds := [.data], laidTests := true, laidLooks := .later }
def ShadeBlackUptoCardSaid : Prop := Claim7.holds Tryd.pinned (.plain (OpenSpec.upto shadeBlackSpec)) shadeBlackUptoCard

/-- THE SECOND FORM's CARD OF 'flotsamlaw16.ShadeKeeps'. -/
def shadeKeepsUptoCard : Claim7 := { stood := { row := shadeKeepsUptoRow, standIns := [], harness := (true, "6ef351fabaceb77f7170fd89529baea29d54cde26c4cce2a2406eb6ef4667159"), looks := false }, kinds := [], alts := [], laidByText := true, laidKinds := [.data], laidTests := true, laidLooks := .later }
def ShadeKeepsUptoCardSaid : Prop := Claim7.holds Tryd.pinned (.plain (OpenSpec.upto shadeKeepsSpec)) shadeKeepsUptoCard

/-- THE SECOND FORM's CARD OF 'flotsamlaw16.ShadeTwice'. -/
def shadeTwiceUptoCard : Claim7 := { stood := { row := shadeTwiceUptoRow, standIns := [], harness := (true, "6ef351fabaceb77f7170fd89529baea29d54cde26c4cce2a2406eb6ef4667159"), looks := false }, kinds := [], alts := [], laidByText := true, laidKinds := [.data], laidTests := true, laidLooks := .later }
def ShadeTwiceUptoCardSaid : Prop := Claim7.holds Tryd.pinned (.plain (OpenSpec.upto shadeTwiceSpec)) shadeTwiceUptoCard
end Rows
end Go.Proofs.YtokbggokkjefhaaDoor
