/-
  DERIVED. GIVEN WITH THE SEED: THE CARDS: each row of YtgfocbldhhmehaaDoorRows.lean that lists a variable, with what it lists TIED to the program's text (the seventh form; the later family's looks); each row that meets fmt, with fmt's text TOLD by the authors' own Lean function (tested against real Go, not proved from fmt's source: count such statements apart). THE CARD IS WHAT COUNTS. Prove the row's statement (the work); the ties are given (YtgfocbldhhmehaaDoorTie.lean); close each card by the builder's one call (the guide's Derived/Test/ToyasCard.lean, 'card_holds'). Laid BY PROGRAM, IN A SANDBOX (cutbox-door.mjs). By AI agents, Wed Nov 11 2026. No macro, syntax, notation, axiom, sorry.
-/
import Derived.Test.YtgfocbldhhmehaaDoorRows
import GoSem.ClaimSeven
namespace Go.Proofs.YtgfocbldhhmehaaDoor
namespace Rows

/-- THE TIED CARD OF 'flotsamlaw06.SpanRights'. -/
def spanRightsCard : Claim7 := { stood := { row := spanRightsRow, standIns := [], harness := (true, "f801c81b679f1303e47c25da064898653829fc9df9a9951c81c10b4a3a0db282"), looks := false }, kinds := [], alts := [], laidByText := true, laidKinds := [.data, .data], laidTests := true, laidLooks := .later }
def SpanRightsCardSaid : Prop := Claim7.holds Tryd.pinned (.plain (OpenSpec.ofChange spanRightsSpec)) spanRightsCard

/-- THE TIED CARD OF 'flotsamlaw06.SpanAsks'. -/
def spanAsksCard : Claim7 := { stood := { row := spanAsksRow, standIns := [], harness := (true, "f801c81b679f1303e47c25da064898653829fc9df9a9951c81c10b4a3a0db282"), looks := false }, kinds := [], alts := [], laidByText := true, laidKinds := [.data, .data], laidTests := true, laidLooks := .later }
def SpanAsksCardSaid : Prop := Claim7.holds Tryd.pinned (.plain (OpenSpec.ofChange spanAsksSpec)) spanAsksCard

/-- THE TIED CARD OF 'flotsamlaw06.SpanTakes'. -/
def spanTakesCard : Claim7 := { stood := { row := spanTakesRow, standIns := [], harness := (true, "f801c81b679f1303e47c25da064898653829fc9df9a9951c81c10b4a3a0db282"), looks := false }, kinds := [], alts := [], laidByText := true, laidKinds := [.data, .data], laidTests := true, laidLooks := .later }
def SpanTakesCardSaid : Prop := Claim7.holds Tryd.pinned (.plain (OpenSpec.ofChange spanTakesSpec)) spanTakesCard

/-- THE TIED CARD OF 'flotsamlaw06.SpanBack'. -/
def spanBackCard : Claim7 := { stood := { row := spanBackRow, standIns := [], harness := (true, "f801c81b679f1303e47c25da064898653829fc9df9a9951c81c10b4a3a0db282"), looks := false }, kinds := [], alts := [], laidByText := true, laidKinds := [.data, .data], laidTests := true, laidLooks := .later }
def SpanBackCardSaid : Prop := Claim7.holds Tryd.pinned (.plain (OpenSpec.ofChange spanBackSpec)) spanBackCard

/-- THE SECOND FORM's CARD OF 'flotsamlaw06.SpanRights'. -/
def spanRightsUptoCard : Claim7 := { stood := { row := spanRightsUptoRow, standIns := [], harness := (true, "f801c81b679f1303e47c25da064898653829fc9df9a9951c81c10b4a3a0db282"), looks := false }, kinds := [], alts := [], laidByText := true, laidKinds := [.data, .data], laidTests := true, laidLooks := .later }
def SpanRightsUptoCardSaid : Prop := Claim7.holds Tryd.pinned (.plain (OpenSpec.upto spanRightsSpec)) spanRightsUptoCard

/-- THE SECOND FORM's CARD OF 'flotsamlaw06.SpanAsks'. -/
def spanAsksUptoCard : Claim7 := { stood := { row := spanAsksUptoRow, standIns := [], harness := (true, "f801c81b679f1303e47c25da064898653829fc9df9a9951c81c10b4a3a0db282"), looks := false }, kinds := [], alts := [], laidByText := true, laidKinds := [.data, .data], laidTests := true, laidLooks := .later }
def SpanAsksUptoCardSaid : Prop := Claim7.holds Tryd.pinned (.plain (OpenSpec.upto spanAsksSpec)) spanAsksUptoCard

/-- THE SECOND FORM's CARD OF 'flotsamlaw06.SpanTakes'. -/
def spanTakesUptoCard : Claim7 := { stood := { row := spanTakesUptoRow, standIns := [], harness := (true, "f801c81b679f1303e47c25da064898653829fc9df9a9951c81c10b4a3a0db282"), looks := false }, kinds := [], alts := [], laidByText := true, laidKinds := [.data, .data], laidTests := true, laidLooks := .later }
def SpanTakesUptoCardSaid : Prop := Claim7.holds Tryd.pinned (.plain (OpenSpec.upto spanTakesSpec)) spanTakesUptoCard

/-- THE SECOND FORM's CARD OF 'flotsamlaw06.SpanBack'. -/
def spanBackUptoCard : Claim7 := { stood := { row := spanBackUptoRow, standIns := [], harness := (true, "f801c81b679f1303e47c25da064898653829fc9df9a9951c81c10b4a3a0db282"), looks := false }, kinds := [], alts := [], laidByText := true, laidKinds := [.data, .data], laidTests := true, laidLooks := .later }
def SpanBackUptoCardSaid : Prop := Claim7.holds Tryd.pinned (.plain (OpenSpec.upto spanBackSpec)) spanBackUptoCard
end Rows
end Go.Proofs.YtgfocbldhhmehaaDoor
