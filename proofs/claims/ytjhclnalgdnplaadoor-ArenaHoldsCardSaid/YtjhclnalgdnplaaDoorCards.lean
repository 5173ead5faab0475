/-
  DERIVED. GIVEN WITH THE SEED: THE CARDS: each row of YtjhclnalgdnplaaDoorRows.lean that lists a variable, with what it lists TIED to the program's text (the seventh form; the later family's looks); each row that meets fmt, with fmt's text TOLD by the authors' own Lean function (tested against real Go, not proved from fmt's source: count such statements apart). THE CARD IS WHAT COUNTS. Prove the row's statement (the work); the ties are given (YtjhclnalgdnplaaDoorTie.lean); close each card by the builder's one call (the guide's Derived/Test/ToyasCard.lean, 'card_holds'). Laid BY PROGRAM, IN A SANDBOX (cutbox-door.mjs). By AI agents, Wed Nov 11 2026. No macro, syntax, notation, axiom, sorry.
-/
import Derived.Test.YtjhclnalgdnplaaDoorRows
import GoSem.ClaimSeven
namespace Go.Proofs.YtjhclnalgdnplaaDoor
namespace Rows

/-- THE TIED CARD OF 'flotsamlaw05.ArenaNews'. -/
def arenaNewsCard : Claim7 := { stood := { row := arenaNewsRow, standIns := [], harness := (true, "b116c2bd7adc539d1c7f5f977b3b1b7f2f58d7a588b2d7501eed8c8848a22661"), looks := false }, kinds := [], alts := [], laidByText := true, laidKinds := [.data], laidTests := true, laidLooks := .later }
def ArenaNewsCardSaid : Prop := Claim7.holds Tryd.pinned (.plain (OpenSpec.ofChange arenaNewsSpec)) arenaNewsCard

/-- THE TIED CARD OF 'flotsamlaw05.ArenaStores'. -/
def arenaStoresCard : Claim7 := { stood := { row := arenaStoresRow, standIns := [], harness := (true, "b116c2bd7adc539d1c7f5f977b3b1b7f2f58d7a588b2d7501eed8c8848a22661"), looks := false }, kinds := [], alts := [], laidByText := true, laidKinds := [.data], laidTests := true, laidLooks := .later }
def ArenaStoresCardSaid : Prop := Claim7.holds Tryd.pinned (.plain (OpenSpec.ofChange arenaStoresSpec)) arenaStoresCard

/-- THE TIED CARD OF 'flotsamlaw05.ArenaPlaces'. -/
def arenaPlacesCard : Claim7 := { stood := { row := arenaPlacesRow, standIns := [], harness := (true, "b116c2bd7adc539d1c7f5f977b3b1b7f2f58d7a588b2d7501eed8c8848a22661"), looks := false }, kinds := [], alts := [], laidByText := true, laidKinds := [.data], laidTests := true, laidLooks := .later }
def ArenaPlacesCardSaid : Prop := Claim7.holds Tryd.pinned (.plain (OpenSpec.ofChange arenaPlacesSpec)) arenaPlacesCard

/-- THE TIED CARD OF 'flotsamlaw05.ArenaHolds'. -/
def arenaHoldsCard : Claim7 := { stood := { row := arenaHoldsRow, standIns := [], harness := (true, "b116c2bd7adc539d1c7f5f977b3b1b7f2f58d7a588b2d7501eed8c8848a22661"), looks := false }, kinds := [], alts := [], laidByText := true, laidKinds := [.data], laidTests := true, laidLooks := .later }
def ArenaHoldsCardSaid : Prop := Claim7.holds Tryd.pinned (.plain (OpenSpec.ofChange arenaHoldsSpec)) arenaHoldsCard

/-- THE TIED CARD OF 'flotsamlaw05.ArenaKeeps'. -/
def arenaKeepsCard : Claim7 := { stood := { row := arenaKeepsRow, standIns := [], harness := (true, "b116c2bd7adc539d1c7f5f977b3b1b7f2f58d7a588b2d7501eed8c8848a22661"), looks := false }, kinds := [], alts := [], laidByText := true, laidKinds := [.data], laidTests := true, laidLooks := .later }
def ArenaKeepsCardSaid : Prop := Claim7.holds Tryd.pinned (.plain (OpenSpec.ofChange arenaKeepsSpec)) arenaKeepsCard

/-- THE TIED CARD OF 'flotsamlaw05.ArenaTurned'. -/
def arenaTurnedCard : Claim7 := { stood := { row := arenaTurnedRow, standIns := [], harness := (true, "b116c2bd7adc539d1c7f5f977b3b1b7f2f58d7a588b2d7501eed8c8848a22661"), looks := false }, kinds := [], alts := [], laidByText := true, laidKinds := [.data], laidTests := true, laidLooks := .later }
def ArenaTurnedCardSaid : Prop := Claim7.holds Tryd.pinned (.plain (OpenSpec.ofChange arenaTurnedSpec)) arenaTurnedCard

/-- THE SECOND FORM's CARD OF 'flotsamlaw05.ArenaNews'. -/
def arenaNewsUptoCard : Claim7 := { stood := { row := arenaNewsUptoRow, standIns := [], harness := (true, "b116c2bd7adc539d1c7f5f977b3b1b7f2f58d7a588b2d7501eed8c8848a22661"), looks := false }, kinds := [], alts := [], laidByText := true, laidKinds := [.data], laidTests := true, laidLooks := .later }
def ArenaNewsUptoCardSaid : Prop := Claim7.holds Tryd.pinned (.plain (OpenSpec.upto arenaNewsSpec)) arenaNewsUptoCard

/-- THE SECOND FORM's CARD OF 'flotsamlaw05.ArenaStores'. -/
def arenaStoresUptoCard : Claim7 := { stood := { row := arenaStoresUptoRow, standIns := [], harness := (true, "b116c2bd7adc539d1c7f5f977b3b1b7f2f58d7a588b2d7501eed8c8848a22661"), looks := false }, kinds := [], alts := [], laidByText := true, laidKinds := [.data], laidTests := true, laidLooks := .later }
def ArenaStoresUptoCardSaid : Prop := Claim7.holds Tryd.pinned (.plain (OpenSpec.upto arenaStoresSpec)) arenaStoresUptoCard

/-- THE SECOND FORM's CARD OF 'flotsamlaw05.ArenaPlaces'. -/
def arenaPlacesUptoCard : Claim7 := { stood := { row := arenaPlacesUptoRow, standIns := [], harness := (true, "b116c2bd7adc539d1c7f5f977b3b1b7f2f58d7a588b2d7501eed8c8848a22661"), looks := false }, kinds := [], alts := [], laidByText := true, laidKinds := [.data], laidTests := true, laidLooks := .later }
def ArenaPlacesUptoCardSaid : Prop := Claim7.holds Tryd.pinned (.plain (OpenSpec.upto arenaPlacesSpec)) arenaPlacesUptoCard

/-- THE SECOND FORM's CARD OF 'flotsamlaw05.ArenaHolds'. -/
def arenaHoldsUptoCard : Claim7 := { stood := { row := arenaHoldsUptoRow, standIns := [], harness := (true, "b116c2bd7adc539d1c7f5f977b3b1b7f2f58d7a588b2d7501eed8c8848a22661"), looks := false }, kinds := [], alts := [], laidByText := true, laidKinds := [.data], laidTests := true, laidLooks := .later }
def ArenaHoldsUptoCardSaid : Prop := Claim7.holds Tryd.pinned (.plain (OpenSpec.upto arenaHoldsSpec)) arenaHoldsUptoCard

/-- THE SECOND FORM's CARD OF 'flotsamlaw05.ArenaKeeps'. -/
def arenaKeepsUptoCard : Claim7 := { stood := { row := arenaKeepsUptoRow, standIns := [], harness := (true, "b116c2bd7adc539d1c7f5f977b3b1b7f2f58d7a588b2d7501eed8c8848a22661"), looks := false }, kinds := [], alts := [], laidByText := true, laidKinds := [.data], laidTests := true, laidLooks := .later }
def ArenaKeepsUptoCardSaid : Prop := Claim7.holds Tryd.pinned (.plain (OpenSpec.upto arenaKeepsSpec)) arenaKeepsUptoCard

/-- THE SECOND FORM's CARD OF 'flotsamlaw05.ArenaTurned'. -/
def arenaTurnedUptoCard : Claim7 := { stood := { row := arenaTurnedUptoRow, standIns := [], harness := (true, "b116c2bd7adc539d1c7f5f977b3b1b7f2f58d7a588b2d7501eed8c8848a22661"), looks := false }, kinds := [], alts := [], laidByText := true, laidKinds := [.data], laidTests := true, laidLooks := .later }
def ArenaTurnedUptoCardSaid : Prop := Claim7.holds Tryd.pinned (.plain (OpenSpec.upto arenaTurnedSpec)) arenaTurnedUptoCard
end Rows
end Go.Proofs.YtjhclnalgdnplaaDoor
