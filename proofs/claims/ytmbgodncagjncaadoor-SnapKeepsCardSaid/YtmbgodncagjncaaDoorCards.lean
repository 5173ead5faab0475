/-
  DERIVED. GIVEN WITH THE SEED: THE CARDS: each row of YtmbgodncagjncaaDoorRows.lean that lists a variable, with what it lists TIED to the program's text (the seventh form; the later family's looks); each row that meets fmt, with fmt's text TOLD by the authors' own Lean function (tested against real Go, not proved from fmt's source: count such statements apart). THE CARD IS WHAT COUNTS. Prove the row's statement (the work); the ties are given (YtmbgodncagjncaaDoorTie.lean); close each card by the builder's one call (the guide's Derived/Test/ToyasCard.lean, 'card_holds'). Laid BY PROGRAM, IN A SANDBOX (cutbox-door.mjs). By AI agents, Wed Nov 11 2026. No macro, syntax, notation, axiom, sorry.
-/
import Derived.Test.YtmbgodncagjncaaDoorRows
import GoSem.ClaimSeven
namespace Go.Proofs.YtmbgodncagjncaaDoor
namespace Rows

/-- THE TIED CARD OF 'flotsamlaw18.SnapBegins'. -/
def snapBeginsCard : Claim7 := { stood := { row := snapBeginsRow, standIns := [], harness := (true, "1fc3ee0dc7588e3d27a7d5a24eafd86ac73523e010a7788d053712e9af2933f6"), looks := false }, kinds := [], alts := [], laidByText := true, laidKinds := [.data], laidTests := true, laidLooks := .later }
def SnapBeginsCardSaid : Prop := Claim7.holds Tryd.pinned (.plain (OpenSpec.ofChange snapBeginsSpec)) snapBeginsCard

/-- THE TIED CARD OF 'flotsamlaw18.SnapHolds'. -/
def snapHoldsCard : Claim7 := { stood := { row := snapHoldsRow, standIns := [], harness := (true, "1fc3ee0dc7588e3d27a7d5a24eafd86ac73523e010a7788d053712e9af2933f6"), looks := false }, kinds := [], alts := [], laidByText := true, laidKinds := [.data], laidTests := true, laidLooks := .later }
def SnapHoldsCardSaid : Prop := Claim7.holds Tryd.pinned (.plain (OpenSpec.ofChange snapHoldsSpec)) snapHoldsCard

/-- THE TIED CARD OF 'flotsamlaw18.SnapKeeps'. -/
def snapKeepsCard : Claim7 := { stood := { row := snapKeepsRow, standIns := [], harness := (true, "1fc3ee0dc7588e3d27a7d5a24eafd86ac73523e010a7788d053712e9af2933f6"), looks := false }, kinds := [], alts := [], laidByText := true, laidKinds := [.data], laidTests := true, laidLooks := .later }
def SnapKeepsCardSaid : Prop := Claim7.holds Tryd.pinned (.plain (OpenSpec.ofChange snapKeepsSpec)) snapKeepsCard

/-- THE TIED CARD OF 'flotsamlaw18.SnapTwice'. -/
def snapTwiceCard : Claim7 := { stood := { row := snapTwiceRow, standIns := [], harness := (true, "1fc3ee0dc7588e3d27a7d5a24eafd86ac73523e010a7788d053712e9af2933f6"), looks := false }, kinds := [], alts := [], laidByText := true, laidKinds := [.data], laidTests := true, laidLooks := .later }
def SnapTwiceCardSaid : Prop := Claim7.holds Tryd.pinned (.plain (OpenSpec.ofChange snapTwiceSpec)) snapTwiceCard

/-- THE SECOND FORM's CARD OF 'flotsamlaw18.SnapBegins'. -/
def snapBeginsUptoCard : Claim7 := { stood := { row := snapBeginsUptoRow, standIns := [], harness := (true, "1fc3ee0dc7588e3d27a7d5a24eafd86ac73523e010a7788d053712e9af2933f6"), looks := false }, kinds := [], alts := [], laidByText := true, laidKinds := [.data], laidTests := true, laidLooks := .later }
def SnapBeginsUptoCardSaid : Prop := Claim7.holds Tryd.pinned (.plain (OpenSpec.upto snapBeginsSpec)) snapBeginsUptoCard

/-- THE SECOND FORM's CARD OF 'flotsamlaw18.SnapHolds'. -/
def snapHoldsUptoCard : Claim7 := { stood := { row := snapHoldsUptoRow, standIns := [], harness := (true, "1fc3ee0dc7588e3d27a7d5a24eafd86ac73523e010a7788d053712e9af2933f6"), looks := false }, kinds := [], alts := [], laidByText := true, laidKinds := [.data], laidTests := true, laidLooks := .later }
def SnapHoldsUptoCardSaid : Prop := Claim7.holds Tryd.pinned (.plain (OpenSpec.upto snapHoldsSpec)) snapHoldsUptoCard

/-- THE SECOND FORM's CARD OF 'flotsamlaw18.SnapKeeps'. -/
def snapKeepsUptoCard : Claim7 := { stood := { row := snapKeepsUptoRow, standIns := [], harness := (true, "1fc3ee0dc7588e3d27a7d5a24eafd86ac73523e010a7788d053712e9af2933f6"), looks := false }, kinds := [], alts := [], laidByText := true, laidKinds := [.data], laidTests := true, laidLooks := .later }
def SnapKeepsUptoCardSaid : Prop := Claim7.holds Tryd.pinned (.plain (OpenSpec.upto snapKeepsSpec)) snapKeepsUptoCard

/-- THE SECOND FORM's CARD OF 'flotsamlaw18.SnapTwice'. -/
def snapTwiceUptoCard : Claim7 := { stood := { row := snapTwiceUptoRow, standIns := [], harness := (true, "1fc3ee0dc7588e3d27a7d5a24eafd86ac73523e010a7788d053712e9af2933f6"), looks := false }, kinds := [], alts := [], laidByText := true, laidKinds := [.data], laidTests := true, laidLooks := .later }
def SnapTwiceUptoCardSaid : Prop := Claim7.holds Tryd.pinned (.plain (OpenSpec.upto snapTwiceSpec)) snapTwiceUptoCard
end Rows
end Go.Proofs.YtmbgodncagjncaaDoor
