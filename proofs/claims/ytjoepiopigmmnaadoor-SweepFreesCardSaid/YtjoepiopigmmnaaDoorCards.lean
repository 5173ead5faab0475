/-
  DERIVED. GIVEN WITH THE SEED: THE CARDS: each row of YtjoepiopigmmnaaDoorRows.lean that lists a variable, with what it lists TIED to the program's text (the seventh form; the later family's looks); each row that meets fmt, with fmt's text TOLD by the authors' own Lean function (tested against real Go, not proved from fmt's source: count such statements apart). THE CARD IS WHAT COUNTS. Prove the row's statement (the work); the ties are given (YtjoepiopigmmnaaDoorTie.lean); close each card by the builder's one call (the guide's Derived/Test/ToyasCard.lean, 'card_holds'). Laid BY PROGRAM, IN A SANDBOX (cutbox-door.mjs). By AI agents, Wed Nov 11 2026. No macro, syntax, notation, axiom, sorry.
-/
import Derived.Test.YtjoepiopigmmnaaDoorRows
import GoSem.ClaimSeven
namespace Go.Proofs.YtjoepiopigmmnaaDoor
namespace Rows

/-- THE TIED CARD OF 'flotsamlaw12.SweepFrees'. -/
def sweepFreesCard : Claim7 := { stood := { row := sweepFreesRow, standIns := [], harness := (true, "b8fd3047d9a688a107e8e65d17c87f1d92279598948f27d970289a927db46c99"), looks := false }, kinds := [], alts := [], laidByText := true, laidKinds := [.data], laidTests := true, laidLooks := .later }
def SweepFreesCardSaid : Prop := Claim7.holds Tryd.pinned (.plain (OpenSpec.ofChange sweepFreesSpec)) sweepFreesCard

/-- THE TIED CARD OF 'flotsamlaw12.SweepSteps'. -/
def sweepStepsCard : Claim7 := { stood := { row := sweepStepsRow, standIns := [], harness := (true, "b8fd3047d9a688a107e8e65d17c87f1d92279598948f27d970289a927db46c99"), looks := false }, kinds := [], alts := [], laidByText := true, laidKinds := [.data], laidTests := true, laidLooks := .later }
def SweepStepsCardSaid : Prop := Claim7.holds Tryd.pinned (.plain (OpenSpec.ofChange sweepStepsSpec)) sweepStepsCard

/-- THE TIED CARD OF 'flotsamlaw12.SweepOnce'. -/
def sweepOnceCard : Claim7 := { stood := { row := sweepOnceRow, standIns := [], harness := (true, "b8fd3047d9a688a107e8e65d17c87f1d92279598948f27d970289a927db46c99"), looks := false }, kinds := [], alts := [], laidByText := true, laidKinds := [.data], laidTests := true, laidLooks := .later }
def SweepOnceCardSaid : Prop := Claim7.holds Tryd.pinned (.plain (OpenSpec.ofChange sweepOnceSpec)) sweepOnceCard

/-- THE TIED CARD OF 'flotsamlaw12.SweepPages'. -/
def sweepPagesCard : Claim7 := { stood := { row := sweepPagesRow, standIns := [], harness := (true, "b8fd3047d9a688a107e8e65d17c87f1d92279598948f27d970289a927db46c99"), looks := false }, kinds := [], alts := [], laidByText := true, laidKinds := [.data], laidTests := true, laidLooks := .later }
def SweepPagesCardSaid : Prop := Claim7.holds Tryd.pinned (.plain (OpenSpec.ofChange sweepPagesSpec)) sweepPagesCard

/-- THE SECOND FORM's CARD OF 'flotsamlaw12.SweepFrees'. -/
def sweepFreesUptoCard : Claim7 := { stood := { row := sweepFreesUptoRow, standIns := [], harness := (true, "b8fd3047d9a688a107e8e65d17c87f1d92279598948f27d970289a927db46c99"), looks := false }, kinds := [], alts := [], laidByText := true, laidKinds := [.data], laidTests := true, laidLooks := .later }
def SweepFreesUptoCardSaid : Prop := Claim7.holds Tryd.pinned (.plain (OpenSpec.upto sweepFreesSpec)) sweepFreesUptoCard

/-- THE SECOND FORM's CARD OF 'flotsamlaw12.SweepSteps'. -/
def sweepStepsUptoCard : Claim7 := { stood := { row := sweepStepsUptoRow, standIns := [], harness := (true, "b8fd3047d9a688a107e8e65d17c87f1d92279598948f27d970289a927db46c99"), looks := false }, kinds := [], alts := [], laidByText := true, laidKinds := [.data], laidTests := true, laidLooks := .later }
def SweepStepsUptoCardSaid : Prop := Claim7.holds Tryd.pinned (.plain (OpenSpec.upto sweepStepsSpec)) sweepStepsUptoCard

/-- THE SECOND FORM's CARD OF 'flotsamlaw12.SweepOnce'. -/
def sweepOnceUptoCard : Claim7 := { stood := { row := sweepOnceUptoRow, standIns := [], harness := (true, "b8fd3047d9a688a107e8e65d17c87f1d92279598948f27d970289a927db46c99"), looks := false }, kinds := [], alts := [], laidByText := true, laidKinds := [.data], laidTests := true, laidLooks := .later }
def SweepOnceUptoCardSaid : Prop := Claim7.holds Tryd.pinned (.plain (OpenSpec.upto sweepOnceSpec)) sweepOnceUptoCard

/-- THE SECOND FORM's CARD OF 'flotsamlaw12.SweepPages'. -/
def sweepPagesUptoCard : Claim7 := { stood := { row := sweepPagesUptoRow, standIns := [], harness := (true, "b8fd3047d9a688a107e8e65d17c87f1d92279598948f27d970289a927db46c99"), looks := false }, kinds := [], alts := [], laidByText := true, laidKinds := [.data], laidTests := true, laidLooks := .later }
def SweepPagesUptoCardSaid : Prop := Claim7.holds Tryd.pinned (.plain (OpenSpec.upto sweepPagesSpec)) sweepPagesUptoCard
end Rows
end Go.Proofs.YtjoepiopigmmnaaDoor
