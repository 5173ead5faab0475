/-
  DERIVED. GIVEN WITH THE SEED: THE CARDS: each row of YtiofeebiejkajaaDoorRows.lean that lists a variable, with what it lists TIED to the program's text (the seventh form; the later family's looks); each row that meets fmt, with fmt's text TOLD by the authors' own Lean function (tested against real Go, not proved from fmt's source: count such statements apart). THE CARD IS WHAT COUNTS. Prove the row's statement (the work); the ties are given (YtiofeebiejkajaaDoorTie.lean); close each card by the builder's one call (the guide's Derived/Test/ToyasCard.lean, 'card_holds'). Laid BY PROGRAM, IN A SANDBOX (cutbox-door.mjs). By AI agents, Wed Nov 11 2026. No macro, syntax, notation, axiom, sorry.
-/
import Derived.Test.YtiofeebiejkajaaDoorRows
import GoSem.ClaimSeven
namespace Go.Proofs.YtiofeebiejkajaaDoor
namespace Rows

/-- THE TIED CARD OF 'flotsamlaw17.MarkEnds'. -/
def markEndsCard : Claim7 := { stood := { row := markEndsRow, standIns := [], harness := (true, "762cbfbcb450865e30f4fdf303f4bfd6aa778faf4866a8b4f1a3cf6ef04837f3"), looks := false }, kinds := [], alts := [], laidByText := true, laidKinds := [.data], laidTests := true, laidLooks := .later }
def MarkEndsCardSaid : Prop := Claim7.holds Tryd.pinned (.plain (OpenSpec.ofChange markEndsSpec)) markEndsCard

/-- THE TIED CARD OF 'flotsamlaw17.MarkExact'. -/
def markExactCard : Claim7 := { stood := { row := markExactRow, standIns := [], harness := (true, "762cbfbcb450865e30f4fdf303f4bfd6aa778faf4866a8b4f1a3cf6ef04837f3"), looks := false }, kinds := [], alts := [], laidByText := true, laidKinds := [.data], laidTests := true, laidLooks := .later }
def MarkExactCardSaid : Prop := Claim7.holds Tryd.pinned (.plain (OpenSpec.ofChange markExactSpec)) markExactCard

/-- THE TIED CARD OF 'flotsamlaw17.MarkKeeps'. -/
def markKeepsCard : Claim7 := { stood := { row := markKeepsRow, standIns := [], harness := (true, "762cbfbcb450865e30f4fdf303f4bfd6aa778faf4866a8b4f1a3cf6ef04837f3"), looks := false }, kinds := [], alts := [], laidByText := true, laidKinds := [.data], laidTests := true, laidLooks := .later }
def MarkKeepsCardSaid : Prop := Claim7.holds Tryd.pinned (.plain (OpenSpec.ofChange markKeepsSpec)) markKeepsCard

/-- THE TIED CARD OF 'flotsamlaw17.MarkRooms'. -/
def markRoomsCard : Claim7 := { stood := { row := markRoomsRow, standIns := [], harness := (true, "762cbfbcb450865e30f4fdf303f4bfd6aa778faf4866a8b4f1a3cf6ef04837f3"), looks := false }, kinds := [], alts := [], laidByText := true, laidKinds := [.data], laidTests := true, laidLooks := .later }
def MarkRoomsCardSaid : Prop := Claim7.holds Tryd.pinned (.plain (OpenSpec.ofChange markRoomsSpec)) markRoomsCard

/-- THE SECOND FORM's CARD OF 'flotsamlaw17.MarkEnds'. -/
def markEndsUptoCard : Claim7 := { stood := { row := markEndsUptoRow, standIns := [], harness := (true, "762cbfbcb450865e30f4fdf303f4bfd6aa778faf4866a8b4f1a3cf6ef04837f3"), looks := false }, kinds := [], alts := [], laidByText := true, laidKinds := [.data], laidTests := true, laidLooks := .later }
def MarkEndsUptoCardSaid : Prop := Claim7.holds Tryd.pinned (.plain (OpenSpec.upto markEndsSpec)) markEndsUptoCard

/-- THE SECOND FORM's CARD OF 'flotsamlaw17.MarkExact'. -/
def markExactUptoCard : Claim7 := { stood := { row := markExactUptoRow, standIns := [], harness := (true, "762cbfbcb450865e30f4fdf303f4bfd6aa778faf4866a8b4f1a3cf6ef04837f3"), looks := false }, kinds := [], alts := [], laidByText := true, laidKinds := [.data], laidTests := true, laidLooks := .later }
def MarkExactUptoCardSaid : Prop := Claim7.holds Tryd.pinned (.plain (OpenSpec.upto markExactSpec)) markExactUptoCard

/-- THE SECOND FORM's CARD OF 'flotsamlaw17.MarkKeeps'. -/
def markKeepsUptoCard : Claim7 := { stood := { row := markKeepsUptoRow, standIns := [], harness := (true, "762cbfbcb450865e30f4fdf303f4bfd6aa778faf4866a8b4f1a3cf6ef04837f3"), looks := false }, kinds := [], alts := [], laidByText := true, laidKinds := [.data], laidTests := true, laidLooks := .later }
def MarkKeepsUptoCardSaid : Prop := Claim7.holds Tryd.pinned (.plain (OpenSpec.upto markKeepsSpec)) markKeepsUptoCard

/-- THE SECOND FORM's CARD OF 'flotsamlaw17.MarkRooms'. -/
def markRoomsUptoCard : Claim7 := { stood := { row := markRoomsUptoRow, standIns := [], harness := (true, "762cbfbcb450865e30f4fdf303f4bfd6aa778faf4866a8b4f1a3cf6ef04837f3"), looks := false }, kinds := [], alts := [], laidByText := true, laidKinds := [.data], laidTests := true, laidLooks := .later }
def MarkRoomsUptoCardSaid : Prop := Claim7.holds Tryd.pinned (.plain (OpenSpec.upto markRoomsSpec)) markRoomsUptoCard
end Rows
end Go.Proofs.YtiofeebiejkajaaDoor
