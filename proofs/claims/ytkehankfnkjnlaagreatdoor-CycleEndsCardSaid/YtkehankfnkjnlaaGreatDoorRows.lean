/-
  NARROWER THAN 'FOR EVERY INPUT', by the rows' own cells (each row's printed sentence says how): CycleEnds: laid · CycleSums: laid · CycleKeeps: laid · CyclePhases: laid.
  DERIVED. THE GIVEN ROWS OF THIS SEAT. 4 by the template 'for every input the law returns true; each argument reads behind the call as it read before'; 0 by the template 'total and deterministic' (their statements: YtkehankfnkjnlaaGreatDoorTotals.lean).
  GIVEN WITH THE SEED: the statements are not yours to turn. If you find one false, say at which input.
  Laid BY PROGRAM, IN A SANDBOX (cutbox-rows.mjs): the forced cells as the released guide's own fill.sh prints them over the translation 58ad12831c5514e0… (all of the seat's roots in one cut). By AI agents, Wed Nov 11 2026. No macro, syntax, notation, axiom, sorry.
-/
import Derived.Test.YtkehankfnkjnlaaGreatDoorChecked
import GoSem.Claim
import GoSem.ClaimJoined
import GoSem.ClaimMapViews
import Derived.JoinedTies
import Derived.KernelRfl
namespace Go.Proofs.YtkehankfnkjnlaaGreatDoor
/- THE CELL 'sum', in the pinned program and in every row, IS THE sha256 OF THE DUMP (.gsa) THAT YtkehankfnkjnlaaGreatDoorProg.lean LOADS. Nothing in Lean hashes anything: it is a label: what it is worth is what the hold of that sum in a sandbox is worth. -/
noncomputable def Tryz.pinned : Pinned := { name := "ytkehankfnkjnlaagreatdoor", sum := "58ad12831c5514e05c00a9f22bfc30a22dd73f7ba14975d8d511adced3bb7a74", checked := Tryz.checked }
namespace Rows
def none {H : Type} : Left H := { results := [], args := [] }

/- WHAT THE LISTED PACKAGE-LEVEL VARIABLES READ AS WHEN THE CALL BEGINS. Each datum BY PROGRAM (the guide's laid-datum.mjs) off the statement by which the dump's own 'gosem.cut.vars' lays the variable. In a bare row this is a premise. The card (YtkehankfnkjnlaaGreatDoorCards.lean) ties it to the program's text. -/
def laid_flotsam_class_sizes {H : Type} : DataW H := .agg [.lit (.int .i64 2), .lit (.int .i64 4), .lit (.int .i64 8), .lit (.int .i64 16)]

/-- 'flotsamlaw20.CycleEnds': WHATEVER THE INPUT: true; the input reads as it did. -/
def cycleEndsSpec : ChangeSpec := { name := "cycleEnds", fn := fun _ => fun
  | [d] => { results := [.lit (.bool true)], args := [d] }
  | _ => none }
def cycleEndsRow : OpenClaim := { program := "ytkehankfnkjnlaagreatdoor", sum := "58ad12831c5514e05c00a9f22bfc30a22dd73f7ba14975d8d511adced3bb7a74", func := "flotsam/flotsamlaw20.CycleEnds", spec := "cycleEnds", unfollowed := true, recurses := true, named := ["flotsam/class.sizes"], apart := false, laid := [("flotsam/class.sizes", laid_flotsam_class_sizes)] }
def CycleEndsSaid : Prop := cycleEndsRow.holds Tryz.pinned (OpenSpec.ofChange cycleEndsSpec)

/-- ITS FALSE NEIGHBOUR: 'it returns false'. Refute it at one input. -/
def cycleEndsWrong : ChangeSpec := { name := "cycleEnds", fn := fun _ => fun
  | [d] => { results := [.lit (.bool false)], args := [d] }
  | _ => none }
def CycleEndsWrongFalsely : Prop := cycleEndsRow.holds Tryz.pinned (OpenSpec.ofChange cycleEndsWrong)

/-- 'flotsamlaw20.CycleSums': WHATEVER THE INPUT: true; the input reads as it did. -/
def cycleSumsSpec : ChangeSpec := { name := "cycleSums", fn := fun _ => fun
  | [d] => { results := [.lit (.bool true)], args := [d] }
  | _ => none }
def cycleSumsRow : OpenClaim := { program := "ytkehankfnkjnlaagreatdoor", sum := "58ad12831c5514e05c00a9f22bfc30a22dd73f7ba14975d8d511adced3bb7a74", func := "flotsam/flotsamlaw20.CycleSums", spec := "cycleSums", unfollowed := true, recurses := true, named := ["flotsam/class.sizes"], apart := false, laid := [("flotsam/class.sizes", laid_flotsam_class_sizes)] }
def CycleSumsSaid : Prop := cycleSumsRow.holds Tryz.pinned (OpenSpec.ofChange cycleSumsSpec)

/-- ITS FALSE NEIGHBOUR: 'it returns false'. Refute it at one input. -/
def cycleSumsWrong : ChangeSpec := { name := "cycleSums", fn := fun _ => fun
  | [d] => { results := [.lit (.bool false)], args := [d] }
  | _ => none }
def CycleSumsWrongFalsely : Prop := cycleSumsRow.holds Tryz.pinned (OpenSpec.ofChange cycleSumsWrong)

/-- 'flotsamlaw20.CycleKeeps': WHATEVER THE INPUT: true; the input reads as it did. -/
def cycleKeepsSpec : ChangeSpec := { name := "cycleKeeps", fn := fun _ => fun
  | [d] => { results := [.lit (.bool true)], args := [d] }
  | _ => none }
def cycleKeepsRow : OpenClaim := { program := "ytkehankfnkjnlaagreatdoor", sum := "58ad12831c5514e05c00a9f22bfc30a22dd73f7ba14975d8d511adced3bb7a74", func := "flotsam/flotsamlaw20.CycleKeeps", spec := "cycleKeeps", unfollowed := true, recurses := true, named := ["flotsam/class.sizes"], apart := false, laid := [("flotsam/class.sizes", laid_flotsam_class_sizes)] }
def CycleKeepsSaid : Prop := cycleKeepsRow.holds Tryz.pinned (OpenSpec.ofChange cycleKeepsSpec)

/-- ITS FALSE NEIGHBOUR: 'it returns false'. Refute it at one input. -/
def cycleKeepsWrong : ChangeSpec := { name := "cycleKeeps", fn := fun _ => fun
  | [d] => { results := [.lit (.bool false)], args := [d] }
  | _ => none }
def CycleKeepsWrongFalsely : Prop := cycleKeepsRow.holds Tryz.pinned (OpenSpec.ofChange cycleKeepsWrong)

/-- 'flotsamlaw20.CyclePhases': WHATEVER THE INPUT: true; the input reads as it did. -/
def cyclePhasesSpec : ChangeSpec := { name := "cyclePhases", fn := fun _ => fun
  | [d] => { results := [.lit (.bool true)], args := [d] }
  | _ => none }
def cyclePhasesRow : OpenClaim := { program := "ytkehankfnkjnlaagreatdoor", sum := "58ad12831c5514e05c00a9f22bfc30a22dd73f7ba14975d8d511adced3bb7a74", func := "flotsam/flotsamlaw20.CyclePhases", spec := "cyclePhases", unfollowed := true, recurses := true, named := ["flotsam/class.sizes"], apart := false, laid := [("flotsam/class.sizes", laid_flotsam_class_sizes)] }
def CyclePhasesSaid : Prop := cyclePhasesRow.holds Tryz.pinned (OpenSpec.ofChange cyclePhasesSpec)

/-- ITS FALSE NEIGHBOUR: 'it returns false'. Refute it at one input. -/
def cyclePhasesWrong : ChangeSpec := { name := "cyclePhases", fn := fun _ => fun
  | [d] => { results := [.lit (.bool false)], args := [d] }
  | _ => none }
def CyclePhasesWrongFalsely : Prop := cyclePhasesRow.holds Tryz.pinned (OpenSpec.ofChange cyclePhasesWrong)

/- THE SECOND FORM. 'bulk': how many values and letters a reading holds, each counted each time it is reached (what is shared counts as often as it is met; a slice's spare places count too). A statement '..UptoSaid' is the law's where the arguments, and the package variables that the reading takes, are together of bulk at most 1048576: NARROWER than '..Said'. Prove '..Said' where nothing that the law and all that it calls make is longer than what came in: it says more and counts as full. Else prove '..UptoSaid'. A law counts once. -/
mutual
def uptoBulk {H : Type} : DataW H → Nat
  | .lit (.string bytes) => bytes.length + 1
  | .lit _ => 1
  | .nil => 1
  | .ptr d => uptoBulk d + 1
  | .slice elems spare => uptoBulkAll elems + uptoBulkAll spare + 1
  | .agg parts => uptoBulkAll parts + 1
  | .iface _ d => uptoBulk d + 1
  | .map entries => uptoBulkEntries entries + 1
  | .held _ => 1
def uptoBulkAll {H : Type} : List (DataW H) → Nat
  | [] => 0
  | d :: r => uptoBulk d + uptoBulkAll r
def uptoBulkEntries {H : Type} : List (Lit × DataW H) → Nat
  | [] => 0
  | x :: r => uptoBulkEntry x + uptoBulkEntries r
def uptoBulkEntry {H : Type} : Lit × DataW H → Nat
  | (.string bytes, d) => bytes.length + uptoBulk d + 1
  | (_, d) => uptoBulk d + 1
 end
def uptoSmall : (H : Type) → List (DataW H) → Bool := fun _ ds => decide (uptoBulkAll ds ≤ 1048576)
def OpenSpec.upto (s : _root_.Go.ChangeSpec) : _root_.Go.OpenSpec := { _root_.Go.OpenSpec.ofChange s with cond := some uptoSmall }

/-- 'flotsamlaw20.CycleEnds', WHERE WHAT IT READS IS OF BULK AT MOST 1048576: true; the input reads as it did. -/
def cycleEndsUptoRow : OpenClaim := { program := "ytkehankfnkjnlaagreatdoor", sum := "58ad12831c5514e05c00a9f22bfc30a22dd73f7ba14975d8d511adced3bb7a74", func := "flotsam/flotsamlaw20.CycleEnds", spec := "cycleEnds", unfollowed := true, recurses := true, named := ["flotsam/class.sizes"], apart := false, laid := [("flotsam/class.sizes", laid_flotsam_class_sizes)], narrowed := true }
def CycleEndsUptoSaid : Prop := cycleEndsUptoRow.holds Tryz.pinned (OpenSpec.upto cycleEndsSpec)

/-- 'flotsamlaw20.CycleSums', WHERE WHAT IT READS IS OF BULK AT MOST 1048576: true; the input reads as it did. -/
def cycleSumsUptoRow : OpenClaim := { program := "ytkehankfnkjnlaagreatdoor", sum := "58ad12831c5514e05c00a9f22bfc30a22dd73f7ba14975d8d511adced3bb7a74", func := "flotsam/flotsamlaw20.CycleSums", spec := "cycleSums", unfollowed := true, recurses := true, named := ["flotsam/class.sizes"], apart := false, laid := [("flotsam/class.sizes", laid_flotsam_class_sizes)], narrowed := true }
def CycleSumsUptoSaid : Prop := cycleSumsUptoRow.holds Tryz.pinned (OpenSpec.upto cycleSumsSpec)

/-- 'flotsamlaw20.CycleKeeps', WHERE WHAT IT READS IS OF BULK AT MOST 1048576: true; the input reads as it did. -/
def cycleKeepsUptoRow : OpenClaim := { program := "ytkehankfnkjnlaagreatdoor", sum := "58ad12831c5514e05c00a9f22bfc30a22dd73f7ba14975d8d511adced3bb7a74", func := "flotsam/flotsamlaw20.CycleKeeps", spec := "cycleKeeps", unfollowed := true, recurses := true, named := ["flotsam/class.sizes"], apart := false, laid := [("flotsam/class.sizes", laid_flotsam_class_sizes)], narrowed := true }
def CycleKeepsUptoSaid : Prop := cycleKeepsUptoRow.holds Tryz.pinned (OpenSpec.upto cycleKeepsSpec)

/-- 'flotsamlaw20.CyclePhases', WHERE WHAT IT READS IS OF BULK AT MOST 1048576: true; the input reads as it did. -/
def cyclePhasesUptoRow : OpenClaim := { program := "ytkehankfnkjnlaagreatdoor", sum := "58ad12831c5514e05c00a9f22bfc30a22dd73f7ba14975d8d511adced3bb7a74", func := "flotsam/flotsamlaw20.CyclePhases", spec := "cyclePhases", unfollowed := true, recurses := true, named := ["flotsam/class.sizes"], apart := false, laid := [("flotsam/class.sizes", laid_flotsam_class_sizes)], narrowed := true }
def CyclePhasesUptoSaid : Prop := cyclePhasesUptoRow.holds Tryz.pinned (OpenSpec.upto cyclePhasesSpec)

end Rows
end Go.Proofs.YtkehankfnkjnlaaGreatDoor
