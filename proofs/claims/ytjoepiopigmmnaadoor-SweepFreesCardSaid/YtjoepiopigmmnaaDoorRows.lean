/-
  NARROWER THAN 'FOR EVERY INPUT', by the rows' own cells (each row's printed sentence says how): SweepFrees: laid · SweepSteps: laid · SweepOnce: laid · SweepPages: laid.
  DERIVED. THE GIVEN ROWS OF THIS SEAT. 4 by the template 'for every input the law returns true; each argument reads behind the call as it read before'; 0 by the template 'total and deterministic' (their statements: YtjoepiopigmmnaaDoorTotals.lean).
  GIVEN WITH THE SEED: the statements are not yours to turn. If you find one false, say at which input.
  Laid BY PROGRAM, IN A SANDBOX (cutbox-rows.mjs): the forced cells as the released guide's own fill.sh prints them over the translation 6f493d28edcf11ec… (all of the seat's roots in one cut). By AI agents, Wed Nov 11 2026. No macro, syntax, notation, axiom, sorry.
-/
import Derived.Test.YtjoepiopigmmnaaDoorChecked
import GoSem.Claim
import GoSem.ClaimJoined
import GoSem.ClaimMapViews
import Derived.JoinedTies
import Derived.KernelRfl
namespace Go.Proofs.YtjoepiopigmmnaaDoor
/- THE CELL 'sum', in the pinned program and in every row, IS THE sha256 OF THE DUMP (.gsa) THAT YtjoepiopigmmnaaDoorProg.lean LOADS. Nothing in Lean hashes anything: it is a label: what it is worth is what the hold of that sum in a sandbox is worth. -/
noncomputable def Tryd.pinned : Pinned := { name := "ytjoepiopigmmnaadoor", sum := "6f493d28edcf11ec1740e9eb5cc83d20479340e8b56e72ef8080f97986f5d05a", checked := Tryd.checked }
namespace Rows
def none {H : Type} : Left H := { results := [], args := [] }

/- WHAT THE LISTED PACKAGE-LEVEL VARIABLES READ AS WHEN THE CALL BEGINS. Each datum BY PROGRAM (the guide's laid-datum.mjs) off the statement by which the dump's own 'gosem.cut.vars' lays the variable. In a bare row this is a premise. The card (YtjoepiopigmmnaaDoorCards.lean) ties it to the program's text. -/
def laid_flotsam_class_sizes {H : Type} : DataW H := .agg [.lit (.int .i64 2), .lit (.int .i64 4), .lit (.int .i64 8), .lit (.int .i64 16)]

/-- 'flotsamlaw12.SweepFrees': WHATEVER THE INPUT: true; the input reads as it did. -/
def sweepFreesSpec : ChangeSpec := { name := "sweepFrees", fn := fun _ => fun
  | [d1, d2] => { results := [.lit (.bool true)], args := [d1, d2] }
  | _ => none }
def sweepFreesRow : OpenClaim := { program := "ytjoepiopigmmnaadoor", sum := "6f493d28edcf11ec1740e9eb5cc83d20479340e8b56e72ef8080f97986f5d05a", func := "flotsam/flotsamlaw12.SweepFrees", spec := "sweepFrees", unfollowed := true, recurses := true, named := ["flotsam/class.sizes"], apart := false, laid := [("flotsam/class.sizes", laid_flotsam_class_sizes)] }
def SweepFreesSaid : Prop := sweepFreesRow.holds Tryd.pinned (OpenSpec.ofChange sweepFreesSpec)

/-- ITS FALSE NEIGHBOUR: 'it returns false'. Refute it at one input. -/
def sweepFreesWrong : ChangeSpec := { name := "sweepFrees", fn := fun _ => fun
  | [d1, d2] => { results := [.lit (.bool false)], args := [d1, d2] }
  | _ => none }
def SweepFreesWrongFalsely : Prop := sweepFreesRow.holds Tryd.pinned (OpenSpec.ofChange sweepFreesWrong)

/-- 'flotsamlaw12.SweepSteps': WHATEVER THE INPUT: true; the input reads as it did. -/
def sweepStepsSpec : ChangeSpec := { name := "sweepSteps", fn := fun _ => fun
  | [d1, d2] => { results := [.lit (.bool true)], args := [d1, d2] }
  | _ => none }
def sweepStepsRow : OpenClaim := { program := "ytjoepiopigmmnaadoor", sum := "6f493d28edcf11ec1740e9eb5cc83d20479340e8b56e72ef8080f97986f5d05a", func := "flotsam/flotsamlaw12.SweepSteps", spec := "sweepSteps", unfollowed := true, recurses := true, named := ["flotsam/class.sizes"], apart := false, laid := [("flotsam/class.sizes", laid_flotsam_class_sizes)] }
def SweepStepsSaid : Prop := sweepStepsRow.holds Tryd.pinned (OpenSpec.ofChange sweepStepsSpec)

/-- ITS FALSE NEIGHBOUR: 'it returns false'. Refute it at one input. -/
def sweepStepsWrong : ChangeSpec := { name := "sweepSteps", fn := fun _ => fun
  | [d1, d2] => { results := [.lit (.bool false)], args := [d1, d2] }
  | _ => none }
def SweepStepsWrongFalsely : Prop := sweepStepsRow.holds Tryd.pinned (OpenSpec.ofChange sweepStepsWrong)

/-- 'flotsamlaw12.SweepOnce': WHATEVER THE INPUT: true; the input reads as it did. -/
def sweepOnceSpec : ChangeSpec := { name := "sweepOnce", fn := fun _ => fun
  | [d1, d2] => { results := [.lit (.bool true)], args := [d1, d2] }
  | _ => none }
def sweepOnceRow : OpenClaim := { program := "ytjoepiopigmmnaadoor", sum := "6f493d28edcf11ec1740e9eb5cc83d20479340e8b56e72ef8080f97986f5d05a", func := "flotsam/flotsamlaw12.SweepOnce", spec := "sweepOnce", unfollowed := true, recurses := true, named := ["flotsam/class.sizes"], apart := false, laid := [("flotsam/class.sizes", laid_flotsam_class_sizes)] }
def SweepOnceSaid : Prop := sweepOnceRow.holds Tryd.pinned (OpenSpec.ofChange sweepOnceSpec)

/-- ITS FALSE NEIGHBOUR: 'it returns false'. Refute it at one input. -/
def sweepOnceWrong : ChangeSpec := { name := "sweepOnce", fn := fun _ => fun
  | [d1, d2] => { results := [.lit (.bool false)], args := [d1, d2] }
  | _ => none }
def SweepOnceWrongFalsely : Prop := sweepOnceRow.holds Tryd.pinned (OpenSpec.ofChange sweepOnceWrong)

/-- 'flotsamlaw12.SweepPages': WHATEVER THE INPUT: true; the input reads as it did. -/
def sweepPagesSpec : ChangeSpec := { name := "sweepPages", fn := fun _ => fun
  | [d1, d2] => { results := [.lit (.bool true)], args := [d1, d2] }
  | _ => none }
def sweepPagesRow : OpenClaim := { program := "ytjoepiopigmmnaadoor", sum := "6f493d28edcf11ec1740e9eb5cc83d20479340e8b56e72ef8080f97986f5d05a", func := "flotsam/flotsamlaw12.SweepPages", spec := "sweepPages", unfollowed := true, recurses := true, named := ["flotsam/class.sizes"], apart := false, laid := [("flotsam/class.sizes", laid_flotsam_class_sizes)] }
def SweepPagesSaid : Prop := sweepPagesRow.holds Tryd.pinned (OpenSpec.ofChange sweepPagesSpec)

/-- ITS FALSE NEIGHBOUR: 'it returns false'. Refute it at one input. -/
def sweepPagesWrong : ChangeSpec := { name := "sweepPages", fn := fun _ => fun
  | [d1, d2] => { results := [.lit (.bool false)], args := [d1, d2] }
  | _ => none }
def SweepPagesWrongFalsely : Prop := sweepPagesRow.holds Tryd.pinned (OpenSpec.ofChange sweepPagesWrong)

/- THE SECOND FORM. 'bulk': how many values and letters a reading holds, each counted each time it is reached (what is shared counts as often as it is met; a slice's spare places count too). A statement '..UptoSaid' is the law's where the arguments, and the package variables that the reading takes, are together of bulk at most 1048576: NARROWER than '..Said'. Prove '..Said' where nothing that the law and all that it calls make is longer than what came in: it says more and counts as full. Else prove '..UptoSaid'. A law counts once. -/
mutual
def uptoBulk {H : Type} : DataW H → Nat
  | .lit (.string bytes) => bytes.length + 1
  | .lit _ => 1
  | .nil => 1
  | .ptr d => uptoBulk d + 1
  | .slice elems spare => uptoBulkAll elems + uptoBulkAll spare + 1
  | .agg parts => uptoBulkAll parts + 1
  | .iface _ d => uptoBulk d + 1
  | .map entries => uptoBulkEntries entries + 1
  | .held _ => 1
def uptoBulkAll {H : Type} : List (DataW H) → Nat
  | [] => 0
  | d :: r => uptoBulk d + uptoBulkAll r
def uptoBulkEntries {H : Type} : List (Lit × DataW H) → Nat
  | [] => 0
  | x :: r => uptoBulkEntry x + uptoBulkEntries r
def uptoBulkEntry {H : Type} : Lit × DataW H → Nat
  | (.string bytes, d) => bytes.length + uptoBulk d + 1
  | (_, d) => uptoBulk d + 1
 end
def uptoSmall : (H : Type) → List (DataW H) → Bool := fun _ ds => decide (uptoBulkAll ds ≤ 1048576)
def OpenSpec.upto (s : _root_.Go.ChangeSpec) : _root_.Go.OpenSpec := { _root_.Go.OpenSpec.ofChange s with cond := some uptoSmall }

/-- 'flotsamlaw12.SweepFrees', WHERE WHAT IT READS IS OF BULK AT MOST 1048576: true; the input reads as it did. -/
def sweepFreesUptoRow : OpenClaim := { program := "ytjoepiopigmmnaadoor", sum := "6f493d28edcf11ec1740e9eb5cc83d20479340e8b56e72ef8080f97986f5d05a", func := "flotsam/flotsamlaw12.SweepFrees", spec := "sweepFrees", unfollowed := true, recurses := true, named := ["flotsam/class.sizes"], apart := false, laid := [("flotsam/class.sizes", laid_flotsam_class_sizes)], narrowed := true }
def SweepFreesUptoSaid : Prop := sweepFreesUptoRow.holds Tryd.pinned (OpenSpec.upto sweepFreesSpec)

/-- 'flotsamlaw12.SweepSteps', WHERE WHAT IT READS IS OF BULK AT MOST 1048576: true; the input reads as it did. -/
def sweepStepsUptoRow : OpenClaim := { program := "ytjoepiopigmmnaadoor", sum := "6f493d28edcf11ec1740e9eb5cc83d20479340e8b56e72ef8080f97986f5d05a", func := "flotsam/flotsamlaw12.SweepSteps", spec := "sweepSteps", unfollowed := true, recurses := true, named := ["flotsam/class.sizes"], apart := false, laid := [("flotsam/class.sizes", laid_flotsam_class_sizes)], narrowed := true }
def SweepStepsUptoSaid : Prop := sweepStepsUptoRow.holds Tryd.pinned (OpenSpec.upto sweepStepsSpec)

/-- 'flotsamlaw12.SweepOnce', WHERE WHAT IT READS IS OF BULK AT MOST 1048576: true; the input reads as it did. -/
def sweepOnceUptoRow : OpenClaim := { program := "ytjoepiopigmmnaadoor", sum := "6f493d28edcf11ec1740e9eb5cc83d20479340e8b56e72ef8080f97986f5d05a", func := "flotsam/flotsamlaw12.SweepOnce", spec := "sweepOnce", unfollowed := true, recurses := true, named := ["flotsam/class.sizes"], apart := false, laid := [("flotsam/class.sizes", laid_flotsam_class_sizes)], narrowed := true }
def SweepOnceUptoSaid : Prop := sweepOnceUptoRow.holds Tryd.pinned (OpenSpec.upto sweepOnceSpec)

/-- 'flotsamlaw12.SweepPages', WHERE WHAT IT READS IS OF BULK AT MOST 1048576: true; the input reads as it did. -/
def sweepPagesUptoRow : OpenClaim := { program := "ytjoepiopigmmnaadoor", sum := "6f493d28edcf11ec1740e9eb5cc83d20479340e8b56e72ef8080f97986f5d05a", func := "flotsam/flotsamlaw12.SweepPages", spec := "sweepPages", unfollowed := true, recurses := true, named := ["flotsam/class.sizes"], apart := false, laid := [("flotsam/class.sizes", laid_flotsam_class_sizes)], narrowed := true }
def SweepPagesUptoSaid : Prop := sweepPagesUptoRow.holds Tryd.pinned (OpenSpec.upto sweepPagesSpec)

end Rows
end Go.Proofs.YtjoepiopigmmnaaDoor
