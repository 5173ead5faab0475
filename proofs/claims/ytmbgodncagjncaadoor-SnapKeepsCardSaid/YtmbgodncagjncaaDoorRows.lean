/-
  NARROWER THAN 'FOR EVERY INPUT', by the rows' own cells (each row's printed sentence says how): SnapBegins: laid · SnapHolds: laid · SnapKeeps: laid · SnapTwice: laid.
  DERIVED. THE GIVEN ROWS OF THIS SEAT. 4 by the template 'for every input the law returns true; each argument reads behind the call as it read before'; 0 by the template 'total and deterministic' (their statements: YtmbgodncagjncaaDoorTotals.lean).
  GIVEN WITH THE SEED: the statements are not yours to turn. If you find one false, say at which input.
  Laid BY PROGRAM, IN A SANDBOX (cutbox-rows.mjs): the forced cells as the released guide's own fill.sh prints them over the translation 90f27098bbdbba34… (all of the seat's roots in one cut). By AI agents, Wed Nov 11 2026. No macro, syntax, notation, axiom, sorry.
-/
import Derived.Test.YtmbgodncagjncaaDoorChecked
import GoSem.Claim
import GoSem.ClaimJoined
import GoSem.ClaimMapViews
import Derived.JoinedTies
import Derived.KernelRfl
namespace Go.Proofs.YtmbgodncagjncaaDoor
/- THE CELL 'sum', in the pinned program and in every row, IS THE sha256 OF THE DUMP (.gsa) THAT YtmbgodncagjncaaDoorProg.lean LOADS. Nothing in Lean hashes anything: it is a label: what it is worth is what the hold of that sum in a sandbox is worth. -/
noncomputable def Tryd.pinned : Pinned := { name := "ytmbgodncagjncaadoor", sum := "90f27098bbdbba3436ada4ea2f39973ef6154dd7e06fa5d834e1ef502e67c19d", checked := Tryd.checked }
namespace Rows
def none {H : Type} : Left H := { results := [], args := [] }

/- WHAT THE LISTED PACKAGE-LEVEL VARIABLES READ AS WHEN THE CALL BEGINS. Each datum BY PROGRAM (the guide's laid-datum.mjs) off the statement by which the dump's own 'gosem.cut.vars' lays the variable. In a bare row this is a premise. The card (YtmbgodncagjncaaDoorCards.lean) ties it to the program's text. -/
def laid_flotsam_class_sizes {H : Type} : DataW H := .agg [.lit (.int .i64 2), .lit (.int .i64 4), .lit (.int .i64 8), .lit (.int .i64 16)]

/-- 'flotsamlaw18.SnapBegins': WHATEVER THE INPUT: true; the input reads as it did. -/
def snapBeginsSpec : ChangeSpec := { name := "snapBegins", fn := fun _ => fun
  | [d1, d2, d3, d4] => { results := [.lit (.bool true)], args := [d1, d2, d3, d4] }
  | _ => none }
def snapBeginsRow : OpenClaim := { program := "ytmbgodncagjncaadoor", sum := "90f27098bbdbba3436ada4ea2f39973ef6154dd7e06fa5d834e1ef502e67c19d", func := "flotsam/flotsamlaw18.SnapBegins", spec := "snapBegins", unfollowed := true, recurses := true, named := ["flotsam/class.sizes"], apart := false, laid := [("flotsam/class.sizes", laid_flotsam_class_sizes)] }
def SnapBeginsSaid : Prop := snapBeginsRow.holds Tryd.pinned (OpenSpec.ofChange snapBeginsSpec)

/-- ITS FALSE NEIGHBOUR: 'it returns false'. Refute it at one input. -/
def snapBeginsWrong : ChangeSpec := { name := "snapBegins", fn := fun _ => fun
  | [d1, d2, d3, d4] => { results := [.lit (.bool false)], args := [d1, d2, d3, d4] }
  | _ => none }
def SnapBeginsWrongFalsely : Prop := snapBeginsRow.holds Tryd.pinned (OpenSpec.ofChange snapBeginsWrong)

/-- 'flotsamlaw18.SnapHolds': WHATEVER THE INPUT: true; the input reads as it did. -/
def snapHoldsSpec : ChangeSpec := { name := "snapHolds", fn := fun _ => fun
  | [d1, d2] => { results := [.lit (.bool true)], args := [d1, d2] }
  | _ => none }
def snapHoldsRow : OpenClaim := { program := "ytmbgodncagjncaadoor", sum := "90f27098bbdbba3436ada4ea2f39973ef6154dd7e06fa5d834e1ef502e67c19d", func := "flotsam/flotsamlaw18.SnapHolds", spec := "snapHolds", unfollowed := true, recurses := true, named := ["flotsam/class.sizes"], apart := false, laid := [("flotsam/class.sizes", laid_flotsam_class_sizes)] }
def SnapHoldsSaid : Prop := snapHoldsRow.holds Tryd.pinned (OpenSpec.ofChange snapHoldsSpec)

/-- ITS FALSE NEIGHBOUR: 'it returns false'. Refute it at one input. -/
def snapHoldsWrong : ChangeSpec := { name := "snapHolds", fn := fun _ => fun
  | [d1, d2] => { results := [.lit (.bool false)], args := [d1, d2] }
  | _ => none }
def SnapHoldsWrongFalsely : Prop := snapHoldsRow.holds Tryd.pinned (OpenSpec.ofChange snapHoldsWrong)

/-- 'flotsamlaw18.SnapKeeps': WHATEVER THE INPUT: true; the input reads as it did. -/
def snapKeepsSpec : ChangeSpec := { name := "snapKeeps", fn := fun _ => fun
  | [d1, d2] => { results := [.lit (.bool true)], args := [d1, d2] }
  | _ => none }
def snapKeepsRow : OpenClaim := { program := "ytmbgodncagjncaadoor", sum := "90f27098bbdbba3436ada4ea2f39973ef6154dd7e06fa5d834e1ef502e67c19d", func := "flotsam/flotsamlaw18.SnapKeeps", spec := "snapKeeps", unfollowed := true, recurses := true, named := ["flotsam/class.sizes"], apart := false, laid := [("flotsam/class.sizes", laid_flotsam_class_sizes)] }
def SnapKeepsSaid : Prop := snapKeepsRow.holds Tryd.pinned (OpenSpec.ofChange snapKeepsSpec)

/-- ITS FALSE NEIGHBOUR: 'it returns false'. Refute it at one input. -/
def snapKeepsWrong : ChangeSpec := { name := "snapKeeps", fn := fun _ => fun
  | [d1, d2] => { results := [.lit (.bool false)], args := [d1, d2] }
  | _ => none }
def SnapKeepsWrongFalsely : Prop := snapKeepsRow.holds Tryd.pinned (OpenSpec.ofChange snapKeepsWrong)

/-- 'flotsamlaw18.SnapTwice': WHATEVER THE INPUT: true; the input reads as it did. -/
def snapTwiceSpec : ChangeSpec := { name := "snapTwice", fn := fun _ => fun
  | [d1, d2] => { results := [.lit (.bool true)], args := [d1, d2] }
  | _ => none }
def snapTwiceRow : OpenClaim := { program := "ytmbgodncagjncaadoor", sum := "90f27098bbdbba3436ada4ea2f39973ef6154dd7e06fa5d834e1ef502e67c19d", func := "flotsam/flotsamlaw18.SnapTwice", spec := "snapTwice", unfollowed := true, recurses := true, named := ["flotsam/class.sizes"], apart := false, laid := [("flotsam/class.sizes", laid_flotsam_class_sizes)] }
def SnapTwiceSaid : Prop := snapTwiceRow.holds Tryd.pinned (OpenSpec.ofChange snapTwiceSpec)

/-- ITS FALSE NEIGHBOUR: 'it returns false'. Refute it at one input. -/
def snapTwiceWrong : ChangeSpec := { name := "snapTwice", fn := fun _ => fun
  | [d1, d2] => { results := [.lit (.bool false)], args := [d1, d2] }
  | _ => none }
def SnapTwiceWrongFalsely : Prop := snapTwiceRow.holds Tryd.pinned (OpenSpec.ofChange snapTwiceWrong)

/- THE SECOND FORM. 'bulk': how many values and letters a reading holds, each counted each time it is reached (what is shared counts as often as it is met; a slice's spare places count too). A statement '..UptoSaid' is the law's where the arguments, and the package variables that the reading takes, are together of bulk at most 1048576: NARROWER than '..Said'. Prove '..Said' where nothing that the law and all that it calls make is longer than what came in: it says more and counts as full. Else prove '..UptoSaid'. A law counts once. -/
mutual
def uptoBulk {H : Type} : DataW H → Nat
  | .lit (.string bytes) => bytes.length + 1
  | .lit _ => 1
  | .nil => 1
  | .ptr d => uptoBulk d + 1
  | .slice elems spare => uptoBulkAll elems + uptoBulkAll spare + 1
  | .agg parts => uptoBulkAll parts + 1
  | .iface _ d => uptoBulk d + 1
  | .map entries => uptoBulkEntries entries + 1
  | .held _ => 1
def uptoBulkAll {H : Type} : List (DataW H) → Nat
  | [] => 0
  | d :: r => uptoBulk d + uptoBulkAll r
def uptoBulkEntries {H : Type} : List (Lit × DataW H) → Nat
  | [] => 0
  | x :: r => uptoBulkEntry x + uptoBulkEntries r
def uptoBulkEntry {H : Type} : Lit × DataW H → Nat
  | (.string bytes, d) => bytes.length + uptoBulk d + 1
  | (_, d) => uptoBulk d + 1
 end
def uptoSmall : (H : Type) → List (DataW H) → Bool := fun _ ds => decide (uptoBulkAll ds ≤ 1048576)
def OpenSpec.upto (s : _root_.Go.ChangeSpec) : _root_.Go.OpenSpec := { _root_.Go.OpenSpec.ofChange s with cond := some uptoSmall }

/-- 'flotsamlaw18.SnapBegins', WHERE WHAT IT READS IS OF BULK AT MOST 1048576: true; the input reads as it did. -/
def snapBeginsUptoRow : OpenClaim := { program := "ytmbgodncagjncaadoor", sum := "90f27098bbdbba3436ada4ea2f39973ef6154dd7e06fa5d834e1ef502e67c19d", func := "flotsam/flotsamlaw18.SnapBegins", spec := "snapBegins", unfollowed := true, recurses := true, named := ["flotsam/class.sizes"], apart := false, laid := [("flotsam/class.sizes", laid_flotsam_class_sizes)], narrowed := true }
def SnapBeginsUptoSaid : Prop := snapBeginsUptoRow.holds Tryd.pinned (OpenSpec.upto snapBeginsSpec)

/-- 'flotsamlaw18.SnapHolds', WHERE WHAT IT READS IS OF BULK AT MOST 1048576: true; the input reads as it did. -/
def snapHoldsUptoRow : OpenClaim := { program := "ytmbgodncagjncaadoor", sum := "90f27098bbdbba3436ada4ea2f39973ef6154dd7e06fa5d834e1ef502e67c19d", func := "flotsam/flotsamlaw18.SnapHolds", spec := "snapHolds", unfollowed := true, recurses := true, named := ["flotsam/class.sizes"], apart := false, laid := [("flotsam/class.sizes", laid_flotsam_class_sizes)], narrowed := true }
def SnapHoldsUptoSaid : Prop := snapHoldsUptoRow.holds Tryd.pinned (OpenSpec.upto snapHoldsSpec)

/-- 'flotsamlaw18.SnapKeeps', WHERE WHAT IT READS IS OF BULK AT MOST 1048576: true; the input reads as it did. -/
def snapKeepsUptoRow : OpenClaim := { program := "ytmbgodncagjncaadoor", sum := "90f27098bbdbba3436ada4ea2f39973ef6154dd7e06fa5d834e1ef502e67c19d", func := "flotsam/flotsamlaw18.SnapKeeps", spec := "snapKeeps", unfollowed := true, recurses := true, named := ["flotsam/class.sizes"], apart := false, laid := [("flotsam/class.sizes", laid_flotsam_class_sizes)], narrowed := true }
def SnapKeepsUptoSaid : Prop := snapKeepsUptoRow.holds Tryd.pinned (OpenSpec.upto snapKeepsSpec)

/-- 'flotsamlaw18.SnapTwice', WHERE WHAT IT READS IS OF BULK AT MOST 1048576: true; the input reads as it did. -/
def snapTwiceUptoRow : OpenClaim := { program := "ytmbgodncagjncaadoor", sum := "90f27098bbdbba3436ada4ea2f39973ef6154dd7e06fa5d834e1ef502e67c19d", func := "flotsam/flotsamlaw18.SnapTwice", spec := "snapTwice", unfollowed := true, recurses := true, named := ["flotsam/class.sizes"], apart := false, laid := [("flotsam/class.sizes", laid_flotsam_class_sizes)], narrowed := true }
def SnapTwiceUptoSaid : Prop := snapTwiceUptoRow.holds Tryd.pinned (OpenSpec.upto snapTwiceSpec)

end Rows
end Go.Proofs.YtmbgodncagjncaaDoor
