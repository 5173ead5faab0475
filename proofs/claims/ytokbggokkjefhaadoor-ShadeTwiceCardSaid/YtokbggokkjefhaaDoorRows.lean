/-
  NARROWER THAN 'FOR EVERY INPUT', by the rows' own cells (each row's printed sentence says how): ShadeBlack: laid · ShadeKeeps: laid · ShadeTwice: laid.
  DERIVED. THE GIVEN ROWS OF THIS SEAT. 3 by the template 'for every input the law returns true; each argument reads behind the call as it read before'; 0 by the template 'total and deterministic' (their statements: YtokbggokkjefhaaDoorTotals.lean).
  GIVEN WITH THE SEED: the statements are not yours to turn. If you find one false, say at which input.
  Laid BY PROGRAM, IN A SANDBOX (cutbox-rows.mjs): the forced cells as the released guide's own fill.sh prints them over the translation ec39bcf93a1bf9a1… (all of the seat's roots in one cut). By AI agents, Wed Nov 11 2026. No macro, syntax, notation, axiom, sorry.
-/
import Derived.Test.YtokbggokkjefhaaDoorChecked
import GoSem.Claim
import GoSem.ClaimJoined
import GoSem.ClaimMapViews
import Derived.JoinedTies
import Derived.KernelRfl
namespace Go.Proofs.YtokbggokkjefhaaDoor
/- THE CELL 'sum', in the pinned program and in every row, IS THE sha256 OF THE DUMP (.gsa) THAT YtokbggokkjefhaaDoorProg.lean LOADS. Nothing in Lean hashes anything: it is a label: what it is worth is what the hold of that sum in a sandbox is worth. -/
noncomputable def Tryd.pinned : Pinned := { name := "ytokbggokkjefhaadoor", sum := "ec39bcf93a1bf9a111abbd515d050b26c908b19447ce236dd53a68288257fa39", checked := Tryd.checked }
namespace Rows
def none {H : Type} : Left H := { results := [], args := [] }

/- WHAT THE LISTED PACKAGE-LEVEL VARIABLES READ AS WHEN THE CALL BEGINS. Each datum BY PROGRAM (the guide's laid-datum.mjs) off the statement by which the dump's own 'gosem.cut.vars' lays the variable. In a bare row this is a premise. The card (YtokbggokkjefhaaDoorCards.lean) ties it to the program's text. -/
def laid_flotsam_class_sizes {H : Type} : DataW H := .agg [.lit (.int .i64 2), .lit (.int .i64 4), .lit (.int .i64 8), .lit (.int .i64 16)]

/-- 'flotsamlaw16.ShadeBlack': WHATEVER THE INPUT: true; the input reads as it did. -/
def shadeBlackSpec : ChangeSpec := { name := "shadeBlack", fn := fun _ => fun
  | [d1, d2, d3] => { results := [.lit (.bool true)], args := [d1, d2, d3] }
  | _ => none }
def shadeBlackRow : OpenClaim := { program := "ytokbggokkjefhaadoor", sum := "ec39bcf93a1bf9a111abbd515d050b26c908b19447ce236dd53a68288257fa39", func := "flotsam/flotsamlaw16.ShadeBlack", spec := "shadeBlack", unfollowed := true, recurses := true, named := ["flotsam/class.sizes"], apart := false, laid := [("flotsam/class.sizes", laid_flotsam_class_sizes)] }
def ShadeBlackSaid : Prop := shadeBlackRow.holds Tryd.pinned (OpenSpec.ofChange shadeBlackSpec)

/-- ITS FALSE NEIGHBOUR: 'it returns false'. Refute it at one input. -/
def shadeBlackWrong : ChangeSpec := { name := "shadeBlack", fn := fun _ => fun
  | [d1, d2, d3] => { results := [.lit (.bool false)], args := [d1, d2, d3] }
  | _ => none }
def ShadeBlackWrongFalsely : Prop := shadeBlackRow.holds Tryd.pinned (OpenSpec.ofChange shadeBlackWrong)

/-- 'flotsamlaw16.ShadeKeeps': WHATEVER THE INPUT: true; the input reads as it did. -/
def shadeKeepsSpec : ChangeSpec := { name := "shadeKeeps", fn := fun _ => fun
  | [d1, d2, d3] => { results := [.lit (.bool true)], args := [d1, d2, d3] }
  | _ => none }
def shadeKeepsRow : OpenClaim := { program := "ytokbggokkjefhaadoor", sum := "ec39bcf93a1bf9a111abbd515d050b26c908b19447ce236dd53a68288257fa39", func := "flotsam/flotsamlaw16.ShadeKeeps", spec := "shadeKeeps", unfollowed := true, recurses := true, named := ["flotsam/class.sizes"], apart := false, laid := [("flotsam/class.sizes", laid_flotsam_class_sizes)] }
def ShadeKeepsSaid : Prop := shadeKeepsRow.holds Tryd.pinned (OpenSpec.ofChange shadeKeepsSpec)

/-- ITS FALSE NEIGHBOUR: 'it returns false'. Refute it at one input. -/
def shadeKeepsWrong : ChangeSpec := { name := "shadeKeeps", fn := fun _ => fun
  | [d1, d2, d3] => { results := [.lit (.bool false)], args := [d1, d2, d3] }
  | _ => none }
def ShadeKeepsWrongFalsely : Prop := shadeKeepsRow.holds Tryd.pinned (OpenSpec.ofChange shadeKeepsWrong)

/-- 'flotsamlaw16.ShadeTwice': WHATEVER THE INPUT: true; the input reads as it did. -/
def shadeTwiceSpec : ChangeSpec := { name := "shadeTwice", fn := fun _ => fun
  | [d1, d2, d3] => { results := [.lit (.bool true)], args := [d1, d2, d3] }
  | _ => none }
def shadeTwiceRow : OpenClaim := { program := "ytokbggokkjefhaadoor", sum := "ec39bcf93a1bf9a111abbd515d050b26c908b19447ce236dd53a68288257fa39", func := "flotsam/flotsamlaw16.ShadeTwice", spec := "shadeTwice", unfollowed := true, recurses := true, named := ["flotsam/class.sizes"], apart := false, laid := [("flotsam/class.sizes", laid_flotsam_class_sizes)] }
def ShadeTwiceSaid : Prop := shadeTwiceRow.holds Tryd.pinned (OpenSpec.ofChange shadeTwiceSpec)

/-- ITS FALSE NEIGHBOUR: 'it returns false'. Refute it at one input. -/
def shadeTwiceWrong : ChangeSpec := { name := "shadeTwice", fn := fun _ => fun
  | [d1, d2, d3] => { results := [.lit (.bool false)], args := [d1, d2, d3] }
  | _ => none }
def ShadeTwiceWrongFalsely : Prop := shadeTwiceRow.holds Tryd.pinned (OpenSpec.ofChange shadeTwiceWrong)

/- THE SECOND FORM. 'bulk': how many values and letters a reading holds, each counted each time it is reached (what is shared counts as often as it is met; a slice's spare places count too). A statement '..UptoSaid' is the law's where the arguments, and the package variables that the reading takes, are together of bulk at most 1048576: NARROWER than '..Said'. Prove '..Said' where nothing that the law and all that it calls make is longer than what came in: it says more and counts as full. Else prove '..UptoSaid'. A law counts once. -/
mutual
def uptoBulk {H : Type} : DataW H → Nat
  | .lit (.string bytes) => bytes.length + 1
  | .lit _ => 1
  | .nil => 1
  | .ptr d => uptoBulk d + 1
  | .slice elems spare => uptoBulkAll elems + uptoBulkAll spare + 1
  | .agg parts => uptoBulkAll parts + 1
  | .iface _ d => uptoBulk d + 1
  | .map entries => uptoBulkEntries entries + 1
  | .held _ => 1
def uptoBulkAll {H : Type} : List (DataW H) → Nat
  | [] => 0
  | d :: r => uptoBulk d + uptoBulkAll r
def uptoBulkEntries {H : Type} : List (Lit × DataW H) → Nat
  | [] => 0
  | x :: r => uptoBulkEntry x + uptoBulkEntries r
def uptoBulkEntry {H : Type} : Lit × DataW H → Nat
  | (.string bytes, d) => bytes.length + uptoBulk d + 1
  | (_, d) => uptoBulk d + 1
 end
def uptoSmall : (H : Type) → List (DataW H) → Bool := fun _ ds => decide (uptoBulkAll ds ≤ 1048576)
def OpenSpec.upto (s : _root_.Go.ChangeSpec) : _root_.Go.OpenSpec := { _root_.Go.OpenSpec.ofChange s with cond := some uptoSmall }

/-- 'flotsamlaw16.ShadeBlack', WHERE WHAT IT READS IS OF BULK AT MOST 1048576: true; the input reads as it did. -/
def shadeBlackUptoRow : OpenClaim := { program := "ytokbggokkjefhaadoor", sum := "ec39bcf93a1bf9a111abbd515d050b26c908b19447ce236dd53a68288257fa39", func := "flotsam/flotsamlaw16.ShadeBlack", spec := "shadeBlack", unfollowed := true, recurses := true, named := ["flotsam/class.sizes"], apart := false, laid := [("flotsam/class.sizes", laid_flotsam_class_sizes)], narrowed := true }
def ShadeBlackUptoSaid : Prop := shadeBlackUptoRow.holds Tryd.pinned (OpenSpec.upto shadeBlackSpec)

/-- 'flotsamlaw16.ShadeKeeps', WHERE WHAT IT READS IS OF BULK AT MOST 1048576: true; the input reads as it did. -/
def shadeKeepsUptoRow : OpenClaim := { program := "ytokbggokkjefhaadoor", sum := "ec39bcf93a1bf9a111abbd515d050b26c908b19447ce236dd53a68288257fa39", func := "flotsam/flotsamlaw16.ShadeKeeps", spec := "shadeKeeps", unfollowed := true, recurses := true, named := ["flotsam/class.sizes"], apart := false, laid := [("flotsam/class.sizes", laid_flotsam_class_sizes)], narrowed := true }
def ShadeKeepsUptoSaid : Prop := shadeKeepsUptoRow.holds Tryd.pinned (OpenSpec.upto shadeKeepsSpec)

/-- 'flotsamlaw16.ShadeTwice', WHERE WHAT IT READS IS OF BULK AT MOST 1048576: true; the input reads as it did. -/
def shadeTwiceUptoRow : OpenClaim := { program := "ytokbggokkjefhaadoor", sum := "ec39bcf93a1bf9a111abbd515d050b26c908b19447ce236dd53a68288257fa39", func := "flotsam/flotsamlaw16.ShadeTwice", spec := "shadeTwice", unfollowed := true, recurses := true, named := ["flotsam/class.sizes"], apart := false, laid := [("flotsam/class.sizes", laid_flotsam_class_sizes)], narrowed := true }
def ShadeTwiceUptoSaid : Prop := shadeTwiceUptoRow.holds Tryd.pinned (OpenSpec.upto shadeTwiceSpec)

end Rows
end Go.Proofs.YtokbggokkjefhaaDoor
