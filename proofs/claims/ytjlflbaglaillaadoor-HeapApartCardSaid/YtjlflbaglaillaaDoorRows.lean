/-
  NARROWER THAN 'FOR EVERY INPUT', by the rows' own cells (each row's printed sentence says how): HeapForms: laid · HeapDoes: laid · HeapApart: laid · HeapKeeps: laid · HeapBack: laid · HeapColour: laid.
  DERIVED. THE GIVEN ROWS OF THIS SEAT. 6 by the template 'for every input the law returns true; each argument reads behind the call as it read before'; 0 by the template 'total and deterministic' (their statements: YtjlflbaglaillaaDoorTotals.lean).
  GIVEN WITH THE SEED: the statements are not yours to turn. If you find one false, say at which input.
  Laid BY PROGRAM, IN A SANDBOX (cutbox-rows.mjs): the forced cells as the released guide's own fill.sh prints them over the translation 3f654b7e0a68c63d… (all of the seat's roots in one cut). By AI agents, Wed Nov 11 2026. No macro, syntax, notation, axiom, sorry.
-/
import Derived.Test.YtjlflbaglaillaaDoorChecked
import GoSem.Claim
import GoSem.ClaimJoined
import GoSem.ClaimMapViews
import Derived.JoinedTies
import Derived.KernelRfl
namespace Go.Proofs.YtjlflbaglaillaaDoor
/- THE CELL 'sum', in the pinned program and in every row, IS THE sha256 OF THE DUMP (.gsa) THAT YtjlflbaglaillaaDoorProg.lean LOADS. Nothing in Lean hashes anything: it is a label: what it is worth is what the hold of that sum in a sandbox is worth. -/
noncomputable def Tryd.pinned : Pinned := { name := "ytjlflbaglaillaadoor", sum := "3f654b7e0a68c63d6dba8cc6add415f6b1e012a99d339773cc9e0c811184974d", checked := Tryd.checked }
namespace Rows
def none {H : Type} : Left H := { results := [], args := [] }

/- WHAT THE LISTED PACKAGE-LEVEL VARIABLES READ AS WHEN THE CALL BEGINS. Each datum BY PROGRAM (the guide's laid-datum.mjs) off the statement by which the dump's own 'gosem.cut.vars' lays the variable. In a bare row this is a premise. The card (YtjlflbaglaillaaDoorCards.lean) ties it to the program's text. -/
def laid_flotsam_class_sizes {H : Type} : DataW H := .agg [.lit (.int .i64 2), .lit (.int .i64 4), .lit (.int .i64 8), .lit (.int .i64 16)]
def laid_math_bits_deBruijn32tab {H : Type} : DataW H := .agg [.lit (.int .u8 0), .lit (.int .u8 1), .lit (.int .u8 28), .lit (.int .u8 2), .lit (.int .u8 29), .lit (.int .u8 14), .lit (.int .u8 24), .lit (.int .u8 3), .lit (.int .u8 30), .lit (.int .u8 22), .lit (.int .u8 20), .lit (.int .u8 15), .lit (.int .u8 25), .lit (.int .u8 17), .lit (.int .u8 4), .lit (.int .u8 8), .lit (.int .u8 31), .lit (.int .u8 27), .lit (.int .u8 13), .lit (.int .u8 23), .lit (.int .u8 21), .lit (.int .u8 19), .lit (.int .u8 16), .lit (.int .u8 7), .lit (.int .u8 26), .lit (.int .u8 12), .lit (.int .u8 18), .lit (.int .u8 6), .lit (.int .u8 11), .lit (.int .u8 5), .lit (.int .u8 10), .lit (.int .u8 9)]

/-- 'flotsamlaw07.HeapForms': WHATEVER THE INPUT: true; the input reads as it did. -/
def heapFormsSpec : ChangeSpec := { name := "heapForms", fn := fun _ => fun
  | [d1, d2, d3] => { results := [.lit (.bool true)], args := [d1, d2, d3] }
  | _ => none }
def heapFormsRow : OpenClaim := { program := "ytjlflbaglaillaadoor", sum := "3f654b7e0a68c63d6dba8cc6add415f6b1e012a99d339773cc9e0c811184974d", func := "flotsam/flotsamlaw07.HeapForms", spec := "heapForms", unfollowed := true, recurses := true, named := ["flotsam/class.sizes", "math/bits.deBruijn32tab"], apart := false, laid := [("flotsam/class.sizes", laid_flotsam_class_sizes), ("math/bits.deBruijn32tab", laid_math_bits_deBruijn32tab)] }
def HeapFormsSaid : Prop := heapFormsRow.holds Tryd.pinned (OpenSpec.ofChange heapFormsSpec)

/-- ITS FALSE NEIGHBOUR: 'it returns false'. Refute it at one input. -/
def heapFormsWrong : ChangeSpec := { name := "heapForms", fn := fun _ => fun
  | [d1, d2, d3] => { results := [.lit (.bool false)], args := [d1, d2, d3] }
  | _ => none }
def HeapFormsWrongFalsely : Prop := heapFormsRow.holds Tryd.pinned (OpenSpec.ofChange heapFormsWrong)

/-- 'flotsamlaw07.HeapDoes': WHATEVER THE INPUT: true; the input reads as it did. -/
def heapDoesSpec : ChangeSpec := { name := "heapDoes", fn := fun _ => fun
  | [d1, d2, d3] => { results := [.lit (.bool true)], args := [d1, d2, d3] }
  | _ => none }
def heapDoesRow : OpenClaim := { program := "ytjlflbaglaillaadoor", sum := "3f654b7e0a68c63d6dba8cc6add415f6b1e012a99d339773cc9e0c811184974d", func := "flotsam/flotsamlaw07.HeapDoes", spec := "heapDoes", unfollowed := true, recurses := true, named := ["flotsam/class.sizes", "math/bits.deBruijn32tab"], apart := false, laid := [("flotsam/class.sizes", laid_flotsam_class_sizes), ("math/bits.deBruijn32tab", laid_math_bits_deBruijn32tab)] }
def HeapDoesSaid : Prop := heapDoesRow.holds Tryd.pinned (OpenSpec.ofChange heapDoesSpec)

/-- ITS FALSE NEIGHBOUR: 'it returns false'. Refute it at one input. -/
def heapDoesWrong : ChangeSpec := { name := "heapDoes", fn := fun _ => fun
  | [d1, d2, d3] => { results := [.lit (.bool false)], args := [d1, d2, d3] }
  | _ => none }
def HeapDoesWrongFalsely : Prop := heapDoesRow.holds Tryd.pinned (OpenSpec.ofChange heapDoesWrong)

/-- 'flotsamlaw07.HeapApart': WHATEVER THE INPUT: true; the input reads as it did. -/
def heapApartSpec : ChangeSpec := { name := "heapApart", fn := fun _ => fun
  | [d1, d2] => { results := [.lit (.bool true)], args := [d1, d2] }
  | _ => none }
def heapApartRow : OpenClaim := { program := "ytjlflbaglaillaadoor", sum := "3f654b7e0a68c63d6dba8cc6add415f6b1e012a99d339773cc9e0c811184974d", func := "flotsam/flotsamlaw07.HeapApart", spec := "heapApart", unfollowed := true, recurses := true, named := ["flotsam/class.sizes", "math/bits.deBruijn32tab"], apart := false, laid := [("flotsam/class.sizes", laid_flotsam_class_sizes), ("math/bits.deBruijn32tab", laid_math_bits_deBruijn32tab)] }
def HeapApartSaid : Prop := heapApartRow.holds Tryd.pinned (OpenSpec.ofChange heapApartSpec)

/-- ITS FALSE NEIGHBOUR: 'it returns false'. Refute it at one input. -/
def heapApartWrong : ChangeSpec := { name := "heapApart", fn := fun _ => fun
  | [d1, d2] => { results := [.lit (.bool false)], args := [d1, d2] }
  | _ => none }
def HeapApartWrongFalsely : Prop := heapApartRow.holds Tryd.pinned (OpenSpec.ofChange heapApartWrong)

/-- 'flotsamlaw07.HeapKeeps': WHATEVER THE INPUT: true; the input reads as it did. -/
def heapKeepsSpec : ChangeSpec := { name := "heapKeeps", fn := fun _ => fun
  | [d1, d2, d3] => { results := [.lit (.bool true)], args := [d1, d2, d3] }
  | _ => none }
def heapKeepsRow : OpenClaim := { program := "ytjlflbaglaillaadoor", sum := "3f654b7e0a68c63d6dba8cc6add415f6b1e012a99d339773cc9e0c811184974d", func := "flotsam/flotsamlaw07.HeapKeeps", spec := "heapKeeps", unfollowed := true, recurses := true, named := ["flotsam/class.sizes", "math/bits.deBruijn32tab"], apart := false, laid := [("flotsam/class.sizes", laid_flotsam_class_sizes), ("math/bits.deBruijn32tab", laid_math_bits_deBruijn32tab)] }
def HeapKeepsSaid : Prop := heapKeepsRow.holds Tryd.pinned (OpenSpec.ofChange heapKeepsSpec)

/-- ITS FALSE NEIGHBOUR: 'it returns false'. Refute it at one input. -/
def heapKeepsWrong : ChangeSpec := { name := "heapKeeps", fn := fun _ => fun
  | [d1, d2, d3] => { results := [.lit (.bool false)], args := [d1, d2, d3] }
  | _ => none }
def HeapKeepsWrongFalsely : Prop := heapKeepsRow.holds Tryd.pinned (OpenSpec.ofChange heapKeepsWrong)

/-- 'flotsamlaw07.HeapBack': WHATEVER THE INPUT: true; the input reads as it did. -/
def heapBackSpec : ChangeSpec := { name := "heapBack", fn := fun _ => fun
  | [d1, d2, d3] => { results := [.lit (.bool true)], args := [d1, d2, d3] }
  | _ => none }
def heapBackRow : OpenClaim := { program := "ytjlflbaglaillaadoor", sum := "3f654b7e0a68c63d6dba8cc6add415f6b1e012a99d339773cc9e0c811184974d", func := "flotsam/flotsamlaw07.HeapBack", spec := "heapBack", unfollowed := true, recurses := true, named := ["flotsam/class.sizes", "math/bits.deBruijn32tab"], apart := false, laid := [("flotsam/class.sizes", laid_flotsam_class_sizes), ("math/bits.deBruijn32tab", laid_math_bits_deBruijn32tab)] }
def HeapBackSaid : Prop := heapBackRow.holds Tryd.pinned (OpenSpec.ofChange heapBackSpec)

/-- ITS FALSE NEIGHBOUR: 'it returns false'. Refute it at one input. -/
def heapBackWrong : ChangeSpec := { name := "heapBack", fn := fun _ => fun
  | [d1, d2, d3] => { results := [.lit (.bool false)], args := [d1, d2, d3] }
  | _ => none }
def HeapBackWrongFalsely : Prop := heapBackRow.holds Tryd.pinned (OpenSpec.ofChange heapBackWrong)

/-- 'flotsamlaw07.HeapColour': WHATEVER THE INPUT: true; the input reads as it did. -/
def heapColourSpec : ChangeSpec := { name := "heapColour", fn := fun _ => fun
  | [d1, d2, d3] => { results := [.lit (.bool true)], args := [d1, d2, d3] }
  | _ => none }
def heapColourRow : OpenClaim := { program := "ytjlflbaglaillaadoor", sum := "3f654b7e0a68c63d6dba8cc6add415f6b1e012a99d339773cc9e0c811184974d", func := "flotsam/flotsamlaw07.HeapColour", spec := "heapColour", unfollowed := true, recurses := true, named := ["flotsam/class.sizes", "math/bits.deBruijn32tab"], apart := false, laid := [("flotsam/class.sizes", laid_flotsam_class_sizes), ("math/bits.deBruijn32tab", laid_math_bits_deBruijn32tab)] }
def HeapColourSaid : Prop := heapColourRow.holds Tryd.pinned (OpenSpec.ofChange heapColourSpec)

/-- ITS FALSE NEIGHBOUR: 'it returns false'. Refute it at one input. -/
def heapColourWrong : ChangeSpec := { name := "heapColour", fn := fun _ => fun
  | [d1, d2, d3] => { results := [.lit (.bool false)], args := [d1, d2, d3] }
  | _ => none }
def HeapColourWrongFalsely : Prop := heapColourRow.holds Tryd.pinned (OpenSpec.ofChange heapColourWrong)

/- THE SECOND FORM. 'bulk': how many values and letters a reading holds, each counted each time it is reached (what is shared counts as often as it is met; a slice's spare places count too). A statement '..UptoSaid' is the law's where the arguments, and the package variables that the reading takes, are together of bulk at most 1048576: NARROWER than '..Said'. Prove '..Said' where nothing that the law and all that it calls make is longer than what came in: it says more and counts as full. Else prove '..UptoSaid'. A law counts once. -/
mutual
def uptoBulk {H : Type} : DataW H → Nat
  | .lit (.string bytes) => bytes.length + 1
  | .lit _ => 1
  | .nil => 1
  | .ptr d => uptoBulk d + 1
  | .slice elems spare => uptoBulkAll elems + uptoBulkAll spare + 1
  | .agg parts => uptoBulkAll parts + 1
  | .iface _ d => uptoBulk d + 1
  | .map entries => uptoBulkEntries entries + 1
  | .held _ => 1
def uptoBulkAll {H : Type} : List (DataW H) → Nat
  | [] => 0
  | d :: r => uptoBulk d + uptoBulkAll r
def uptoBulkEntries {H : Type} : List (Lit × DataW H) → Nat
  | [] => 0
  | x :: r => uptoBulkEntry x + uptoBulkEntries r
def uptoBulkEntry {H : Type} : Lit × DataW H → Nat
  | (.string bytes, d) => bytes.length + uptoBulk d + 1
  | (_, d) => uptoBulk d + 1
 end
def uptoSmall : (H : Type) → List (DataW H) → Bool := fun _ ds => decide (uptoBulkAll ds ≤ 1048576)
def OpenSpec.upto (s : _root_.Go.ChangeSpec) : _root_.Go.OpenSpec := { _root_.Go.OpenSpec.ofChange s with cond := some uptoSmall }

/-- 'flotsamlaw07.HeapForms', WHERE WHAT IT READS IS OF BULK AT MOST 1048576: true; the input reads as it did. -/
def heapFormsUptoRow : OpenClaim := { program := "ytjlflbaglaillaadoor", sum := "3f654b7e0a68c63d6dba8cc6add415f6b1e012a99d339773cc9e0c811184974d", func := "flotsam/flotsamlaw07.HeapForms", spec := "heapForms", unfollowed := true, recurses := true, named := ["flotsam/class.sizes", "math/bits.deBruijn32tab"], apart := false, laid := [("flotsam/class.sizes", laid_flotsam_class_sizes), ("math/bits.deBruijn32tab", laid_math_bits_deBruijn32tab)], narrowed := true }
def HeapFormsUptoSaid : Prop := heapFormsUptoRow.holds Tryd.pinned (OpenSpec.upto heapFormsSpec)

/-- 'flotsamlaw07.HeapDoes', WHERE WHAT IT READS IS OF BULK AT MOST 1048576: true; the input reads as it did. -/
def heapDoesUptoRow : OpenClaim := { program := "ytjlflbaglaillaadoor", sum := "3f654b7e0a68c63d6dba8cc6add415f6b1e012a99d339773cc9e0c811184974d", func := "flotsam/flotsamlaw07.HeapDoes", spec := "heapDoes", unfollowed := true, recurses := true, named := ["flotsam/class.sizes", "math/bits.deBruijn32tab"], apart := false, laid := [("flotsam/class.sizes", laid_flotsam_class_sizes), ("math/bits.deBruijn32tab", laid_math_bits_deBruijn32tab)], narrowed := true }
def HeapDoesUptoSaid : Prop := heapDoesUptoRow.holds Tryd.pinned (OpenSpec.upto heapDoesSpec)

/-- 'flotsamlaw07.HeapApart', WHERE WHAT IT READS IS OF BULK AT MOST 1048576: true; the input reads as it did. -/
def heapApartUptoRow : OpenClaim := { program := "ytjlflbaglaillaadoor", sum := "3f654b7e0a68c63d6dba8cc6add415f6b1e012a99d339773cc9e0c811184974d", func := "flotsam/flotsamlaw07.HeapApart", spec := "heapApart", unfollowed := true, recurses := true, named := ["flotsam/class.sizes", "math/bits.deBruijn32tab"], apart := false, laid := [("flotsam/class.sizes", laid_flotsam_class_sizes), ("math/bits.deBruijn32tab", laid_math_bits_deBruijn32tab)], narrowed := true }
def HeapApartUptoSaid : Prop := heapApartUptoRow.holds Tryd.pinned (OpenSpec.upto heapApartSpec)

/-- 'flotsamlaw07.HeapKeeps', WHERE WHAT IT READS IS OF BULK AT MOST 1048576: true; the input reads as it did. -/
def heapKeepsUptoRow : OpenClaim := { program := "ytjlflbaglaillaadoor", sum := "3f654b7e0a68c63d6dba8cc6add415f6b1e012a99d339773cc9e0c811184974d", func := "flotsam/flotsamlaw07.HeapKeeps", spec := "heapKeeps", unfollowed := true, recurses := true, named := ["flotsam/class.sizes", "math/bits.deBruijn32tab"], apart := false, laid := [("flotsam/class.sizes", laid_flotsam_class_sizes), ("math/bits.deBruijn32tab", laid_math_bits_deBruijn32tab)], narrowed := true }
def HeapKeepsUptoSaid : Prop := heapKeepsUptoRow.holds Tryd.pinned (OpenSpec.upto heapKeepsSpec)

/-- 'flotsamlaw07.HeapBack', WHERE WHAT IT READS IS OF BULK AT MOST 1048576: true; the input reads as it did. -/
def heapBackUptoRow : OpenClaim := { program := "ytjlflbaglaillaadoor", sum := "3f654b7e0a68c63d6dba8cc6add415f6b1e012a99d339773cc9e0c811184974d", func := "flotsam/flotsamlaw07.HeapBack", spec := "heapBack", unfollowed := true, recurses := true, named := ["flotsam/class.sizes", "math/bits.deBruijn32tab"], apart := false, laid := [("flotsam/class.sizes", laid_flotsam_class_sizes), ("math/bits.deBruijn32tab", laid_math_bits_deBruijn32tab)], narrowed := true }
def HeapBackUptoSaid : Prop := heapBackUptoRow.holds Tryd.pinned (OpenSpec.upto heapBackSpec)

/-- 'flotsamlaw07.HeapColour', WHERE WHAT IT READS IS OF BULK AT MOST 1048576: true; the input reads as it did. -/
def heapColourUptoRow : OpenClaim := { program := "ytjlflbaglaillaadoor", sum := "3f654b7e0a68c63d6dba8cc6add415f6b1e012a99d339773cc9e0c811184974d", func := "flotsam/flotsamlaw07.HeapColour", spec := "heapColour", unfollowed := true, recurses := true, named := ["flotsam/class.sizes", "math/bits.deBruijn32tab"], apart := false, laid := [("flotsam/class.sizes", laid_flotsam_class_sizes), ("math/bits.deBruijn32tab", laid_math_bits_deBruijn32tab)], narrowed := true }
def HeapColourUptoSaid : Prop := heapColourUptoRow.holds Tryd.pinned (OpenSpec.upto heapColourSpec)

end Rows
end Go.Proofs.YtjlflbaglaillaaDoor
