/-
  No cell of these rows narrows 'for every input' (looked for: loops, veiled, ifaces, maps, wideKeys, modest, calm, conditions, laid).
  DERIVED. THE GIVEN ROWS OF THIS SEAT. 4 by the template 'for every input the law returns true; each argument reads behind the call as it read before'; 0 by the template 'total and deterministic' (their statements: YtffcekjkgeiccaaTotals.lean).
  GIVEN WITH THE SEED: the statements are not yours to turn. If you find one false, say at which input.
  Laid BY PROGRAM, IN A SANDBOX (cutbox-rows.mjs): the forced cells as the released guide's own fill.sh prints them over the translation 32c2b7df65a8c98a… (all of the seat's roots in one cut). By AI agents, Wed Nov 11 2026. No macro, syntax, notation, axiom, sorry.
-/
import Derived.Test.YtffcekjkgeiccaaChecked
import GoSem.Claim
import GoSem.ClaimJoined
import GoSem.ClaimMapViews
import Derived.JoinedTies
import Derived.KernelRfl
namespace Go.Proofs.Ytffcekjkgeiccaa
/- THE CELL 'sum', in the pinned program and in every row, IS THE sha256 OF THE DUMP (.gsa) THAT YtffcekjkgeiccaaProg.lean LOADS. Nothing in Lean hashes anything: it is a label: what it is worth is what the hold of that sum in a sandbox is worth. -/
noncomputable def Try.pinned : Pinned := { name := "ytffcekjkgeiccaa", sum := "32c2b7df65a8c98afca277a60bbde9dbc642a61e11f99dda5a0aa191139c552f", checked := Try.checked }
namespace Rows
def none {H : Type} : Left H := { results := [], args := [] }

/-- 'flotsamlaw13.GreyDoes': WHATEVER THE INPUT: true; the input reads as it did. -/
def greyDoesSpec : ChangeSpec := { name := "greyDoes", fn := fun _ => fun
  | [d1, d2, d3] => { results := [.lit (.bool true)], args := [d1, d2, d3] }
  | _ => none }
def greyDoesRow : OpenClaim := { program := "ytffcekjkgeiccaa", sum := "32c2b7df65a8c98afca277a60bbde9dbc642a61e11f99dda5a0aa191139c552f", func := "flotsam/flotsamlaw13.GreyDoes", spec := "greyDoes", apart := false }
def GreyDoesSaid : Prop := greyDoesRow.holds Try.pinned (OpenSpec.ofChange greyDoesSpec)

/-- ITS FALSE NEIGHBOUR: 'it returns false'. Refute it at one input. -/
def greyDoesWrong : ChangeSpec := { name := "greyDoes", fn := fun _ => fun
  | [d1, d2, d3] => { results := [.lit (.bool false)], args := [d1, d2, d3] }
  | _ => none }
def GreyDoesWrongFalsely : Prop := greyDoesRow.holds Try.pinned (OpenSpec.ofChange greyDoesWrong)

/-- 'flotsamlaw13.GreyLast': WHATEVER THE INPUT: true; the input reads as it did. -/
def greyLastSpec : ChangeSpec := { name := "greyLast", fn := fun _ => fun
  | [d1, d2] => { results := [.lit (.bool true)], args := [d1, d2] }
  | _ => none }
def greyLastRow : OpenClaim := { program := "ytffcekjkgeiccaa", sum := "32c2b7df65a8c98afca277a60bbde9dbc642a61e11f99dda5a0aa191139c552f", func := "flotsam/flotsamlaw13.GreyLast", spec := "greyLast", apart := false }
def GreyLastSaid : Prop := greyLastRow.holds Try.pinned (OpenSpec.ofChange greyLastSpec)

/-- ITS FALSE NEIGHBOUR: 'it returns false'. Refute it at one input. -/
def greyLastWrong : ChangeSpec := { name := "greyLast", fn := fun _ => fun
  | [d1, d2] => { results := [.lit (.bool false)], args := [d1, d2] }
  | _ => none }
def GreyLastWrongFalsely : Prop := greyLastRow.holds Try.pinned (OpenSpec.ofChange greyLastWrong)

/-- 'flotsamlaw13.GreyKeeps': WHATEVER THE INPUT: true; the input reads as it did. -/
def greyKeepsSpec : ChangeSpec := { name := "greyKeeps", fn := fun _ => fun
  | [d1, d2] => { results := [.lit (.bool true)], args := [d1, d2] }
  | _ => none }
def greyKeepsRow : OpenClaim := { program := "ytffcekjkgeiccaa", sum := "32c2b7df65a8c98afca277a60bbde9dbc642a61e11f99dda5a0aa191139c552f", func := "flotsam/flotsamlaw13.GreyKeeps", spec := "greyKeeps", apart := false }
def GreyKeepsSaid : Prop := greyKeepsRow.holds Try.pinned (OpenSpec.ofChange greyKeepsSpec)

/-- ITS FALSE NEIGHBOUR: 'it returns false'. Refute it at one input. -/
def greyKeepsWrong : ChangeSpec := { name := "greyKeeps", fn := fun _ => fun
  | [d1, d2] => { results := [.lit (.bool false)], args := [d1, d2] }
  | _ => none }
def GreyKeepsWrongFalsely : Prop := greyKeepsRow.holds Try.pinned (OpenSpec.ofChange greyKeepsWrong)

/-- 'flotsamlaw13.GreyBack': WHATEVER THE INPUT: true; the input reads as it did. -/
def greyBackSpec : ChangeSpec := { name := "greyBack", fn := fun _ => fun
  | [d1, d2] => { results := [.lit (.bool true)], args := [d1, d2] }
  | _ => none }
def greyBackRow : OpenClaim := { program := "ytffcekjkgeiccaa", sum := "32c2b7df65a8c98afca277a60bbde9dbc642a61e11f99dda5a0aa191139c552f", func := "flotsam/flotsamlaw13.GreyBack", spec := "greyBack", apart := false }
def GreyBackSaid : Prop := greyBackRow.holds Try.pinned (OpenSpec.ofChange greyBackSpec)

/-- ITS FALSE NEIGHBOUR: 'it returns false'. Refute it at one input. -/
def greyBackWrong : ChangeSpec := { name := "greyBack", fn := fun _ => fun
  | [d1, d2] => { results := [.lit (.bool false)], args := [d1, d2] }
  | _ => none }
def GreyBackWrongFalsely : Prop := greyBackRow.holds Try.pinned (OpenSpec.ofChange greyBackWrong)

/- THE SECOND FORM. 'bulk': how many values and letters a reading holds, each counted each time it is reached (what is shared counts as often as it is met; a slice's spare places count too). A statement '..UptoSaid' is the law's where the arguments, and the package variables that the reading takes, are together of bulk at most 1048576: NARROWER than '..Said'. Prove '..Said' where nothing that the law and all that it calls make is longer than what came in: it says more and counts as full. Else prove '..UptoSaid'. A law counts once. -/
mutual
def uptoBulk {H : Type} : DataW H → Nat
  | .lit (.string bytes) => bytes.length + 1
  | .lit _ => 1
  | .nil => 1
  | .ptr d => uptoBulk d + 1
  | .slice elems spare => uptoBulkAll elems + uptoBulkAll spare + 1
  | .agg parts => uptoBulkAll parts + 1
  | .iface _ d => uptoBulk d + 1
  | .map entries => uptoBulkEntries entries + 1
  | .held _ => 1
def uptoBulkAll {H : Type} : List (DataW H) → Nat
  | [] => 0
  | d :: r => uptoBulk d + uptoBulkAll r
def uptoBulkEntries {H : Type} : List (Lit × DataW H) → Nat
  | [] => 0
  | x :: r => uptoBulkEntry x + uptoBulkEntries r
def uptoBulkEntry {H : Type} : Lit × DataW H → Nat
  | (.string bytes, d) => bytes.length + uptoBulk d + 1
  | (_, d) => uptoBulk d + 1
 end
def uptoSmall : (H : Type) → List (DataW H) → Bool := fun _ ds => decide (uptoBulkAll ds ≤ 1048576)
def OpenSpec.upto (s : _root_.Go.ChangeSpec) : _root_.Go.OpenSpec := { _root_.Go.OpenSpec.ofChange s with cond := some uptoSmall }

/-- 'flotsamlaw13.GreyDoes', WHERE WHAT IT READS IS OF BULK AT MOST 1048576: true; the input reads as it did. -/
def greyDoesUptoRow : OpenClaim := { program := "ytffcekjkgeiccaa", sum := "32c2b7df65a8c98afca277a60bbde9dbc642a61e11f99dda5a0aa191139c552f", func := "flotsam/flotsamlaw13.GreyDoes", spec := "greyDoes", apart := false, narrowed := true }
def GreyDoesUptoSaid : Prop := greyDoesUptoRow.holds Try.pinned (OpenSpec.upto greyDoesSpec)

/-- 'flotsamlaw13.GreyLast', WHERE WHAT IT READS IS OF BULK AT MOST 1048576: true; the input reads as it did. -/
def greyLastUptoRow : OpenClaim := { program := "ytffcekjkgeiccaa", sum := "32c2b7df65a8c98afca277a60bbde9dbc642a61e11f99dda5a0aa191139c552f", func := "flotsam/flotsamlaw13.GreyLast", spec := "greyLast", apart := false, narrowed := true }
def GreyLastUptoSaid : Prop := greyLastUptoRow.holds Try.pinned (OpenSpec.upto greyLastSpec)

/-- 'flotsamlaw13.GreyKeeps', WHERE WHAT IT READS IS OF BULK AT MOST 1048576: true; the input reads as it did. -/
def greyKeepsUptoRow : OpenClaim := { program := "ytffcekjkgeiccaa", sum := "32c2b7df65a8c98afca277a60bbde9dbc642a61e11f99dda5a0aa191139c552f", func := "flotsam/flotsamlaw13.GreyKeeps", spec := "greyKeeps", apart := false, narrowed := true }
def GreyKeepsUptoSaid : Prop := greyKeepsUptoRow.holds Try.pinned (OpenSpec.upto greyKeepsSpec)

/-- 'flotsamlaw13.GreyBack', WHERE WHAT IT READS IS OF BULK AT MOST 1048576: true; the input reads as it did. -/
def greyBackUptoRow : OpenClaim := { program := "ytffcekjkgeiccaa", sum := "32c2b7df65a8c98afca277a60bbde9dbc642a61e11f99dda5a0aa191139c552f", func := "flotsam/flotsamlaw13.GreyBack", spec := "greyBack", apart := false, narrowed := true }
def GreyBackUptoSaid : Prop := greyBackUptoRow.holds Try.pinned (OpenSpec.upto greyBackSpec)

end Rows
end Go.Proofs.Ytffcekjkgeiccaa
