/-
  NARROWER THAN 'FOR EVERY INPUT', by the rows' own cells (each row's printed sentence says how): ArenaNews: laid · ArenaStores: laid · ArenaPlaces: laid · ArenaHolds: laid · ArenaKeeps: laid · ArenaTurned: laid.
  DERIVED. THE GIVEN ROWS OF THIS SEAT. 6 by the template 'for every input the law returns true; each argument reads behind the call as it read before'; 0 by the template 'total and deterministic' (their statements: YtjhclnalgdnplaaDoorTotals.lean).
  GIVEN WITH THE SEED: the statements are not yours to turn. If you find one false, say at which input.
  Laid BY PROGRAM, IN A SANDBOX (cutbox-rows.mjs): the forced cells as the released guide's own fill.sh prints them over the translation d3883b06a894d361… (all of the seat's roots in one cut). By AI agents, Wed Nov 11 2026. No macro, syntax, notation, axiom, sorry.
-/
import Derived.Test.YtjhclnalgdnplaaDoorChecked
import GoSem.Claim
import GoSem.ClaimJoined
import GoSem.ClaimMapViews
import Derived.JoinedTies
import Derived.KernelRfl
namespace Go.Proofs.YtjhclnalgdnplaaDoor
/- THE CELL 'sum', in the pinned program and in every row, IS THE sha256 OF THE DUMP (.gsa) THAT YtjhclnalgdnplaaDoorProg.lean LOADS. Nothing in Lean hashes anything: it is a label: what it is worth is what the hold of that sum in a sandbox is worth. -/
noncomputable def Tryd.pinned : Pinned := { name := "ytjhclnalgdnplaadoor", sum := "d3883b06a894d361b2760bd2816f9a792218fb1ea508f82cc95cdc2f5123300f", checked := Tryd.checked }
namespace Rows
def none {H : Type} : Left H := { results := [], args := [] }

/- WHAT THE LISTED PACKAGE-LEVEL VARIABLES READ AS WHEN THE CALL BEGINS. Each datum BY PROGRAM (the guide's laid-datum.mjs) off the statement by which the dump's own 'gosem.cut.vars' lays the variable. In a bare row this is a premise. The card (YtjhclnalgdnplaaDoorCards.lean) ties it to the program's text. -/
def laid_flotsam_class_sizes {H : Type} : DataW H := .agg [.lit (.int .i64 2), .lit (.int .i64 4), .lit (.int .i64 8), .lit (.int .i64 16)]

/-- 'flotsamlaw05.ArenaNews': WHATEVER THE INPUT: true; the input reads as it did. -/
def arenaNewsSpec : ChangeSpec := { name := "arenaNews", fn := fun _ => fun
  | [d] => { results := [.lit (.bool true)], args := [d] }
  | _ => none }
def arenaNewsRow : OpenClaim := { program := "ytjhclnalgdnplaadoor", sum := "d3883b06a894d361b2760bd2816f9a792218fb1ea508f82cc95cdc2f5123300f", func := "flotsam/flotsamlaw05.ArenaNews", spec := "arenaNews", named := ["flotsam/class.sizes"], apart := false, laid := [("flotsam/class.sizes", laid_flotsam_class_sizes)] }
def ArenaNewsSaid : Prop := arenaNewsRow.holds Tryd.pinned (OpenSpec.ofChange arenaNewsSpec)

/-- ITS FALSE NEIGHBOUR: 'it returns false'. Refute it at one input. -/
def arenaNewsWrong : ChangeSpec := { name := "arenaNews", fn := fun _ => fun
  | [d] => { results := [.lit (.bool false)], args := [d] }
  | _ => none }
def ArenaNewsWrongFalsely : Prop := arenaNewsRow.holds Tryd.pinned (OpenSpec.ofChange arenaNewsWrong)

/-- 'flotsamlaw05.ArenaStores': WHATEVER THE INPUT: true; the input reads as it did. -/
def arenaStoresSpec : ChangeSpec := { name := "arenaStores", fn := fun _ => fun
  | [d1, d2, d3] => { results := [.lit (.bool true)], args := [d1, d2, d3] }
  | _ => none }
def arenaStoresRow : OpenClaim := { program := "ytjhclnalgdnplaadoor", sum := "d3883b06a894d361b2760bd2816f9a792218fb1ea508f82cc95cdc2f5123300f", func := "flotsam/flotsamlaw05.ArenaStores", spec := "arenaStores", named := ["flotsam/class.sizes"], apart := false, laid := [("flotsam/class.sizes", laid_flotsam_class_sizes)] }
def ArenaStoresSaid : Prop := arenaStoresRow.holds Tryd.pinned (OpenSpec.ofChange arenaStoresSpec)

/-- ITS FALSE NEIGHBOUR: 'it returns false'. Refute it at one input. -/
def arenaStoresWrong : ChangeSpec := { name := "arenaStores", fn := fun _ => fun
  | [d1, d2, d3] => { results := [.lit (.bool false)], args := [d1, d2, d3] }
  | _ => none }
def ArenaStoresWrongFalsely : Prop := arenaStoresRow.holds Tryd.pinned (OpenSpec.ofChange arenaStoresWrong)

/-- 'flotsamlaw05.ArenaPlaces': WHATEVER THE INPUT: true; the input reads as it did. -/
def arenaPlacesSpec : ChangeSpec := { name := "arenaPlaces", fn := fun _ => fun
  | [d1, d2, d3, d4] => { results := [.lit (.bool true)], args := [d1, d2, d3, d4] }
  | _ => none }
def arenaPlacesRow : OpenClaim := { program := "ytjhclnalgdnplaadoor", sum := "d3883b06a894d361b2760bd2816f9a792218fb1ea508f82cc95cdc2f5123300f", func := "flotsam/flotsamlaw05.ArenaPlaces", spec := "arenaPlaces", named := ["flotsam/class.sizes"], apart := false, laid := [("flotsam/class.sizes", laid_flotsam_class_sizes)] }
def ArenaPlacesSaid : Prop := arenaPlacesRow.holds Tryd.pinned (OpenSpec.ofChange arenaPlacesSpec)

/-- ITS FALSE NEIGHBOUR: 'it returns false'. Refute it at one input. -/
def arenaPlacesWrong : ChangeSpec := { name := "arenaPlaces", fn := fun _ => fun
  | [d1, d2, d3, d4] => { results := [.lit (.bool false)], args := [d1, d2, d3, d4] }
  | _ => none }
def ArenaPlacesWrongFalsely : Prop := arenaPlacesRow.holds Tryd.pinned (OpenSpec.ofChange arenaPlacesWrong)

/-- 'flotsamlaw05.ArenaHolds': WHATEVER THE INPUT: true; the input reads as it did. -/
def arenaHoldsSpec : ChangeSpec := { name := "arenaHolds", fn := fun _ => fun
  | [d1, d2, d3, d4, d5, d6, d7] => { results := [.lit (.bool true)], args := [d1, d2, d3, d4, d5, d6, d7] }
  | _ => none }
def arenaHoldsRow : OpenClaim := { program := "ytjhclnalgdnplaadoor", sum := "d3883b06a894d361b2760bd2816f9a792218fb1ea508f82cc95cdc2f5123300f", func := "flotsam/flotsamlaw05.ArenaHolds", spec := "arenaHolds", named := ["flotsam/class.sizes"], apart := false, laid := [("flotsam/class.sizes", laid_flotsam_class_sizes)] }
def ArenaHoldsSaid : Prop := arenaHoldsRow.holds Tryd.pinned (OpenSpec.ofChange arenaHoldsSpec)

/-- ITS FALSE NEIGHBOUR: 'it returns false'. Refute it at one input. -/
def arenaHoldsWrong : ChangeSpec := { name := "arenaHolds", fn := fun _ => fun
  | [d1, d2, d3, d4, d5, d6, d7] => { results := [.lit (.bool false)], args := [d1, d2, d3, d4, d5, d6, d7] }
  | _ => none }
def ArenaHoldsWrongFalsely : Prop := arenaHoldsRow.holds Tryd.pinned (OpenSpec.ofChange arenaHoldsWrong)

/-- 'flotsamlaw05.ArenaKeeps': WHATEVER THE INPUT: true; the input reads as it did. -/
def arenaKeepsSpec : ChangeSpec := { name := "arenaKeeps", fn := fun _ => fun
  | [d1, d2, d3] => { results := [.lit (.bool true)], args := [d1, d2, d3] }
  | _ => none }
def arenaKeepsRow : OpenClaim := { program := "ytjhclnalgdnplaadoor", sum := "d3883b06a894d361b2760bd2816f9a792218fb1ea508f82cc95cdc2f5123300f", func := "flotsam/flotsamlaw05.ArenaKeeps", spec := "arenaKeeps", named := ["flotsam/class.sizes"], apart := false, laid := [("flotsam/class.sizes", laid_flotsam_class_sizes)] }
def ArenaKeepsSaid : Prop := arenaKeepsRow.holds Tryd.pinned (OpenSpec.ofChange arenaKeepsSpec)

/-- ITS FALSE NEIGHBOUR: 'it returns false'. Refute it at one input. -/
def arenaKeepsWrong : ChangeSpec := { name := "arenaKeeps", fn := fun _ => fun
  | [d1, d2, d3] => { results := [.lit (.bool false)], args := [d1, d2, d3] }
  | _ => none }
def ArenaKeepsWrongFalsely : Prop := arenaKeepsRow.holds Tryd.pinned (OpenSpec.ofChange arenaKeepsWrong)

/-- 'flotsamlaw05.ArenaTurned': WHATEVER THE INPUT: true; the input reads as it did. -/
def arenaTurnedSpec : ChangeSpec := { name := "arenaTurned", fn := fun _ => fun
  | [d1, d2, d3, d4, d5] => { results := [.lit (.bool true)], args := [d1, d2, d3, d4, d5] }
  | _ => none }
def arenaTurnedRow : OpenClaim := { program := "ytjhclnalgdnplaadoor", sum := "d3883b06a894d361b2760bd2816f9a792218fb1ea508f82cc95cdc2f5123300f", func := "flotsam/flotsamlaw05.ArenaTurned", spec := "arenaTurned", named := ["flotsam/class.sizes"], apart := false, laid := [("flotsam/class.sizes", laid_flotsam_class_sizes)] }
def ArenaTurnedSaid : Prop := arenaTurnedRow.holds Tryd.pinned (OpenSpec.ofChange arenaTurnedSpec)

/-- ITS FALSE NEIGHBOUR: 'it returns false'. Refute it at one input. -/
def arenaTurnedWrong : ChangeSpec := { name := "arenaTurned", fn := fun _ => fun
  | [d1, d2, d3, d4, d5] => { results := [.lit (.bool false)], args := [d1, d2, d3, d4, d5] }
  | _ => none }
def ArenaTurnedWrongFalsely : Prop := arenaTurnedRow.holds Tryd.pinned (OpenSpec.ofChange arenaTurnedWrong)

/- THE SECOND FORM. 'bulk': how many values and letters a reading holds, each counted each time it is reached (what is shared counts as often as it is met; a slice's spare places count too). A statement '..UptoSaid' is the law's where the arguments, and the package variables that the reading takes, are together of bulk at most 1048576: NARROWER than '..Said'. Prove '..Said' where nothing that the law and all that it calls make is longer than what came in: it says more and counts as full. Else prove '..UptoSaid'. A law counts once. -/
mutual
def uptoBulk {H : Type} : DataW H → Nat
  | .lit (.string bytes) => bytes.length + 1
  | .lit _ => 1
  | .nil => 1
  | .ptr d => uptoBulk d + 1
  | .slice elems spare => uptoBulkAll elems + uptoBulkAll spare + 1
  | .agg parts => uptoBulkAll parts + 1
  | .iface _ d => uptoBulk d + 1
  | .map entries => uptoBulkEntries entries + 1
  | .held _ => 1
def uptoBulkAll {H : Type} : List (DataW H) → Nat
  | [] => 0
  | d :: r => uptoBulk d + uptoBulkAll r
def uptoBulkEntries {H : Type} : List (Lit × DataW H) → Nat
  | [] => 0
  | x :: r => uptoBulkEntry x + uptoBulkEntries r
def uptoBulkEntry {H : Type} : Lit × DataW H → Nat
  | (.string bytes, d) => bytes.length + uptoBulk d + 1
  | (_, d) => uptoBulk d + 1
 end
def uptoSmall : (H : Type) → List (DataW H) → Bool := fun _ ds => decide (uptoBulkAll ds ≤ 1048576)
def OpenSpec.upto (s : _root_.Go.ChangeSpec) : _root_.Go.OpenSpec := { _root_.Go.OpenSpec.ofChange s with cond := some uptoSmall }

/-- 'flotsamlaw05.ArenaNews', WHERE WHAT IT READS IS OF BULK AT MOST 1048576: true; the input reads as it did. -/
def arenaNewsUptoRow : OpenClaim := { program := "ytjhclnalgdnplaadoor", sum := "d3883b06a894d361b2760bd2816f9a792218fb1ea508f82cc95cdc2f5123300f", func := "flotsam/flotsamlaw05.ArenaNews", spec := "arenaNews", named := ["flotsam/class.sizes"], apart := false, laid := [("flotsam/class.sizes", laid_flotsam_class_sizes)], narrowed := true }
def ArenaNewsUptoSaid : Prop := arenaNewsUptoRow.holds Tryd.pinned (OpenSpec.upto arenaNewsSpec)

/-- 'flotsamlaw05.ArenaStores', WHERE WHAT IT READS IS OF BULK AT MOST 1048576: true; the input reads as it did. -/
def arenaStoresUptoRow : OpenClaim := { program := "ytjhclnalgdnplaadoor", sum := "d3883b06a894d361b2760bd2816f9a792218fb1ea508f82cc95cdc2f5123300f", func := "flotsam/flotsamlaw05.ArenaStores", spec := "arenaStores", named := ["flotsam/class.sizes"], apart := false, laid := [("flotsam/class.sizes", laid_flotsam_class_sizes)], narrowed := true }
def ArenaStoresUptoSaid : Prop := arenaStoresUptoRow.holds Tryd.pinned (OpenSpec.upto arenaStoresSpec)

/-- 'flotsamlaw05.ArenaPlaces', WHERE WHAT IT READS IS OF BULK AT MOST 1048576: true; the input reads as it did. -/
def arenaPlacesUptoRow : OpenClaim := { program := "ytjhclnalgdnplaadoor", sum := "d3883b06a894d361b2760bd2816f9a792218fb1ea508f82cc95cdc2f5123300f", func := "flotsam/flotsamlaw05.ArenaPlaces", spec := "arenaPlaces", named := ["flotsam/class.sizes"], apart := false, laid := [("flotsam/class.sizes", laid_flotsam_class_sizes)], narrowed := true }
def ArenaPlacesUptoSaid : Prop := arenaPlacesUptoRow.holds Tryd.pinned (OpenSpec.upto arenaPlacesSpec)

/-- 'flotsamlaw05.ArenaHolds', WHERE WHAT IT READS IS OF BULK AT MOST 1048576: true; the input reads as it did. -/
def arenaHoldsUptoRow : OpenClaim := { program := "ytjhclnalgdnplaadoor", sum := "d3883b06a894d361b2760bd2816f9a792218fb1ea508f82cc95cdc2f5123300f", func := "flotsam/flotsamlaw05.ArenaHolds", spec := "arenaHolds", named := ["flotsam/class.sizes"], apart := false, laid := [("flotsam/class.sizes", laid_flotsam_class_sizes)], narrowed := true }
def ArenaHoldsUptoSaid : Prop := arenaHoldsUptoRow.holds Tryd.pinned (OpenSpec.upto arenaHoldsSpec)

/-- 'flotsamlaw05.ArenaKeeps', WHERE WHAT IT READS IS OF BULK AT MOST 1048576: true; the input reads as it did. -/
def arenaKeepsUptoRow : OpenClaim := { program := "ytjhclnalgdnplaadoor", sum := "d3883b06a894d361b2760bd2816f9a792218fb1ea508f82cc95cdc2f5123300f", func := "flotsam/flotsamlaw05.ArenaKeeps", spec := "arenaKeeps", named := ["flotsam/class.sizes"], apart := false, laid := [("flotsam/class.sizes", laid_flotsam_class_sizes)], narrowed := true }
def ArenaKeepsUptoSaid : Prop := arenaKeepsUptoRow.holds Tryd.pinned (OpenSpec.upto arenaKeepsSpec)

/-- 'flotsamlaw05.ArenaTurned', WHERE WHAT IT READS IS OF BULK AT MOST 1048576: true; the input reads as it did. -/
def arenaTurnedUptoRow : OpenClaim := { program := "ytjhclnalgdnplaadoor", sum := "d3883b06a894d361b2760bd2816f9a792218fb1ea508f82cc95cdc2f5123300f", func := "flotsam/flotsamlaw05.ArenaTurned", spec := "arenaTurned", named := ["flotsam/class.sizes"], apart := false, laid := [("flotsam/class.sizes", laid_flotsam_class_sizes)], narrowed := true }
def ArenaTurnedUptoSaid : Prop := arenaTurnedUptoRow.holds Tryd.pinned (OpenSpec.upto arenaTurnedSpec)

end Rows
end Go.Proofs.YtjhclnalgdnplaaDoor
