/-
  No cell of these rows narrows 'for every input' (looked for: loops, veiled, ifaces, maps, wideKeys, modest, calm, conditions, laid).
  DERIVED. THE GIVEN ROWS OF THIS SEAT. 3 by the template 'for every input the law returns true; each argument reads behind the call as it read before'; 0 by the template 'total and deterministic' (their statements: YtlbgpklnanalgaaTotals.lean).
  GIVEN WITH THE SEED: the statements are not yours to turn. If you find one false, say at which input.
  Laid BY PROGRAM, IN A SANDBOX (cutbox-rows.mjs): the forced cells as the released guide's own fill.sh prints them over the translation e9dac1bb1d2b9e9f… (all of the seat's roots in one cut). By AI agents, Wed Nov 11 2026. No macro, syntax, notation, axiom, sorry.
-/
import Derived.Test.YtlbgpklnanalgaaChecked
import GoSem.Claim
import GoSem.ClaimJoined
import GoSem.ClaimMapViews
import Derived.JoinedTies
import Derived.KernelRfl
namespace Go.Proofs.Ytlbgpklnanalgaa
/- THE CELL 'sum', in the pinned program and in every row, IS THE sha256 OF THE DUMP (.gsa) THAT YtlbgpklnanalgaaProg.lean LOADS. Nothing in Lean hashes anything: it is a label: what it is worth is what the hold of that sum in a sandbox is worth. -/
noncomputable def Try.pinned : Pinned := { name := "ytlbgpklnanalgaa", sum := "e9dac1bb1d2b9e9ff73db23f1940b077487cdec11adf8cddd8d44b1751603d65", checked := Try.checked }
namespace Rows
def none {H : Type} : Left H := { results := [], args := [] }

/-- 'epactlaw18.PivotFolds': WHATEVER THE INPUT: true; the input reads as it did. -/
def pivotFoldsSpec : ChangeSpec := { name := "pivotFolds", fn := fun _ => fun
  | [d1, d2] => { results := [.lit (.bool true)], args := [d1, d2] }
  | _ => none }
def pivotFoldsRow : OpenClaim := { program := "ytlbgpklnanalgaa", sum := "e9dac1bb1d2b9e9ff73db23f1940b077487cdec11adf8cddd8d44b1751603d65", func := "epact/epactlaw18.PivotFolds", spec := "pivotFolds", inPlace := ["math/bits.Sub64", "math/bits.Add64"], apart := false }
def PivotFoldsSaid : Prop := pivotFoldsRow.holds Try.pinned (OpenSpec.ofChange pivotFoldsSpec)

/-- ITS FALSE NEIGHBOUR: 'it returns false'. Refute it at one input. -/
def pivotFoldsWrong : ChangeSpec := { name := "pivotFolds", fn := fun _ => fun
  | [d1, d2] => { results := [.lit (.bool false)], args := [d1, d2] }
  | _ => none }
def PivotFoldsWrongFalsely : Prop := pivotFoldsRow.holds Try.pinned (OpenSpec.ofChange pivotFoldsWrong)

/-- 'epactlaw18.PivotNear': WHATEVER THE INPUT: true; the input reads as it did. -/
def pivotNearSpec : ChangeSpec := { name := "pivotNear", fn := fun _ => fun
  | [d1, d2, d3] => { results := [.lit (.bool true)], args := [d1, d2, d3] }
  | _ => none }
def pivotNearRow : OpenClaim := { program := "ytlbgpklnanalgaa", sum := "e9dac1bb1d2b9e9ff73db23f1940b077487cdec11adf8cddd8d44b1751603d65", func := "epact/epactlaw18.PivotNear", spec := "pivotNear", inPlace := ["math/bits.Sub64", "math/bits.Add64"], apart := false }
def PivotNearSaid : Prop := pivotNearRow.holds Try.pinned (OpenSpec.ofChange pivotNearSpec)

/-- ITS FALSE NEIGHBOUR: 'it returns false'. Refute it at one input. -/
def pivotNearWrong : ChangeSpec := { name := "pivotNear", fn := fun _ => fun
  | [d1, d2, d3] => { results := [.lit (.bool false)], args := [d1, d2, d3] }
  | _ => none }
def PivotNearWrongFalsely : Prop := pivotNearRow.holds Try.pinned (OpenSpec.ofChange pivotNearWrong)

/-- 'epactlaw18.PivotOnly': WHATEVER THE INPUT: true; the input reads as it did. -/
def pivotOnlySpec : ChangeSpec := { name := "pivotOnly", fn := fun _ => fun
  | [d1, d2, d3] => { results := [.lit (.bool true)], args := [d1, d2, d3] }
  | _ => none }
def pivotOnlyRow : OpenClaim := { program := "ytlbgpklnanalgaa", sum := "e9dac1bb1d2b9e9ff73db23f1940b077487cdec11adf8cddd8d44b1751603d65", func := "epact/epactlaw18.PivotOnly", spec := "pivotOnly", inPlace := ["math/bits.Sub64", "math/bits.Add64"], apart := false }
def PivotOnlySaid : Prop := pivotOnlyRow.holds Try.pinned (OpenSpec.ofChange pivotOnlySpec)

/-- ITS FALSE NEIGHBOUR: 'it returns false'. Refute it at one input. -/
def pivotOnlyWrong : ChangeSpec := { name := "pivotOnly", fn := fun _ => fun
  | [d1, d2, d3] => { results := [.lit (.bool false)], args := [d1, d2, d3] }
  | _ => none }
def PivotOnlyWrongFalsely : Prop := pivotOnlyRow.holds Try.pinned (OpenSpec.ofChange pivotOnlyWrong)

/- THE SECOND FORM. 'bulk': how many values and letters a reading holds, each counted each time it is reached (what is shared counts as often as it is met; a slice's spare places count too). A statement '..UptoSaid' is the law's where the arguments, and the package variables that the reading takes, are together of bulk at most 1048576: NARROWER than '..Said'. Prove '..Said' where nothing that the law and all that it calls make is longer than what came in: it says more and counts as full. Else prove '..UptoSaid'. A law counts once. -/
mutual
def uptoBulk {H : Type} : DataW H → Nat
  | .lit (.string bytes) => bytes.length + 1
  | .lit _ => 1
  | .nil => 1
  | .ptr d => uptoBulk d + 1
  | .slice elems spare => uptoBulkAll elems + uptoBulkAll spare + 1
  | .agg parts => uptoBulkAll parts + 1
  | .iface _ d => uptoBulk d + 1
  | .map entries => uptoBulkEntries entries + 1
  | .held _ => 1
def uptoBulkAll {H : Type} : List (DataW H) → Nat
  | [] => 0
  | d :: r => uptoBulk d + uptoBulkAll r
def uptoBulkEntries {H : Type} : List (Lit × DataW H) → Nat
  | [] => 0
  | x :: r => uptoBulkEntry x + uptoBulkEntries r
def uptoBulkEntry {H : Type} : Lit × DataW H → Nat
  | (.string bytes, d) => bytes.length + uptoBulk d + 1
  | (_, d) => uptoBulk d + 1
 end
def uptoSmall : (H : Type) → List (DataW H) → Bool := fun _ ds => decide (uptoBulkAll ds ≤ 1048576)
def OpenSpec.upto (s : _root_.Go.ChangeSpec) : _root_.Go.OpenSpec := { _root_.Go.OpenSpec.ofChange s with cond := some uptoSmall }

/-- 'epactlaw18.PivotFolds', WHERE WHAT IT READS IS OF BULK AT MOST 1048576: true; the input reads as it did. -/
def pivotFoldsUptoRow : OpenClaim := { program := "ytlbgpklnanalgaa", sum := "e9dac1bb1d2b9e9ff73db23f1940b077487cdec11adf8cddd8d44b1751603d65", func := "epact/epactlaw18.PivotFolds", spec := "pivotFolds", inPlace := ["math/bits.Sub64", "math/bits.Add64"], apart := false, narrowed := true }
def PivotFoldsUptoSaid : Prop := pivotFoldsUptoRow.holds Try.pinned (OpenSpec.upto pivotFoldsSpec)

/-- 'epactlaw18.PivotNear', WHERE WHAT IT READS IS OF BULK AT MOST 1048576: true; the input reads as it did. -/
def pivotNearUptoRow : OpenClaim := { program := "ytlbgpklnanalgaa", sum := "e9dac1bb1d2b9e9ff73db23f1940b077487cdec11adf8cddd8d44b1751603d65", func := "epact/epactlaw18.PivotNear", spec := "pivotNear", inPlace := ["math/bits.Sub64", "math/bits.Add64"], apart := false, narrowed := true }
def PivotNearUptoSaid : Prop := pivotNearUptoRow.holds Try.pinned (OpenSpec.upto pivotNearSpec)

/-- 'epactlaw18.PivotOnly', WHERE WHAT IT READS IS OF BULK AT MOST 1048576: true; the input reads as it did. -/
def pivotOnlyUptoRow : OpenClaim := { program := "ytlbgpklnanalgaa", sum := "e9dac1bb1d2b9e9ff73db23f1940b077487cdec11adf8cddd8d44b1751603d65", func := "epact/epactlaw18.PivotOnly", spec := "pivotOnly", inPlace := ["math/bits.Sub64", "math/bits.Add64"], apart := false, narrowed := true }
def PivotOnlyUptoSaid : Prop := pivotOnlyUptoRow.holds Try.pinned (OpenSpec.upto pivotOnlySpec)

end Rows
end Go.Proofs.Ytlbgpklnanalgaa
