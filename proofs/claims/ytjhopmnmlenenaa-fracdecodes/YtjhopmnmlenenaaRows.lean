/-
  No cell of these rows narrows 'for every input' (looked for: loops, veiled, ifaces, maps, wideKeys, modest, calm, conditions, laid).
  DERIVED. THE GIVEN ROWS OF THIS SEAT. 5 by the template 'for every input the law returns true; each argument reads behind the call as it read before'; 0 by the template 'total and deterministic' (their statements: YtjhopmnmlenenaaTotals.lean).
  GIVEN WITH THE SEED: the statements are not yours to turn. If you find one false, say at which input.
  Laid BY PROGRAM, IN A SANDBOX (cutbox-rows.mjs): the forced cells as the released guide's own fill.sh prints them over the translation 70a8f3266580deef… (all of the seat's roots in one cut). By AI agents, Wed Nov 11 2026. No macro, syntax, notation, axiom, sorry.
-/
import Derived.Test.YtjhopmnmlenenaaChecked
import GoSem.Claim
import GoSem.ClaimJoined
import GoSem.ClaimMapViews
import Derived.JoinedTies
import Derived.KernelRfl
namespace Go.Proofs.Ytjhopmnmlenenaa
/- THE CELL 'sum', in the pinned program and in every row, IS THE sha256 OF THE DUMP (.gsa) THAT YtjhopmnmlenenaaProg.lean LOADS. Nothing in Lean hashes anything: it is a label: what it is worth is what the hold of that sum in a sandbox is worth. -/
noncomputable def Try.pinned : Pinned := { name := "ytjhopmnmlenenaa", sum := "70a8f3266580deeff8b914edb9f5e046b412a5872782c272e8963fb5c5858ec6", checked := Try.checked }
namespace Rows
def none {H : Type} : Left H := { results := [], args := [] }

/-- 'epactlaw19.FracEncodes': WHATEVER THE INPUT: true; the input reads as it did. -/
def fracEncodesSpec : ChangeSpec := { name := "fracEncodes", fn := fun _ => fun
  | [d1, d2] => { results := [.lit (.bool true)], args := [d1, d2] }
  | _ => none }
def fracEncodesRow : OpenClaim := { program := "ytjhopmnmlenenaa", sum := "70a8f3266580deeff8b914edb9f5e046b412a5872782c272e8963fb5c5858ec6", func := "epact/epactlaw19.FracEncodes", spec := "fracEncodes", inPlace := ["math/bits.Sub64", "math/bits.Add64"], apart := false }
def FracEncodesSaid : Prop := fracEncodesRow.holds Try.pinned (OpenSpec.ofChange fracEncodesSpec)

/-- ITS FALSE NEIGHBOUR: 'it returns false'. Refute it at one input. -/
def fracEncodesWrong : ChangeSpec := { name := "fracEncodes", fn := fun _ => fun
  | [d1, d2] => { results := [.lit (.bool false)], args := [d1, d2] }
  | _ => none }
def FracEncodesWrongFalsely : Prop := fracEncodesRow.holds Try.pinned (OpenSpec.ofChange fracEncodesWrong)

/-- 'epactlaw19.FracDecodes': WHATEVER THE INPUT: true; the input reads as it did. -/
def fracDecodesSpec : ChangeSpec := { name := "fracDecodes", fn := fun _ => fun
  | [d1, d2] => { results := [.lit (.bool true)], args := [d1, d2] }
  | _ => none }
def fracDecodesRow : OpenClaim := { program := "ytjhopmnmlenenaa", sum := "70a8f3266580deeff8b914edb9f5e046b412a5872782c272e8963fb5c5858ec6", func := "epact/epactlaw19.FracDecodes", spec := "fracDecodes", inPlace := ["math/bits.Sub64", "math/bits.Add64"], apart := false }
def FracDecodesSaid : Prop := fracDecodesRow.holds Try.pinned (OpenSpec.ofChange fracDecodesSpec)

/-- ITS FALSE NEIGHBOUR: 'it returns false'. Refute it at one input. -/
def fracDecodesWrong : ChangeSpec := { name := "fracDecodes", fn := fun _ => fun
  | [d1, d2] => { results := [.lit (.bool false)], args := [d1, d2] }
  | _ => none }
def FracDecodesWrongFalsely : Prop := fracDecodesRow.holds Try.pinned (OpenSpec.ofChange fracDecodesWrong)

/-- 'epactlaw19.FracFloors': WHATEVER THE INPUT: true; the input reads as it did. -/
def fracFloorsSpec : ChangeSpec := { name := "fracFloors", fn := fun _ => fun
  | [d1, d2, d3] => { results := [.lit (.bool true)], args := [d1, d2, d3] }
  | _ => none }
def fracFloorsRow : OpenClaim := { program := "ytjhopmnmlenenaa", sum := "70a8f3266580deeff8b914edb9f5e046b412a5872782c272e8963fb5c5858ec6", func := "epact/epactlaw19.FracFloors", spec := "fracFloors", inPlace := ["math/bits.Sub64", "math/bits.Add64"], apart := false }
def FracFloorsSaid : Prop := fracFloorsRow.holds Try.pinned (OpenSpec.ofChange fracFloorsSpec)

/-- ITS FALSE NEIGHBOUR: 'it returns false'. Refute it at one input. -/
def fracFloorsWrong : ChangeSpec := { name := "fracFloors", fn := fun _ => fun
  | [d1, d2, d3] => { results := [.lit (.bool false)], args := [d1, d2, d3] }
  | _ => none }
def FracFloorsWrongFalsely : Prop := fracFloorsRow.holds Try.pinned (OpenSpec.ofChange fracFloorsWrong)

/-- 'epactlaw19.FracPuts': WHATEVER THE INPUT: true; the input reads as it did. -/
def fracPutsSpec : ChangeSpec := { name := "fracPuts", fn := fun _ => fun
  | [d1, d2] => { results := [.lit (.bool true)], args := [d1, d2] }
  | _ => none }
def fracPutsRow : OpenClaim := { program := "ytjhopmnmlenenaa", sum := "70a8f3266580deeff8b914edb9f5e046b412a5872782c272e8963fb5c5858ec6", func := "epact/epactlaw19.FracPuts", spec := "fracPuts", inPlace := ["math/bits.Sub64", "math/bits.Add64"], apart := false }
def FracPutsSaid : Prop := fracPutsRow.holds Try.pinned (OpenSpec.ofChange fracPutsSpec)

/-- ITS FALSE NEIGHBOUR: 'it returns false'. Refute it at one input. -/
def fracPutsWrong : ChangeSpec := { name := "fracPuts", fn := fun _ => fun
  | [d1, d2] => { results := [.lit (.bool false)], args := [d1, d2] }
  | _ => none }
def FracPutsWrongFalsely : Prop := fracPutsRow.holds Try.pinned (OpenSpec.ofChange fracPutsWrong)

/-- 'epactlaw19.FracGets': WHATEVER THE INPUT: true; the input reads as it did. -/
def fracGetsSpec : ChangeSpec := { name := "fracGets", fn := fun _ => fun
  | [d] => { results := [.lit (.bool true)], args := [d] }
  | _ => none }
def fracGetsRow : OpenClaim := { program := "ytjhopmnmlenenaa", sum := "70a8f3266580deeff8b914edb9f5e046b412a5872782c272e8963fb5c5858ec6", func := "epact/epactlaw19.FracGets", spec := "fracGets", inPlace := ["math/bits.Sub64", "math/bits.Add64"], apart := false }
def FracGetsSaid : Prop := fracGetsRow.holds Try.pinned (OpenSpec.ofChange fracGetsSpec)

/-- ITS FALSE NEIGHBOUR: 'it returns false'. Refute it at one input. -/
def fracGetsWrong : ChangeSpec := { name := "fracGets", fn := fun _ => fun
  | [d] => { results := [.lit (.bool false)], args := [d] }
  | _ => none }
def FracGetsWrongFalsely : Prop := fracGetsRow.holds Try.pinned (OpenSpec.ofChange fracGetsWrong)

/- THE SECOND FORM. 'bulk': how many values and letters a reading holds, each counted each time it is reached (what is shared counts as often as it is met; a slice's spare places count too). A statement '..UptoSaid' is the law's where the arguments, and the package variables that the reading takes, are together of bulk at most 1048576: NARROWER than '..Said'. Prove '..Said' where nothing that the law and all that it calls make is longer than what came in: it says more and counts as full. Else prove '..UptoSaid'. A law counts once. -/
mutual
def uptoBulk {H : Type} : DataW H → Nat
  | .lit (.string bytes) => bytes.length + 1
  | .lit _ => 1
  | .nil => 1
  | .ptr d => uptoBulk d + 1
  | .slice elems spare => uptoBulkAll elems + uptoBulkAll spare + 1
  | .agg parts => uptoBulkAll parts + 1
  | .iface _ d => uptoBulk d + 1
  | .map entries => uptoBulkEntries entries + 1
  | .held _ => 1
def uptoBulkAll {H : Type} : List (DataW H) → Nat
  | [] => 0
  | d :: r => uptoBulk d + uptoBulkAll r
def uptoBulkEntries {H : Type} : List (Lit × DataW H) → Nat
  | [] => 0
  | x :: r => uptoBulkEntry x + uptoBulkEntries r
def uptoBulkEntry {H : Type} : Lit × DataW H → Nat
  | (.string bytes, d) => bytes.length + uptoBulk d + 1
  | (_, d) => uptoBulk d + 1
 end
def uptoSmall : (H : Type) → List (DataW H) → Bool := fun _ ds => decide (uptoBulkAll ds ≤ 1048576)
def OpenSpec.upto (s : _root_.Go.ChangeSpec) : _root_.Go.OpenSpec := { _root_.Go.OpenSpec.ofChange s with cond := some uptoSmall }

/-- 'epactlaw19.FracEncodes', WHERE WHAT IT READS IS OF BULK AT MOST 1048576: true; the input reads as it did. -/
def fracEncodesUptoRow : OpenClaim := { program := "ytjhopmnmlenenaa", sum := "70a8f3266580deeff8b914edb9f5e046b412a5872782c272e8963fb5c5858ec6", func := "epact/epactlaw19.FracEncodes", spec := "fracEncodes", inPlace := ["math/bits.Sub64", "math/bits.Add64"], apart := false, narrowed := true }
def FracEncodesUptoSaid : Prop := fracEncodesUptoRow.holds Try.pinned (OpenSpec.upto fracEncodesSpec)

/-- 'epactlaw19.FracDecodes', WHERE WHAT IT READS IS OF BULK AT MOST 1048576: true; the input reads as it did. -/
def fracDecodesUptoRow : OpenClaim := { program := "ytjhopmnmlenenaa", sum := "70a8f3266580deeff8b914edb9f5e046b412a5872782c272e8963fb5c5858ec6", func := "epact/epactlaw19.FracDecodes", spec := "fracDecodes", inPlace := ["math/bits.Sub64", "math/bits.Add64"], apart := false, narrowed := true }
def FracDecodesUptoSaid : Prop := fracDecodesUptoRow.holds Try.pinned (OpenSpec.upto fracDecodesSpec)

/-- 'epactlaw19.FracFloors', WHERE WHAT IT READS IS OF BULK AT MOST 1048576: true; the input reads as it did. -/
def fracFloorsUptoRow : OpenClaim := { program := "ytjhopmnmlenenaa", sum := "70a8f3266580deeff8b914edb9f5e046b412a5872782c272e8963fb5c5858ec6", func := "epact/epactlaw19.FracFloors", spec := "fracFloors", inPlace := ["math/bits.Sub64", "math/bits.Add64"], apart := false, narrowed := true }
def FracFloorsUptoSaid : Prop := fracFloorsUptoRow.holds Try.pinned (OpenSpec.upto fracFloorsSpec)

/-- 'epactlaw19.FracPuts', WHERE WHAT IT READS IS OF BULK AT MOST 1048576: true; the input reads as it did. -/
def fracPutsUptoRow : OpenClaim := { program := "ytjhopmnmlenenaa", sum := "70a8f3266580deeff8b914edb9f5e046b412a5872782c272e8963fb5c5858ec6", func := "epact/epactlaw19.FracPuts", spec := "fracPuts", inPlace := ["math/bits.Sub64", "math/bits.Add64"], apart := false, narrowed := true }
def FracPutsUptoSaid : Prop := fracPutsUptoRow.holds Try.pinned (OpenSpec.upto fracPutsSpec)

/-- 'epactlaw19.FracGets', WHERE WHAT IT READS IS OF BULK AT MOST 1048576: true; the input reads as it did. -/
def fracGetsUptoRow : OpenClaim := { program := "ytjhopmnmlenenaa", sum := "70a8f3266580deeff8b914edb9f5e046b412a5872782c272e8963fb5c5858ec6", func := "epact/epactlaw19.FracGets", spec := "fracGets", inPlace := ["math/bits.Sub64", "math/bits.Add64"], apart := false, narrowed := true }
def FracGetsUptoSaid : Prop := fracGetsUptoRow.holds Try.pinned (OpenSpec.upto fracGetsSpec)

end Rows
end Go.Proofs.Ytjhopmnmlenenaa
