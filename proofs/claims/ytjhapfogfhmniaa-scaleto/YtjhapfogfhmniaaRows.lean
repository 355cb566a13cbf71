/-
  No cell of these rows narrows 'for every input' (looked for: loops, veiled, ifaces, maps, wideKeys, modest, calm, conditions, laid).
  DERIVED. THE GIVEN ROWS OF THIS SEAT. 3 by the template 'for every input the law returns true; each argument reads behind the call as it read before'; 0 by the template 'total and deterministic' (their statements: YtjhapfogfhmniaaTotals.lean).
  GIVEN WITH THE SEED: the statements are not yours to turn. If you find one false, say at which input.
  Laid BY PROGRAM, IN A SANDBOX (cutbox-rows.mjs): the forced cells as the released guide's own fill.sh prints them over the translation d450b57107a4b28a… (all of the seat's roots in one cut). By AI agents, Wed Nov 11 2026. No macro, syntax, notation, axiom, sorry.
-/
import Derived.Test.YtjhapfogfhmniaaChecked
import GoSem.Claim
import GoSem.ClaimJoined
import GoSem.ClaimMapViews
import Derived.JoinedTies
import Derived.KernelRfl
namespace Go.Proofs.Ytjhapfogfhmniaa
/- THE CELL 'sum', in the pinned program and in every row, IS THE sha256 OF THE DUMP (.gsa) THAT YtjhapfogfhmniaaProg.lean LOADS. Nothing in Lean hashes anything: it is a label: what it is worth is what the hold of that sum in a sandbox is worth. -/
noncomputable def Try.pinned : Pinned := { name := "ytjhapfogfhmniaa", sum := "d450b57107a4b28a7e793c7b47c817e9d1a6d82d1b18cbb709021e33aaefc64b", checked := Try.checked }
namespace Rows
def none {H : Type} : Left H := { results := [], args := [] }

/-- 'epactlaw16.ScaleTo': WHATEVER THE INPUT: true; the input reads as it did. -/
def scaleToSpec : ChangeSpec := { name := "scaleTo", fn := fun _ => fun
  | [d1, d2] => { results := [.lit (.bool true)], args := [d1, d2] }
  | _ => none }
def scaleToRow : OpenClaim := { program := "ytjhapfogfhmniaa", sum := "d450b57107a4b28a7e793c7b47c817e9d1a6d82d1b18cbb709021e33aaefc64b", func := "epact/epactlaw16.ScaleTo", spec := "scaleTo", inPlace := ["math/bits.Sub64", "math/bits.Add64"], apart := false }
def ScaleToSaid : Prop := scaleToRow.holds Try.pinned (OpenSpec.ofChange scaleToSpec)

/-- ITS FALSE NEIGHBOUR: 'it returns false'. Refute it at one input. -/
def scaleToWrong : ChangeSpec := { name := "scaleTo", fn := fun _ => fun
  | [d1, d2] => { results := [.lit (.bool false)], args := [d1, d2] }
  | _ => none }
def ScaleToWrongFalsely : Prop := scaleToRow.holds Try.pinned (OpenSpec.ofChange scaleToWrong)

/-- 'epactlaw16.ScaleFrom': WHATEVER THE INPUT: true; the input reads as it did. -/
def scaleFromSpec : ChangeSpec := { name := "scaleFrom", fn := fun _ => fun
  | [d1, d2] => { results := [.lit (.bool true)], args := [d1, d2] }
  | _ => none }
def scaleFromRow : OpenClaim := { program := "ytjhapfogfhmniaa", sum := "d450b57107a4b28a7e793c7b47c817e9d1a6d82d1b18cbb709021e33aaefc64b", func := "epact/epactlaw16.ScaleFrom", spec := "scaleFrom", inPlace := ["math/bits.Sub64", "math/bits.Add64"], apart := false }
def ScaleFromSaid : Prop := scaleFromRow.holds Try.pinned (OpenSpec.ofChange scaleFromSpec)

/-- ITS FALSE NEIGHBOUR: 'it returns false'. Refute it at one input. -/
def scaleFromWrong : ChangeSpec := { name := "scaleFrom", fn := fun _ => fun
  | [d1, d2] => { results := [.lit (.bool false)], args := [d1, d2] }
  | _ => none }
def ScaleFromWrongFalsely : Prop := scaleFromRow.holds Try.pinned (OpenSpec.ofChange scaleFromWrong)

/-- 'epactlaw16.ScaleBack': WHATEVER THE INPUT: true; the input reads as it did. -/
def scaleBackSpec : ChangeSpec := { name := "scaleBack", fn := fun _ => fun
  | [d1, d2] => { results := [.lit (.bool true)], args := [d1, d2] }
  | _ => none }
def scaleBackRow : OpenClaim := { program := "ytjhapfogfhmniaa", sum := "d450b57107a4b28a7e793c7b47c817e9d1a6d82d1b18cbb709021e33aaefc64b", func := "epact/epactlaw16.ScaleBack", spec := "scaleBack", inPlace := ["math/bits.Sub64", "math/bits.Add64"], apart := false }
def ScaleBackSaid : Prop := scaleBackRow.holds Try.pinned (OpenSpec.ofChange scaleBackSpec)

/-- ITS FALSE NEIGHBOUR: 'it returns false'. Refute it at one input. -/
def scaleBackWrong : ChangeSpec := { name := "scaleBack", fn := fun _ => fun
  | [d1, d2] => { results := [.lit (.bool false)], args := [d1, d2] }
  | _ => none }
def ScaleBackWrongFalsely : Prop := scaleBackRow.holds Try.pinned (OpenSpec.ofChange scaleBackWrong)

/- THE SECOND FORM. 'bulk': how many values and letters a reading holds, each counted each time it is reached (what is shared counts as often as it is met; a slice's spare places count too). A statement '..UptoSaid' is the law's where the arguments, and the package variables that the reading takes, are together of bulk at most 1048576: NARROWER than '..Said'. Prove '..Said' where nothing that the law and all that it calls make is longer than what came in: it says more and counts as full. Else prove '..UptoSaid'. A law counts once. -/
mutual
def uptoBulk {H : Type} : DataW H → Nat
  | .lit (.string bytes) => bytes.length + 1
  | .lit _ => 1
  | .nil => 1
  | .ptr d => uptoBulk d + 1
  | .slice elems spare => uptoBulkAll elems + uptoBulkAll spare + 1
  | .agg parts => uptoBulkAll parts + 1
  | .iface _ d => uptoBulk d + 1
  | .map entries => uptoBulkEntries entries + 1
  | .held _ => 1
def uptoBulkAll {H : Type} : List (DataW H) → Nat
  | [] => 0
  | d :: r => uptoBulk d + uptoBulkAll r
def uptoBulkEntries {H : Type} : List (Lit × DataW H) → Nat
  | [] => 0
  | x :: r => uptoBulkEntry x + uptoBulkEntries r
def uptoBulkEntry {H : Type} : Lit × DataW H → Nat
  | (.string bytes, d) => bytes.length + uptoBulk d + 1
  | (_, d) => uptoBulk d + 1
 end
def uptoSmall : (H : Type) → List (DataW H) → Bool := fun _ ds => decide (uptoBulkAll ds ≤ 1048576)
def OpenSpec.upto (s : _root_.Go.ChangeSpec) : _root_.Go.OpenSpec := { _root_.Go.OpenSpec.ofChange s with cond := some uptoSmall }

/-- 'epactlaw16.ScaleTo', WHERE WHAT IT READS IS OF BULK AT MOST 1048576: true; the input reads as it did. -/
def scaleToUptoRow : OpenClaim := { program := "ytjhapfogfhmniaa", sum := "d450b57107a4b28a7e793c7b47c817e9d1a6d82d1b18cbb709021e33aaefc64b", func := "epact/epactlaw16.ScaleTo", spec := "scaleTo", inPlace := ["math/bits.Sub64", "math/bits.Add64"], apart := false, narrowed := true }
def ScaleToUptoSaid : Prop := scaleToUptoRow.holds Try.pinned (OpenSpec.upto scaleToSpec)

/-- 'epactlaw16.ScaleFrom', WHERE WHAT IT READS IS OF BULK AT MOST 1048576: true; the input reads as it did. -/
def scaleFromUptoRow : OpenClaim := { program := "ytjhapfogfhmniaa", sum := "d450b57107a4b28a7e793c7b47c817e9d1a6d82d1b18cbb709021e33aaefc64b", func := "epact/epactlaw16.ScaleFrom", spec := "scaleFrom", inPlace := ["math/bits.Sub64", "math/bits.Add64"], apart := false, narrowed := true }
def ScaleFromUptoSaid : Prop := scaleFromUptoRow.holds Try.pinned (OpenSpec.upto scaleFromSpec)

/-- 'epactlaw16.ScaleBack', WHERE WHAT IT READS IS OF BULK AT MOST 1048576: true; the input reads as it did. -/
def scaleBackUptoRow : OpenClaim := { program := "ytjhapfogfhmniaa", sum := "d450b57107a4b28a7e793c7b47c817e9d1a6d82d1b18cbb709021e33aaefc64b", func := "epact/epactlaw16.ScaleBack", spec := "scaleBack", inPlace := ["math/bits.Sub64", "math/bits.Add64"], apart := false, narrowed := true }
def ScaleBackUptoSaid : Prop := scaleBackUptoRow.holds Try.pinned (OpenSpec.upto scaleBackSpec)

end Rows
end Go.Proofs.Ytjhapfogfhmniaa
