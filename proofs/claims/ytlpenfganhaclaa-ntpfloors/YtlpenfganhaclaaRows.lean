/-
  No cell of these rows narrows 'for every input' (looked for: loops, veiled, ifaces, maps, wideKeys, modest, calm, conditions, laid).
  DERIVED. THE GIVEN ROWS OF THIS SEAT. 4 by the template 'for every input the law returns true; each argument reads behind the call as it read before'; 0 by the template 'total and deterministic' (their statements: YtlpenfganhaclaaTotals.lean).
  GIVEN WITH THE SEED: the statements are not yours to turn. If you find one false, say at which input.
  Laid BY PROGRAM, IN A SANDBOX (cutbox-rows.mjs): the forced cells as the released guide's own fill.sh prints them over the translation b2eca291fb8f6037… (all of the seat's roots in one cut). By AI agents, Wed Nov 11 2026. No macro, syntax, notation, axiom, sorry.
-/
import Derived.Test.YtlpenfganhaclaaChecked
import GoSem.Claim
import GoSem.ClaimJoined
import GoSem.ClaimMapViews
import Derived.JoinedTies
import Derived.KernelRfl
namespace Go.Proofs.Ytlpenfganhaclaa
/- THE CELL 'sum', in the pinned program and in every row, IS THE sha256 OF THE DUMP (.gsa) THAT YtlpenfganhaclaaProg.lean LOADS. Nothing in Lean hashes anything: it is a label: what it is worth is what the hold of that sum in a sandbox is worth. -/
noncomputable def Try.pinned : Pinned := { name := "ytlpenfganhaclaa", sum := "b2eca291fb8f6037816d456866b24eb8d44191491f482152df3b5e74d2ea78be", checked := Try.checked }
namespace Rows
def none {H : Type} : Left H := { results := [], args := [] }

/-- 'epactlaw20.NtpEncodes': WHATEVER THE INPUT: true; the input reads as it did. -/
def ntpEncodesSpec : ChangeSpec := { name := "ntpEncodes", fn := fun _ => fun
  | [d1, d2] => { results := [.lit (.bool true)], args := [d1, d2] }
  | _ => none }
def ntpEncodesRow : OpenClaim := { program := "ytlpenfganhaclaa", sum := "b2eca291fb8f6037816d456866b24eb8d44191491f482152df3b5e74d2ea78be", func := "epact/epactlaw20.NtpEncodes", spec := "ntpEncodes", inPlace := ["math/bits.Sub64", "math/bits.Add64"], apart := false }
def NtpEncodesSaid : Prop := ntpEncodesRow.holds Try.pinned (OpenSpec.ofChange ntpEncodesSpec)

/-- ITS FALSE NEIGHBOUR: 'it returns false'. Refute it at one input. -/
def ntpEncodesWrong : ChangeSpec := { name := "ntpEncodes", fn := fun _ => fun
  | [d1, d2] => { results := [.lit (.bool false)], args := [d1, d2] }
  | _ => none }
def NtpEncodesWrongFalsely : Prop := ntpEncodesRow.holds Try.pinned (OpenSpec.ofChange ntpEncodesWrong)

/-- 'epactlaw20.NtpDecodes': WHATEVER THE INPUT: true; the input reads as it did. -/
def ntpDecodesSpec : ChangeSpec := { name := "ntpDecodes", fn := fun _ => fun
  | [d1, d2, d3] => { results := [.lit (.bool true)], args := [d1, d2, d3] }
  | _ => none }
def ntpDecodesRow : OpenClaim := { program := "ytlpenfganhaclaa", sum := "b2eca291fb8f6037816d456866b24eb8d44191491f482152df3b5e74d2ea78be", func := "epact/epactlaw20.NtpDecodes", spec := "ntpDecodes", inPlace := ["math/bits.Sub64", "math/bits.Add64"], apart := false }
def NtpDecodesSaid : Prop := ntpDecodesRow.holds Try.pinned (OpenSpec.ofChange ntpDecodesSpec)

/-- ITS FALSE NEIGHBOUR: 'it returns false'. Refute it at one input. -/
def ntpDecodesWrong : ChangeSpec := { name := "ntpDecodes", fn := fun _ => fun
  | [d1, d2, d3] => { results := [.lit (.bool false)], args := [d1, d2, d3] }
  | _ => none }
def NtpDecodesWrongFalsely : Prop := ntpDecodesRow.holds Try.pinned (OpenSpec.ofChange ntpDecodesWrong)

/-- 'epactlaw20.NtpFloors': WHATEVER THE INPUT: true; the input reads as it did. -/
def ntpFloorsSpec : ChangeSpec := { name := "ntpFloors", fn := fun _ => fun
  | [d1, d2] => { results := [.lit (.bool true)], args := [d1, d2] }
  | _ => none }
def ntpFloorsRow : OpenClaim := { program := "ytlpenfganhaclaa", sum := "b2eca291fb8f6037816d456866b24eb8d44191491f482152df3b5e74d2ea78be", func := "epact/epactlaw20.NtpFloors", spec := "ntpFloors", inPlace := ["math/bits.Sub64", "math/bits.Add64"], apart := false }
def NtpFloorsSaid : Prop := ntpFloorsRow.holds Try.pinned (OpenSpec.ofChange ntpFloorsSpec)

/-- ITS FALSE NEIGHBOUR: 'it returns false'. Refute it at one input. -/
def ntpFloorsWrong : ChangeSpec := { name := "ntpFloors", fn := fun _ => fun
  | [d1, d2] => { results := [.lit (.bool false)], args := [d1, d2] }
  | _ => none }
def NtpFloorsWrongFalsely : Prop := ntpFloorsRow.holds Try.pinned (OpenSpec.ofChange ntpFloorsWrong)

/-- 'epactlaw20.NtpSame': WHATEVER THE INPUT: true; the input reads as it did. -/
def ntpSameSpec : ChangeSpec := { name := "ntpSame", fn := fun _ => fun
  | [d1, d2, d3] => { results := [.lit (.bool true)], args := [d1, d2, d3] }
  | _ => none }
def ntpSameRow : OpenClaim := { program := "ytlpenfganhaclaa", sum := "b2eca291fb8f6037816d456866b24eb8d44191491f482152df3b5e74d2ea78be", func := "epact/epactlaw20.NtpSame", spec := "ntpSame", inPlace := ["math/bits.Sub64", "math/bits.Add64"], apart := false }
def NtpSameSaid : Prop := ntpSameRow.holds Try.pinned (OpenSpec.ofChange ntpSameSpec)

/-- ITS FALSE NEIGHBOUR: 'it returns false'. Refute it at one input. -/
def ntpSameWrong : ChangeSpec := { name := "ntpSame", fn := fun _ => fun
  | [d1, d2, d3] => { results := [.lit (.bool false)], args := [d1, d2, d3] }
  | _ => none }
def NtpSameWrongFalsely : Prop := ntpSameRow.holds Try.pinned (OpenSpec.ofChange ntpSameWrong)

/- THE SECOND FORM. 'bulk': how many values and letters a reading holds, each counted each time it is reached (what is shared counts as often as it is met; a slice's spare places count too). A statement '..UptoSaid' is the law's where the arguments, and the package variables that the reading takes, are together of bulk at most 1048576: NARROWER than '..Said'. Prove '..Said' where nothing that the law and all that it calls make is longer than what came in: it says more and counts as full. Else prove '..UptoSaid'. A law counts once. -/
mutual
def uptoBulk {H : Type} : DataW H → Nat
  | .lit (.string bytes) => bytes.length + 1
  | .lit _ => 1
  | .nil => 1
  | .ptr d => uptoBulk d + 1
  | .slice elems spare => uptoBulkAll elems + uptoBulkAll spare + 1
  | .agg parts => uptoBulkAll parts + 1
  | .iface _ d => uptoBulk d + 1
  | .map entries => uptoBulkEntries entries + 1
  | .held _ => 1
def uptoBulkAll {H : Type} : List (DataW H) → Nat
  | [] => 0
  | d :: r => uptoBulk d + uptoBulkAll r
def uptoBulkEntries {H : Type} : List (Lit × DataW H) → Nat
  | [] => 0
  | x :: r => uptoBulkEntry x + uptoBulkEntries r
def uptoBulkEntry {H : Type} : Lit × DataW H → Nat
  | (.string bytes, d) => bytes.length + uptoBulk d + 1
  | (_, d) => uptoBulk d + 1
 end
def uptoSmall : (H : Type) → List (DataW H) → Bool := fun _ ds => decide (uptoBulkAll ds ≤ 1048576)
def OpenSpec.upto (s : _root_.Go.ChangeSpec) : _root_.Go.OpenSpec := { _root_.Go.OpenSpec.ofChange s with cond := some uptoSmall }

/-- 'epactlaw20.NtpEncodes', WHERE WHAT IT READS IS OF BULK AT MOST 1048576: true; the input reads as it did. -/
def ntpEncodesUptoRow : OpenClaim := { program := "ytlpenfganhaclaa", sum := "b2eca291fb8f6037816d456866b24eb8d44191491f482152df3b5e74d2ea78be", func := "epact/epactlaw20.NtpEncodes", spec := "ntpEncodes", inPlace := ["math/bits.Sub64", "math/bits.Add64"], apart := false, narrowed := true }
def NtpEncodesUptoSaid : Prop := ntpEncodesUptoRow.holds Try.pinned (OpenSpec.upto ntpEncodesSpec)

/-- 'epactlaw20.NtpDecodes', WHERE WHAT IT READS IS OF BULK AT MOST 1048576: true; the input reads as it did. -/
def ntpDecodesUptoRow : OpenClaim := { program := "ytlpenfganhaclaa", sum := "b2eca291fb8f6037816d456866b24eb8d44191491f482152df3b5e74d2ea78be", func := "epact/epactlaw20.NtpDecodes", spec := "ntpDecodes", inPlace := ["math/bits.Sub64", "math/bits.Add64"], apart := false, narrowed := true }
def NtpDecodesUptoSaid : Prop := ntpDecodesUptoRow.holds Try.pinned (OpenSpec.upto ntpDecodesSpec)

/-- 'epactlaw20.NtpFloors', WHERE WHAT IT READS IS OF BULK AT MOST 1048576: true; the input reads as it did. -/
def ntpFloorsUptoRow : OpenClaim := { program := "ytlpenfganhaclaa", sum := "b2eca291fb8f6037816d456866b24eb8d44191491f482152df3b5e74d2ea78be", func := "epact/epactlaw20.NtpFloors", spec := "ntpFloors", inPlace := ["math/bits.Sub64", "math/bits.Add64"], apart := false, narrowed := true }
def NtpFloorsUptoSaid : Prop := ntpFloorsUptoRow.holds Try.pinned (OpenSpec.upto ntpFloorsSpec)

/-- 'epactlaw20.NtpSame', WHERE WHAT IT READS IS OF BULK AT MOST 1048576: true; the input reads as it did. -/
def ntpSameUptoRow : OpenClaim := { program := "ytlpenfganhaclaa", sum := "b2eca291fb8f6037816d456866b24eb8d44191491f482152df3b5e74d2ea78be", func := "epact/epactlaw20.NtpSame", spec := "ntpSame", inPlace := ["math/bits.Sub64", "math/bits.Add64"], apart := false, narrowed := true }
def NtpSameUptoSaid : Prop := ntpSameUptoRow.holds Try.pinned (OpenSpec.upto ntpSameSpec)

end Rows
end Go.Proofs.Ytlpenfganhaclaa
