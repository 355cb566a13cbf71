/-
  No cell of these rows narrows 'for every input' (looked for: loops, veiled, ifaces, maps, wideKeys, modest, calm, conditions, laid).
  DERIVED. THE GIVEN ROWS OF THIS SEAT. 4 by the template 'for every input the law returns true; each argument reads behind the call as it read before'; 0 by the template 'total and deterministic' (their statements: YthajjaiiganpkaaTotals.lean).
  GIVEN WITH THE SEED: the statements are not yours to turn. If you find one false, say at which input.
  Laid BY PROGRAM, IN A SANDBOX (cutbox-rows.mjs): the forced cells as the released guide's own fill.sh prints them over the translation 92a7425dced00b08… (all of the seat's roots in one cut). By AI agents, Wed Nov 11 2026. No macro, syntax, notation, axiom, sorry.
-/
import Derived.Test.YthajjaiiganpkaaChecked
import GoSem.Claim
import GoSem.ClaimJoined
import GoSem.ClaimMapViews
import Derived.JoinedTies
import Derived.KernelRfl
namespace Go.Proofs.Ythajjaiiganpkaa
/- THE CELL 'sum', in the pinned program and in every row, IS THE sha256 OF THE DUMP (.gsa) THAT YthajjaiiganpkaaProg.lean LOADS. Nothing in Lean hashes anything: it is a label: what it is worth is what the hold of that sum in a sandbox is worth. -/
noncomputable def Try.pinned : Pinned := { name := "ythajjaiiganpkaa", sum := "92a7425dced00b08330c9fc09cca5a7ebb491a5b56fad50c2bb180db35d23314", checked := Try.checked }
namespace Rows
def none {H : Type} : Left H := { results := [], args := [] }

/-- 'epactlaw07.DayJoins': WHATEVER THE INPUT: true; the input reads as it did. -/
def dayJoinsSpec : ChangeSpec := { name := "dayJoins", fn := fun _ => fun
  | [d] => { results := [.lit (.bool true)], args := [d] }
  | _ => none }
def dayJoinsRow : OpenClaim := { program := "ythajjaiiganpkaa", sum := "92a7425dced00b08330c9fc09cca5a7ebb491a5b56fad50c2bb180db35d23314", func := "epact/epactlaw07.DayJoins", spec := "dayJoins", inPlace := ["math/bits.Sub64", "math/bits.Add64"], apart := false }
def DayJoinsSaid : Prop := dayJoinsRow.holds Try.pinned (OpenSpec.ofChange dayJoinsSpec)

/-- ITS FALSE NEIGHBOUR: 'it returns false'. Refute it at one input. -/
def dayJoinsWrong : ChangeSpec := { name := "dayJoins", fn := fun _ => fun
  | [d] => { results := [.lit (.bool false)], args := [d] }
  | _ => none }
def DayJoinsWrongFalsely : Prop := dayJoinsRow.holds Try.pinned (OpenSpec.ofChange dayJoinsWrong)

/-- 'epactlaw07.DaySplits': WHATEVER THE INPUT: true; the input reads as it did. -/
def daySplitsSpec : ChangeSpec := { name := "daySplits", fn := fun _ => fun
  | [d] => { results := [.lit (.bool true)], args := [d] }
  | _ => none }
def daySplitsRow : OpenClaim := { program := "ythajjaiiganpkaa", sum := "92a7425dced00b08330c9fc09cca5a7ebb491a5b56fad50c2bb180db35d23314", func := "epact/epactlaw07.DaySplits", spec := "daySplits", inPlace := ["math/bits.Sub64", "math/bits.Add64"], apart := false }
def DaySplitsSaid : Prop := daySplitsRow.holds Try.pinned (OpenSpec.ofChange daySplitsSpec)

/-- ITS FALSE NEIGHBOUR: 'it returns false'. Refute it at one input. -/
def daySplitsWrong : ChangeSpec := { name := "daySplits", fn := fun _ => fun
  | [d] => { results := [.lit (.bool false)], args := [d] }
  | _ => none }
def DaySplitsWrongFalsely : Prop := daySplitsRow.holds Try.pinned (OpenSpec.ofChange daySplitsWrong)

/-- 'epactlaw07.DayJulian': WHATEVER THE INPUT: true; the input reads as it did. -/
def dayJulianSpec : ChangeSpec := { name := "dayJulian", fn := fun _ => fun
  | [d] => { results := [.lit (.bool true)], args := [d] }
  | _ => none }
def dayJulianRow : OpenClaim := { program := "ythajjaiiganpkaa", sum := "92a7425dced00b08330c9fc09cca5a7ebb491a5b56fad50c2bb180db35d23314", func := "epact/epactlaw07.DayJulian", spec := "dayJulian", inPlace := ["math/bits.Sub64", "math/bits.Add64"], apart := false }
def DayJulianSaid : Prop := dayJulianRow.holds Try.pinned (OpenSpec.ofChange dayJulianSpec)

/-- ITS FALSE NEIGHBOUR: 'it returns false'. Refute it at one input. -/
def dayJulianWrong : ChangeSpec := { name := "dayJulian", fn := fun _ => fun
  | [d] => { results := [.lit (.bool false)], args := [d] }
  | _ => none }
def DayJulianWrongFalsely : Prop := dayJulianRow.holds Try.pinned (OpenSpec.ofChange dayJulianWrong)

/-- 'epactlaw07.DayCivil': WHATEVER THE INPUT: true; the input reads as it did. -/
def dayCivilSpec : ChangeSpec := { name := "dayCivil", fn := fun _ => fun
  | [d] => { results := [.lit (.bool true)], args := [d] }
  | _ => none }
def dayCivilRow : OpenClaim := { program := "ythajjaiiganpkaa", sum := "92a7425dced00b08330c9fc09cca5a7ebb491a5b56fad50c2bb180db35d23314", func := "epact/epactlaw07.DayCivil", spec := "dayCivil", inPlace := ["math/bits.Sub64", "math/bits.Add64"], apart := false }
def DayCivilSaid : Prop := dayCivilRow.holds Try.pinned (OpenSpec.ofChange dayCivilSpec)

/-- ITS FALSE NEIGHBOUR: 'it returns false'. Refute it at one input. -/
def dayCivilWrong : ChangeSpec := { name := "dayCivil", fn := fun _ => fun
  | [d] => { results := [.lit (.bool false)], args := [d] }
  | _ => none }
def DayCivilWrongFalsely : Prop := dayCivilRow.holds Try.pinned (OpenSpec.ofChange dayCivilWrong)

/- THE SECOND FORM. 'bulk': how many values and letters a reading holds, each counted each time it is reached (what is shared counts as often as it is met; a slice's spare places count too). A statement '..UptoSaid' is the law's where the arguments, and the package variables that the reading takes, are together of bulk at most 1048576: NARROWER than '..Said'. Prove '..Said' where nothing that the law and all that it calls make is longer than what came in: it says more and counts as full. Else prove '..UptoSaid'. A law counts once. -/
mutual
def uptoBulk {H : Type} : DataW H → Nat
  | .lit (.string bytes) => bytes.length + 1
  | .lit _ => 1
  | .nil => 1
  | .ptr d => uptoBulk d + 1
  | .slice elems spare => uptoBulkAll elems + uptoBulkAll spare + 1
  | .agg parts => uptoBulkAll parts + 1
  | .iface _ d => uptoBulk d + 1
  | .map entries => uptoBulkEntries entries + 1
  | .held _ => 1
def uptoBulkAll {H : Type} : List (DataW H) → Nat
  | [] => 0
  | d :: r => uptoBulk d + uptoBulkAll r
def uptoBulkEntries {H : Type} : List (Lit × DataW H) → Nat
  | [] => 0
  | x :: r => uptoBulkEntry x + uptoBulkEntries r
def uptoBulkEntry {H : Type} : Lit × DataW H → Nat
  | (.string bytes, d) => bytes.length + uptoBulk d + 1
  | (_, d) => uptoBulk d + 1
 end
def uptoSmall : (H : Type) → List (DataW H) → Bool := fun _ ds => decide (uptoBulkAll ds ≤ 1048576)
def OpenSpec.upto (s : _root_.Go.ChangeSpec) : _root_.Go.OpenSpec := { _root_.Go.OpenSpec.ofChange s with cond := some uptoSmall }

/-- 'epactlaw07.DayJoins', WHERE WHAT IT READS IS OF BULK AT MOST 1048576: true; the input reads as it did. -/
def dayJoinsUptoRow : OpenClaim := { program := "ythajjaiiganpkaa", sum := "92a7425dced00b08330c9fc09cca5a7ebb491a5b56fad50c2bb180db35d23314", func := "epact/epactlaw07.DayJoins", spec := "dayJoins", inPlace := ["math/bits.Sub64", "math/bits.Add64"], apart := false, narrowed := true }
def DayJoinsUptoSaid : Prop := dayJoinsUptoRow.holds Try.pinned (OpenSpec.upto dayJoinsSpec)

/-- 'epactlaw07.DaySplits', WHERE WHAT IT READS IS OF BULK AT MOST 1048576: true; the input reads as it did. -/
def daySplitsUptoRow : OpenClaim := { program := "ythajjaiiganpkaa", sum := "92a7425dced00b08330c9fc09cca5a7ebb491a5b56fad50c2bb180db35d23314", func := "epact/epactlaw07.DaySplits", spec := "daySplits", inPlace := ["math/bits.Sub64", "math/bits.Add64"], apart := false, narrowed := true }
def DaySplitsUptoSaid : Prop := daySplitsUptoRow.holds Try.pinned (OpenSpec.upto daySplitsSpec)

/-- 'epactlaw07.DayJulian', WHERE WHAT IT READS IS OF BULK AT MOST 1048576: true; the input reads as it did. -/
def dayJulianUptoRow : OpenClaim := { program := "ythajjaiiganpkaa", sum := "92a7425dced00b08330c9fc09cca5a7ebb491a5b56fad50c2bb180db35d23314", func := "epact/epactlaw07.DayJulian", spec := "dayJulian", inPlace := ["math/bits.Sub64", "math/bits.Add64"], apart := false, narrowed := true }
def DayJulianUptoSaid : Prop := dayJulianUptoRow.holds Try.pinned (OpenSpec.upto dayJulianSpec)

/-- 'epactlaw07.DayCivil', WHERE WHAT IT READS IS OF BULK AT MOST 1048576: true; the input reads as it did. -/
def dayCivilUptoRow : OpenClaim := { program := "ythajjaiiganpkaa", sum := "92a7425dced00b08330c9fc09cca5a7ebb491a5b56fad50c2bb180db35d23314", func := "epact/epactlaw07.DayCivil", spec := "dayCivil", inPlace := ["math/bits.Sub64", "math/bits.Add64"], apart := false, narrowed := true }
def DayCivilUptoSaid : Prop := dayCivilUptoRow.holds Try.pinned (OpenSpec.upto dayCivilSpec)

end Rows
end Go.Proofs.Ythajjaiiganpkaa
