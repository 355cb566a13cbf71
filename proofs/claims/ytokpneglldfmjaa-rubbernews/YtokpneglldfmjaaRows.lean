/-
  No cell of these rows narrows 'for every input' (looked for: loops, veiled, ifaces, maps, wideKeys, modest, calm, conditions, laid).
  DERIVED. THE GIVEN ROWS OF THIS SEAT. 7 by the template 'for every input the law returns true; each argument reads behind the call as it read before'; 0 by the template 'total and deterministic' (their statements: YtokpneglldfmjaaTotals.lean).
  GIVEN WITH THE SEED: the statements are not yours to turn. If you find one false, say at which input.
  Laid BY PROGRAM, IN A SANDBOX (cutbox-rows.mjs): the forced cells as the released guide's own fill.sh prints them over the translation 5f6d171cddd8c36c… (all of the seat's roots in one cut). By AI agents, Wed Nov 11 2026. No macro, syntax, notation, axiom, sorry.
-/
import Derived.Test.YtokpneglldfmjaaChecked
import GoSem.Claim
import GoSem.ClaimJoined
import GoSem.ClaimMapViews
import Derived.JoinedTies
import Derived.KernelRfl
namespace Go.Proofs.Ytokpneglldfmjaa
/- THE CELL 'sum', in the pinned program and in every row, IS THE sha256 OF THE DUMP (.gsa) THAT YtokpneglldfmjaaProg.lean LOADS. Nothing in Lean hashes anything: it is a label: what it is worth is what the hold of that sum in a sandbox is worth. -/
noncomputable def Try.pinned : Pinned := { name := "ytokpneglldfmjaa", sum := "5f6d171cddd8c36cb88720596a118ecf7fbeedce8a8837b302001328c3b56997", checked := Try.checked }
namespace Rows
def none {H : Type} : Left H := { results := [], args := [] }

/-- 'epactlaw14.RubberSegments': WHATEVER THE INPUT: true; the input reads as it did. -/
def rubberSegmentsSpec : ChangeSpec := { name := "rubberSegments", fn := fun _ => fun
  | [d1, d2] => { results := [.lit (.bool true)], args := [d1, d2] }
  | _ => none }
def rubberSegmentsRow : OpenClaim := { program := "ytokpneglldfmjaa", sum := "5f6d171cddd8c36cb88720596a118ecf7fbeedce8a8837b302001328c3b56997", func := "epact/epactlaw14.RubberSegments", spec := "rubberSegments", inPlace := ["math/bits.Sub64", "math/bits.Add64"], unfollowed := true, recurses := true, apart := false }
def RubberSegmentsSaid : Prop := rubberSegmentsRow.holds Try.pinned (OpenSpec.ofChange rubberSegmentsSpec)

/-- ITS FALSE NEIGHBOUR: 'it returns false'. Refute it at one input. -/
def rubberSegmentsWrong : ChangeSpec := { name := "rubberSegments", fn := fun _ => fun
  | [d1, d2] => { results := [.lit (.bool false)], args := [d1, d2] }
  | _ => none }
def RubberSegmentsWrongFalsely : Prop := rubberSegmentsRow.holds Try.pinned (OpenSpec.ofChange rubberSegmentsWrong)

/-- 'epactlaw14.RubberNews': WHATEVER THE INPUT: true; the input reads as it did. -/
def rubberNewsSpec : ChangeSpec := { name := "rubberNews", fn := fun _ => fun
  | [d] => { results := [.lit (.bool true)], args := [d] }
  | _ => none }
def rubberNewsRow : OpenClaim := { program := "ytokpneglldfmjaa", sum := "5f6d171cddd8c36cb88720596a118ecf7fbeedce8a8837b302001328c3b56997", func := "epact/epactlaw14.RubberNews", spec := "rubberNews", inPlace := ["math/bits.Sub64", "math/bits.Add64"], unfollowed := true, recurses := true, apart := false }
def RubberNewsSaid : Prop := rubberNewsRow.holds Try.pinned (OpenSpec.ofChange rubberNewsSpec)

/-- ITS FALSE NEIGHBOUR: 'it returns false'. Refute it at one input. -/
def rubberNewsWrong : ChangeSpec := { name := "rubberNews", fn := fun _ => fun
  | [d] => { results := [.lit (.bool false)], args := [d] }
  | _ => none }
def RubberNewsWrongFalsely : Prop := rubberNewsRow.holds Try.pinned (OpenSpec.ofChange rubberNewsWrong)

/-- 'epactlaw14.RubberTais': WHATEVER THE INPUT: true; the input reads as it did. -/
def rubberTaisSpec : ChangeSpec := { name := "rubberTais", fn := fun _ => fun
  | [d1, d2] => { results := [.lit (.bool true)], args := [d1, d2] }
  | _ => none }
def rubberTaisRow : OpenClaim := { program := "ytokpneglldfmjaa", sum := "5f6d171cddd8c36cb88720596a118ecf7fbeedce8a8837b302001328c3b56997", func := "epact/epactlaw14.RubberTais", spec := "rubberTais", inPlace := ["math/bits.Sub64", "math/bits.Add64"], unfollowed := true, recurses := true, apart := false }
def RubberTaisSaid : Prop := rubberTaisRow.holds Try.pinned (OpenSpec.ofChange rubberTaisSpec)

/-- ITS FALSE NEIGHBOUR: 'it returns false'. Refute it at one input. -/
def rubberTaisWrong : ChangeSpec := { name := "rubberTais", fn := fun _ => fun
  | [d1, d2] => { results := [.lit (.bool false)], args := [d1, d2] }
  | _ => none }
def RubberTaisWrongFalsely : Prop := rubberTaisRow.holds Try.pinned (OpenSpec.ofChange rubberTaisWrong)

/-- 'epactlaw14.RubberLabels': WHATEVER THE INPUT: true; the input reads as it did. -/
def rubberLabelsSpec : ChangeSpec := { name := "rubberLabels", fn := fun _ => fun
  | [d1, d2] => { results := [.lit (.bool true)], args := [d1, d2] }
  | _ => none }
def rubberLabelsRow : OpenClaim := { program := "ytokpneglldfmjaa", sum := "5f6d171cddd8c36cb88720596a118ecf7fbeedce8a8837b302001328c3b56997", func := "epact/epactlaw14.RubberLabels", spec := "rubberLabels", inPlace := ["math/bits.Sub64", "math/bits.Add64"], unfollowed := true, recurses := true, apart := false }
def RubberLabelsSaid : Prop := rubberLabelsRow.holds Try.pinned (OpenSpec.ofChange rubberLabelsSpec)

/-- ITS FALSE NEIGHBOUR: 'it returns false'. Refute it at one input. -/
def rubberLabelsWrong : ChangeSpec := { name := "rubberLabels", fn := fun _ => fun
  | [d1, d2] => { results := [.lit (.bool false)], args := [d1, d2] }
  | _ => none }
def RubberLabelsWrongFalsely : Prop := rubberLabelsRow.holds Try.pinned (OpenSpec.ofChange rubberLabelsWrong)

/-- 'epactlaw14.RubberBack': WHATEVER THE INPUT: true; the input reads as it did. -/
def rubberBackSpec : ChangeSpec := { name := "rubberBack", fn := fun _ => fun
  | [d1, d2, d3] => { results := [.lit (.bool true)], args := [d1, d2, d3] }
  | _ => none }
def rubberBackRow : OpenClaim := { program := "ytokpneglldfmjaa", sum := "5f6d171cddd8c36cb88720596a118ecf7fbeedce8a8837b302001328c3b56997", func := "epact/epactlaw14.RubberBack", spec := "rubberBack", inPlace := ["math/bits.Sub64", "math/bits.Add64"], unfollowed := true, recurses := true, apart := false }
def RubberBackSaid : Prop := rubberBackRow.holds Try.pinned (OpenSpec.ofChange rubberBackSpec)

/-- ITS FALSE NEIGHBOUR: 'it returns false'. Refute it at one input. -/
def rubberBackWrong : ChangeSpec := { name := "rubberBack", fn := fun _ => fun
  | [d1, d2, d3] => { results := [.lit (.bool false)], args := [d1, d2, d3] }
  | _ => none }
def RubberBackWrongFalsely : Prop := rubberBackRow.holds Try.pinned (OpenSpec.ofChange rubberBackWrong)

/-- 'epactlaw14.RubberRises': WHATEVER THE INPUT: true; the input reads as it did. -/
def rubberRisesSpec : ChangeSpec := { name := "rubberRises", fn := fun _ => fun
  | [d1, d2, d3] => { results := [.lit (.bool true)], args := [d1, d2, d3] }
  | _ => none }
def rubberRisesRow : OpenClaim := { program := "ytokpneglldfmjaa", sum := "5f6d171cddd8c36cb88720596a118ecf7fbeedce8a8837b302001328c3b56997", func := "epact/epactlaw14.RubberRises", spec := "rubberRises", inPlace := ["math/bits.Sub64", "math/bits.Add64"], unfollowed := true, recurses := true, apart := false }
def RubberRisesSaid : Prop := rubberRisesRow.holds Try.pinned (OpenSpec.ofChange rubberRisesSpec)

/-- ITS FALSE NEIGHBOUR: 'it returns false'. Refute it at one input. -/
def rubberRisesWrong : ChangeSpec := { name := "rubberRises", fn := fun _ => fun
  | [d1, d2, d3] => { results := [.lit (.bool false)], args := [d1, d2, d3] }
  | _ => none }
def RubberRisesWrongFalsely : Prop := rubberRisesRow.holds Try.pinned (OpenSpec.ofChange rubberRisesWrong)

/-- 'epactlaw14.RubberNone': WHATEVER THE INPUT: true; the input reads as it did. -/
def rubberNoneSpec : ChangeSpec := { name := "rubberNone", fn := fun _ => fun
  | [d1, d2, d3] => { results := [.lit (.bool true)], args := [d1, d2, d3] }
  | _ => none }
def rubberNoneRow : OpenClaim := { program := "ytokpneglldfmjaa", sum := "5f6d171cddd8c36cb88720596a118ecf7fbeedce8a8837b302001328c3b56997", func := "epact/epactlaw14.RubberNone", spec := "rubberNone", inPlace := ["math/bits.Sub64", "math/bits.Add64"], unfollowed := true, recurses := true, apart := false }
def RubberNoneSaid : Prop := rubberNoneRow.holds Try.pinned (OpenSpec.ofChange rubberNoneSpec)

/-- ITS FALSE NEIGHBOUR: 'it returns false'. Refute it at one input. -/
def rubberNoneWrong : ChangeSpec := { name := "rubberNone", fn := fun _ => fun
  | [d1, d2, d3] => { results := [.lit (.bool false)], args := [d1, d2, d3] }
  | _ => none }
def RubberNoneWrongFalsely : Prop := rubberNoneRow.holds Try.pinned (OpenSpec.ofChange rubberNoneWrong)

/- THE SECOND FORM. 'bulk': how many values and letters a reading holds, each counted each time it is reached (what is shared counts as often as it is met; a slice's spare places count too). A statement '..UptoSaid' is the law's where the arguments, and the package variables that the reading takes, are together of bulk at most 1048576: NARROWER than '..Said'. Prove '..Said' where nothing that the law and all that it calls make is longer than what came in: it says more and counts as full. Else prove '..UptoSaid'. A law counts once. -/
mutual
def uptoBulk {H : Type} : DataW H → Nat
  | .lit (.string bytes) => bytes.length + 1
  | .lit _ => 1
  | .nil => 1
  | .ptr d => uptoBulk d + 1
  | .slice elems spare => uptoBulkAll elems + uptoBulkAll spare + 1
  | .agg parts => uptoBulkAll parts + 1
  | .iface _ d => uptoBulk d + 1
  | .map entries => uptoBulkEntries entries + 1
  | .held _ => 1
def uptoBulkAll {H : Type} : List (DataW H) → Nat
  | [] => 0
  | d :: r => uptoBulk d + uptoBulkAll r
def uptoBulkEntries {H : Type} : List (Lit × DataW H) → Nat
  | [] => 0
  | x :: r => uptoBulkEntry x + uptoBulkEntries r
def uptoBulkEntry {H : Type} : Lit × DataW H → Nat
  | (.string bytes, d) => bytes.length + uptoBulk d + 1
  | (_, d) => uptoBulk d + 1
 end
def uptoSmall : (H : Type) → List (DataW H) → Bool := fun _ ds => decide (uptoBulkAll ds ≤ 1048576)
def OpenSpec.upto (s : _root_.Go.ChangeSpec) : _root_.Go.OpenSpec := { _root_.Go.OpenSpec.ofChange s with cond := some uptoSmall }

/-- 'epactlaw14.RubberSegments', WHERE WHAT IT READS IS OF BULK AT MOST 1048576: true; the input reads as it did. -/
def rubberSegmentsUptoRow : OpenClaim := { program := "ytokpneglldfmjaa", sum := "5f6d171cddd8c36cb88720596a118ecf7fbeedce8a8837b302001328c3b56997", func := "epact/epactlaw14.RubberSegments", spec := "rubberSegments", inPlace := ["math/bits.Sub64", "math/bits.Add64"], unfollowed := true, recurses := true, apart := false, narrowed := true }
def RubberSegmentsUptoSaid : Prop := rubberSegmentsUptoRow.holds Try.pinned (OpenSpec.upto rubberSegmentsSpec)

/-- 'epactlaw14.RubberNews', WHERE WHAT IT READS IS OF BULK AT MOST 1048576: true; the input reads as it did. -/
def rubberNewsUptoRow : OpenClaim := { program := "ytokpneglldfmjaa", sum := "5f6d171cddd8c36cb88720596a118ecf7fbeedce8a8837b302001328c3b56997", func := "epact/epactlaw14.RubberNews", spec := "rubberNews", inPlace := ["math/bits.Sub64", "math/bits.Add64"], unfollowed := true, recurses := true, apart := false, narrowed := true }
def RubberNewsUptoSaid : Prop := rubberNewsUptoRow.holds Try.pinned (OpenSpec.upto rubberNewsSpec)

/-- 'epactlaw14.RubberTais', WHERE WHAT IT READS IS OF BULK AT MOST 1048576: true; the input reads as it did. -/
def rubberTaisUptoRow : OpenClaim := { program := "ytokpneglldfmjaa", sum := "5f6d171cddd8c36cb88720596a118ecf7fbeedce8a8837b302001328c3b56997", func := "epact/epactlaw14.RubberTais", spec := "rubberTais", inPlace := ["math/bits.Sub64", "math/bits.Add64"], unfollowed := true, recurses := true, apart := false, narrowed := true }
def RubberTaisUptoSaid : Prop := rubberTaisUptoRow.holds Try.pinned (OpenSpec.upto rubberTaisSpec)

/-- 'epactlaw14.RubberLabels', WHERE WHAT IT READS IS OF BULK AT MOST 1048576: true; the input reads as it did. -/
def rubberLabelsUptoRow : OpenClaim := { program := "ytokpneglldfmjaa", sum := "5f6d171cddd8c36cb88720596a118ecf7fbeedce8a8837b302001328c3b56997", func := "epact/epactlaw14.RubberLabels", spec := "rubberLabels", inPlace := ["math/bits.Sub64", "math/bits.Add64"], unfollowed := true, recurses := true, apart := false, narrowed := true }
def RubberLabelsUptoSaid : Prop := rubberLabelsUptoRow.holds Try.pinned (OpenSpec.upto rubberLabelsSpec)

/-- 'epactlaw14.RubberBack', WHERE WHAT IT READS IS OF BULK AT MOST 1048576: true; the input reads as it did. -/
def rubberBackUptoRow : OpenClaim := { program := "ytokpneglldfmjaa", sum := "5f6d171cddd8c36cb88720596a118ecf7fbeedce8a8837b302001328c3b56997", func := "epact/epactlaw14.RubberBack", spec := "rubberBack", inPlace := ["math/bits.Sub64", "math/bits.Add64"], unfollowed := true, recurses := true, apart := false, narrowed := true }
def RubberBackUptoSaid : Prop := rubberBackUptoRow.holds Try.pinned (OpenSpec.upto rubberBackSpec)

/-- 'epactlaw14.RubberRises', WHERE WHAT IT READS IS OF BULK AT MOST 1048576: true; the input reads as it did. -/
def rubberRisesUptoRow : OpenClaim := { program := "ytokpneglldfmjaa", sum := "5f6d171cddd8c36cb88720596a118ecf7fbeedce8a8837b302001328c3b56997", func := "epact/epactlaw14.RubberRises", spec := "rubberRises", inPlace := ["math/bits.Sub64", "math/bits.Add64"], unfollowed := true, recurses := true, apart := false, narrowed := true }
def RubberRisesUptoSaid : Prop := rubberRisesUptoRow.holds Try.pinned (OpenSpec.upto rubberRisesSpec)

/-- 'epactlaw14.RubberNone', WHERE WHAT IT READS IS OF BULK AT MOST 1048576: true; the input reads as it did. -/
def rubberNoneUptoRow : OpenClaim := { program := "ytokpneglldfmjaa", sum := "5f6d171cddd8c36cb88720596a118ecf7fbeedce8a8837b302001328c3b56997", func := "epact/epactlaw14.RubberNone", spec := "rubberNone", inPlace := ["math/bits.Sub64", "math/bits.Add64"], unfollowed := true, recurses := true, apart := false, narrowed := true }
def RubberNoneUptoSaid : Prop := rubberNoneUptoRow.holds Try.pinned (OpenSpec.upto rubberNoneSpec)

end Rows
end Go.Proofs.Ytokpneglldfmjaa
