/-
  NARROWER THAN 'FOR EVERY INPUT', by the rows' own cells (each row's printed sentence says how): CalWeekdays: laid · CalYears: laid · CalFromYears: laid · CalWeeks: laid · CalFromWeeks: laid.
  DERIVED. THE GIVEN ROWS OF THIS SEAT. 5 by the template 'for every input the law returns true; each argument reads behind the call as it read before'; 0 by the template 'total and deterministic' (their statements: YtephjnnhfelkkaaDoorTotals.lean).
  GIVEN WITH THE SEED: the statements are not yours to turn. If you find one false, say at which input.
  Laid BY PROGRAM, IN A SANDBOX (cutbox-rows.mjs): the forced cells as the released guide's own fill.sh prints them over the translation 0ba8718171e40078… (all of the seat's roots in one cut). By AI agents, Wed Nov 11 2026. No macro, syntax, notation, axiom, sorry.
-/
import Derived.Test.YtephjnnhfelkkaaDoorChecked
import GoSem.Claim
import GoSem.ClaimJoined
import GoSem.ClaimMapViews
import Derived.JoinedTies
import Derived.KernelRfl
namespace Go.Proofs.YtephjnnhfelkkaaDoor
/- THE CELL 'sum', in the pinned program and in every row, IS THE sha256 OF THE DUMP (.gsa) THAT YtephjnnhfelkkaaDoorProg.lean LOADS. Nothing in Lean hashes anything: it is a label: what it is worth is what the hold of that sum in a sandbox is worth. -/
noncomputable def Tryd.pinned : Pinned := { name := "ytephjnnhfelkkaadoor", sum := "0ba8718171e400787de550d263b8c48fde1785207f576588c52328e267a1df71", checked := Tryd.checked }
namespace Rows
def none {H : Type} : Left H := { results := [], args := [] }

/- WHAT THE LISTED PACKAGE-LEVEL VARIABLES READ AS WHEN THE CALL BEGINS. Each datum BY PROGRAM (the guide's laid-datum.mjs) off the statement by which the dump's own 'gosem.cut.vars' lays the variable. In a bare row this is a premise. The card (YtephjnnhfelkkaaDoorCards.lean) ties it to the program's text. -/
def laid_epact_greg_lengths {H : Type} : DataW H := .agg [.lit (.int .i64 31), .lit (.int .i64 28), .lit (.int .i64 31), .lit (.int .i64 30), .lit (.int .i64 31), .lit (.int .i64 30), .lit (.int .i64 31), .lit (.int .i64 31), .lit (.int .i64 30), .lit (.int .i64 31), .lit (.int .i64 30), .lit (.int .i64 31)]

/-- 'epactlaw08.CalWeekdays': WHATEVER THE INPUT: true; the input reads as it did. -/
def calWeekdaysSpec : ChangeSpec := { name := "calWeekdays", fn := fun _ => fun
  | [d] => { results := [.lit (.bool true)], args := [d] }
  | _ => none }
def calWeekdaysRow : OpenClaim := { program := "ytephjnnhfelkkaadoor", sum := "0ba8718171e400787de550d263b8c48fde1785207f576588c52328e267a1df71", func := "epact/epactlaw08.CalWeekdays", spec := "calWeekdays", named := ["epact/greg.lengths"], apart := false, laid := [("epact/greg.lengths", laid_epact_greg_lengths)] }
def CalWeekdaysSaid : Prop := calWeekdaysRow.holds Tryd.pinned (OpenSpec.ofChange calWeekdaysSpec)

/-- ITS FALSE NEIGHBOUR: 'it returns false'. Refute it at one input. -/
def calWeekdaysWrong : ChangeSpec := { name := "calWeekdays", fn := fun _ => fun
  | [d] => { results := [.lit (.bool false)], args := [d] }
  | _ => none }
def CalWeekdaysWrongFalsely : Prop := calWeekdaysRow.holds Tryd.pinned (OpenSpec.ofChange calWeekdaysWrong)

/-- 'epactlaw08.CalYears': WHATEVER THE INPUT: true; the input reads as it did. -/
def calYearsSpec : ChangeSpec := { name := "calYears", fn := fun _ => fun
  | [d] => { results := [.lit (.bool true)], args := [d] }
  | _ => none }
def calYearsRow : OpenClaim := { program := "ytephjnnhfelkkaadoor", sum := "0ba8718171e400787de550d263b8c48fde1785207f576588c52328e267a1df71", func := "epact/epactlaw08.CalYears", spec := "calYears", named := ["epact/greg.lengths"], apart := false, laid := [("epact/greg.lengths", laid_epact_greg_lengths)] }
def CalYearsSaid : Prop := calYearsRow.holds Tryd.pinned (OpenSpec.ofChange calYearsSpec)

/-- ITS FALSE NEIGHBOUR: 'it returns false'. Refute it at one input. -/
def calYearsWrong : ChangeSpec := { name := "calYears", fn := fun _ => fun
  | [d] => { results := [.lit (.bool false)], args := [d] }
  | _ => none }
def CalYearsWrongFalsely : Prop := calYearsRow.holds Tryd.pinned (OpenSpec.ofChange calYearsWrong)

/-- 'epactlaw08.CalFromYears': WHATEVER THE INPUT: true; the input reads as it did. -/
def calFromYearsSpec : ChangeSpec := { name := "calFromYears", fn := fun _ => fun
  | [d1, d2] => { results := [.lit (.bool true)], args := [d1, d2] }
  | _ => none }
def calFromYearsRow : OpenClaim := { program := "ytephjnnhfelkkaadoor", sum := "0ba8718171e400787de550d263b8c48fde1785207f576588c52328e267a1df71", func := "epact/epactlaw08.CalFromYears", spec := "calFromYears", named := ["epact/greg.lengths"], apart := false, laid := [("epact/greg.lengths", laid_epact_greg_lengths)] }
def CalFromYearsSaid : Prop := calFromYearsRow.holds Tryd.pinned (OpenSpec.ofChange calFromYearsSpec)

/-- ITS FALSE NEIGHBOUR: 'it returns false'. Refute it at one input. -/
def calFromYearsWrong : ChangeSpec := { name := "calFromYears", fn := fun _ => fun
  | [d1, d2] => { results := [.lit (.bool false)], args := [d1, d2] }
  | _ => none }
def CalFromYearsWrongFalsely : Prop := calFromYearsRow.holds Tryd.pinned (OpenSpec.ofChange calFromYearsWrong)

/-- 'epactlaw08.CalWeeks': WHATEVER THE INPUT: true; the input reads as it did. -/
def calWeeksSpec : ChangeSpec := { name := "calWeeks", fn := fun _ => fun
  | [d] => { results := [.lit (.bool true)], args := [d] }
  | _ => none }
def calWeeksRow : OpenClaim := { program := "ytephjnnhfelkkaadoor", sum := "0ba8718171e400787de550d263b8c48fde1785207f576588c52328e267a1df71", func := "epact/epactlaw08.CalWeeks", spec := "calWeeks", named := ["epact/greg.lengths"], apart := false, laid := [("epact/greg.lengths", laid_epact_greg_lengths)] }
def CalWeeksSaid : Prop := calWeeksRow.holds Tryd.pinned (OpenSpec.ofChange calWeeksSpec)

/-- ITS FALSE NEIGHBOUR: 'it returns false'. Refute it at one input. -/
def calWeeksWrong : ChangeSpec := { name := "calWeeks", fn := fun _ => fun
  | [d] => { results := [.lit (.bool false)], args := [d] }
  | _ => none }
def CalWeeksWrongFalsely : Prop := calWeeksRow.holds Tryd.pinned (OpenSpec.ofChange calWeeksWrong)

/-- 'epactlaw08.CalFromWeeks': WHATEVER THE INPUT: true; the input reads as it did. -/
def calFromWeeksSpec : ChangeSpec := { name := "calFromWeeks", fn := fun _ => fun
  | [d1, d2, d3] => { results := [.lit (.bool true)], args := [d1, d2, d3] }
  | _ => none }
def calFromWeeksRow : OpenClaim := { program := "ytephjnnhfelkkaadoor", sum := "0ba8718171e400787de550d263b8c48fde1785207f576588c52328e267a1df71", func := "epact/epactlaw08.CalFromWeeks", spec := "calFromWeeks", named := ["epact/greg.lengths"], apart := false, laid := [("epact/greg.lengths", laid_epact_greg_lengths)] }
def CalFromWeeksSaid : Prop := calFromWeeksRow.holds Tryd.pinned (OpenSpec.ofChange calFromWeeksSpec)

/-- ITS FALSE NEIGHBOUR: 'it returns false'. Refute it at one input. -/
def calFromWeeksWrong : ChangeSpec := { name := "calFromWeeks", fn := fun _ => fun
  | [d1, d2, d3] => { results := [.lit (.bool false)], args := [d1, d2, d3] }
  | _ => none }
def CalFromWeeksWrongFalsely : Prop := calFromWeeksRow.holds Tryd.pinned (OpenSpec.ofChange calFromWeeksWrong)

/- THE SECOND FORM. 'bulk': how many values and letters a reading holds, each counted each time it is reached (what is shared counts as often as it is met; a slice's spare places count too). A statement '..UptoSaid' is the law's where the arguments, and the package variables that the reading takes, are together of bulk at most 1048576: NARROWER than '..Said'. Prove '..Said' where nothing that the law and all that it calls make is longer than what came in: it says more and counts as full. Else prove '..UptoSaid'. A law counts once. -/
mutual
def uptoBulk {H : Type} : DataW H → Nat
  | .lit (.string bytes) => bytes.length + 1
  | .lit _ => 1
  | .nil => 1
  | .ptr d => uptoBulk d + 1
  | .slice elems spare => uptoBulkAll elems + uptoBulkAll spare + 1
  | .agg parts => uptoBulkAll parts + 1
  | .iface _ d => uptoBulk d + 1
  | .map entries => uptoBulkEntries entries + 1
  | .held _ => 1
def uptoBulkAll {H : Type} : List (DataW H) → Nat
  | [] => 0
  | d :: r => uptoBulk d + uptoBulkAll r
def uptoBulkEntries {H : Type} : List (Lit × DataW H) → Nat
  | [] => 0
  | x :: r => uptoBulkEntry x + uptoBulkEntries r
def uptoBulkEntry {H : Type} : Lit × DataW H → Nat
  | (.string bytes, d) => bytes.length + uptoBulk d + 1
  | (_, d) => uptoBulk d + 1
 end
def uptoSmall : (H : Type) → List (DataW H) → Bool := fun _ ds => decide (uptoBulkAll ds ≤ 1048576)
def OpenSpec.upto (s : _root_.Go.ChangeSpec) : _root_.Go.OpenSpec := { _root_.Go.OpenSpec.ofChange s with cond := some uptoSmall }

/-- 'epactlaw08.CalWeekdays', WHERE WHAT IT READS IS OF BULK AT MOST 1048576: true; the input reads as it did. -/
def calWeekdaysUptoRow : OpenClaim := { program := "ytephjnnhfelkkaadoor", sum := "0ba8718171e400787de550d263b8c48fde1785207f576588c52328e267a1df71", func := "epact/epactlaw08.CalWeekdays", spec := "calWeekdays", named := ["epact/greg.lengths"], apart := false, laid := [("epact/greg.lengths", laid_epact_greg_lengths)], narrowed := true }
def CalWeekdaysUptoSaid : Prop := calWeekdaysUptoRow.holds Tryd.pinned (OpenSpec.upto calWeekdaysSpec)

/-- 'epactlaw08.CalYears', WHERE WHAT IT READS IS OF BULK AT MOST 1048576: true; the input reads as it did. -/
def calYearsUptoRow : OpenClaim := { program := "ytephjnnhfelkkaadoor", sum := "0ba8718171e400787de550d263b8c48fde1785207f576588c52328e267a1df71", func := "epact/epactlaw08.CalYears", spec := "calYears", named := ["epact/greg.lengths"], apart := false, laid := [("epact/greg.lengths", laid_epact_greg_lengths)], narrowed := true }
def CalYearsUptoSaid : Prop := calYearsUptoRow.holds Tryd.pinned (OpenSpec.upto calYearsSpec)

/-- 'epactlaw08.CalFromYears', WHERE WHAT IT READS IS OF BULK AT MOST 1048576: true; the input reads as it did. -/
def calFromYearsUptoRow : OpenClaim := { program := "ytephjnnhfelkkaadoor", sum := "0ba8718171e400787de550d263b8c48fde1785207f576588c52328e267a1df71", func := "epact/epactlaw08.CalFromYears", spec := "calFromYears", named := ["epact/greg.lengths"], apart := false, laid := [("epact/greg.lengths", laid_epact_greg_lengths)], narrowed := true }
def CalFromYearsUptoSaid : Prop := calFromYearsUptoRow.holds Tryd.pinned (OpenSpec.upto calFromYearsSpec)

/-- 'epactlaw08.CalWeeks', WHERE WHAT IT READS IS OF BULK AT MOST 1048576: true; the input reads as it did. -/
def calWeeksUptoRow : OpenClaim := { program := "ytephjnnhfelkkaadoor", sum := "0ba8718171e400787de550d263b8c48fde1785207f576588c52328e267a1df71", func := "epact/epactlaw08.CalWeeks", spec := "calWeeks", named := ["epact/greg.lengths"], apart := false, laid := [("epact/greg.lengths", laid_epact_greg_lengths)], narrowed := true }
def CalWeeksUptoSaid : Prop := calWeeksUptoRow.holds Tryd.pinned (OpenSpec.upto calWeeksSpec)

/-- 'epactlaw08.CalFromWeeks', WHERE WHAT IT READS IS OF BULK AT MOST 1048576: true; the input reads as it did. -/
def calFromWeeksUptoRow : OpenClaim := { program := "ytephjnnhfelkkaadoor", sum := "0ba8718171e400787de550d263b8c48fde1785207f576588c52328e267a1df71", func := "epact/epactlaw08.CalFromWeeks", spec := "calFromWeeks", named := ["epact/greg.lengths"], apart := false, laid := [("epact/greg.lengths", laid_epact_greg_lengths)], narrowed := true }
def CalFromWeeksUptoSaid : Prop := calFromWeeksUptoRow.holds Tryd.pinned (OpenSpec.upto calFromWeeksSpec)

end Rows
end Go.Proofs.YtephjnnhfelkkaaDoor
