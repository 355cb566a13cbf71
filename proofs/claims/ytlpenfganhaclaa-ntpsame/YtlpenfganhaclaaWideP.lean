/-
  What the proofs of the laws over Wides share: a Wide, and an int, that is read as data, and read again. No conditions.
-/
import Derived.Test.YtlpenfganhaclaaWideA
import Derived.Test.YtlpenfganhaclaaOwnP
import Derived.ProofKit
import Derived.Lib.SmallJoins
namespace Go.Proofs.Ytlpenfganhaclaa
open Go.ChangeShapes Go.WideShapes Go.ChangeAt Go.RowKit Go.Joins

theorem Try.cellsWide : Try.prog.cellsOf 24 = 2 := by kernel_rfl
theorem wide_of_wf {h l : Int} (wh : (Lit.int .i64 h).wf = true) (wl : (Lit.int .u64 l).wf = true) : WideIs h l (h * 18446744073709551616 + l) := by
  simp [Lit.wf, IntKind.min, IntKind.max, IntKind.signed, IntKind.bits] at wh wl
  exact ⟨by omega, by omega, by omega, by omega, rfl⟩
theorem int_of_wf {n : Int} (wn : (Lit.int .i64 n).wf = true) : -9223372036854775808 ≤ n ∧ n ≤ 9223372036854775807 := by
  simp [Lit.wf, IntKind.min, IntKind.max, IntKind.signed, IntKind.bits] at wn
  omega
theorem u64_of_wf {n : Int} (wn : (Lit.int .u64 n).wf = true) : 0 ≤ n ∧ n < 18446744073709551616 := by
  simp [Lit.wf, IntKind.min, IntKind.max, IntKind.signed, IntKind.bits] at wn
  omega
theorem wide_reads {H : Type} {enc : TypeId × Value → H} {W' : World} {base : Nat} {sp : Nat → Bool} {hd : Bool} {h l : Int} (wh : (Lit.int .i64 h).wf = true) (wl : (Lit.int .u64 l).wf = true) :
    DataW.Trod enc Try.prog W' base sp hd 24 (.agg #[.int .i64 h, .int .u64 l]) (.agg [.lit (.int .i64 h), .lit (.int .u64 l)]) [] :=
  shut_agg2 (y0 := (.lit (.int .i64 h), [])) (y1 := (.lit (.int .u64 l), [])) Try.underlying24 (by kernel_rfl) Try.cellsWide ⟨1, by simp [DataW.trod, Try.underlying2, wh]⟩ ⟨1, by simp [DataW.trod, Try.underlying22, wl]⟩
theorem int_reads {H : Type} {enc : TypeId × Value → H} {W' : World} {base : Nat} {sp : Nat → Bool} {hd : Bool} {n : Int} (wn : (Lit.int .i64 n).wf = true) :
    DataW.Trod enc Try.prog W' base sp hd 3 (.int .i64 n) (.lit (.int .i64 n)) [] := ⟨1, by simp [DataW.trod, Value.cells, Try.underlying3, wn]⟩
end Go.Proofs.Ytlpenfganhaclaa
