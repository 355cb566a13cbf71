/-
 What the proofs of the laws over labels share: a Label that is read as data, and read again. No conditions.
-/
import Derived.Test.YthihioakjpmnbaaGreatProg
import Derived.Test.YthihioakjpmnbaaGreatChecked
import Derived.ProofKit
import Derived.Test.YthihioakjpmnbaaGreatWideA
import Derived.Lib.SmallJoins
import Derived.Test.YthihioakjpmnbaaGreatDayR
import Derived.MakeChecks
namespace Go.Proofs.YthihioakjpmnbaaGreat
open Go.RowKit
theorem Tryz.own : ownKnob Tryz.prog.godebug = none := by kernel_rfl
end Go.Proofs.YthihioakjpmnbaaGreat

namespace Go.Proofs.YthihioakjpmnbaaGreat
open Go.ChangeShapes Go.WideShapes Go.ChangeAt Go.RowKit Go.Joins

theorem Tryz.cellsWide : Tryz.prog.cellsOf 26 = 2 := by kernel_rfl
theorem wide_of_wf {h l : Int} (wh : (Lit.int .i64 h).wf = true) (wl : (Lit.int .u64 l).wf = true) : WideIs h l (h * 18446744073709551616 + l) := by
 simp [Lit.wf, IntKind.min, IntKind.max, IntKind.signed, IntKind.bits] at wh wl
 exact ⟨by omega, by omega, by omega, by omega, rfl⟩
theorem int_of_wf {n : Int} (wn : (Lit.int .i64 n).wf = true) : -9223372036854775808 ≤ n ∧ n ≤ 9223372036854775807 := by
 simp [Lit.wf, IntKind.min, IntKind.max, IntKind.signed, IntKind.bits] at wn
 omega
theorem wide_reads {H : Type} {enc : TypeId × Value → H} {W' : World} {base : Nat} {sp : Nat → Bool} {hd : Bool} {h l : Int} (wh : (Lit.int .i64 h).wf = true) (wl : (Lit.int .u64 l).wf = true) :
  DataW.Trod enc Tryz.prog W' base sp hd 26 (.agg #[.int .i64 h, .int .u64 l]) (.agg [.lit (.int .i64 h), .lit (.int .u64 l)]) [] :=
 shut_agg2 (y0 := (.lit (.int .i64 h), [])) (y1 := (.lit (.int .u64 l), [])) Tryz.underlying26 (by kernel_rfl) Tryz.cellsWide ⟨1, by simp [DataW.trod, Tryz.underlying2, wh]⟩ ⟨1, by simp [DataW.trod, Tryz.underlying24, wl]⟩
end Go.Proofs.YthihioakjpmnbaaGreat

namespace Go.Proofs.YthihioakjpmnbaaGreat
open Go.ChangeShapes Go.WideShapes Go.ChangeAt Go.RowKit Go.Joins
set_option maxRecDepth 100000

theorem Tryz.cellsLabel : Tryz.prog.cellsOf 23 = 3 := by kernel_rfl
theorem label_open {H : Type} {enc : TypeId × Value → H} {w : World} {base : Nat} {sp : Nat → Bool} {hd : Bool} {r : Reach} {b0 : Nat} {v : Value} {d : DataW H} {p : List MemPlace}
  (hv : Value.okWide Tryz.prog w r b0 23 v) (h : DataW.Trod enc Tryz.prog w base sp hd 23 v d p) :
  ∃ a b c : Int, v = .agg #[.int .i64 a, .int .i64 b, .int .i64 c] ∧ d = .agg [.lit (.int .i64 a), .lit (.int .i64 b), .lit (.int .i64 c)] ∧ p = [] ∧ (Lit.int .i64 a).wf = true ∧ (Lit.int .i64 b).wf = true ∧ (Lit.int .i64 c).wf = true := by
 obtain ⟨v0, v1, v2, y0, y1, y2, n, rfl, rfl, rfl, h0, h1, h2⟩ := open_agg3 Tryz.underlying23 (by kernel_rfl) Tryz.cellsLabel hv h
 obtain ⟨a, e0, rfl, w0⟩ := DataW.trod_int Tryz.underlying3 h0
 obtain ⟨b, e1, rfl, w1⟩ := DataW.trod_int Tryz.underlying3 h1
 obtain ⟨c, e2, rfl, w2⟩ := DataW.trod_int Tryz.underlying3 h2
 simp at e0 e1 e2
 subst e0 e1 e2
 exact ⟨a, b, c, rfl, rfl, rfl, w0, w1, w2⟩
theorem label_reads {H : Type} {enc : TypeId × Value → H} {W' : World} {base : Nat} {sp : Nat → Bool} {hd : Bool} {a b c : Int} (w0 : (Lit.int .i64 a).wf = true) (w1 : (Lit.int .i64 b).wf = true) (w2 : (Lit.int .i64 c).wf = true) :
  DataW.Trod enc Tryz.prog W' base sp hd 23 (.agg #[.int .i64 a, .int .i64 b, .int .i64 c]) (.agg [.lit (.int .i64 a), .lit (.int .i64 b), .lit (.int .i64 c)]) [] :=
 shut_agg3 (y0 := (.lit (.int .i64 a), [])) (y1 := (.lit (.int .i64 b), [])) (y2 := (.lit (.int .i64 c), [])) Tryz.underlying23 (by kernel_rfl) Tryz.cellsLabel ⟨1, by simp [DataW.trod, Tryz.underlying3, w0]⟩ ⟨1, by simp [DataW.trod, Tryz.underlying3, w1]⟩ ⟨1, by simp [DataW.trod, Tryz.underlying3, w2]⟩
end Go.Proofs.YthihioakjpmnbaaGreat
