/-
  What the proofs of the laws over labels share: a Label that is read as data, and read again. No conditions.
-/
import Derived.Test.YtokpneglldfmjaaWideA
import Derived.Test.YtokpneglldfmjaaSegP
import Derived.ProofKit
import Derived.Lib.SmallJoins
import Derived.Test.YtokpneglldfmjaaDayR
import Derived.MakeChecks
namespace Go.Proofs.Ytokpneglldfmjaa
open Go.ChangeShapes Go.WideShapes Go.ChangeAt Go.RowKit Go.Joins

theorem Try.cellsWide : Try.prog.cellsOf 41 = 2 := by kernel_rfl
theorem wide_of_wf {h l : Int} (wh : (Lit.int .i64 h).wf = true) (wl : (Lit.int .u64 l).wf = true) : WideIs h l (h * 18446744073709551616 + l) := by
  simp [Lit.wf, IntKind.min, IntKind.max, IntKind.signed, IntKind.bits] at wh wl
  exact ⟨by omega, by omega, by omega, by omega, rfl⟩
theorem int_of_wf {n : Int} (wn : (Lit.int .i64 n).wf = true) : -9223372036854775808 ≤ n ∧ n ≤ 9223372036854775807 := by
  simp [Lit.wf, IntKind.min, IntKind.max, IntKind.signed, IntKind.bits] at wn
  omega
theorem wide_reads {H : Type} {enc : TypeId × Value → H} {W' : World} {base : Nat} {sp : Nat → Bool} {hd : Bool} {h l : Int} (wh : (Lit.int .i64 h).wf = true) (wl : (Lit.int .u64 l).wf = true) :
    DataW.Trod enc Try.prog W' base sp hd 41 (.agg #[.int .i64 h, .int .u64 l]) (.agg [.lit (.int .i64 h), .lit (.int .u64 l)]) [] :=
  shut_agg2 (y0 := (.lit (.int .i64 h), [])) (y1 := (.lit (.int .u64 l), [])) Try.underlying41 (by kernel_rfl) Try.cellsWide ⟨1, by simp [DataW.trod, Try.underlying2, wh]⟩ ⟨1, by simp [DataW.trod, Try.underlying39, wl]⟩
end Go.Proofs.Ytokpneglldfmjaa

namespace Go.Proofs.Ytokpneglldfmjaa
open Go.ChangeShapes Go.WideShapes Go.ChangeAt Go.RowKit Go.Joins
set_option maxRecDepth 100000

theorem Try.cellsLabel : Try.prog.cellsOf 38 = 3 := by kernel_rfl
theorem label_open {H : Type} {enc : TypeId × Value → H} {w : World} {base : Nat} {sp : Nat → Bool} {hd : Bool} {r : Reach} {b0 : Nat} {v : Value} {d : DataW H} {p : List MemPlace}
    (hv : Value.okWide Try.prog w r b0 38 v) (h : DataW.Trod enc Try.prog w base sp hd 38 v d p) :
    ∃ a b c : Int, v = .agg #[.int .i64 a, .int .i64 b, .int .i64 c] ∧ d = .agg [.lit (.int .i64 a), .lit (.int .i64 b), .lit (.int .i64 c)] ∧ p = [] ∧ (Lit.int .i64 a).wf = true ∧ (Lit.int .i64 b).wf = true ∧ (Lit.int .i64 c).wf = true := by
  obtain ⟨v0, v1, v2, y0, y1, y2, n, rfl, rfl, rfl, h0, h1, h2⟩ := open_agg3 Try.underlying38 (by kernel_rfl) Try.cellsLabel hv h
  obtain ⟨a, e0, rfl, w0⟩ := DataW.trod_int Try.underlying3 h0
  obtain ⟨b, e1, rfl, w1⟩ := DataW.trod_int Try.underlying3 h1
  obtain ⟨c, e2, rfl, w2⟩ := DataW.trod_int Try.underlying3 h2
  simp at e0 e1 e2
  subst e0 e1 e2
  exact ⟨a, b, c, rfl, rfl, rfl, w0, w1, w2⟩
theorem label_reads {H : Type} {enc : TypeId × Value → H} {W' : World} {base : Nat} {sp : Nat → Bool} {hd : Bool} {a b c : Int} (w0 : (Lit.int .i64 a).wf = true) (w1 : (Lit.int .i64 b).wf = true) (w2 : (Lit.int .i64 c).wf = true) :
    DataW.Trod enc Try.prog W' base sp hd 38 (.agg #[.int .i64 a, .int .i64 b, .int .i64 c]) (.agg [.lit (.int .i64 a), .lit (.int .i64 b), .lit (.int .i64 c)]) [] :=
  shut_agg3 (y0 := (.lit (.int .i64 a), [])) (y1 := (.lit (.int .i64 b), [])) (y2 := (.lit (.int .i64 c), [])) Try.underlying38 (by kernel_rfl) Try.cellsLabel ⟨1, by simp [DataW.trod, Try.underlying3, w0]⟩ ⟨1, by simp [DataW.trod, Try.underlying3, w1]⟩ ⟨1, by simp [DataW.trod, Try.underlying3, w2]⟩
end Go.Proofs.Ytokpneglldfmjaa
