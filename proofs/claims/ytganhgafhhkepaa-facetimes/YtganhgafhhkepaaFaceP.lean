/-
  What the proofs of the laws over times of day share: a Time that is read as data, and read again. No conditions.
-/
import Derived.Test.YtganhgafhhkepaaFaceA
import Derived.ProofKit
import Derived.Lib.SmallJoins
import Derived.MakeChecks
namespace Go.Proofs.Ytganhgafhhkepaa
open Go.ChangeShapes Go.WideShapes Go.ChangeAt Go.RowKit Go.Joins

theorem Try.own : ownKnob Try.prog.godebug = none := by kernel_rfl
theorem Try.cellsTime : Try.prog.cellsOf 23 = 4 := by kernel_rfl
theorem time_open {H : Type} {enc : TypeId × Value → H} {w : World} {base : Nat} {sp : Nat → Bool} {hd : Bool} {r : Reach} {b0 : Nat} {v : Value} {d : DataW H} {p : List MemPlace}
    (hv : Value.okWide Try.prog w r b0 23 v) (h : DataW.Trod enc Try.prog w base sp hd 23 v d p) :
    ∃ a b c f : Int, v = .agg #[.int .i64 a, .int .i64 b, .int .i64 c, .int .i64 f] ∧ d = .agg [.lit (.int .i64 a), .lit (.int .i64 b), .lit (.int .i64 c), .lit (.int .i64 f)] ∧ p = [] ∧ (Lit.int .i64 a).wf = true ∧ (Lit.int .i64 b).wf = true ∧ (Lit.int .i64 c).wf = true ∧ (Lit.int .i64 f).wf = true := by
  obtain ⟨v0, v1, v2, v3, y0, y1, y2, y3, n, rfl, rfl, rfl, h0, h1, h2, h3⟩ := open_agg4 Try.underlying23 (by kernel_rfl) Try.cellsTime hv h
  obtain ⟨a, e0, rfl, w0⟩ := DataW.trod_int Try.underlying3 h0
  obtain ⟨b, e1, rfl, w1⟩ := DataW.trod_int Try.underlying3 h1
  obtain ⟨c, e2, rfl, w2⟩ := DataW.trod_int Try.underlying3 h2
  obtain ⟨f, e3, rfl, w3⟩ := DataW.trod_int Try.underlying3 h3
  simp at e0 e1 e2 e3
  subst e0 e1 e2 e3
  exact ⟨a, b, c, f, rfl, rfl, rfl, w0, w1, w2, w3⟩
theorem time_reads {H : Type} {enc : TypeId × Value → H} {W' : World} {base : Nat} {sp : Nat → Bool} {hd : Bool} {a b c f : Int} (w0 : (Lit.int .i64 a).wf = true) (w1 : (Lit.int .i64 b).wf = true) (w2 : (Lit.int .i64 c).wf = true) (w3 : (Lit.int .i64 f).wf = true) :
    DataW.Trod enc Try.prog W' base sp hd 23 (.agg #[.int .i64 a, .int .i64 b, .int .i64 c, .int .i64 f]) (.agg [.lit (.int .i64 a), .lit (.int .i64 b), .lit (.int .i64 c), .lit (.int .i64 f)]) [] :=
  shut_agg4 (y0 := (.lit (.int .i64 a), [])) (y1 := (.lit (.int .i64 b), [])) (y2 := (.lit (.int .i64 c), [])) (y3 := (.lit (.int .i64 f), [])) Try.underlying23 (by kernel_rfl) Try.cellsTime ⟨1, by simp [DataW.trod, Try.underlying3, w0]⟩ ⟨1, by simp [DataW.trod, Try.underlying3, w1]⟩ ⟨1, by simp [DataW.trod, Try.underlying3, w2]⟩ ⟨1, by simp [DataW.trod, Try.underlying3, w3]⟩
end Go.Proofs.Ytganhgafhhkepaa
