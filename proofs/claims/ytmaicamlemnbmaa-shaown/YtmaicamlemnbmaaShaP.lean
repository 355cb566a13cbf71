/-
  What the proofs of the laws over sums share. No conditions.
-/
import Derived.Test.YtmaicamlemnbmaaBytesP
namespace Go.Proofs.Ytmaicamlemnbmaa
open Go.ChangeShapes Go.WideShapes Go.ChangeAt Go.RowKit Go.Joins

theorem Try.own : ownKnob Try.prog.godebug = none := by kernel_rfl
theorem byte_nat {n : Int} (wn : (Lit.int .u8 n).wf = true) : ∃ N : Nat, n = N ∧ N < 256 := by
  simp [Lit.wf, IntKind.min, IntKind.max, IntKind.signed, IntKind.bits] at wn
  exact ⟨n.toNat, by omega, by omega⟩
end Go.Proofs.Ytmaicamlemnbmaa
