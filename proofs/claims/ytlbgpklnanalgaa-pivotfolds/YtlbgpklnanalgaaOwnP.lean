/-
  What the proofs of all laws share: the seat's own knobs. No conditions.
-/
import Derived.Test.YtlbgpklnanalgaaProg
import Derived.Test.YtlbgpklnanalgaaChecked
import Derived.ProofKit
namespace Go.Proofs.Ytlbgpklnanalgaa
open Go.RowKit
theorem Try.own : ownKnob Try.prog.godebug = none := by kernel_rfl
end Go.Proofs.Ytlbgpklnanalgaa
