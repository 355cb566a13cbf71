/-
  What the proofs of all laws share: the seat's own knobs. No conditions.
-/
import Derived.Test.YtnjolcmclcengaaProg
import Derived.Test.YtnjolcmclcengaaChecked
import Derived.ProofKit
namespace Go.Proofs.Ytnjolcmclcengaa
open Go.RowKit
theorem Try.own : ownKnob Try.prog.godebug = none := by kernel_rfl
end Go.Proofs.Ytnjolcmclcengaa
