/-
  What the proofs of all laws share: the seat's own knobs. No conditions.
-/
import Derived.Test.YtnjolcmclcengaaGreatProg
import Derived.Test.YtnjolcmclcengaaGreatChecked
import Derived.ProofKit
namespace Go.Proofs.YtnjolcmclcengaaGreat
open Go.RowKit
theorem Tryz.own : ownKnob Tryz.prog.godebug = none := by kernel_rfl
end Go.Proofs.YtnjolcmclcengaaGreat
