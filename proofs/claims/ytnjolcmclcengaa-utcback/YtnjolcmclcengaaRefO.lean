/-
  The contract of the reference Div for a dividend of either sign (the divisor is above 0); eqI of equal numbers. No conditions.
-/
import Derived.Test.YtnjolcmclcengaaRefN
namespace Go.Proofs.Ytnjolcmclcengaa
open Go.RowKit

theorem eqI_refl (z : Int) : eqI z z = true := by unfold eqI; simp
end Go.Proofs.Ytnjolcmclcengaa
