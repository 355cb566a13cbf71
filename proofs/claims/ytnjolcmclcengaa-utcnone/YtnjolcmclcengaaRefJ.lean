/-
  The contracts of the reference numbers' Int and Of: an int, and a Wide, as a number without a bound. No conditions beside the memory's own.
-/
import Derived.Test.YtnjolcmclcengaaLawF
import Derived.Test.YtnjolcmclcengaaWideA
import Derived.Deep.DeepCutAuto
namespace Go.Proofs.Ytnjolcmclcengaa
open Go.RowKit

attribute [local go_sem ↓] Go.wp_at_zero Go.wp_at_succ

end Go.Proofs.Ytnjolcmclcengaa
