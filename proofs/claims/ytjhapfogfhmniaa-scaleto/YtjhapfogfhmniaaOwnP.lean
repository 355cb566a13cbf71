/-
 What the proofs of all laws share: the seat's own knobs. No conditions.
-/
import Derived.Test.YtjhapfogfhmniaaProg
import Derived.Test.YtjhapfogfhmniaaChecked
import Derived.ProofKit
namespace Go.Proofs.Ytjhapfogfhmniaa
open Go.RowKit
theorem Try.own : ownKnob Try.prog.godebug = none := by kernel_rfl
end Go.Proofs.Ytjhapfogfhmniaa
