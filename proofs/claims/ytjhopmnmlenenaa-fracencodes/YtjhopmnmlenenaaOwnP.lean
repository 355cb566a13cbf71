/-
  What the proofs of all laws share: the seat's own knobs. No conditions.
-/
import Derived.Test.YtjhopmnmlenenaaProg
import Derived.Test.YtjhopmnmlenenaaChecked
import Derived.ProofKit
namespace Go.Proofs.Ytjhopmnmlenenaa
open Go.RowKit
theorem Try.own : ownKnob Try.prog.godebug = none := by kernel_rfl
end Go.Proofs.Ytjhopmnmlenenaa
