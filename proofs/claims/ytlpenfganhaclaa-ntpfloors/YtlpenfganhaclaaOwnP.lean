/-
  What the proofs of all laws share: the seat's own knobs. No conditions.
-/
import Derived.Test.YtlpenfganhaclaaProg
import Derived.Test.YtlpenfganhaclaaChecked
import Derived.ProofKit
namespace Go.Proofs.Ytlpenfganhaclaa
open Go.RowKit
theorem Try.own : ownKnob Try.prog.godebug = none := by kernel_rfl
end Go.Proofs.Ytlpenfganhaclaa
