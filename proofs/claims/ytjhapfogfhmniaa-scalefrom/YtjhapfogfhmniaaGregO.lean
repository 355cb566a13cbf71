/-
 Which days are in range (inB), which labels of UTC may be (isU); '==' of structs of three numbers (eqD), and of bools. No conditions.
-/
import Derived.Test.YtjhapfogfhmniaaVcX
import Derived.Test.YtjhapfogfhmniaaProg
namespace Go.Proofs.Ytjhapfogfhmniaa
open Go.RowKit

def inB (n : Int) : Bool := decide (-1099511627776 ≤ n ∧ n ≤ 1099511627776)
theorem inB_iff {n : Int} : inB n = true ↔ -1099511627776 ≤ n ∧ n ≤ 1099511627776 := by unfold inB; exact decide_eq_true_iff
theorem inB_no {n : Int} : inB n = false ↔ ¬ (-1099511627776 ≤ n ∧ n ≤ 1099511627776) := by unfold inB; exact decide_eq_false_iff_not
end Go.Proofs.Ytjhapfogfhmniaa
