/-
  Which days are in range (inB); '==' of structs of three numbers (eqD), and of bools. No conditions.
-/
import Derived.Test.YtnjolcmclcengaaGreatVcX
import Derived.Test.YtnjolcmclcengaaGreatProg
namespace Go.Proofs.YtnjolcmclcengaaGreat
open Go.RowKit

def inB (n : Int) : Bool := decide (-1099511627776 ≤ n ∧ n ≤ 1099511627776)
theorem inB_iff {n : Int} : inB n = true ↔ -1099511627776 ≤ n ∧ n ≤ 1099511627776 := by unfold inB; exact decide_eq_true_iff
theorem inB_no {n : Int} : inB n = false ↔ ¬ (-1099511627776 ≤ n ∧ n ≤ 1099511627776) := by unfold inB; exact decide_eq_false_iff_not
def eqD (a b c x y z : Int) : Bool := decide (a = x ∧ b = y ∧ c = z)
theorem eqD_same (a b c : Int) : eqD a b c a b c = true := by simp [eqD]
theorem run_eql_bool (a b : Bool) (w : World) : (binOp .eql 4 (.bool a) (.bool b)).run Tryz.prog w = .ok (.bool (a == b)) w := by
  cases a <;> cases b <;> simp [go_sem]
end Go.Proofs.YtnjolcmclcengaaGreat
