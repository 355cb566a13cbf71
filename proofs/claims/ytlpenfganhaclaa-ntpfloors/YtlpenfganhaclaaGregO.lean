/-
  Which days are in range (inB), which labels of UTC may be (isU); '==' of structs of three numbers (eqD), and of bools. No conditions.
-/
import Derived.Test.YtlpenfganhaclaaVcX
import Derived.Test.YtlpenfganhaclaaProg
namespace Go.Proofs.Ytlpenfganhaclaa
open Go.RowKit

def inB (n : Int) : Bool := decide (-1099511627776 ≤ n ∧ n ≤ 1099511627776)
theorem inB_iff {n : Int} : inB n = true ↔ -1099511627776 ≤ n ∧ n ≤ 1099511627776 := by unfold inB; exact decide_eq_true_iff
theorem inB_no {n : Int} : inB n = false ↔ ¬ (-1099511627776 ≤ n ∧ n ≤ 1099511627776) := by unfold inB; exact decide_eq_false_iff_not
def isU (s a : Int) : Bool := decide (0 ≤ s ∧ s ≤ 86400 ∧ 0 ≤ a ∧ a < 1000000000000000000)
theorem isU_iff {s a : Int} : isU s a = true ↔ 0 ≤ s ∧ s ≤ 86400 ∧ 0 ≤ a ∧ a < 1000000000000000000 := by unfold isU; exact decide_eq_true_iff
theorem isU_no {s a : Int} : isU s a = false ↔ ¬ (0 ≤ s ∧ s ≤ 86400 ∧ 0 ≤ a ∧ a < 1000000000000000000) := by unfold isU; exact decide_eq_false_iff_not
def eqD (a b c x y z : Int) : Bool := decide (a = x ∧ b = y ∧ c = z)
theorem eqD_same (a b c : Int) : eqD a b c a b c = true := by simp [eqD]
theorem run_eql_bool (a b : Bool) (w : World) : (binOp .eql 4 (.bool a) (.bool b)).run Try.prog w = .ok (.bool (a == b)) w := by
  cases a <;> cases b <;> simp [go_sem]
theorem run_neq_bool (a b : Bool) (w : World) : (binOp .neq 4 (.bool a) (.bool b)).run Try.prog w = .ok (.bool (a != b)) w := by
  cases a <;> cases b <;> simp [go_sem]
end Go.Proofs.Ytlpenfganhaclaa
