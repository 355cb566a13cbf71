/-
  The contracts of the reference numbers' Cmp, Same, Add, Sub and Pow2. No conditions beside the memory's own.
-/
import Derived.Test.YtnjolcmclcengaaRefC
import Derived.Deep.DrawnRows
namespace Go.Proofs.Ytnjolcmclcengaa
open Go.RowKit

theorem cmpI_opp (x y : Int) : cmpI (-y) (-x) = cmpI x y := by
  unfold cmpI; split <;> split <;> (try split) <;> (try split) <;> omega


theorem ab_sub1 {x y : Int} (h : (x < 0 ∧ 0 ≤ y) ∨ (0 ≤ x ∧ y < 0)) (g : ab y ≤ ab x) : ab (x + y) = ab x - ab y := by
  rcases h with ⟨h1, h2⟩ | ⟨h1, h2⟩
  · rw [ab_neg h1, ab_pos h2] at g ⊢
    by_cases e : x + y < 0
    · rw [ab_neg e]; omega
    · rw [ab_pos (by omega)]; omega
  · rw [ab_pos h1, ab_neg h2] at g ⊢
    rw [ab_pos (by omega)]; omega
theorem ab_sub2 {x y : Int} (h : (x < 0 ∧ 0 ≤ y) ∨ (0 ≤ x ∧ y < 0)) (g : ab x ≤ ab y) : ab (x + y) = ab y - ab x := by
  rw [Int.add_comm]
  exact ab_sub1 (by omega) g

/-- Are two the same? Under a name. -/
def eqI (x y : Int) : Bool := decide (x = y)

attribute [local go_sem ↓] Go.wp_at_zero Go.wp_at_succ
end Go.Proofs.Ytnjolcmclcengaa
