/-
  The contract of the reference numbers' Div, of a dividend below 0: the quotient rounded down, and what is left. No conditions beside the memory's own.
-/
import Derived.Test.YtnjolcmclcengaaRefL
import Derived.Laws.AppendOwnNone
import Derived.Deep.DeepCutAuto
namespace Go.Proofs.Ytnjolcmclcengaa
open Go.RowKit

theorem dn_up {P d q r : Int} (hd : 0 < d) (hq : P / d = q) (hr : P % d = r) (h0 : r ≠ 0) : -P / d = -(q + 1) ∧ -P % d = d - r := by
  rw [Int.ediv_emod_unique hd]
  have h1 := Int.emod_add_mul_ediv P d
  have h2 := Int.emod_nonneg P (by omega : d ≠ 0)
  have h3 := Int.emod_lt_of_pos P hd
  rw [hq, hr] at h1
  rw [hr] at h2 h3
  refine ⟨?_, by omega, by omega⟩
  rw [Int.mul_neg, Int.mul_add]; omega
theorem dn_even {P d q : Int} (hd : 0 < d) (hq : P / d = q) (hr : P % d = 0) : -P / d = -q ∧ -P % d = 0 := by
  rw [Int.ediv_emod_unique hd]
  have h1 := Int.emod_add_mul_ediv P d
  rw [hq, hr] at h1
  refine ⟨?_, by omega, by omega⟩
  rw [Int.mul_neg]; omega

attribute [local go_sem ↓] Go.wp_at_zero Go.wp_at_succ
end Go.Proofs.Ytnjolcmclcengaa
