/-
  The contracts of the reference numbers' Sub and Pow2, and of the laws' own helpers 'of' and 'both': a Limb as a number, two as a number. No conditions beside the memory's own.
-/
import Derived.Test.YtnjolcmclcengaaRefE
namespace Go.Proofs.Ytnjolcmclcengaa
open Go.RowKit

attribute [local go_sem ↓] Go.wp_at_zero Go.wp_at_succ

/-- 2 to a power, under a name. -/
def p2 (n : Nat) : Int := 2 ^ n
theorem p2_pos (n : Nat) : 0 < p2 n := by unfold p2; exact Int.pow_pos (by decide)
theorem p2_succ (n : Nat) : p2 (n + 1) = 2 * p2 n := by unfold p2; rw [Int.pow_succ, Int.mul_comm]
theorem pw_p2 (k : Nat) : pw k = p2 (16 * k) := by
  unfold pw p2; rw [Int.pow_mul]; rfl

theorem p2_add (i j : Nat) : p2 (i + j) = p2 i * p2 j := by unfold p2; rw [Int.pow_add]
theorem p2_small {r : Nat} (h : r < 16) : 0 < p2 r ∧ p2 r < 65536 := by
  have key : ∀ r : Fin 16, 0 < p2 r.val ∧ p2 r.val < 65536 := by decide
  exact key ⟨r, h⟩
/-- The digits of a power of 2. -/
def powDs (n : Nat) : List Int := (zeros (n / 16 + 1)).set (n / 16) (p2 (n % 16))
theorem powDs_len (n : Nat) : (powDs n).length = n / 16 + 1 := by unfold powDs; rw [List.length_set, zeros_len]
theorem powDs_ok (n : Nat) : Dig (powDs n) ∧ Canon (powDs n) ∧ val (powDs n) = p2 n := by
  obtain ⟨h0, h1⟩ := p2_small (r := n % 16) (by omega)
  refine ⟨dig_set (dig_zeros _) (by omega) h1, .inr ?_, ?_⟩
  · rw [powDs_len]
    show dg (powDs n) (n / 16 + 1 - 1) ≠ 0
    rw [Nat.add_sub_cancel]
    unfold powDs
    rw [dg_set_at (by rw [zeros_len]; omega)]; omega
  · unfold powDs
    rw [val_set (by rw [zeros_len]; omega), val_zeros, dg_zeros, pw_p2, Int.sub_zero, ← p2_add, Int.zero_add]
    congr 1; omega



end Go.Proofs.Ytnjolcmclcengaa
