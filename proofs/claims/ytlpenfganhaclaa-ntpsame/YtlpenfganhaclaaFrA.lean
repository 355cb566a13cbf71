/-
  Fractions of a second in plain numbers: the code of an attosecond, the least attosecond of a code (P19.1).
-/
import Derived.Test.YtlpenfganhaclaaNumB
namespace Go.Proofs.Ytlpenfganhaclaa
open Go.RowKit
set_option maxRecDepth 100000

theorem p2_mono {i j : Nat} (h : i ≤ j) : p2 i ≤ p2 j := by
  obtain ⟨k, rfl⟩ : ∃ k, j = i + k := ⟨j - i, by omega⟩
  rw [p2_add]
  have h1 := p2_pos i
  have h2 := p2_pos k
  have := Int.mul_le_mul_of_nonneg_left (show 1 ≤ p2 k by omega) (Int.le_of_lt h1)
  omega
/-- 256 to a power. -/
def oP (k : Nat) : Int := p2 (8 * k)
theorem oP_pos (k : Nat) : 0 < oP k := by unfold oP p2; exact Int.pow_pos (by decide)
/-- The code of an attosecond, and the least attosecond whose code is not less. -/
def fcI (a : Int) (k : Nat) : Int := a * oP k / 1000000000000000000
def flI (f : Int) (k : Nat) : Int := (f * 1000000000000000000 + (oP k - 1)) / oP k
theorem fl_iff {a f : Int} {k : Nat} : f ≤ fcI a k ↔ flI f k ≤ a := by
  have hp := oP_pos k
  have h1 : f ≤ a * oP k / 1000000000000000000 ↔ f * 1000000000000000000 ≤ a * oP k := Int.le_ediv_iff_mul_le (by decide)
  have h2 : (f * 1000000000000000000 + (oP k - 1)) / oP k < a + 1 ↔ f * 1000000000000000000 + (oP k - 1) < (a + 1) * oP k := Int.ediv_lt_iff_lt_mul hp
  rw [Int.add_mul] at h2
  unfold fcI flI
  omega
theorem fc_mono {a b : Int} {k : Nat} (h : a ≤ b) : fcI a k ≤ fcI b k := fl_iff.2 (Int.le_trans (fl_iff.1 (Int.le_refl _)) h)
theorem fl_code (a : Int) (k : Nat) : flI (fcI a k) k ≤ a ∧ fcI (flI (fcI a k) k) k = fcI a k := by
  have h1 := fl_iff.1 (Int.le_refl (fcI a k))
  have h2 := fl_iff.2 (Int.le_refl (flI (fcI a k) k))
  exact ⟨h1, Int.le_antisymm (fc_mono h1) h2⟩
theorem fc_low {a : Int} {k : Nat} (h : 0 ≤ a) : 0 ≤ fcI a k := Int.ediv_nonneg (Int.mul_nonneg h (Int.le_of_lt (oP_pos k))) (by decide)
theorem fc_top {a : Int} {k : Nat} (h : a < 1000000000000000000) : fcI a k < oP k := by
  have hp := oP_pos k
  unfold fcI
  rw [Int.ediv_lt_iff_lt_mul (by decide), Int.mul_comm (oP k)]
  exact Int.mul_lt_mul_of_pos_right h hp
theorem fl_low {f : Int} {k : Nat} (h : 0 ≤ f) : 0 ≤ flI f k := by
  have hp := oP_pos k
  refine Int.ediv_nonneg ?_ (Int.le_of_lt hp)
  have := Int.mul_nonneg h (show (0 : Int) ≤ 1000000000000000000 by decide)
  omega
theorem fl_top {f : Int} {k : Nat} (h : f < oP k) : flI f k ≤ 1000000000000000000 := by
  rw [← fl_iff]
  unfold fcI
  rw [Int.mul_comm, Int.mul_ediv_cancel _ (by decide)]
  omega
/-- Octets and attoseconds that may be. -/
def isO (o : Int) : Bool := decide (0 ≤ o ∧ o ≤ 10)
theorem isO_iff {o : Int} : isO o = true ↔ 0 ≤ o ∧ o ≤ 10 := by unfold isO; exact decide_eq_true_iff
theorem isO_no {o : Int} : isO o = false ↔ ¬ (0 ≤ o ∧ o ≤ 10) := by unfold isO; exact decide_eq_false_iff_not
theorem fc_eight {a b : Int} {k : Nat} (hk : 8 ≤ k) (h : fcI a k = fcI b k) : a = b := by
  have key : ∀ x y : Int, x < y → fcI x k < fcI y k := fun x y q => by
    have hp : 18446744073709551616 ≤ oP k := by
      unfold oP
      have := p2_mono (show 64 ≤ 8 * k by omega)
      exact Int.le_trans (by decide) this
    have e : x * oP k + 1000000000000000000 ≤ y * oP k := by
      have h1 : (x + 1) * oP k ≤ y * oP k := Int.mul_le_mul_of_nonneg_right q (by omega)
      rw [Int.add_mul] at h1
      omega
    unfold fcI
    generalize x * oP k = X at e ⊢
    generalize y * oP k = Y at e ⊢
    omega
  rcases Int.lt_trichotomy a b with q | q | q
  · have := key a b q; omega
  · exact q
  · have := key b a q; omega
theorem fc_seven {f : Int} {k : Nat} (hk : k ≤ 7) (h : 0 ≤ f ∧ f < oP k) : fcI (flI f k) k = f ∧ flI f k < 1000000000000000000 := by
  have hp := oP_pos k
  have hq : oP k ≤ 72057594037927936 := by
    unfold oP
    have := p2_mono (show 8 * k ≤ 56 by omega)
    exact Int.le_trans this (by decide)
  have h1 := fl_iff.2 (Int.le_refl (flI f k))
  have h2 : ¬ f + 1 ≤ fcI (flI f k) k := fun q => by
    have h3 := fl_iff.1 q
    unfold flI at h3
    have e : (f + 1) * 1000000000000000000 + (oP k - 1) = f * 1000000000000000000 + (oP k - 1) + 1000000000000000000 := by omega
    rw [e] at h3
    generalize f * 1000000000000000000 + (oP k - 1) = X at h3
    have h4 : (X + oP k * 1) / oP k = X / oP k + 1 := Int.add_mul_ediv_left X 1 (by omega)
    have h5 : (X + oP k * 1) / oP k ≤ (X + 1000000000000000000) / oP k := Int.ediv_le_ediv hp (by omega)
    omega
  refine ⟨by omega, ?_⟩
  have h6 := fl_top h.2
  rcases Int.lt_or_eq_of_le h6 with q | q
  · exact q
  · exfalso
    have h7 : fcI 1000000000000000000 k = oP k := by unfold fcI; rw [Int.mul_comm, Int.mul_ediv_cancel _ (by decide)]
    rw [q, h7] at h2
    omega

end Go.Proofs.Ytlpenfganhaclaa
