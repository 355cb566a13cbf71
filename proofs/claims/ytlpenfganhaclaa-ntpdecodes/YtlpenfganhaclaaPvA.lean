/-
  Fields that wrap, in plain numbers; and the contract of the reference's Near (P18.1, P18.2).
-/
import Derived.Test.YtlpenfganhaclaaDayR
import Derived.Test.YtlpenfganhaclaaNumB
namespace Go.Proofs.Ytlpenfganhaclaa
open Go.RowKit
set_option maxRecDepth 100000

def pfE (n : Int) : Int := if n ≤ 0 then 3 else 0
def pfZ (m n : Int) : Int := if n ≤ 0 then 0 else m % n
/-- The number that leaves f by n, in the era about p. -/
def pnI (f n p : Int) : Int := p - n / 2 + (f - (p - n / 2)) % n
def pnE (f n p : Int) : Int := if n ≤ 0 then 3 else if f < 0 ∨ n ≤ f then 1 else if inW (p - n / 2) = true ∧ inW (pnI f n p) = true then 0 else 2
def pnZ (f n p : Int) : Int := if pnE f n p = 0 then pnI f n p else 0
theorem pf_zero {m n : Int} (h : n ≤ 0) : pfE n = 3 ∧ pfZ m n = 0 := ⟨if_pos h, if_pos h⟩
theorem pf_ok {m n : Int} (h : 0 < n) : pfE n = 0 ∧ pfZ m n = m % n := ⟨if_neg (by omega), if_neg (by omega)⟩
theorem pn_zero {f n p : Int} (h : n ≤ 0) : pnE f n p = 3 ∧ pnZ f n p = 0 := by
  have e : pnE f n p = 3 := if_pos h
  exact ⟨e, if_neg (by rw [e]; decide)⟩
theorem pn_arg {f n p : Int} (h : 0 < n) (k : f < 0 ∨ n ≤ f) : pnE f n p = 1 ∧ pnZ f n p = 0 := by
  have e : pnE f n p = 1 := by unfold pnE; rw [if_neg (by omega), if_pos k]
  exact ⟨e, if_neg (by rw [e]; decide)⟩
theorem pn_over {f n p : Int} (h : 0 < n) (k : 0 ≤ f ∧ f < n) (q : ¬ (inW (p - n / 2) = true ∧ inW (pnI f n p) = true)) : pnE f n p = 2 ∧ pnZ f n p = 0 := by
  have e : pnE f n p = 2 := by unfold pnE; rw [if_neg (by omega), if_neg (by omega), if_neg q]
  exact ⟨e, if_neg (by rw [e]; decide)⟩
theorem pn_ok {f n p : Int} (h : 0 < n) (k : 0 ≤ f ∧ f < n) (q : inW (p - n / 2) = true ∧ inW (pnI f n p) = true) : pnE f n p = 0 ∧ pnZ f n p = pnI f n p := by
  have e : pnE f n p = 0 := by unfold pnE; rw [if_neg (by omega), if_neg (by omega), if_pos q]
  exact ⟨e, if_pos e⟩
theorem pn_in {f n p : Int} (h : 0 < n) : p - n / 2 ≤ pnI f n p ∧ pnI f n p < p - n / 2 + n := by
  have h1 := Int.emod_nonneg (f - (p - n / 2)) (show n ≠ 0 by omega)
  have h2 := Int.emod_lt_of_pos (f - (p - n / 2)) h
  unfold pnI
  omega
theorem pn_fold {f n p : Int} (k : 0 ≤ f ∧ f < n) : pnI f n p % n = f := by
  unfold pnI
  rw [Int.add_emod, Int.emod_emod_of_dvd _ (Int.dvd_refl n), ← Int.add_emod, show p - n / 2 + (f - (p - n / 2)) = f by omega]
  exact Int.emod_eq_of_lt k.1 k.2
/-- The only one. -/
theorem pn_only {m n p : Int} (h : 0 < n) : pnI (m % n) n p = m ↔ p - n / 2 ≤ m ∧ m < p - n / 2 + n := by
  constructor
  · intro e
    rw [← e]
    exact pn_in h
  · intro q
    have e : (m % n - (p - n / 2)) % n = (m - (p - n / 2)) % n := by rw [Int.sub_emod, Int.emod_emod_of_dvd _ (Int.dvd_refl n), ← Int.sub_emod]
    unfold pnI
    rw [e, Int.emod_eq_of_lt (by omega) (by omega)]
    omega

end Go.Proofs.Ytlpenfganhaclaa
