/-
  Numbers as octets, in plain lists: the octets of a number, the number of octets (P19.2).
-/
import Derived.Test.YtlpenfganhaclaaFrA
namespace Go.Proofs.Ytlpenfganhaclaa
open Go.RowKit
set_option maxRecDepth 100000

theorem oP_0 : oP 0 = 1 := rfl
theorem oP_succ (k : Nat) : oP (k + 1) = oP k * 256 := by
  unfold oP
  rw [show 8 * (k + 1) = 8 * k + 8 by omega, p2_add]
  rfl
theorem oP_add (i j : Nat) : oP (i + j) = oP i * oP j := by
  unfold oP
  rw [show 8 * (i + j) = 8 * i + 8 * j by omega, p2_add]
theorem oP_mono {i j : Nat} (h : i ≤ j) : oP i ≤ oP j := p2_mono (by omega)
/-- The lowest octet of a number. -/
def lowB (n : Int) : UInt8 := UInt8.ofNat (n % 256).toNat
theorem lowB_nat (n : Int) : ((lowB n).toNat : Int) = n % 256 := by
  have h1 := Int.emod_nonneg n (show (256 : Int) ≠ 0 by decide)
  have h2 := Int.emod_lt_of_pos n (show (0 : Int) < 256 by decide)
  unfold lowB
  rw [UInt8.toNat_ofNat']
  omega
theorem lowB_of (b : UInt8) (m : Int) : lowB (m * 256 + b.toNat) = b := by
  apply UInt8.toNat_inj.1
  have h := lowB_nat (m * 256 + b.toNat)
  have := b.toNat_lt
  omega
/-- A number's k lowest octets, the highest first. -/
def octL (n : Int) : Nat → List UInt8
  | 0 => []
  | k + 1 => octL (n / 256) k ++ [lowB n]
theorem octL_len (n : Int) (k : Nat) : (octL n k).length = k := by
  induction k generalizing n with
  | zero => rfl
  | succ k ih => rw [octL, List.length_append, ih]; rfl
theorem octL_cons (n : Int) (k : Nat) : octL n (k + 1) = lowB (n / oP k) :: octL n k := by
  induction k generalizing n with
  | zero => rw [oP_0, Int.ediv_one]; rfl
  | succ k ih =>
    rw [octL, ih, oP_succ, octL, List.cons_append, Int.mul_comm, Int.ediv_ediv_of_nonneg (by decide)]
/-- The number of octets. -/
def numL (l : List UInt8) : Int := l.foldl (fun n b => n * 256 + (b.toNat : Int)) 0
theorem numL_nil : numL [] = 0 := rfl
theorem numL_snoc (l : List UInt8) (b : UInt8) : numL (l ++ [b]) = numL l * 256 + b.toNat := by unfold numL; rw [List.foldl_append]; rfl
theorem snoc_ind {p : List UInt8 → Prop} (h0 : p []) (h1 : ∀ m b, p m → p (m ++ [b])) (l : List UInt8) : p l := by
  have key : ∀ n (l : List UInt8), l.length = n → p l := by
    intro n
    induction n with
    | zero => intro l hl; rw [List.length_eq_zero_iff.1 hl]; exact h0
    | succ n ih =>
      intro l hl
      rcases List.eq_nil_or_concat l with rfl | ⟨m, b, rfl⟩
      · exact h0
      · simp only [List.concat_eq_append] at hl ⊢
        exact h1 m b (ih m (by simpa using hl))
  exact key _ l rfl
theorem numL_in (l : List UInt8) : 0 ≤ numL l ∧ numL l < oP l.length := by
  refine snoc_ind (p := fun l => 0 ≤ numL l ∧ numL l < oP l.length) ⟨by decide, by decide⟩ (fun m b ih => ?_) l
  rw [numL_snoc, List.length_append, List.length_singleton, oP_succ]
  have := b.toNat_lt
  omega
theorem oct_num (l : List UInt8) : octL (numL l) l.length = l := by
  refine snoc_ind (p := fun l => octL (numL l) l.length = l) rfl (fun m b ih => ?_) l
  rw [List.length_append, List.length_singleton, octL, numL_snoc, lowB_of]
  have := b.toNat_lt
  rw [show (numL m * 256 + (b.toNat : Int)) / 256 = numL m by omega, ih]
theorem num_oct (n : Int) (k : Nat) : numL (octL n k) = n % oP k := by
  induction k generalizing n with
  | zero => rw [oP_0, Int.emod_one]; rfl
  | succ k ih =>
    rw [octL, numL_snoc, ih, lowB_nat, oP_succ]
    have hp := oP_pos k
    have h1 := Int.emod_add_mul_ediv n 256
    have h2 := Int.emod_add_mul_ediv (n / 256) (oP k)
    have h3 : n = (n / 256 % oP k * 256 + n % 256) + oP k * 256 * (n / 256 / oP k) := by
      rw [Int.mul_assoc, Int.mul_comm 256, ← Int.mul_assoc]
      generalize oP k * (n / 256 / oP k) = X at h2 ⊢
      omega
    have h4 := Int.emod_nonneg (n / 256) (show oP k ≠ 0 by omega)
    have h5 := Int.emod_lt_of_pos (n / 256) hp
    have h6 := Int.emod_nonneg n (show (256 : Int) ≠ 0 by decide)
    have h7 := Int.emod_lt_of_pos n (show (0 : Int) < 256 by decide)
    have h8 : (n / 256 % oP k * 256 + n % 256) % (oP k * 256) = n / 256 % oP k * 256 + n % 256 := Int.emod_eq_of_lt (by omega) (by omega)
    have h9 : n % (oP k * 256) = (n / 256 % oP k * 256 + n % 256) % (oP k * 256) := by
      have e := Int.add_mul_emod_self_left (n / 256 % oP k * 256 + n % 256) (oP k * 256) (n / 256 / oP k)
      rw [← h3] at e
      exact e
    rw [h9, h8]
theorem num_oct_of {n : Int} {k : Nat} (h : 0 ≤ n ∧ n < oP k) : numL (octL n k) = n := by rw [num_oct, Int.emod_eq_of_lt h.1 h.2]
theorem octL_mod (n : Int) (k : Nat) : octL (n % oP k) k = octL n k := by
  have h := num_oct n k
  have e := oct_num (octL n k)
  rw [octL_len, h] at e
  exact e
end Go.Proofs.Ytlpenfganhaclaa
