/-
  The contracts of wide.MulDiv, Div and Int in the small logic (P2.1, P2.3, P2.4). No conditions.
-/
import Derived.Test.YtpglfepkbkfgoaaDoorWdB
import Derived.Test.YtpglfepkbkfgoaaDoorLimbC
namespace Go.Proofs.YtpglfepkbkfgoaaDoor
open Go.RowKit
set_option maxRecDepth 100000

theorem floor_up {P d q r : Int} (hd : 0 < d) (hq : P / d = q) (hr : P % d = r) (h0 : r ≠ 0) : -P / d = -(q + 1) ∧ -P % d = d - r := by
  rw [Int.ediv_emod_unique hd]
  have h1 := Int.emod_add_mul_ediv P d
  have h2 := Int.emod_nonneg P (by omega : d ≠ 0)
  have h3 := Int.emod_lt_of_pos P hd
  rw [hq, hr] at h1
  rw [hr] at h2 h3
  refine ⟨?_, by omega, by omega⟩
  rw [Int.mul_neg, Int.mul_add]; omega
theorem floor_even {P d q : Int} (hd : 0 < d) (hq : P / d = q) (hr : P % d = 0) : -P / d = -q ∧ -P % d = 0 := by
  rw [Int.ediv_emod_unique hd]
  have h1 := Int.emod_add_mul_ediv P d
  rw [hq, hr] at h1
  refine ⟨?_, by omega, by omega⟩
  rw [Int.mul_neg]; omega
theorem over_hi {P d : Int} (hd : 0 < d) (h : d ≤ P / 340282366920938463463374607431768211456) : 340282366920938463463374607431768211456 ≤ P / d := by
  rw [Int.le_ediv_iff_mul_le hd]; omega
/-- A quotient that the size's has no room for. -/
theorem over_both {P Z d : Int} (hd : 0 < d) (hZ : Z = P ∨ Z = -P) (h : 340282366920938463463374607431768211456 ≤ P / d) : inW (Z / d) = false ∧ fitV (Z / d) = 0 ∧ fitE (Z / d) = 2 := by
  apply inW_no
  rcases hZ with rfl | rfl
  · omega
  · by_cases hr : P % d = 0
    · rw [(floor_even hd rfl hr).1]; omega
    · rw [(floor_up hd rfl rfl hr).1]; omega
theorem mul_ab (a b : Int) : a * b = ab a * ab b ∨ a * b = -(ab a * ab b) := by
  by_cases h : sg a = sg b
  · exact .inl (mul_like h)
  · exact .inr (mul_unlike h)
/-- What is left, where the quotient fits. -/
def fitR (x y : Int) : Int := if inW x = true then y else 0
theorem fitR_yes {x y : Int} (h : inW x = true) : fitR x y = y := by unfold fitR; rw [if_pos h]
theorem fitR_no {x y : Int} (h : inW x = false) : fitR x y = 0 := by unfold fitR; rw [if_neg (by rw [h]; decide)]
theorem inW_quot {a d : Int} (a0 : -170141183460469231731687303715884105728 ≤ a) (a1 : a < 170141183460469231731687303715884105728) (h0 : 0 < d) : inW (a / d) = true := by
  unfold inW; rw [decide_eq_true_eq]
  have h1 := Int.emod_add_mul_ediv a d
  have h2 := Int.emod_nonneg a (by omega : d ≠ 0)
  have h3 := Int.emod_lt_of_pos a h0
  by_cases g : 0 ≤ a / d
  · have : 1 * (a / d) ≤ d * (a / d) := Int.mul_le_mul_of_nonneg_right (by omega) g
    omega
  · have h4 : d * (a / d + 1) ≤ 1 * (a / d + 1) := Int.mul_le_mul_of_nonpos_right (by omega) (by omega)
    rw [Int.mul_add, Int.one_mul, Int.mul_one] at h4
    omega
theorem wcmp_0 (d : Int) : cmpI d 0 ≤ 0 ↔ d ≤ 0 := by unfold cmpI; split <;> (try split) <;> omega
theorem c_ofb {h l n z : Int} (k : LimbIs h l n) (e : z = n) (_h0 : 0 ≤ z) (h1 : z < 170141183460469231731687303715884105728) (w : World) : Calls Tryd.prog 61 #[.agg #[.int .u64 h, .int .u64 l]] w fun e w' => ∃ r, e = .returned r ∧ IsW z r ∧ Below w.heap.size w w' := by
  subst e
  refine (ofBits_any k w).mono ?_
  rintro e w' ⟨_, i, rfl, hb⟩
  exact ⟨_, rfl, ⟨_, _, rfl, i.eq (by unfold sgn; rw [if_pos h1])⟩, hb⟩
theorem c_bitsd {h l z : Int} (k : WideIs h l z) (h0 : 0 < z) (w : World) : Calls Tryd.prog 60 #[.agg #[.int .i64 h, .int .u64 l]] w fun e w' => ∃ r, e = .returned r ∧ IsLb z r ∧ Below w.heap.size w w' := by
  have e : z % 340282366920938463463374607431768211456 = z := by have := k.range; omega
  have q := c_bits k w
  rw [e] at q
  exact q
theorem c_ldiv_no {hh hl lh ll dh dl hi lo d : Int} (h1 : LimbIs hh hl hi) (h2 : LimbIs lh ll lo) (h3 : LimbIs dh dl d) (hge : d ≤ hi) (w : World) :
    Calls Tryd.prog 13 #[.agg #[.int .u64 hh, .int .u64 hl], .agg #[.int .u64 lh, .int .u64 ll], .agg #[.int .u64 dh, .int .u64 dl]] w fun e w' => ∃ r, e = .returned r ∧ r = .tuple #[.agg #[.int .u64 0, .int .u64 0], .agg #[.int .u64 0, .int .u64 0], .bool false] ∧ Below w.heap.size w w' := by
  refine (div_no h1 h2 h3 hge w).mono ?_
  rintro e w' ⟨rfl, hb⟩
  exact ⟨_, rfl, rfl, hb⟩
theorem c_ldiv {hh hl lh ll dh dl d P : Int} (h1 : LimbIs hh hl (P / 340282366920938463463374607431768211456)) (h2 : LimbIs lh ll (P % 340282366920938463463374607431768211456)) (h3 : LimbIs dh dl d) (_h0 : 0 ≤ P) (hlt : P / 340282366920938463463374607431768211456 < d) (w : World) :
    Calls Tryd.prog 13 #[.agg #[.int .u64 hh, .int .u64 hl], .agg #[.int .u64 lh, .int .u64 ll], .agg #[.int .u64 dh, .int .u64 dl]] w fun e w' => ∃ r, e = .returned r ∧ (∃ q p, r = .tuple #[q, p, .bool true] ∧ IsLb (P / d) q ∧ IsLb (P % d) p) ∧ Below w.heap.size w w' := by
  have e : P / 340282366920938463463374607431768211456 * 340282366920938463463374607431768211456 + P % 340282366920938463463374607431768211456 = P := by omega
  have q := div_yes h1 h2 h3 hlt w
  rw [e] at q
  refine q.mono ?_
  rintro _ w' ⟨_, _, _, _, i, j, rfl, hb⟩
  exact ⟨_, rfl, ⟨_, _, rfl, ⟨_, _, rfl, i⟩, ⟨_, _, rfl, j⟩⟩, hb⟩
theorem c_wof1 (w : World) : Calls Tryd.prog 51 #[.int .i64 1] w fun e w' => ∃ u, e = .returned u ∧ IsW 1 u ∧ Below w.heap.size w w' := by
  refine (wof_any 1 (by decide) (by decide) w).mono ?_
  rintro e w' ⟨h, l, i, rfl, hb⟩
  exact ⟨_, rfl, ⟨_, _, rfl, i⟩, hb⟩
end Go.Proofs.YtpglfepkbkfgoaaDoor
