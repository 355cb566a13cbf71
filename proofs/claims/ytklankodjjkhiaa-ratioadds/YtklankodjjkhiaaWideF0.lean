/-
  The contracts of wide.MulDiv and wide.Div: a product by a number above 0, rounded down, and what is left, or why there is none (P2.3, P2.4). No conditions.
-/
import Derived.Test.YtklankodjjkhiaaWideD
import Derived.Test.YtklankodjjkhiaaWideE
import Derived.Test.YtklankodjjkhiaaLimbC
import Derived.Deep.DeepCutAuto
namespace Go.Proofs.Ytklankodjjkhiaa
open Go.RowKit

/-! ### Quotients rounded down -/
theorem floor_up {P d q r : Int} (hd : 0 < d) (hq : P / d = q) (hr : P % d = r) (h0 : r ≠ 0) : -P / d = -(q + 1) ∧ -P % d = d - r := by
  rw [Int.ediv_emod_unique hd]
  have h1 := Int.emod_add_mul_ediv P d
  have h2 := Int.emod_nonneg P (by omega : d ≠ 0)
  have h3 := Int.emod_lt_of_pos P hd
  rw [hq, hr] at h1
  rw [hr] at h2 h3
  refine ⟨?_, by omega, by omega⟩
  rw [Int.mul_neg, Int.mul_add]; omega
theorem floor_even {P d q : Int} (hd : 0 < d) (hq : P / d = q) (hr : P % d = 0) : -P / d = -q ∧ -P % d = 0 := by
  rw [Int.ediv_emod_unique hd]
  have h1 := Int.emod_add_mul_ediv P d
  rw [hq, hr] at h1
  refine ⟨?_, by omega, by omega⟩
  rw [Int.mul_neg]; omega
theorem over_hi {P d : Int} (hd : 0 < d) (h : d ≤ P / 340282366920938463463374607431768211456) : 340282366920938463463374607431768211456 ≤ P / d := by
  rw [Int.le_ediv_iff_mul_le hd]; omega
/-- A quotient that the size's has no room for. -/
theorem over_both {P Z d : Int} (hd : 0 < d) (hZ : Z = P ∨ Z = -P) (h : 340282366920938463463374607431768211456 ≤ P / d) : inW (Z / d) = false ∧ fitV (Z / d) = 0 ∧ fitE (Z / d) = 2 := by
  apply inW_no
  rcases hZ with rfl | rfl
  · omega
  · by_cases hr : P % d = 0
    · rw [(floor_even hd rfl hr).1]; omega
    · rw [(floor_up hd rfl rfl hr).1]; omega
theorem mul_ab (a b : Int) : a * b = ab a * ab b ∨ a * b = -(ab a * ab b) := by
  by_cases h : sg a = sg b
  · exact .inl (mul_like h)
  · exact .inr (mul_unlike h)
theorem below_set4 {B b c : Nat} {w V : World} {x0 x1 y0 y1 : Value} (h : Below B w V) (hb : B ≤ b) (hc : B ≤ c) : Below B w ((((V.setCell ⟨b, 0, none⟩ x0).setCell ⟨b, 1, none⟩ x1).setCell ⟨c, 0, none⟩ y0).setCell ⟨c, 1, none⟩ y1) := by go_grown
/-- What is left, where the quotient fits. -/
def fitR (x y : Int) : Int := if inW x = true then y else 0
theorem fitR_yes {x y : Int} (h : inW x = true) : fitR x y = y := by unfold fitR; rw [if_pos h]
theorem fitR_no {x y : Int} (h : inW x = false) : fitR x y = 0 := by unfold fitR; rw [if_neg (by rw [h]; decide)]

attribute [local go_sem ↓] Go.wp_at_zero Go.wp_at_succ
set_option maxRecDepth 100000 in
set_option maxHeartbeats 2000000 in
theorem wmuldiv_zero {ah al bh bl dh dl d : Int} (hd : WideIs dh dl d) (h0 : d ≤ 0) (w : World) :
    Calls Try.prog 43 #[.agg #[.int .i64 ah, .int .u64 al], .agg #[.int .i64 bh, .int .u64 bl], .agg #[.int .i64 dh, .int .u64 dl]] w fun e w' => e = .returned (.tuple #[.agg #[.int .i64 0, .int .u64 0], .agg #[.int .i64 0, .int .u64 0], .int .i64 3]) ∧ Below w.heap.size w w' := by
  have hc : cmpI d 0 ≤ 0 := by unfold cmpI; split <;> (try split) <;> omega
  have hc2 : -1 ≤ cmpI d 0 := by unfold cmpI; split <;> (try split) <;> omega
  go_enter Try.func43, Try.ntmps43
  go_wp2_with fail
  refine (wcmp_any hd wide_0 _).mono ?_
  rintro e w1 ⟨rfl, hb1⟩
  obtain ⟨⟨q1, q2, q3, q4⟩, q5⟩ := two_later hb1 (b := w.heap.size + 1 + 1 + 1) (u := .int .i64 0) (v := .int .u64 0) ⟨by simp [go_sem, *], by simp [go_sem, *], by simp [go_sem, *], by simp [go_sem, *]⟩
  obtain ⟨⟨r1, r2, r3, r4⟩, r5⟩ := two_later hb1 (b := w.heap.size + 1 + 1 + 1 + 1) (u := .int .i64 0) (v := .int .u64 0) ⟨by simp [go_sem, *], by simp [go_sem, *], by simp [go_sem, *], by simp [go_sem, *]⟩
  have x1 := bthen (B := w.heap.size) (w := w) (by go_grown) (by go_size) hb1
  have z1 := x1.size
  clear hb1
  go_wp2_with fail
  suffices hFin : (results Try.f43 _).run Try.prog _ = .ok (.tuple #[.agg #[.int .i64 0, .int .u64 0], .agg #[.int .i64 0, .int .u64 0], .int .i64 3]) _ ∧ _ from bodyPost_ret hFin.1 rfl hFin.2
  exact ⟨by simp [results, Try.results43, go_sem, *], ⟨rfl, by go_grown⟩⟩
end Go.Proofs.Ytklankodjjkhiaa
