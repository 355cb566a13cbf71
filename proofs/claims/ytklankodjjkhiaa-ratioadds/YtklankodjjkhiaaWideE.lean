/-
  The contracts of wide.nextDown and wide.Int. No conditions.
-/
import Derived.Test.YtklankodjjkhiaaWideB
import Derived.Deep.DeepCutAuto
namespace Go.Proofs.Ytklankodjjkhiaa
open Go.RowKit

theorem limb_1 : LimbIs 0 1 1 := by unfold LimbIs; omega
attribute [local go_sem ↓] Go.wp_at_zero Go.wp_at_succ
set_option maxRecDepth 100000 in
set_option maxHeartbeats 2000000 in
theorem nextDown_any {th tl lh ll dh dl T L D : Int} (hT : LimbIs th tl T) (hL : LimbIs lh ll L) (hD : LimbIs dh dl D) (hlt : L ≤ D) (w : World) :
    Calls Try.prog 54 #[.agg #[.int .u64 th, .int .u64 tl], .agg #[.int .u64 lh, .int .u64 ll], .agg #[.int .u64 dh, .int .u64 dl]] w fun e w' =>
      ∃ h l h' l' : Int, LimbIs h l ((T + 1) % 340282366920938463463374607431768211456) ∧ LimbIs h' l' (D - L) ∧ e = .returned (.tuple #[.agg #[.int .u64 h, .int .u64 l], .agg #[.int .u64 h', .int .u64 l'], .bool (!overB T 1)]) ∧ Below w.heap.size w w' := by
  have ED : Hid ((D - L) % 340282366920938463463374607431768211456 = D - L) := by rw [Hid]; have := hL.range; have := hD.range; omega
  go_enter Try.func54, Try.ntmps54
  go_wp2_with fail
  refine (add_any hT limb_1 _).mono ?_
  rintro e w1 ⟨h1, l1, i1, rfl, hb1⟩
  have tA := hid (two_later hb1 (b := w.heap.size + 1) (u := .int .u64 lh) (v := .int .u64 ll) ⟨by simp [go_sem, *], by simp [go_sem, *], by simp [go_sem, *], by simp [go_sem, *]⟩)
  have tB := hid (two_later hb1 (b := w.heap.size + 1 + 1) (u := .int .u64 dh) (v := .int .u64 dl) ⟨by simp [go_sem, *], by simp [go_sem, *], by simp [go_sem, *], by simp [go_sem, *]⟩)
  have tC := hid (two_later hb1 (b := w.heap.size + 1 + 1 + 1) (u := .int .u64 0) (v := .int .u64 0) ⟨by simp [go_sem, *], by simp [go_sem, *], by simp [go_sem, *], by simp [go_sem, *]⟩)
  have tD := hid (two_later hb1 (b := w.heap.size + 1 + 1 + 1 + 1) (u := .int .u64 0) (v := .int .u64 0) ⟨by simp [go_sem, *], by simp [go_sem, *], by simp [go_sem, *], by simp [go_sem, *]⟩)
  have x1 := bthen (B := w.heap.size) (w := w) (by go_grown) (by go_size) hb1
  have z1 := x1.size
  obtain ⟨⟨a1, a2, a3, a4⟩, a5⟩ := tA.out
  obtain ⟨⟨b1, b2, b3, b4⟩, b5⟩ := tB.out
  clear hb1
  go_wp2_with fail
  refine (sub_any hD hL _).mono ?_
  rw [ED.out]
  rintro e w2 ⟨h2, l2, i2, rfl, hb2⟩
  have hb3 := bthen (B := w1.heap.size) (w := w1) (by go_grown) (by go_size) hb2
  have e3 := hb3.size
  obtain ⟨⟨c1, c2, c3, c4⟩, c5⟩ := two_later hb3 tC.out.1
  obtain ⟨⟨d1, d2, d3, d4⟩, d5⟩ := two_later hb3 tD.out.1
  obtain ⟨⟨f1, f2, f3, f4⟩, f5⟩ := two_later hb2 (b := w1.heap.size) (u := .int .u64 h1) (v := .int .u64 l1) ⟨by simp [go_sem, *], by simp [go_sem, *], by simp [go_sem, *], by simp [go_sem, *]⟩
  have x2 := bthen x1 x1.size hb3
  have z2 := x2.size
  have n1 : ¬ w.heap.size + 1 + 1 + 1 = w1.heap.size := by have := tC.out.2; omega
  have n2 : ¬ w.heap.size + 1 + 1 + 1 + 1 = w1.heap.size := by have := tD.out.2; omega
  clear hb2 hb3 a1 a2 a3 a4 b1 b2 b3 b4 tA tB tC tD
  go_wp2_with fail
  go_region
  all_goals
    go_wp2_with fail
    refine bodyPost_ret (v := .tuple #[.agg #[.int .u64 h1, .int .u64 l1], .agg #[.int .u64 h2, .int .u64 l2], .bool (!overB T 1)]) (by simp [results, Try.results54, go_sem, *]) rfl ⟨_, _, _, _, i1, i2, rfl, by go_grown⟩

/-! ### A Wide as an int -/
/-- Is it an int? -/
def inI (z : Int) : Bool := decide (-9223372036854775808 ≤ z ∧ z < 9223372036854775808)
theorem int_low {h l z : Int} (k : WideIs h l z) (g : inI z = true) : wrap64 l = z := by
  unfold inI at g; rw [decide_eq_true_eq] at g
  obtain ⟨_, _, _, _, _⟩ := k
  unfold wrap64; omega
theorem int_not {h l z : Int} (k : WideIs h l z) (g : inI z = false) : wrap64 l ≠ z := by
  unfold inI at g; rw [decide_eq_false_iff_not] at g
  obtain ⟨_, _, _, _, _⟩ := k
  unfold wrap64; omega
end Go.Proofs.Ytklankodjjkhiaa
