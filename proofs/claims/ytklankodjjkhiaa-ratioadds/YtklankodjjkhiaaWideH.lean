/-
  The contract of wide.Div: the quotient, rounded down, and what is left; ErrZero where the divisor is not above 0. No conditions.
-/
import Derived.Test.YtklankodjjkhiaaWideF
import Derived.Deep.DeepCutAuto
namespace Go.Proofs.Ytklankodjjkhiaa
open Go.RowKit

theorem inW_quot {a d : Int} (a0 : -170141183460469231731687303715884105728 ≤ a) (a1 : a < 170141183460469231731687303715884105728) (h0 : 0 < d) : inW (a / d) = true := by
  unfold inW; rw [decide_eq_true_eq]
  have h1 := Int.emod_add_mul_ediv a d
  have h2 := Int.emod_nonneg a (by omega : d ≠ 0)
  have h3 := Int.emod_lt_of_pos a h0
  by_cases g : 0 ≤ a / d
  · have : 1 * (a / d) ≤ d * (a / d) := Int.mul_le_mul_of_nonneg_right (by omega) g
    omega
  · have h4 : d * (a / d + 1) ≤ 1 * (a / d + 1) := Int.mul_le_mul_of_nonpos_right (by omega) (by omega)
    rw [Int.mul_add, Int.one_mul, Int.mul_one] at h4
    omega
attribute [local go_sem ↓] Go.wp_at_zero Go.wp_at_succ
set_option maxRecDepth 100000 in
set_option maxHeartbeats 2000000 in
theorem wdiv_any {ah al dh dl a d : Int} (ha : WideIs ah al a) (hd : WideIs dh dl d) (h0 : 0 < d) (w : World) :
    Calls Try.prog 26 #[.agg #[.int .i64 ah, .int .u64 al], .agg #[.int .i64 dh, .int .u64 dl]] w fun e w' => ∃ qh ql rh rl : Int, WideIs qh ql (a / d) ∧ WideIs rh rl (a % d) ∧ e = .returned (.tuple #[.agg #[.int .i64 qh, .int .u64 ql], .agg #[.int .i64 rh, .int .u64 rl], .int .i64 0]) ∧ Below w.heap.size w w' := by
  have F := inW_quot ha.range.1 ha.range.2 h0
  have E1 : Hid (fitV (a * 1 / d) = a / d) := by rw [Hid, Int.mul_one]; unfold fitV; rw [if_pos F]
  have E2 : Hid (fitR (a * 1 / d) (a * 1 % d) = a % d) := by rw [Hid, Int.mul_one]; exact fitR_yes F
  have E3 : Hid (fitE (a * 1 / d) = 0) := by rw [Hid, Int.mul_one]; unfold fitE; rw [if_pos F]
  clear F
  have KS : Hid (∀ W1 W2 : World, Below W1.heap.size W1 W2 → (Below w.heap.size w W1 ∧ W1.cell? ⟨w.heap.size, 0, none⟩ = some (.int .i64 ah) ∧ W1.cell? ⟨w.heap.size, 1, none⟩ = some (.int .u64 al) ∧ W1.cell? ⟨w.heap.size + 1, 0, none⟩ = some (.int .i64 dh) ∧ W1.cell? ⟨w.heap.size + 1, 1, none⟩ = some (.int .u64 dl)) → (Below w.heap.size w W2 ∧ W2.cell? ⟨w.heap.size, 0, none⟩ = some (.int .i64 ah) ∧ W2.cell? ⟨w.heap.size, 1, none⟩ = some (.int .u64 al) ∧ W2.cell? ⟨w.heap.size + 1, 0, none⟩ = some (.int .i64 dh) ∧ W2.cell? ⟨w.heap.size + 1, 1, none⟩ = some (.int .u64 dl))) := fun W1 W2 hb ⟨h0, h1, h2, h3, h4⟩ => ⟨bthen h0 h0.size hb, cell_later hb h1, cell_later hb h2, cell_later hb h3, cell_later hb h4⟩
  go_enter Try.func26, Try.ntmps26
  go_upto_region 1 with fail
  obtain ⟨W, hW⟩ : ∃ W, W = (((w.alloc (Obj.cells #[.int .i64 ah, .int .u64 al] 24)).alloc (Obj.cells #[.int .i64 dh, .int .u64 dl] 24)).alloc (Obj.cells #[.int .i64 0, .int .u64 0] 24)).alloc (Obj.cells #[.int .i64 0, .int .u64 0] 24) := ⟨_, rfl⟩
  rw [← hW]
  have S0 : Below w.heap.size w W ∧ W.cell? ⟨w.heap.size, 0, none⟩ = some (.int .i64 ah) ∧ W.cell? ⟨w.heap.size, 1, none⟩ = some (.int .u64 al) ∧ W.cell? ⟨w.heap.size + 1, 0, none⟩ = some (.int .i64 dh) ∧ W.cell? ⟨w.heap.size + 1, 1, none⟩ = some (.int .u64 dl) := by rw [hW]; exact ⟨by go_grown, by simp [go_sem], by simp [go_sem], by simp [go_sem], by simp [go_sem]⟩
  have T2 : Hid (Two W (w.heap.size + 1 + 1) (.int .i64 0) (.int .u64 0)) := by rw [hW]; exact ⟨by simp [go_sem], by simp [go_sem], by simp [go_sem], by simp [go_sem]⟩
  have T3 : Hid (Two W (w.heap.size + 1 + 1 + 1) (.int .i64 0) (.int .u64 0)) := by rw [hW]; exact ⟨by simp [go_sem], by simp [go_sem], by simp [go_sem], by simp [go_sem]⟩
  have xW := S0.1
  have zW := xW.size
  clear hW
  go_region_held3 (fun w' => Below w.heap.size w w' ∧ w'.cell? ⟨w.heap.size, 0, none⟩ = some (.int .i64 ah) ∧ w'.cell? ⟨w.heap.size, 1, none⟩ = some (.int .u64 al) ∧ w'.cell? ⟨w.heap.size + 1, 0, none⟩ = some (.int .i64 dh) ∧ w'.cell? ⟨w.heap.size + 1, 1, none⟩ = some (.int .u64 dl))
    (first | exact KS.out _ _ hb2 (by assumption) | exact KS.out _ _ hb1 (by assumption) | exact KS.out _ _ (Below.drew (Below.refl _ _)) (by assumption) | (refine ⟨by go_grown, ?_, ?_, ?_, ?_⟩ <;> simp [go_sem, *]))
    (first
      | (go_at_call 43; refine (wmuldiv_any ha I1.out hd h0 _).mono ?_; rw [E1.out, E2.out, E3.out]; rintro e w2 ⟨qh, ql, rh, rl, i2, i3, rfl, hb2⟩; have I2 := hid i2; have I3 := hid i3; clear i2 i3; have Y2 := bthen Y1 Y1.size hb2; have X2 := bthen xW xW.size Y2; have z2 := X2.size; obtain ⟨⟨r1, r2, r3, r4⟩, r5⟩ := two_later Y2 T2.out; obtain ⟨⟨u1, u2, u3, u4⟩, u5⟩ := two_later Y2 T3.out)
      | (go_at_call 31; refine (wof_any 1 (by decide) (by decide) _).mono ?_; rintro e w1 ⟨h1, l1, i1, rfl, hb1⟩; have Y1 := bthen (B := W.heap.size) (w := W) (by go_grown) (by go_size) hb1; have I1 := hid i1; clear i1))
  go_wp2_with fail
  refine bodyPost_ret (v := .tuple #[.agg #[.int .i64 qh, .int .u64 ql], .agg #[.int .i64 rh, .int .u64 rl], .int .i64 0]) (by simp [results, Try.results26, go_sem, *]) rfl ⟨_, _, _, _, I2.out, I3.out, rfl, by go_grown⟩
set_option maxRecDepth 100000 in
set_option maxHeartbeats 2000000 in
theorem wdiv_zero {ah al dh dl d : Int} (hd : WideIs dh dl d) (h0 : d ≤ 0) (w : World) :
    Calls Try.prog 26 #[.agg #[.int .i64 ah, .int .u64 al], .agg #[.int .i64 dh, .int .u64 dl]] w fun e w' => e = .returned (.tuple #[.agg #[.int .i64 0, .int .u64 0], .agg #[.int .i64 0, .int .u64 0], .int .i64 3]) ∧ Below w.heap.size w w' := by
  have KS : Hid (∀ W1 W2 : World, Below W1.heap.size W1 W2 → (Below w.heap.size w W1 ∧ W1.cell? ⟨w.heap.size, 0, none⟩ = some (.int .i64 ah) ∧ W1.cell? ⟨w.heap.size, 1, none⟩ = some (.int .u64 al) ∧ W1.cell? ⟨w.heap.size + 1, 0, none⟩ = some (.int .i64 dh) ∧ W1.cell? ⟨w.heap.size + 1, 1, none⟩ = some (.int .u64 dl)) → (Below w.heap.size w W2 ∧ W2.cell? ⟨w.heap.size, 0, none⟩ = some (.int .i64 ah) ∧ W2.cell? ⟨w.heap.size, 1, none⟩ = some (.int .u64 al) ∧ W2.cell? ⟨w.heap.size + 1, 0, none⟩ = some (.int .i64 dh) ∧ W2.cell? ⟨w.heap.size + 1, 1, none⟩ = some (.int .u64 dl))) := fun W1 W2 hb ⟨h0, h1, h2, h3, h4⟩ => ⟨bthen h0 h0.size hb, cell_later hb h1, cell_later hb h2, cell_later hb h3, cell_later hb h4⟩
  go_enter Try.func26, Try.ntmps26
  go_upto_region 1 with fail
  obtain ⟨W, hW⟩ : ∃ W, W = (((w.alloc (Obj.cells #[.int .i64 ah, .int .u64 al] 24)).alloc (Obj.cells #[.int .i64 dh, .int .u64 dl] 24)).alloc (Obj.cells #[.int .i64 0, .int .u64 0] 24)).alloc (Obj.cells #[.int .i64 0, .int .u64 0] 24) := ⟨_, rfl⟩
  rw [← hW]
  have S0 : Below w.heap.size w W ∧ W.cell? ⟨w.heap.size, 0, none⟩ = some (.int .i64 ah) ∧ W.cell? ⟨w.heap.size, 1, none⟩ = some (.int .u64 al) ∧ W.cell? ⟨w.heap.size + 1, 0, none⟩ = some (.int .i64 dh) ∧ W.cell? ⟨w.heap.size + 1, 1, none⟩ = some (.int .u64 dl) := by rw [hW]; exact ⟨by go_grown, by simp [go_sem], by simp [go_sem], by simp [go_sem], by simp [go_sem]⟩
  have T2 : Hid (Two W (w.heap.size + 1 + 1) (.int .i64 0) (.int .u64 0)) := by rw [hW]; exact ⟨by simp [go_sem], by simp [go_sem], by simp [go_sem], by simp [go_sem]⟩
  have T3 : Hid (Two W (w.heap.size + 1 + 1 + 1) (.int .i64 0) (.int .u64 0)) := by rw [hW]; exact ⟨by simp [go_sem], by simp [go_sem], by simp [go_sem], by simp [go_sem]⟩
  have xW := S0.1
  have zW := xW.size
  clear hW
  go_region_held3 (fun w' => Below w.heap.size w w' ∧ w'.cell? ⟨w.heap.size, 0, none⟩ = some (.int .i64 ah) ∧ w'.cell? ⟨w.heap.size, 1, none⟩ = some (.int .u64 al) ∧ w'.cell? ⟨w.heap.size + 1, 0, none⟩ = some (.int .i64 dh) ∧ w'.cell? ⟨w.heap.size + 1, 1, none⟩ = some (.int .u64 dl))
    (first | exact KS.out _ _ hb2 (by assumption) | exact KS.out _ _ hb1 (by assumption) | exact KS.out _ _ (Below.drew (Below.refl _ _)) (by assumption) | (refine ⟨by go_grown, ?_, ?_, ?_, ?_⟩ <;> simp [go_sem, *]))
    (first
      | (go_at_call 43; refine (wmuldiv_zero hd h0 _).mono ?_; rintro e w2 ⟨rfl, hb2⟩; have Y2 := bthen Y1 Y1.size hb2; have X2 := bthen xW xW.size Y2; have z2 := X2.size; obtain ⟨⟨r1, r2, r3, r4⟩, r5⟩ := two_later Y2 T2.out; obtain ⟨⟨u1, u2, u3, u4⟩, u5⟩ := two_later Y2 T3.out)
      | (go_at_call 31; refine (wof_any 1 (by decide) (by decide) _).mono ?_; rintro e w1 ⟨h1, l1, i1, rfl, hb1⟩; have Y1 := bthen (B := W.heap.size) (w := W) (by go_grown) (by go_size) hb1; have I1 := hid i1; clear i1))
  go_wp2_with fail
  refine bodyPost_ret (v := .tuple #[.agg #[.int .i64 0, .int .u64 0], .agg #[.int .i64 0, .int .u64 0], .int .i64 3]) (by simp [results, Try.results26, go_sem, *]) rfl ⟨rfl, by go_grown⟩
end Go.Proofs.Ytklankodjjkhiaa
