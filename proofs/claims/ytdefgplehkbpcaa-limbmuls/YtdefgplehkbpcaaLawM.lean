/-
  The walk of the law LimbMuls: the product of any two numbers. No conditions.
-/
import Derived.Test.YtdefgplehkbpcaaLimbF
import Derived.Test.YtdefgplehkbpcaaRefG
namespace Go.Proofs.Ytdefgplehkbpcaa
open Go.RowKit

theorem eqI_self (z : Int) : eqI z z = true := by unfold eqI; simp

attribute [local go_sem ↓] Go.wp_at_zero Go.wp_at_succ
set_option maxRecDepth 100000 in
set_option maxHeartbeats 1000000 in
theorem law_muls {ah al bh bl a b : Int} (ha : LimbIs ah al a) (hb : LimbIs bh bl b) (w : World) :
    Calls Try.prog 4 #[.agg #[.int .u64 ah, .int .u64 al], .agg #[.int .u64 bh, .int .u64 bl]] w fun e w' => e = .returned (.bool true) ∧ Below w.heap.size w w' := by
  obtain ⟨P, hP⟩ : ∃ P, Hid (P = a * b) := ⟨_, rfl⟩
  have eqs := eqI_self P
  go_enter Try.func4, Try.ntmps4
  go_wp2_with fail
  refine (mul_any ha hb _).mono ?_
  rw [← hP.out]
  rintro e w1 ⟨hh, hl, lh, ll, ih, il, rfl, hb1⟩
  have HZ : Hid (P = P / 340282366920938463463374607431768211456 * 340282366920938463463374607431768211456 + P % 340282366920938463463374607431768211456) := by rw [Hid]; omega
  obtain ⟨⟨p1, p2, p3, p4⟩, p5⟩ := two_later hb1 (b := w.heap.size) (u := .int .u64 ah) (v := .int .u64 al) ⟨by simp [go_sem], by simp [go_sem], by simp [go_sem], by simp [go_sem]⟩
  obtain ⟨⟨q1, q2, q3, q4⟩, q5⟩ := two_later hb1 (b := w.heap.size + 1) (u := .int .u64 bh) (v := .int .u64 bl) ⟨by simp [go_sem], by simp [go_sem], by simp [go_sem], by simp [go_sem]⟩
  have x1 := bthen (B := w.heap.size) (w := w) (by go_grown) (by go_size) hb1
  have z1 := x1.size
  have z2 : w.heap.size < w1.heap.size + 1 := by omega
  clear hb1
  go_wp2_with fail
  obtain ⟨W, hW⟩ : ∃ W, W = (w1.alloc (Obj.cells #[Value.int IntKind.u64 hh, Value.int IntKind.u64 hl] 24)).alloc (Obj.cells #[Value.int IntKind.u64 lh, Value.int IntKind.u64 ll] 24) := ⟨_, rfl⟩
  rw [← hW]
  have S0 : Below w.heap.size w W ∧ W.cell? ⟨w.heap.size, 0, none⟩ = some (.int .u64 ah) ∧ W.cell? ⟨w.heap.size, 1, none⟩ = some (.int .u64 al) ∧ W.cell? ⟨w.heap.size + 1, 0, none⟩ = some (.int .u64 bh) ∧ W.cell? ⟨w.heap.size + 1, 1, none⟩ = some (.int .u64 bl) ∧ W.cell? ⟨w1.heap.size, 0, none⟩ = some (.int .u64 hh) ∧ W.cell? ⟨w1.heap.size, 1, none⟩ = some (.int .u64 hl) ∧ W.cell? ⟨w1.heap.size + 1, 0, none⟩ = some (.int .u64 lh) ∧ W.cell? ⟨w1.heap.size + 1, 1, none⟩ = some (.int .u64 ll) := by
    rw [hW]
    exact ⟨by go_grown, by simp [go_sem, *], by simp [go_sem, *], by simp [go_sem, *], by simp [go_sem, *], by simp [go_sem, *], by simp [go_sem, *], by simp [go_sem, *], by simp [go_sem, *]⟩
  have KS : Hid (∀ W1 W2 : World, Below W1.heap.size W1 W2 → (Below w.heap.size w W1 ∧ W1.cell? ⟨w.heap.size, 0, none⟩ = some (.int .u64 ah) ∧ W1.cell? ⟨w.heap.size, 1, none⟩ = some (.int .u64 al) ∧ W1.cell? ⟨w.heap.size + 1, 0, none⟩ = some (.int .u64 bh) ∧ W1.cell? ⟨w.heap.size + 1, 1, none⟩ = some (.int .u64 bl) ∧ W1.cell? ⟨w1.heap.size, 0, none⟩ = some (.int .u64 hh) ∧ W1.cell? ⟨w1.heap.size, 1, none⟩ = some (.int .u64 hl) ∧ W1.cell? ⟨w1.heap.size + 1, 0, none⟩ = some (.int .u64 lh) ∧ W1.cell? ⟨w1.heap.size + 1, 1, none⟩ = some (.int .u64 ll)) → (Below w.heap.size w W2 ∧ W2.cell? ⟨w.heap.size, 0, none⟩ = some (.int .u64 ah) ∧ W2.cell? ⟨w.heap.size, 1, none⟩ = some (.int .u64 al) ∧ W2.cell? ⟨w.heap.size + 1, 0, none⟩ = some (.int .u64 bh) ∧ W2.cell? ⟨w.heap.size + 1, 1, none⟩ = some (.int .u64 bl) ∧ W2.cell? ⟨w1.heap.size, 0, none⟩ = some (.int .u64 hh) ∧ W2.cell? ⟨w1.heap.size, 1, none⟩ = some (.int .u64 hl) ∧ W2.cell? ⟨w1.heap.size + 1, 0, none⟩ = some (.int .u64 lh) ∧ W2.cell? ⟨w1.heap.size + 1, 1, none⟩ = some (.int .u64 ll))) := fun W1 W2 hb ⟨h0, h1, h2, h3, h4, h5, h6, h7, h8⟩ => ⟨bthen h0 h0.size hb, cell_later hb h1, cell_later hb h2, cell_later hb h3, cell_later hb h4, cell_later hb h5, cell_later hb h6, cell_later hb h7, cell_later hb h8⟩
  clear hW p1 p2 p3 p4 p5 q1 q2 q3 q4 q5 x1 z1 z2
  go_region_held3 (fun w' => Below w.heap.size w w' ∧ w'.cell? ⟨w.heap.size, 0, none⟩ = some (.int .u64 ah) ∧ w'.cell? ⟨w.heap.size, 1, none⟩ = some (.int .u64 al) ∧ w'.cell? ⟨w.heap.size + 1, 0, none⟩ = some (.int .u64 bh) ∧ w'.cell? ⟨w.heap.size + 1, 1, none⟩ = some (.int .u64 bl) ∧ w'.cell? ⟨w1.heap.size, 0, none⟩ = some (.int .u64 hh) ∧ w'.cell? ⟨w1.heap.size, 1, none⟩ = some (.int .u64 hl) ∧ w'.cell? ⟨w1.heap.size + 1, 0, none⟩ = some (.int .u64 lh) ∧ w'.cell? ⟨w1.heap.size + 1, 1, none⟩ = some (.int .u64 ll))
    (first | exact KS.out _ _ hb7 (by assumption) | exact KS.out _ _ hb6 (by assumption) | exact KS.out _ _ hb5 (by assumption) | exact KS.out _ _ hb4 (by assumption) | exact KS.out _ _ hb3 (by assumption) | exact KS.out _ _ hb2 (by assumption) | exact KS.out _ _ (Below.drew (Below.refl _ _)) (by assumption) | (refine ⟨by go_grown, ?_, ?_, ?_, ?_, ?_, ?_, ?_, ?_⟩ <;> simp [go_sem, *]))
    (first
      | (go_at_call 17; refine (same_any (Q3.out.later (bthen hb4 hb4.size (bthen hb5 hb5.size hb6))) Q6.out (by decide) (by decide)).mono ?_; rintro e w7 ⟨rfl, hb7⟩; have X7 := bthen X6 X6.size hb7)
      | (go_at_call 20; refine (bmul_any (Q4.out.later hb5) Q5.out (by decide) (by decide)).mono ?_; rw [← hP.out]; rintro e w6 ⟨a6, l6, c6, rfl, q6, hb6⟩; have X6 := bthen X5 X5.size hb6; have Q6 := hid q6; clear q6)
      | (go_at_call 11; have dummy := Q4; clear dummy; refine (of_any (by assumption) _).mono ?_; rintro e w5 ⟨a5, l5, c5, rfl, q5, hb5⟩; have X5 := bthen X4 X4.size hb5; have Q5 := hid q5; clear q5)
      | (go_at_call 11; refine (of_any (by assumption) _).mono ?_; rintro e w4 ⟨a4, l4, c4, rfl, q4, hb4⟩; have X4 := bthen X3 X3.size hb4; have Q4 := hid q4; clear q4)
      | (go_at_call 19; refine (both_any ih il HZ.out _).mono ?_; rintro e w3 ⟨a3, l3, c3, rfl, q3, hb3⟩; have X3 := bthen X2 X2.size hb3; have Q3 := hid q3; clear q3)
      | (go_at_call 16; refine (answers_any _).mono ?_; rintro e w2 ⟨rfl, hb2⟩; have X2 := (KS.out _ _ hb2 (by assumption)).1))
  go_wp2
  go_ret
  exact ⟨rfl, X7⟩
end Go.Proofs.Ytdefgplehkbpcaa
