/-
  The contracts of the laws' own helpers 'of' and 'both': a Limb as a number, two as a number. No conditions beside the memory's own.
-/
import Derived.Test.YtdefgplehkbpcaaRefF
namespace Go.Proofs.Ytdefgplehkbpcaa
open Go.RowKit

theorem word_b (n : Int) (h0 : 0 ≤ n) (h1 : n < 18446744073709551616) (w : World) :
    Calls Try.prog 28 #[.int .u64 n] w fun e w' => ∃ a l c, e = .returned (.agg #[.bool (sg n), .slice a l c]) ∧ BigIs 4 w' (.slice a l c) n ∧ Below w.heap.size w w' := by
  rw [sg_pos h0]; exact word_any n h0 h1 w
theorem pow2_lit (n : Nat) (z : Int) (hz : (n : Int) = z) (hn : n ≤ 1000000) (w : World) :
    Calls Try.prog 14 #[.int .i64 z] w fun e w' => ∃ a l c, e = .returned (.agg #[.bool (sg (p2 n)), .slice a l c]) ∧ BigIs (n / 16 + 1) w' (.slice a l c) (p2 n) ∧ Below w.heap.size w w' := by
  subst hz; exact pow2_any n hn w

attribute [local go_sem ↓] Go.wp_at_zero Go.wp_at_succ
set_option maxRecDepth 100000 in
set_option maxHeartbeats 1000000 in
theorem of_any {ah al a : Int} (ha : LimbIs ah al a) (w : World) :
    Calls Try.prog 11 #[.agg #[.int .u64 ah, .int .u64 al]] w fun e w' =>
      ∃ b k d, e = .returned (.agg #[.bool (sg a), .slice b k d]) ∧ BigIs 10 w' (.slice b k d) a ∧ Below w.heap.size w w' := by
  obtain ⟨h1, h2, h3, h4, h5⟩ := ha
  have HZ : Hid (ah * p2 64 + al = a) := by rw [Hid, h5]; rfl
  clear h5
  have KS : Hid (∀ W1 W2 : World, Below W1.heap.size W1 W2 → (Below w.heap.size w W1 ∧ W1.cell? ⟨w.heap.size, 0, none⟩ = some (.int .u64 ah) ∧ W1.cell? ⟨w.heap.size, 1, none⟩ = some (.int .u64 al)) → (Below w.heap.size w W2 ∧ W2.cell? ⟨w.heap.size, 0, none⟩ = some (.int .u64 ah) ∧ W2.cell? ⟨w.heap.size, 1, none⟩ = some (.int .u64 al))) := fun W1 W2 hb ⟨h0, h1, h2⟩ => ⟨bthen h0 h0.size hb, cell_later hb h1, cell_later hb h2⟩
  go_enter Try.func11, Try.ntmps11
  go_wp2_with fail
  go_region_held3 (fun w' => Below w.heap.size w w' ∧ w'.cell? ⟨w.heap.size, 0, none⟩ = some (.int .u64 ah) ∧ w'.cell? ⟨w.heap.size, 1, none⟩ = some (.int .u64 al))
    (first | exact KS.out _ _ hb5 (by assumption) | exact KS.out _ _ hb4 (by assumption) | exact KS.out _ _ hb3 (by assumption) | exact KS.out _ _ hb2 (by assumption) | exact KS.out _ _ hb1 (by assumption) | exact KS.out _ _ (Below.drew (Below.refl _ _)) (by assumption) | (refine ⟨by go_grown, ?_, ?_⟩ <;> simp [go_sem, *]))
    (first
      | (go_at_call 10; refine (badd_any (Q3.out.later hb4) Q4.out (by decide) (by decide)).mono ?_; rw [show ah * p2 64 + al = a from HZ.out]; rintro e w5 ⟨a5, l5, c5, rfl, q5, hb5⟩; have X5 := bthen X4 X4.size hb5; have X5s := X5.size; have R5 := hid (two_later hb5 R4.out.1); obtain ⟨⟨r1, r2, r3, r4⟩, r5⟩ := two_later hb5 R4.out.1; have Q5 := hid q5; clear q5)
      | (go_at_call 28; have dummy := Q3; clear dummy; refine (word_b _ (by assumption) (by assumption) _).mono ?_; rintro e w4 ⟨a4, l4, c4, rfl, q4, hb4⟩; have X4 := bthen X3 X3.size hb4; have R4 := hid (two_later hb4 R3.out.1); have Q4 := hid q4; clear q4)
      | (go_at_call 20; refine (bmul_any (Q1.out.later hb2) Q2.out (by decide) (by decide)).mono ?_; rintro e w3 ⟨a3, l3, c3, rfl, q3, hb3⟩; have X3 := bthen X2 X2.size hb3; have R3 := hid (two_later hb3 R2.out.1); have Q3 := hid q3; clear q3)
      | (go_at_call 14; refine (pow2_lit 64 64 rfl (by decide) _).mono ?_; rintro e w2 ⟨a2, l2, c2, rfl, q2, hb2⟩; have X2 := bthen X1 X1.size hb2; have R2 := hid (two_later hb2 R1.out.1); have Q2 := hid q2; clear q2)
      | (go_at_call 28; refine (word_b _ (by assumption) (by assumption) _).mono ?_; rintro e w1 ⟨a1, l1, c1, rfl, q1, hb1⟩; have X1 := bthen (B := w.heap.size) (w := w) (by go_grown) (by go_size) hb1; have R1 := hid (two_later hb1 (b := w.heap.size + 1) (u := .bool false) (v := .slice none 0 0) ⟨by simp [go_sem], by simp [go_sem], by simp [go_sem], by simp [go_sem]⟩); have Q1 := hid q1; clear q1))
  go_wp2
  refine bodyPost_ret (v := .agg #[.bool (sg a), .slice a5 l5 c5]) (by simp [results, Try.results11, go_sem, *]) rfl ⟨_, _, _, rfl, ?_, by go_grown⟩
  exact BigIs.put Q5.out R5.out.1 (noInt_bool _) (noInt_slice _ _ _) _ _

set_option maxRecDepth 100000 in
set_option maxHeartbeats 1000000 in
theorem both_any {hh hl lh ll hi lo z : Int} (h1 : LimbIs hh hl hi) (h2 : LimbIs lh ll lo) (hz : z = hi * 340282366920938463463374607431768211456 + lo) (w : World) :
    Calls Try.prog 19 #[.agg #[.int .u64 hh, .int .u64 hl], .agg #[.int .u64 lh, .int .u64 ll]] w fun e w' =>
      ∃ b k d, e = .returned (.agg #[.bool (sg z), .slice b k d]) ∧ BigIs 20 w' (.slice b k d) z ∧ Below w.heap.size w w' := by
  have HZ : Hid (hi * p2 128 + lo = z) := by rw [Hid, hz]; rfl
  clear hz
  have KS : Hid (∀ W1 W2 : World, Below W1.heap.size W1 W2 → (Below w.heap.size w W1 ∧ W1.cell? ⟨w.heap.size, 0, none⟩ = some (.int .u64 hh) ∧ W1.cell? ⟨w.heap.size, 1, none⟩ = some (.int .u64 hl) ∧ W1.cell? ⟨w.heap.size + 1, 0, none⟩ = some (.int .u64 lh) ∧ W1.cell? ⟨w.heap.size + 1, 1, none⟩ = some (.int .u64 ll)) → (Below w.heap.size w W2 ∧ W2.cell? ⟨w.heap.size, 0, none⟩ = some (.int .u64 hh) ∧ W2.cell? ⟨w.heap.size, 1, none⟩ = some (.int .u64 hl) ∧ W2.cell? ⟨w.heap.size + 1, 0, none⟩ = some (.int .u64 lh) ∧ W2.cell? ⟨w.heap.size + 1, 1, none⟩ = some (.int .u64 ll))) := fun W1 W2 hb ⟨h0, h1, h2, h3, h4⟩ => ⟨bthen h0 h0.size hb, cell_later hb h1, cell_later hb h2, cell_later hb h3, cell_later hb h4⟩
  go_enter Try.func19, Try.ntmps19
  go_wp2_with fail
  go_region_held3 (fun w' => Below w.heap.size w w' ∧ w'.cell? ⟨w.heap.size, 0, none⟩ = some (.int .u64 hh) ∧ w'.cell? ⟨w.heap.size, 1, none⟩ = some (.int .u64 hl) ∧ w'.cell? ⟨w.heap.size + 1, 0, none⟩ = some (.int .u64 lh) ∧ w'.cell? ⟨w.heap.size + 1, 1, none⟩ = some (.int .u64 ll))
    (first | exact KS.out _ _ hb5 (by assumption) | exact KS.out _ _ hb4 (by assumption) | exact KS.out _ _ hb3 (by assumption) | exact KS.out _ _ hb2 (by assumption) | exact KS.out _ _ hb1 (by assumption) | exact KS.out _ _ (Below.drew (Below.refl _ _)) (by assumption) | (refine ⟨by go_grown, ?_, ?_, ?_, ?_⟩ <;> simp [go_sem, *]))
    (first
      | (go_at_call 10; refine (badd_any (Q3.out.later hb4) Q4.out (by decide) (by decide)).mono ?_; rw [show hi * p2 128 + lo = z from HZ.out]; rintro e w5 ⟨a5, l5, c5, rfl, q5, hb5⟩; have X5 := bthen X4 X4.size hb5; have X5s := X5.size; have R5 := hid (two_later hb5 R4.out.1); obtain ⟨⟨r1, r2, r3, r4⟩, r5⟩ := two_later hb5 R4.out.1; have Q5 := hid q5; clear q5)
      | (go_at_call 11; have dummy := Q3; clear dummy; refine (of_any (by assumption) _).mono ?_; rintro e w4 ⟨a4, l4, c4, rfl, q4, hb4⟩; have X4 := bthen X3 X3.size hb4; have R4 := hid (two_later hb4 R3.out.1); have Q4 := hid q4; clear q4)
      | (go_at_call 20; refine (bmul_any (Q1.out.later hb2) Q2.out (by decide) (by decide)).mono ?_; rintro e w3 ⟨a3, l3, c3, rfl, q3, hb3⟩; have X3 := bthen X2 X2.size hb3; have R3 := hid (two_later hb3 R2.out.1); have Q3 := hid q3; clear q3)
      | (go_at_call 14; refine (pow2_lit 128 128 rfl (by decide) _).mono ?_; rintro e w2 ⟨a2, l2, c2, rfl, q2, hb2⟩; have X2 := bthen X1 X1.size hb2; have R2 := hid (two_later hb2 R1.out.1); have Q2 := hid q2; clear q2)
      | (go_at_call 11; refine (of_any (by assumption) _).mono ?_; rintro e w1 ⟨a1, l1, c1, rfl, q1, hb1⟩; have X1 := bthen (B := w.heap.size) (w := w) (by go_grown) (by go_size) hb1; have R1 := hid (two_later hb1 (b := w.heap.size + 1 + 1) (u := .bool false) (v := .slice none 0 0) ⟨by simp [go_sem], by simp [go_sem], by simp [go_sem], by simp [go_sem]⟩); have Q1 := hid q1; clear q1))
  go_wp2
  refine bodyPost_ret (v := .agg #[.bool (sg z), .slice a5 l5 c5]) (by simp [results, Try.results19, go_sem, *]) rfl ⟨_, _, _, rfl, ?_, by go_grown⟩
  exact BigIs.put Q5.out R5.out.1 (noInt_bool _) (noInt_slice _ _ _) _ _
end Go.Proofs.Ytdefgplehkbpcaa
