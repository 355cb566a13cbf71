/-
  The contracts of the reference numbers' Int and Of: an int, and a Wide, as a number without a bound. No conditions beside the memory's own.
-/
import Derived.Test.YtlpenfganhaclaaLawF
import Derived.Test.YtlpenfganhaclaaWideA
import Derived.Deep.DeepCutAuto
namespace Go.Proofs.Ytlpenfganhaclaa
open Go.RowKit

attribute [local go_sem ↓] Go.wp_at_zero Go.wp_at_succ
set_option maxRecDepth 100000 in
set_option maxHeartbeats 1000000 in
theorem rint_any (n : Int) (h0 : -9223372036854775808 ≤ n) (h1 : n ≤ 9223372036854775807) (w : World) :
    Calls Try.prog 18 #[.int .i64 n] w fun e w' => ∃ a l c, e = .returned (.agg #[.bool (sg n), .slice a l c]) ∧ BigIs 5 w' (.slice a l c) n ∧ Below w.heap.size w w' := by
  by_cases g : 0 ≤ n
  · have hw : IntKind.u64.wrap n = n := IntWalk.u64_in _ ⟨g, by omega⟩
    go_enter Try.func18, Try.ntmps18
    go_wp2_with fail
    try rw [hw]
    refine (word_b n g (by omega) _).mono ?_
    rintro e w1 ⟨a1, l1, c1, rfl, q1, hb1⟩
    have R1 := hid (two_later hb1 (b := w.heap.size) (u := .bool false) (v := .slice none 0 0) ⟨by simp [go_sem], by simp [go_sem], by simp [go_sem], by simp [go_sem]⟩)
    obtain ⟨⟨r1, r2, r3, r4⟩, r5⟩ := R1.out
    have x1 := bthen (B := w.heap.size) (w := w) (by go_grown) (by go_size) hb1
    have z1 := x1.size
    have Q1 := hid q1
    clear q1 hb1
    go_wp2_with fail
    refine bodyPost_ret (v := .agg #[.bool (sg n), .slice a1 l1 c1]) (by simp [results, Try.results18, go_sem, *]) rfl ⟨_, _, _, rfl, ?_, by go_grown⟩
    exact BigIs.put (Q1.out.wide (by decide)) R1.out.1 (noInt_bool _) (noInt_slice _ _ _) _ _
  · have g' : n < 0 := by omega
    obtain ⟨m, hm⟩ : ∃ m, Hid (m = -(n + 1)) := ⟨_, rfl⟩
    go_enter Try.func18, Try.ntmps18
    go_wp2_with fail
    refine (word_b (-(n + 1)) (by omega) (by omega) _).mono ?_
    rw [← hm.out]
    rintro e w1 ⟨a1, l1, c1, rfl, q1, hb1⟩
    have R1 := hid (two_later hb1 (b := w.heap.size) (u := .bool false) (v := .slice none 0 0) ⟨by simp [go_sem], by simp [go_sem], by simp [go_sem], by simp [go_sem]⟩)
    have x1 := bthen (B := w.heap.size) (w := w) (by go_grown) (by go_size) hb1
    have z1 := x1.size
    have KS : Hid (∀ W1 W2 : World, Below W1.heap.size W1 W2 → (Below w.heap.size w W1 ∧ W1.cell? ⟨w1.heap.size, 0, none⟩ = some (.bool (sg m)) ∧ W1.cell? ⟨w1.heap.size, 1, none⟩ = some (.slice a1 l1 c1)) → (Below w.heap.size w W2 ∧ W2.cell? ⟨w1.heap.size, 0, none⟩ = some (.bool (sg m)) ∧ W2.cell? ⟨w1.heap.size, 1, none⟩ = some (.slice a1 l1 c1))) := fun W1 W2 hb ⟨h0, h1, h2⟩ => ⟨bthen h0 h0.size hb, cell_later hb h1, cell_later hb h2⟩
    go_upto_region 4 with fail
    obtain ⟨W, hW⟩ : ∃ W, W = w1.alloc (Obj.cells #[.bool (sg m), .slice a1 l1 c1] 32) := ⟨_, rfl⟩
    rw [← hW]
    have S0 : Below w.heap.size w W ∧ W.cell? ⟨w1.heap.size, 0, none⟩ = some (.bool (sg m)) ∧ W.cell? ⟨w1.heap.size, 1, none⟩ = some (.slice a1 l1 c1) := by rw [hW]; exact ⟨by go_grown, by simp [go_sem], by simp [go_sem]⟩
    have hbW : Below w1.heap.size w1 W := by rw [hW]; go_grown
    have xW := bthen x1 x1.size hbW
    have zW := xW.size
    have Q1 := hid (q1.later hbW)
    have R2 := hid (two_later hbW R1.out.1)
    have hne : ¬ w1.heap.size = w.heap.size := by have := R1.out.2; omega
    clear hW q1 hb1 hbW R1
    go_region_held3 (fun w' => Below w.heap.size w w' ∧ w'.cell? ⟨w1.heap.size, 0, none⟩ = some (.bool (sg m)) ∧ w'.cell? ⟨w1.heap.size, 1, none⟩ = some (.slice a1 l1 c1))
      (first | exact KS.out _ _ hb4 (by assumption) | exact KS.out _ _ hb3 (by assumption) | exact KS.out _ _ hb2 (by assumption) | exact KS.out _ _ (Below.drew (Below.refl _ _)) (by assumption) | (refine ⟨by go_grown, ?_, ?_⟩ <;> simp [go_sem, *]))
      (first
        | (go_at_call 45; refine (neg_any Q3.out).mono ?_; rw [show -(m + 1) = n from (by have := hm.out; omega)]; rintro e w4 ⟨rfl, q4, hb4⟩; have X4 := bthen X3 X3.size hb4; have X4s := X4.size; have R5 := hid (two_later hb4 R4.out.1); obtain ⟨⟨r1, r2, r3, r4⟩, r5⟩ := two_later hb4 R4.out.1; have Q4 := hid q4; clear q4)
        | (go_at_call 33; refine (badd_any (Q1.out.later Y2) Q2.out (by decide) (by decide)).mono ?_; rintro e w3 ⟨a3, l3, c3, rfl, q3, hb3⟩; have X3 := bthen X2 X2.size hb3; have R4 := hid (two_later hb3 R3.out.1); have Q3 := hid q3; clear q3)
        | (go_at_call 35; refine (word_b 1 (by decide) (by decide) _).mono ?_; rintro e w2 ⟨a2, l2, c2, rfl, q2, hb2⟩; have X2 := bthen (B := w.heap.size) (w := w) (by go_grown) (by go_size) hb2; have Y2 := bthen (B := W.heap.size) (w := W) (by go_grown) (by go_size) hb2; have R3 := hid (two_later Y2 R2.out.1); have Q2 := hid q2; clear q2))
    go_wp2_with fail
    refine bodyPost_ret (v := .agg #[.bool (sg n), .slice a3 l3 c3]) (by simp [results, Try.results18, go_sem, *]) rfl ⟨_, _, _, rfl, ?_, by go_grown⟩
    exact BigIs.put Q4.out R5.out.1 (noInt_bool _) (noInt_slice _ _ _) _ _

set_option maxRecDepth 100000 in
set_option maxHeartbeats 1000000 in
theorem rof_any {ah al a : Int} (ha : WideIs ah al a) (w : World) :
    Calls Try.prog 9 #[.agg #[.int .i64 ah, .int .u64 al]] w fun e w' =>
      ∃ b k d, e = .returned (.agg #[.bool (sg a), .slice b k d]) ∧ BigIs 11 w' (.slice b k d) a ∧ Below w.heap.size w w' := by
  obtain ⟨h1, h2, h3, h4, h5⟩ := ha
  have HZ : Hid (ah * p2 64 + al = a) := by rw [Hid, h5]; rfl
  clear h5
  go_enter Try.func9, Try.ntmps9
  go_wp2_with fail
  refine (rint_any ah h1 (by omega) _).mono ?_
  rintro e w1 ⟨a1, l1, c1, rfl, q1, hb1⟩
  have R1 := hid (two_later hb1 (b := w.heap.size + 1) (u := .bool false) (v := .slice none 0 0) ⟨by simp [go_sem], by simp [go_sem], by simp [go_sem], by simp [go_sem]⟩)
  have TA := hid (two_later hb1 (b := w.heap.size) (u := .int .i64 ah) (v := .int .u64 al) ⟨by simp [go_sem], by simp [go_sem], by simp [go_sem], by simp [go_sem]⟩)
  have x1 := bthen (B := w.heap.size) (w := w) (by go_grown) (by go_size) hb1
  have z1 := x1.size
  have KS : Hid (∀ W1 W2 : World, Below W1.heap.size W1 W2 → (Below w.heap.size w W1 ∧ W1.cell? ⟨w.heap.size, 0, none⟩ = some (.int .i64 ah) ∧ W1.cell? ⟨w.heap.size, 1, none⟩ = some (.int .u64 al) ∧ W1.cell? ⟨w1.heap.size, 0, none⟩ = some (.bool (sg ah)) ∧ W1.cell? ⟨w1.heap.size, 1, none⟩ = some (.slice a1 l1 c1)) → (Below w.heap.size w W2 ∧ W2.cell? ⟨w.heap.size, 0, none⟩ = some (.int .i64 ah) ∧ W2.cell? ⟨w.heap.size, 1, none⟩ = some (.int .u64 al) ∧ W2.cell? ⟨w1.heap.size, 0, none⟩ = some (.bool (sg ah)) ∧ W2.cell? ⟨w1.heap.size, 1, none⟩ = some (.slice a1 l1 c1))) := fun W1 W2 hb ⟨h0, h1, h2, h3, h4⟩ => ⟨bthen h0 h0.size hb, cell_later hb h1, cell_later hb h2, cell_later hb h3, cell_later hb h4⟩
  go_upto_region 2 with fail
  obtain ⟨W, hW⟩ : ∃ W, W = w1.alloc (Obj.cells #[.bool (sg ah), .slice a1 l1 c1] 32) := ⟨_, rfl⟩
  rw [← hW]
  have hbW : Below w1.heap.size w1 W := by rw [hW]; go_grown
  have TW := (two_later hbW TA.out.1).1
  have S0 : Below w.heap.size w W ∧ W.cell? ⟨w.heap.size, 0, none⟩ = some (.int .i64 ah) ∧ W.cell? ⟨w.heap.size, 1, none⟩ = some (.int .u64 al) ∧ W.cell? ⟨w1.heap.size, 0, none⟩ = some (.bool (sg ah)) ∧ W.cell? ⟨w1.heap.size, 1, none⟩ = some (.slice a1 l1 c1) := ⟨bthen x1 x1.size hbW, TW.1, TW.2.1, by rw [hW]; simp [go_sem], by rw [hW]; simp [go_sem]⟩
  have xW := bthen x1 x1.size hbW
  have zW := xW.size
  have Q1 := hid (q1.later hbW)
  have R2 := hid (two_later hbW R1.out.1)
  have hne : ¬ w1.heap.size = w.heap.size + 1 := by have := R1.out.2; omega
  clear hW q1 hb1 hbW R1 TW TA
  go_region_held3 (fun w' => Below w.heap.size w w' ∧ w'.cell? ⟨w.heap.size, 0, none⟩ = some (.int .i64 ah) ∧ w'.cell? ⟨w.heap.size, 1, none⟩ = some (.int .u64 al) ∧ w'.cell? ⟨w1.heap.size, 0, none⟩ = some (.bool (sg ah)) ∧ w'.cell? ⟨w1.heap.size, 1, none⟩ = some (.slice a1 l1 c1))
    (first | exact KS.out _ _ hb5 (by assumption) | exact KS.out _ _ hb4 (by assumption) | exact KS.out _ _ hb3 (by assumption) | exact KS.out _ _ hb2 (by assumption) | exact KS.out _ _ (Below.drew (Below.refl _ _)) (by assumption) | (refine ⟨by go_grown, ?_, ?_, ?_, ?_⟩ <;> simp [go_sem, *]))
    (first
      | (go_at_call 33; refine (badd_any (Q3.out.later hb4) Q4.out (by decide) (by decide)).mono ?_; rw [show ah * p2 64 + al = a from HZ.out]; rintro e w5 ⟨a5, l5, c5, rfl, q5, hb5⟩; have X5 := bthen X4 X4.size hb5; have X5s := X5.size; have R6 := hid (two_later hb5 R5.out.1); obtain ⟨⟨r1, r2, r3, r4⟩, r5⟩ := two_later hb5 R5.out.1; have Q5 := hid q5; clear q5)
      | (go_at_call 35; have dummy := Q3; clear dummy; refine (word_b _ (by assumption) (by assumption) _).mono ?_; rintro e w4 ⟨a4, l4, c4, rfl, q4, hb4⟩; have X4 := bthen X3 X3.size hb4; have R5 := hid (two_later hb4 R4.out.1); have Q4 := hid q4; clear q4)
      | (go_at_call 15; refine (bmul_any (Q1.out.later Y2) Q2.out (by decide) (by decide)).mono ?_; rintro e w3 ⟨a3, l3, c3, rfl, q3, hb3⟩; have X3 := bthen X2 X2.size hb3; have R4 := hid (two_later hb3 R3.out.1); have Q3 := hid q3; clear q3)
      | (go_at_call 34; refine (pow2_lit 64 64 rfl (by decide) _).mono ?_; rintro e w2 ⟨a2, l2, c2, rfl, q2, hb2⟩; have X2 := bthen (B := w.heap.size) (w := w) (by go_grown) (by go_size) hb2; have Y2 := bthen (B := W.heap.size) (w := W) (by go_grown) (by go_size) hb2; have R3 := hid (two_later Y2 R2.out.1); have Q2 := hid q2; clear q2))
  go_wp2_with fail
  refine bodyPost_ret (v := .agg #[.bool (sg a), .slice a5 l5 c5]) (by simp [results, Try.results9, go_sem, *]) rfl ⟨_, _, _, rfl, ?_, by go_grown⟩
  exact BigIs.put Q5.out R6.out.1 (noInt_bool _) (noInt_slice _ _ _) _ _
end Go.Proofs.Ytlpenfganhaclaa
