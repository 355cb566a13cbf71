/-
  The walk of the law WideAdds: the sum and the difference of any two numbers, and what is left of one to 0, or that it does not fit. No conditions.
-/
import Derived.Test.YtbnijcmffdahgaaWLawA
import Derived.Deep.DeepCutAuto
namespace Go.Proofs.Ytbnijcmffdahgaa
open Go.RowKit

attribute [local go_sem ↓] Go.wp_at_zero Go.wp_at_succ
set_option maxRecDepth 100000 in
set_option maxHeartbeats 4000000 in
theorem law_adds {ah al bh bl a b : Int} (ha : WideIs ah al a) (hb : WideIs bh bl b) (w : World) :
    Calls Try.prog 4 #[.agg #[.int .i64 ah, .int .u64 al], .agg #[.int .i64 bh, .int .u64 bl]] w fun e w' => e = .returned (.bool true) ∧ Below w.heap.size w w' := by
  obtain ⟨X, hX⟩ : ∃ X, Hid (X = a + b) := ⟨_, rfl⟩
  obtain ⟨Y, hY⟩ : ∃ Y, Hid (Y = a - b) := ⟨_, rfl⟩
  go_enter Try.func4, Try.ntmps4
  go_wp2_with fail
  refine (wadd_any ha hb _).mono ?_
  rw [← hX.out]
  rintro e v1 ⟨sh, sl, is, rfl, g1⟩
  have tA1 := (two_later g1 (b := w.heap.size) (u := .int .i64 ah) (v := .int .u64 al) ⟨by simp [go_sem], by simp [go_sem], by simp [go_sem], by simp [go_sem]⟩).1
  have tB1 := (two_later g1 (b := w.heap.size + 1) (u := .int .i64 bh) (v := .int .u64 bl) ⟨by simp [go_sem], by simp [go_sem], by simp [go_sem], by simp [go_sem]⟩).1
  have x1 := bthen (B := w.heap.size) (w := w) (by go_grown) (by go_size) g1
  have z1 := x1.size
  have IS := hid is
  have TA1 := hid tA1
  have TB1 := hid tB1
  obtain ⟨p1, p2, p3, p4⟩ := tA1
  obtain ⟨q1, q2, q3, q4⟩ := tB1
  have p5 := Two.lt TA1.out
  have q5 := Two.lt TB1.out
  clear g1 is
  go_wp2_with fail
  refine (wsub_any ha hb _).mono ?_
  rw [← hY.out]
  rintro e v2 ⟨dh, dl, id', rfl, g2⟩
  have g2' := bthen (B := v1.heap.size) (w := v1) (by go_grown) (by go_size) g2
  have tA2 := (two_later g2' TA1.out).1
  have TA2 := hid tA2
  have TB2 := hid (two_later g2' TB1.out).1
  have TS2 := hid (two_later g2 (Two.new v1 (.int .i64 sh) (.int .u64 sl) 24)).1
  have x2 := bthen x1 x1.size g2'
  have z2 := x2.size
  have ID := hid id'
  obtain ⟨r1, r2, r3, r4⟩ := tA2
  have r5 := Two.lt TA2.out
  clear g2 g2' id' p1 p2 p3 p4 q1 q2 q3 q4
  go_wp2_with fail
  refine (wneg_any ha _).mono ?_
  rintro e v3 ⟨nh, nl, in', rfl, g3⟩
  have g3' := bthen (B := v2.heap.size) (w := v2) (by go_grown) (by go_size) g3
  have TA3 := hid (two_later g3' TA2.out).1
  have TB3 := hid (two_later g3' TB2.out).1
  have TS3 := hid (two_later g3' TS2.out).1
  have TD3 := hid (two_later g3 (Two.new v2 (.int .i64 dh) (.int .u64 dl) 24)).1
  have x3 := bthen x2 x2.size g3'
  have IN := hid in'
  clear g3 g3' in' r1 r2 r3 r4 TA1 TB1 TA2 TB2 TS2 x1 z1 x2 z2
  have KS : Hid (∀ W1 W2 : World, Below W1.heap.size W1 W2 → (Below w.heap.size w W1 ∧ W1.cell? ⟨w.heap.size, 0, none⟩ = some (.int .i64 ah) ∧ W1.cell? ⟨w.heap.size, 1, none⟩ = some (.int .u64 al) ∧ W1.cell? ⟨w.heap.size + 1, 0, none⟩ = some (.int .i64 bh) ∧ W1.cell? ⟨w.heap.size + 1, 1, none⟩ = some (.int .u64 bl) ∧ W1.cell? ⟨v1.heap.size, 0, none⟩ = some (.int .i64 sh) ∧ W1.cell? ⟨v1.heap.size, 1, none⟩ = some (.int .u64 sl) ∧ W1.cell? ⟨v2.heap.size, 0, none⟩ = some (.int .i64 dh) ∧ W1.cell? ⟨v2.heap.size, 1, none⟩ = some (.int .u64 dl) ∧ W1.cell? ⟨v3.heap.size, 0, none⟩ = some (.int .i64 nh) ∧ W1.cell? ⟨v3.heap.size, 1, none⟩ = some (.int .u64 nl)) → (Below w.heap.size w W2 ∧ W2.cell? ⟨w.heap.size, 0, none⟩ = some (.int .i64 ah) ∧ W2.cell? ⟨w.heap.size, 1, none⟩ = some (.int .u64 al) ∧ W2.cell? ⟨w.heap.size + 1, 0, none⟩ = some (.int .i64 bh) ∧ W2.cell? ⟨w.heap.size + 1, 1, none⟩ = some (.int .u64 bl) ∧ W2.cell? ⟨v1.heap.size, 0, none⟩ = some (.int .i64 sh) ∧ W2.cell? ⟨v1.heap.size, 1, none⟩ = some (.int .u64 sl) ∧ W2.cell? ⟨v2.heap.size, 0, none⟩ = some (.int .i64 dh) ∧ W2.cell? ⟨v2.heap.size, 1, none⟩ = some (.int .u64 dl) ∧ W2.cell? ⟨v3.heap.size, 0, none⟩ = some (.int .i64 nh) ∧ W2.cell? ⟨v3.heap.size, 1, none⟩ = some (.int .u64 nl))) := fun W1 W2 hb ⟨h0, h1, h2, h3, h4, h5, h6, h7, h8, h9, h10⟩ => ⟨bthen h0 h0.size hb, cell_later hb h1, cell_later hb h2, cell_later hb h3, cell_later hb h4, cell_later hb h5, cell_later hb h6, cell_later hb h7, cell_later hb h8, cell_later hb h9, cell_later hb h10⟩
  go_upto_region 4 with fail
  obtain ⟨W, hW⟩ : ∃ W, W = v3.alloc (Obj.cells #[.int .i64 nh, .int .u64 nl] 24) := ⟨_, rfl⟩
  rw [← hW]
  have hbW : Below v3.heap.size v3 W := by rw [hW]; go_grown
  have S0 : Below w.heap.size w W ∧ W.cell? ⟨w.heap.size, 0, none⟩ = some (.int .i64 ah) ∧ W.cell? ⟨w.heap.size, 1, none⟩ = some (.int .u64 al) ∧ W.cell? ⟨w.heap.size + 1, 0, none⟩ = some (.int .i64 bh) ∧ W.cell? ⟨w.heap.size + 1, 1, none⟩ = some (.int .u64 bl) ∧ W.cell? ⟨v1.heap.size, 0, none⟩ = some (.int .i64 sh) ∧ W.cell? ⟨v1.heap.size, 1, none⟩ = some (.int .u64 sl) ∧ W.cell? ⟨v2.heap.size, 0, none⟩ = some (.int .i64 dh) ∧ W.cell? ⟨v2.heap.size, 1, none⟩ = some (.int .u64 dl) ∧ W.cell? ⟨v3.heap.size, 0, none⟩ = some (.int .i64 nh) ∧ W.cell? ⟨v3.heap.size, 1, none⟩ = some (.int .u64 nl) := ⟨bthen x3 x3.size hbW, (two_later hbW TA3.out).1.1, (two_later hbW TA3.out).1.2.1, (two_later hbW TB3.out).1.1, (two_later hbW TB3.out).1.2.1, (two_later hbW TS3.out).1.1, (two_later hbW TS3.out).1.2.1, (two_later hbW TD3.out).1.1, (two_later hbW TD3.out).1.2.1, by rw [hW]; simp [go_sem], by rw [hW]; simp [go_sem]⟩
  clear hW hbW TA3 TB3 TS3 TD3 x3
  go_region_held3 (fun w' => Below w.heap.size w w' ∧ w'.cell? ⟨w.heap.size, 0, none⟩ = some (.int .i64 ah) ∧ w'.cell? ⟨w.heap.size, 1, none⟩ = some (.int .u64 al) ∧ w'.cell? ⟨w.heap.size + 1, 0, none⟩ = some (.int .i64 bh) ∧ w'.cell? ⟨w.heap.size + 1, 1, none⟩ = some (.int .u64 bl) ∧ w'.cell? ⟨v1.heap.size, 0, none⟩ = some (.int .i64 sh) ∧ w'.cell? ⟨v1.heap.size, 1, none⟩ = some (.int .u64 sl) ∧ w'.cell? ⟨v2.heap.size, 0, none⟩ = some (.int .i64 dh) ∧ w'.cell? ⟨v2.heap.size, 1, none⟩ = some (.int .u64 dl) ∧ w'.cell? ⟨v3.heap.size, 0, none⟩ = some (.int .i64 nh) ∧ w'.cell? ⟨v3.heap.size, 1, none⟩ = some (.int .u64 nl))
    (first | exact KS.out _ _ hb12 (by assumption) | exact KS.out _ _ hb11 (by assumption) | exact KS.out _ _ hb10 (by assumption) | exact KS.out _ _ hb9 (by assumption) | exact KS.out _ _ hb8 (by assumption) | exact KS.out _ _ hb7 (by assumption) | exact KS.out _ _ hb6 (by assumption) | exact KS.out _ _ hb5 (by assumption) | exact KS.out _ _ hb4 (by assumption) | exact KS.out _ _ hb3 (by assumption) | exact KS.out _ _ hb2 (by assumption) | exact KS.out _ _ hb1 (by assumption) | exact KS.out _ _ (Below.drew (Below.refl _ _)) (by assumption))
    (first
      | (go_at_call 20; have dummy := YY11; clear dummy; refine (fits_any IN.out Q11.out (by decide)).mono ?_; rintro e w12 ⟨rfl, hb12⟩; have YY12 := bthen YY11 YY11.size hb12; have SF := KS.out _ _ hb12 (by assumption))
      | (go_at_call 23; have dummy := YY10; clear dummy; refine (neg_any Q10.out).mono ?_; rintro e w11 ⟨rfl, q11, hb11⟩; have YY11 := bthen YY10 YY10.size hb11; have Q11 := hid q11; clear q11)
      | (go_at_call 12; have dummy := YY9; clear dummy; refine (rof_any ha _).mono ?_; rintro e w10 ⟨a10, l10, c10, rfl, q10, hb10⟩; have YY10 := bthen YY9 YY9.size hb10; have Q10 := hid q10; clear q10)
      | (go_at_call 20; have dummy := YY8; clear dummy; refine (fits_any ID.out Q8.out (by decide)).mono ?_; rintro e w9 ⟨rfl, hb9⟩; have YY9 := bthen YY8 YY8.size hb9)
      | (go_at_call 22; have dummy := YY7; clear dummy; refine (bsub_any (Q6.out.later hb7) Q7.out (by decide) (by decide)).mono ?_; rw [← hY.out]; rintro e w8 ⟨a8, l8, c8, rfl, q8, hb8⟩; have YY8 := bthen YY7 YY7.size hb8; have Q8 := hid q8; clear q8)
      | (go_at_call 12; have dummy := YY6; clear dummy; refine (rof_any hb _).mono ?_; rintro e w7 ⟨a7, l7, c7, rfl, q7, hb7⟩; have YY7 := bthen YY6 YY6.size hb7; have Q7 := hid q7; clear q7)
      | (go_at_call 12; have dummy := YY5; clear dummy; refine (rof_any ha _).mono ?_; rintro e w6 ⟨a6, l6, c6, rfl, q6, hb6⟩; have YY6 := bthen YY5 YY5.size hb6; have Q6 := hid q6; clear q6)
      | (go_at_call 20; have dummy := YY4; clear dummy; refine (fits_any IS.out Q4.out (by decide)).mono ?_; rintro e w5 ⟨rfl, hb5⟩; have YY5 := bthen YY4 YY4.size hb5)
      | (go_at_call 21; have dummy := YY3; clear dummy; refine (badd_any (Q2.out.later hb3) Q3.out (by decide) (by decide)).mono ?_; rw [← hX.out]; rintro e w4 ⟨a4, l4, c4, rfl, q4, hb4⟩; have YY4 := bthen YY3 YY3.size hb4; have Q4 := hid q4; clear q4)
      | (go_at_call 12; have dummy := YY2; clear dummy; refine (rof_any hb _).mono ?_; rintro e w3 ⟨a3, l3, c3, rfl, q3, hb3⟩; have YY3 := bthen YY2 YY2.size hb3; have Q3 := hid q3; clear q3)
      | (go_at_call 12; have dummy := YY1; clear dummy; refine (rof_any ha _).mono ?_; rintro e w2 ⟨a2, l2, c2, rfl, q2, hb2⟩; have YY2 := bthen YY1 YY1.size hb2; have Q2 := hid q2; clear q2)
      | (go_at_call 14; refine (answers_any _).mono ?_; rintro e w1 ⟨rfl, hb1⟩; have YY1 := bthen (B := W.heap.size) (w := W) (by go_grown) (by go_size) hb1))
  go_wp2
  go_ret
  exact ⟨rfl, SF.1⟩
end Go.Proofs.Ytbnijcmffdahgaa
