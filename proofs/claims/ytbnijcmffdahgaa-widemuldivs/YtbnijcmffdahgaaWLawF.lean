/-
  The walk of the law WideMulDivs: any product by any number, rounded down, and what is left. No conditions.
-/
import Derived.Test.YtbnijcmffdahgaaWLawE
import Derived.Deep.DeepCutAuto
namespace Go.Proofs.Ytbnijcmffdahgaa
open Go.RowKit

attribute [local go_sem ↓] Go.wp_at_zero Go.wp_at_succ
set_option maxRecDepth 100000 in
set_option maxHeartbeats 2000000 in
theorem law_muldivs_no {ah al bh bl dh dl a b d : Int} (_ha : WideIs ah al a) (_hb : WideIs bh bl b) (hd : WideIs dh dl d) (h0 : d ≤ 0) (w : World) :
    Calls Try.prog 7 #[.agg #[.int .i64 ah, .int .u64 al], .agg #[.int .i64 bh, .int .u64 bl], .agg #[.int .i64 dh, .int .u64 dl]] w fun e w' => e = .returned (.bool true) ∧ Below w.heap.size w w' := by
  have qe := run_eql_wide
  have hc : cmpI d 0 ≤ 0 := by unfold cmpI; split <;> (try split) <;> omega
  have hc2 : -1 ≤ cmpI d 0 := by unfold cmpI; split <;> (try split) <;> omega
  have ez : eqL 0 0 0 0 = true := by decide
  go_enter Try.func7, Try.ntmps7
  go_wp2_with fail
  refine (wmuldiv_zero hd h0 _).mono ?_
  rintro e v1 ⟨rfl, g_v1⟩
  have TA_v1 := hid (two_later g_v1 (b := w.heap.size) (u := .int .i64 ah) (v := .int .u64 al) ⟨by simp [go_sem], by simp [go_sem], by simp [go_sem], by simp [go_sem]⟩).1
  have TB_v1 := hid (two_later g_v1 (b := w.heap.size + 1) (u := .int .i64 bh) (v := .int .u64 bl) ⟨by simp [go_sem], by simp [go_sem], by simp [go_sem], by simp [go_sem]⟩).1
  have TD_v1 := hid (two_later g_v1 (b := w.heap.size + 1 + 1) (u := .int .i64 dh) (v := .int .u64 dl) ⟨by simp [go_sem], by simp [go_sem], by simp [go_sem], by simp [go_sem]⟩).1
  have x_v1 := bthen (B := w.heap.size) (w := w) (by go_grown) (by go_size) g_v1
  have z_v1 := x_v1.size
  clear g_v1
  obtain ⟨A1, A2, A3, A4⟩ := TA_v1.out
  have A5 := Two.lt TA_v1.out
  obtain ⟨B1, B2, B3, B4⟩ := TB_v1.out
  have B5 := Two.lt TB_v1.out
  obtain ⟨D1, D2, D3, D4⟩ := TD_v1.out
  have D5 := Two.lt TD_v1.out
  go_wp2_with fail
  refine (rof_any hd _).mono ?_
  rintro e v2 ⟨a2, l2, c2, rfl, q2, g_v2⟩
  have g_v2' := bthen (B := v1.heap.size) (w := v1) (by go_grown) (by go_size) g_v2
  have TA_v2 := hid (two_later g_v2' TA_v1.out).1
  have TB_v2 := hid (two_later g_v2' TB_v1.out).1
  have TD_v2 := hid (two_later g_v2' TD_v1.out).1
  have Tqq_v2 := hid (two_later g_v2 (b := v1.heap.size) (u := .int .i64 0) (v := .int .u64 0) ⟨by simp [go_sem], by simp [go_sem], by simp [go_sem], by simp [go_sem]⟩).1
  have Trr_v2 := hid (two_later g_v2 (b := v1.heap.size + 1) (u := .int .i64 0) (v := .int .u64 0) ⟨by simp [go_sem], by simp [go_sem], by simp [go_sem], by simp [go_sem]⟩).1
  have x_v2 := bthen x_v1 x_v1.size g_v2'
  have z_v2 := x_v2.size
  clear g_v2 g_v2' A1 A2 A3 A4 A5 B1 B2 B3 B4 B5 D1 D2 D3 D4 D5
  obtain ⟨A1, A2, A3, A4⟩ := TA_v2.out
  have A5 := Two.lt TA_v2.out
  obtain ⟨B1, B2, B3, B4⟩ := TB_v2.out
  have B5 := Two.lt TB_v2.out
  obtain ⟨D1, D2, D3, D4⟩ := TD_v2.out
  have D5 := Two.lt TD_v2.out
  obtain ⟨qq1, qq2, qq3, qq4⟩ := Tqq_v2.out
  have qq5 := Two.lt Tqq_v2.out
  obtain ⟨rr1, rr2, rr3, rr4⟩ := Trr_v2.out
  have rr5 := Two.lt Trr_v2.out
  go_wp2_with fail
  refine (rint_any 0 (by decide) (by decide) _).mono ?_
  rintro e v3 ⟨a3, l3, c3, rfl, q3, g_v3⟩
  have g_v3' := bthen (B := v2.heap.size) (w := v2) (by go_grown) (by go_size) g_v3
  have TA_v3 := hid (two_later g_v3' TA_v2.out).1
  have TB_v3 := hid (two_later g_v3' TB_v2.out).1
  have TD_v3 := hid (two_later g_v3' TD_v2.out).1
  have Tqq_v3 := hid (two_later g_v3' Tqq_v2.out).1
  have Trr_v3 := hid (two_later g_v3' Trr_v2.out).1
  have x_v3 := bthen x_v2 x_v2.size g_v3'
  have z_v3 := x_v3.size
  have Q2 := hid (q2.later g_v3)
  have Q3 := hid q3
  clear q2 q3 g_v3 g_v3' A1 A2 A3 A4 A5 B1 B2 B3 B4 B5 D1 D2 D3 D4 D5 qq1 qq2 qq3 qq4 qq5 rr1 rr2 rr3 rr4 rr5
  obtain ⟨A1, A2, A3, A4⟩ := TA_v3.out
  have A5 := Two.lt TA_v3.out
  obtain ⟨B1, B2, B3, B4⟩ := TB_v3.out
  have B5 := Two.lt TB_v3.out
  obtain ⟨D1, D2, D3, D4⟩ := TD_v3.out
  have D5 := Two.lt TD_v3.out
  obtain ⟨qq1, qq2, qq3, qq4⟩ := Tqq_v3.out
  have qq5 := Two.lt Tqq_v3.out
  obtain ⟨rr1, rr2, rr3, rr4⟩ := Trr_v3.out
  have rr5 := Two.lt Trr_v3.out
  go_wp2_with fail
  refine (bcmp_any Q2.out Q3.out (by decide) (by decide)).mono ?_
  rintro e v4 ⟨rfl, g_v4⟩
  have g_v4' := bthen (B := v3.heap.size) (w := v3) (by go_grown) (by go_size) g_v4
  have TA_v4 := hid (two_later g_v4' TA_v3.out).1
  have TB_v4 := hid (two_later g_v4' TB_v3.out).1
  have TD_v4 := hid (two_later g_v4' TD_v3.out).1
  have Tqq_v4 := hid (two_later g_v4' Tqq_v3.out).1
  have Trr_v4 := hid (two_later g_v4' Trr_v3.out).1
  have x_v4 := bthen x_v3 x_v3.size g_v4'
  have z_v4 := x_v4.size
  clear g_v4 g_v4' A1 A2 A3 A4 A5 B1 B2 B3 B4 B5 D1 D2 D3 D4 D5 qq1 qq2 qq3 qq4 qq5 rr1 rr2 rr3 rr4 rr5
  obtain ⟨A1, A2, A3, A4⟩ := TA_v4.out
  have A5 := Two.lt TA_v4.out
  obtain ⟨B1, B2, B3, B4⟩ := TB_v4.out
  have B5 := Two.lt TB_v4.out
  obtain ⟨D1, D2, D3, D4⟩ := TD_v4.out
  have D5 := Two.lt TD_v4.out
  obtain ⟨qq1, qq2, qq3, qq4⟩ := Tqq_v4.out
  have qq5 := Two.lt Tqq_v4.out
  obtain ⟨rr1, rr2, rr3, rr4⟩ := Trr_v4.out
  have rr5 := Two.lt Trr_v4.out
  go_wp2_with fail
  refine (answers_any _).mono ?_
  rintro e v5 ⟨rfl, g_v5⟩
  have g_v5' := bthen (B := v4.heap.size) (w := v4) (by go_grown) (by go_size) g_v5
  have TA_v5 := hid (two_later g_v5' TA_v4.out).1
  have TB_v5 := hid (two_later g_v5' TB_v4.out).1
  have TD_v5 := hid (two_later g_v5' TD_v4.out).1
  have Tqq_v5 := hid (two_later g_v5' Tqq_v4.out).1
  have Trr_v5 := hid (two_later g_v5' Trr_v4.out).1
  have x_v5 := bthen x_v4 x_v4.size g_v5'
  have z_v5 := x_v5.size
  clear g_v5 g_v5' A1 A2 A3 A4 A5 B1 B2 B3 B4 B5 D1 D2 D3 D4 D5 qq1 qq2 qq3 qq4 qq5 rr1 rr2 rr3 rr4 rr5
  obtain ⟨A1, A2, A3, A4⟩ := TA_v5.out
  have A5 := Two.lt TA_v5.out
  obtain ⟨B1, B2, B3, B4⟩ := TB_v5.out
  have B5 := Two.lt TB_v5.out
  obtain ⟨D1, D2, D3, D4⟩ := TD_v5.out
  have D5 := Two.lt TD_v5.out
  obtain ⟨qq1, qq2, qq3, qq4⟩ := Tqq_v5.out
  have qq5 := Two.lt Tqq_v5.out
  obtain ⟨rr1, rr2, rr3, rr4⟩ := Trr_v5.out
  have rr5 := Two.lt Trr_v5.out
  go_wp2_with fail
  go_ret
  exact ⟨rfl, x_v5⟩
set_option maxRecDepth 100000 in
set_option maxHeartbeats 8000000 in
theorem law_muldivs_yes {ah al bh bl dh dl a b d : Int} (ha : WideIs ah al a) (hb : WideIs bh bl b) (hd : WideIs dh dl d) (h0 : 0 < d) (w : World) :
    Calls Try.prog 7 #[.agg #[.int .i64 ah, .int .u64 al], .agg #[.int .i64 bh, .int .u64 bl], .agg #[.int .i64 dh, .int .u64 dl]] w fun e w' => e = .returned (.bool true) ∧ Below w.heap.size w w' := by
  have hc : cmpI d 0 = 1 := cmpI_gt h0
  have qe := run_eql_wide
  obtain ⟨X, hX⟩ : ∃ X, Hid (X = a * b) := ⟨_, rfl⟩
  obtain ⟨x, hx⟩ : ∃ x, Hid (x = X / d) := ⟨_, rfl⟩
  obtain ⟨y, hy⟩ : ∃ y, Hid (y = X % d) := ⟨_, rfl⟩
  have ey := eqI_refl y
  go_enter Try.func7, Try.ntmps7
  go_wp2_with fail
  refine (wmuldiv_any ha hb hd h0 _).mono ?_
  rw [← hX.out, ← hx.out, ← hy.out]
  rintro e v1 ⟨qh, ql, rh, rl, iq, ir, rfl, g_v1⟩
  have TA_v1 := hid (two_later g_v1 (b := w.heap.size) (u := .int .i64 ah) (v := .int .u64 al) ⟨by simp [go_sem], by simp [go_sem], by simp [go_sem], by simp [go_sem]⟩).1
  have TB_v1 := hid (two_later g_v1 (b := w.heap.size + 1) (u := .int .i64 bh) (v := .int .u64 bl) ⟨by simp [go_sem], by simp [go_sem], by simp [go_sem], by simp [go_sem]⟩).1
  have TD_v1 := hid (two_later g_v1 (b := w.heap.size + 1 + 1) (u := .int .i64 dh) (v := .int .u64 dl) ⟨by simp [go_sem], by simp [go_sem], by simp [go_sem], by simp [go_sem]⟩).1
  have x_v1 := bthen (B := w.heap.size) (w := w) (by go_grown) (by go_size) g_v1
  have z_v1 := x_v1.size
  have IQ := hid iq
  have IR := hid ir
  clear g_v1 iq ir
  obtain ⟨A1, A2, A3, A4⟩ := TA_v1.out
  have A5 := Two.lt TA_v1.out
  obtain ⟨B1, B2, B3, B4⟩ := TB_v1.out
  have B5 := Two.lt TB_v1.out
  obtain ⟨D1, D2, D3, D4⟩ := TD_v1.out
  have D5 := Two.lt TD_v1.out
  go_wp2_with fail
  refine (rof_any hd _).mono ?_
  rintro e v2 ⟨a2, l2, c2, rfl, q2, g_v2⟩
  have g_v2' := bthen (B := v1.heap.size) (w := v1) (by go_grown) (by go_size) g_v2
  have TA_v2 := hid (two_later g_v2' TA_v1.out).1
  have TB_v2 := hid (two_later g_v2' TB_v1.out).1
  have TD_v2 := hid (two_later g_v2' TD_v1.out).1
  have Tqq_v2 := hid (two_later g_v2 (b := v1.heap.size) (u := .int .i64 qh) (v := .int .u64 ql) ⟨by simp [go_sem], by simp [go_sem], by simp [go_sem], by simp [go_sem]⟩).1
  have Trr_v2 := hid (two_later g_v2 (b := v1.heap.size + 1) (u := .int .i64 rh) (v := .int .u64 rl) ⟨by simp [go_sem], by simp [go_sem], by simp [go_sem], by simp [go_sem]⟩).1
  have x_v2 := bthen x_v1 x_v1.size g_v2'
  have z_v2 := x_v2.size
  clear g_v2 g_v2' A1 A2 A3 A4 A5 B1 B2 B3 B4 B5 D1 D2 D3 D4 D5
  obtain ⟨A1, A2, A3, A4⟩ := TA_v2.out
  have A5 := Two.lt TA_v2.out
  obtain ⟨B1, B2, B3, B4⟩ := TB_v2.out
  have B5 := Two.lt TB_v2.out
  obtain ⟨D1, D2, D3, D4⟩ := TD_v2.out
  have D5 := Two.lt TD_v2.out
  obtain ⟨qq1, qq2, qq3, qq4⟩ := Tqq_v2.out
  have qq5 := Two.lt Tqq_v2.out
  obtain ⟨rr1, rr2, rr3, rr4⟩ := Trr_v2.out
  have rr5 := Two.lt Trr_v2.out
  go_wp2_with fail
  refine (rint_any 0 (by decide) (by decide) _).mono ?_
  rintro e v3 ⟨a3, l3, c3, rfl, q3, g_v3⟩
  have g_v3' := bthen (B := v2.heap.size) (w := v2) (by go_grown) (by go_size) g_v3
  have TA_v3 := hid (two_later g_v3' TA_v2.out).1
  have TB_v3 := hid (two_later g_v3' TB_v2.out).1
  have TD_v3 := hid (two_later g_v3' TD_v2.out).1
  have Tqq_v3 := hid (two_later g_v3' Tqq_v2.out).1
  have Trr_v3 := hid (two_later g_v3' Trr_v2.out).1
  have x_v3 := bthen x_v2 x_v2.size g_v3'
  have z_v3 := x_v3.size
  have Q2 := hid (q2.later g_v3)
  have Q3 := hid q3
  clear q2 q3 g_v3 g_v3' A1 A2 A3 A4 A5 B1 B2 B3 B4 B5 D1 D2 D3 D4 D5 qq1 qq2 qq3 qq4 qq5 rr1 rr2 rr3 rr4 rr5
  obtain ⟨A1, A2, A3, A4⟩ := TA_v3.out
  have A5 := Two.lt TA_v3.out
  obtain ⟨B1, B2, B3, B4⟩ := TB_v3.out
  have B5 := Two.lt TB_v3.out
  obtain ⟨D1, D2, D3, D4⟩ := TD_v3.out
  have D5 := Two.lt TD_v3.out
  obtain ⟨qq1, qq2, qq3, qq4⟩ := Tqq_v3.out
  have qq5 := Two.lt Tqq_v3.out
  obtain ⟨rr1, rr2, rr3, rr4⟩ := Trr_v3.out
  have rr5 := Two.lt Trr_v3.out
  go_wp2_with fail
  refine (bcmp_any Q2.out Q3.out (by decide) (by decide)).mono ?_
  rintro e v4 ⟨rfl, g_v4⟩
  have g_v4' := bthen (B := v3.heap.size) (w := v3) (by go_grown) (by go_size) g_v4
  have TA_v4 := hid (two_later g_v4' TA_v3.out).1
  have TB_v4 := hid (two_later g_v4' TB_v3.out).1
  have TD_v4 := hid (two_later g_v4' TD_v3.out).1
  have Tqq_v4 := hid (two_later g_v4' Tqq_v3.out).1
  have Trr_v4 := hid (two_later g_v4' Trr_v3.out).1
  have x_v4 := bthen x_v3 x_v3.size g_v4'
  have z_v4 := x_v4.size
  clear g_v4 g_v4' A1 A2 A3 A4 A5 B1 B2 B3 B4 B5 D1 D2 D3 D4 D5 qq1 qq2 qq3 qq4 qq5 rr1 rr2 rr3 rr4 rr5
  obtain ⟨A1, A2, A3, A4⟩ := TA_v4.out
  have A5 := Two.lt TA_v4.out
  obtain ⟨B1, B2, B3, B4⟩ := TB_v4.out
  have B5 := Two.lt TB_v4.out
  obtain ⟨D1, D2, D3, D4⟩ := TD_v4.out
  have D5 := Two.lt TD_v4.out
  obtain ⟨qq1, qq2, qq3, qq4⟩ := Tqq_v4.out
  have qq5 := Two.lt Tqq_v4.out
  obtain ⟨rr1, rr2, rr3, rr4⟩ := Trr_v4.out
  have rr5 := Two.lt Trr_v4.out
  clear A1 A2 A3 A4 A5 B1 B2 B3 B4 B5 D1 D2 D3 D4 D5 qq1 qq2 qq3 qq4 qq5 rr1 rr2 rr3 rr4 rr5
  go_upto_region 4 with fail
  have KS : Hid (∀ W2 : World, Below v4.heap.size v4 W2 → (Below v4.heap.size v4 W2 ∧ W2.cell? ⟨w.heap.size, 0, none⟩ = some (.int .i64 ah) ∧ W2.cell? ⟨w.heap.size, 1, none⟩ = some (.int .u64 al) ∧ W2.cell? ⟨w.heap.size + 1, 0, none⟩ = some (.int .i64 bh) ∧ W2.cell? ⟨w.heap.size + 1, 1, none⟩ = some (.int .u64 bl) ∧ W2.cell? ⟨w.heap.size + 1 + 1, 0, none⟩ = some (.int .i64 dh) ∧ W2.cell? ⟨w.heap.size + 1 + 1, 1, none⟩ = some (.int .u64 dl))) := fun W2 hb => ⟨hb, cell_later hb TA_v4.out.1, cell_later hb TA_v4.out.2.1, cell_later hb TB_v4.out.1, cell_later hb TB_v4.out.2.1, cell_later hb TD_v4.out.1, cell_later hb TD_v4.out.2.1⟩
  clear Q2 Q3 hc
  go_cut [10, 11] (fun p q wc => ∃ (b8 b9 lx cx ly cy : Nat) (ax ay : Option Addr), p = .pointer (some ⟨b8, 0, none⟩) ∧ q = .pointer (some ⟨b9, 0, none⟩) ∧ Hid (Two wc b8 (.bool (sg x)) (.slice ax lx cx) ∧ Two wc b9 (.bool (sg y)) (.slice ay ly cy) ∧ v4.heap.size ≤ b8 ∧ v4.heap.size ≤ b9 ∧ b8 ≠ b9 ∧ BigIs 23 wc (.slice ax lx cx) x ∧ BigIs 12 wc (.slice ay ly cy) y ∧ Below v4.heap.size v4 wc))
  case first =>
    go_region_held3 (fun w' => Below v4.heap.size v4 w' ∧ w'.cell? ⟨w.heap.size, 0, none⟩ = some (.int .i64 ah) ∧ w'.cell? ⟨w.heap.size, 1, none⟩ = some (.int .u64 al) ∧ w'.cell? ⟨w.heap.size + 1, 0, none⟩ = some (.int .i64 bh) ∧ w'.cell? ⟨w.heap.size + 1, 1, none⟩ = some (.int .u64 bl) ∧ w'.cell? ⟨w.heap.size + 1 + 1, 0, none⟩ = some (.int .i64 dh) ∧ w'.cell? ⟨w.heap.size + 1 + 1, 1, none⟩ = some (.int .u64 dl))
      (exact KS.out _ (by first | (go_grown; done) | fail))
      (first
        | (go_at_call 27; refine (bdiv_any ((Q9.out.later Y4).later (by go_grown)) (Q10.out.later (by go_grown)) h0 (by decide) (by decide)).mono ?_; rw [← hx.out, ← hy.out]; rintro e w5 ⟨a7, l7, c7, a8, l8, c8, rfl, o7, o8, hb5⟩; have X5 := bthen (B := v4.heap.size) (w := v4) (by go_grown) (by go_size) hb5; have X5s := X5.size; have Y5 := bthen (B := w4.heap.size) (w := w4) (by go_grown) (by go_size) hb5; have Y5s := Y5.size; (try have n1a := (two_later Y5 n1a).1); (try have n1b := (two_later Y5 n1b).1); (try have n2a := (two_later Y5 n2a).1); (try have n2b := (two_later Y5 n2b).1); (try have n3a := (two_later Y5 n3a).1); (try have n3b := (two_later Y5 n3b).1); (try have n4a := (two_later Y5 n4a).1); (try have n4b := (two_later Y5 n4b).1); (try with_reducible have n5a := (two_later hb5 (Two.new w4 (.bool false) (.slice none 0 0) _)).1); (try with_reducible have n5a := (two_later hb5 ((Two.new w4 (.bool false) (.slice none 0 0) _).alloc _)).1); (try with_reducible have n5b := (two_later hb5 (Two.new2 w4 _ (.bool false) (.slice none 0 0) _)).1); (try have q5a := Two.lt n5a); (try have q5b := Two.lt n5b); (try have p1a := Two.lt n1a); (try obtain ⟨o1a1, o1a2, o1a3, o1a4⟩ := id n1a); (try have p1b := Two.lt n1b); (try obtain ⟨o1b1, o1b2, o1b3, o1b4⟩ := id n1b); (try have p2a := Two.lt n2a); (try obtain ⟨o2a1, o2a2, o2a3, o2a4⟩ := id n2a); (try have p2b := Two.lt n2b); (try obtain ⟨o2b1, o2b2, o2b3, o2b4⟩ := id n2b); (try have p3a := Two.lt n3a); (try obtain ⟨o3a1, o3a2, o3a3, o3a4⟩ := id n3a); (try have p3b := Two.lt n3b); (try obtain ⟨o3b1, o3b2, o3b3, o3b4⟩ := id n3b); (try have p4a := Two.lt n4a); (try obtain ⟨o4a1, o4a2, o4a3, o4a4⟩ := id n4a); (try have p4b := Two.lt n4b); (try obtain ⟨o4b1, o4b2, o4b3, o4b4⟩ := id n4b); (try have p5a := Two.lt n5a); (try obtain ⟨o5a1, o5a2, o5a3, o5a4⟩ := id n5a); (try have p5b := Two.lt n5b); (try obtain ⟨o5b1, o5b2, o5b3, o5b4⟩ := id n5b); have Q7 := hid o7; clear o7; have Q8 := hid o8; clear o8)
        | (go_at_call 12; have dummy := Q9; clear dummy; refine (rof_any hd _).mono ?_; rintro e w4 ⟨a10, l10, c10, rfl, o10, hb4⟩; have X4 := bthen (B := v4.heap.size) (w := v4) (by go_grown) (by go_size) hb4; have X4s := X4.size; have Y4 := bthen (B := w3.heap.size) (w := w3) (by go_grown) (by go_size) hb4; have Y4s := Y4.size; (try have n1a := (two_later Y4 n1a).1); (try have n1b := (two_later Y4 n1b).1); (try have n2a := (two_later Y4 n2a).1); (try have n2b := (two_later Y4 n2b).1); (try have n3a := (two_later Y4 n3a).1); (try have n3b := (two_later Y4 n3b).1); (try with_reducible have n4a := (two_later hb4 (Two.new w3 (.bool false) (.slice none 0 0) _)).1); (try with_reducible have n4a := (two_later hb4 ((Two.new w3 (.bool false) (.slice none 0 0) _).alloc _)).1); (try with_reducible have n4b := (two_later hb4 (Two.new2 w3 _ (.bool false) (.slice none 0 0) _)).1); (try have q4a := Two.lt n4a); (try have q4b := Two.lt n4b); have Q10 := hid o10; clear o10)
        | (go_at_call 25; refine (bmul_any ((Q5.out.later Y2).later (by go_grown)) (Q6.out.later (by go_grown)) (by decide) (by decide)).mono ?_; rw [← hX.out]; rintro e w3 ⟨a9, l9, c9, rfl, o9, hb3⟩; have X3 := bthen (B := v4.heap.size) (w := v4) (by go_grown) (by go_size) hb3; have X3s := X3.size; have Y3 := bthen (B := w2.heap.size) (w := w2) (by go_grown) (by go_size) hb3; have Y3s := Y3.size; (try have n1a := (two_later Y3 n1a).1); (try have n1b := (two_later Y3 n1b).1); (try have n2a := (two_later Y3 n2a).1); (try have n2b := (two_later Y3 n2b).1); (try with_reducible have n3a := (two_later hb3 (Two.new w2 (.bool false) (.slice none 0 0) _)).1); (try with_reducible have n3a := (two_later hb3 ((Two.new w2 (.bool false) (.slice none 0 0) _).alloc _)).1); (try with_reducible have n3b := (two_later hb3 (Two.new2 w2 _ (.bool false) (.slice none 0 0) _)).1); (try have q3a := Two.lt n3a); (try have q3b := Two.lt n3b); have Q9 := hid o9; clear o9)
        | (go_at_call 12; have dummy := Q5; clear dummy; refine (rof_any hb _).mono ?_; rintro e w2 ⟨a6, l6, c6, rfl, o6, hb2⟩; have X2 := bthen (B := v4.heap.size) (w := v4) (by go_grown) (by go_size) hb2; have X2s := X2.size; have Y2 := bthen (B := w1.heap.size) (w := w1) (by go_grown) (by go_size) hb2; have Y2s := Y2.size; (try have n1a := (two_later Y2 n1a).1); (try have n1b := (two_later Y2 n1b).1); (try with_reducible have n2a := (two_later hb2 (Two.new w1 (.bool false) (.slice none 0 0) _)).1); (try with_reducible have n2a := (two_later hb2 ((Two.new w1 (.bool false) (.slice none 0 0) _).alloc _)).1); (try with_reducible have n2b := (two_later hb2 (Two.new2 w1 _ (.bool false) (.slice none 0 0) _)).1); (try have q2a := Two.lt n2a); (try have q2b := Two.lt n2b); have Q6 := hid o6; clear o6)
        | (go_at_call 12; refine (rof_any ha _).mono ?_; rintro e w1 ⟨a5, l5, c5, rfl, o5, hb1⟩; have X1 := bthen (B := v4.heap.size) (w := v4) (by go_grown) (by go_size) hb1; have X1s := X1.size; have Y1 := bthen (B := v4.heap.size) (w := v4) (by go_grown) (by go_size) hb1; have Y1s := Y1.size; (try with_reducible have n1a := (two_later hb1 (Two.new v4 (.bool false) (.slice none 0 0) _)).1); (try with_reducible have n1a := (two_later hb1 (Two.new v4 (.bool false) (.slice none 0 0) _).drew).1); (try with_reducible have n1a := (two_later hb1 ((Two.new v4 (.bool false) (.slice none 0 0) _).alloc _)).1); (try with_reducible have n1b := (two_later hb1 (Two.new2 v4 _ (.bool false) (.slice none 0 0) _)).1); (try with_reducible have n1a := (two_later hb1 ((Two.new v4 (.bool false) (.slice none 0 0) _).alloc _).drew).1); (try with_reducible have n1b := (two_later hb1 (Two.new2 v4 _ (.bool false) (.slice none 0 0) _).drew).1); (try have q1a := Two.lt n1a); (try have q1b := Two.lt n1b); have Q5 := hid o5; clear o5))
    all_goals
      go_wp2_with fail
      go_meet
      refine ⟨_, _, l7, c7, l8, c8, a7, a8, rfl, rfl, ?_⟩
      refine Fin2.meets (w := w5) ?_ Q7 Q8 ?_ ?_ ?_ ?_
      · first | (with_reducible exact fin_aa) | (with_reducible exact fin_aa') | (with_reducible exact fin_ab (by assumption)) | (with_reducible exact fin_ba (by assumption)) | (with_reducible exact fin_bb (by assumption) (by assumption) (by omega))
      · go_grown
      · omega
      · omega
      · omega
  case rest =>
    obtain ⟨b8, b9, lx, cx, ly, cy, ax, ay, rfl, rfl, tX, tY, -, -, -, bx, by', hbc⟩ := hcut
    have BX := hid bx
    have BY := hid by'
    have TX := hid tX
    have TY := hid tY
    have TQ := hid (two_later hbc Tqq_v4.out).1
    have TR := hid (two_later hbc Trr_v4.out).1
    have xc := bthen x_v4 x_v4.size hbc
    have zc := xc.size
    obtain ⟨t1, t2, t3, t4⟩ := tX
    obtain ⟨s1, s2, s3, s4⟩ := TQ.out
    clear KS bx by' tY hbc TA_v1 TA_v2 TA_v3 TA_v4 TB_v1 TB_v2 TB_v3 TB_v4 TD_v1 TD_v2 TD_v3 TD_v4 Tqq_v2 Tqq_v3 Tqq_v4 Trr_v2 Trr_v3 Trr_v4
    go_wp2_with fail
    refine (fits_any IQ.out BX.out (by decide)).mono ?_
    rintro e v6 ⟨rfl, g6⟩
    have TY6 := hid (two_later g6 TY.out).1
    have TR6 := hid (two_later g6 TR.out).1
    have BY6 := hid (BY.out.later g6)
    have x6 := bthen xc xc.size g6
    have z6 := x6.size
    obtain ⟨m1, m2, m3, m4⟩ := TY6.out
    obtain ⟨n1, n2, n3, n4⟩ := TR6.out
    clear g6 t1 t2 t3 t4 s1 s2 s3 s4 xc zc TX TY TQ TR BX BY
    cases fi : inW x
    · have fe : fitE x = 2 := by unfold fitE; rw [if_neg (by rw [fi]; decide)]
      have eqr := eqW_same (IR.out.eq (fitR_no fi)) wide_0
      clear fi
      go_upto_region 7 with fail
      have hu : undef = Value.tuple #[] := rfl
      first | (go_region_with (first | (go_at_call 14; refine (answers_any _).mono ?_; rintro e v7 ⟨rfl, g7⟩; have Y7 := bthen (B := v6.heap.size) (w := v6) (by go_grown) (by go_size) g7; obtain ⟨⟨n1, n2, n3, n4⟩, n5⟩ := two_later Y7 TR6.out; have x7 := bthen x6 x6.size Y7; have z7 := x7.size))) | fail
      all_goals
        go_wp2_with fail
        go_ret
        exact ⟨rfl, by go_grown⟩
    · have fe : fitE x = 0 := by unfold fitE; rw [if_pos fi]
      have IR2 : Hid (WideIs rh rl y) := IR.out.eq (fitR_yes fi)
      clear fi
      go_upto_region 7 with fail
      first | (go_region_with (first
        | (go_at_call 11; refine (same_any Q8.out (BY6.out.later Y8) (by decide) (by decide)).mono ?_; rintro e v9 ⟨rfl, g9⟩; have Y9 := bthen Y8 Y8.size g9; have x9 := bthen x6 x6.size Y9; have z9 := x9.size)
        | (go_at_call 12; refine (rof_any IR2.out _).mono ?_; rintro e v8 ⟨a8, l8, c8, rfl, q8, g8⟩; have Q8 := hid q8; clear q8; have Y8 := bthen Y7 Y7.size g8; obtain ⟨⟨m1, m2, m3, m4⟩, m5⟩ := two_later Y8 TY6.out)
        | (go_at_call 14; refine (answers_any _).mono ?_; rintro e v7 ⟨rfl, g7⟩; have Y7 := bthen (B := v6.heap.size) (w := v6) (by go_grown) (by go_size) g7; obtain ⟨⟨n1, n2, n3, n4⟩, n5⟩ := two_later Y7 TR6.out; obtain ⟨⟨m1, m2, m3, m4⟩, m5⟩ := two_later Y7 TY6.out; have x7 := bthen x6 x6.size Y7; have z7 := x7.size))) | fail
      all_goals
        go_wp2_with fail
        go_ret
        exact ⟨rfl, by go_grown⟩
theorem law_muldivs {ah al bh bl dh dl a b d : Int} (ha : WideIs ah al a) (hb : WideIs bh bl b) (hd : WideIs dh dl d) (w : World) :
    Calls Try.prog 7 #[.agg #[.int .i64 ah, .int .u64 al], .agg #[.int .i64 bh, .int .u64 bl], .agg #[.int .i64 dh, .int .u64 dl]] w fun e w' => e = .returned (.bool true) ∧ Below w.heap.size w w' := by
  by_cases h : d ≤ 0
  · exact law_muldivs_no ha hb hd h w
  · exact law_muldivs_yes ha hb hd (by omega) w
end Go.Proofs.Ytbnijcmffdahgaa
