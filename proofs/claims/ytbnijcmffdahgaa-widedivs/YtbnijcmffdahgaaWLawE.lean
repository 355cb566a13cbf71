/-
  The walk of the law WideDivs: the quotient of any number, rounded down, and what is left. No conditions.
-/
import Derived.Test.YtbnijcmffdahgaaWLawA
import Derived.Test.YtbnijcmffdahgaaRefN
import Derived.Deep.DeepCutAuto
namespace Go.Proofs.Ytbnijcmffdahgaa
open Go.RowKit

attribute [local go_sem ↓] Go.wp_at_zero Go.wp_at_succ
theorem bdiv_any {n m : Nat} {a a' : Option Addr} {l l' c c' : Nat} {x y : Int} {w : World} (ha : BigIs n w (.slice a l c) x) (hb : BigIs m w (.slice a' l' c') y) (hy0 : 0 < y) (hn : n ≤ 100000) (hm : m ≤ 100000) :
    Calls Try.prog 27 #[.agg #[.bool (sg x), .slice a l c], .agg #[.bool (sg y), .slice a' l' c']] w fun e w' =>
      ∃ b k d b' k' d', e = .returned (.tuple #[.agg #[.bool (sg (x / y)), .slice b k d], .agg #[.bool (sg (x % y)), .slice b' k' d']]) ∧ BigIs (max n 4 + 1) w' (.slice b k d) (x / y) ∧ BigIs (m + 1) w' (.slice b' k' d') (x % y) ∧ Below w.heap.size w w' := by
  by_cases h : 0 ≤ x
  · refine (bdiv_pos ha hb h hy0 hn hm).mono ?_
    rintro e w1 ⟨b, k, d, b', k', d', he, h1, h2, h3⟩
    exact ⟨b, k, d, b', k', d', he, h1.wide (by omega), h2.wide (by omega), h3⟩
  · exact bdiv_neg ha hb (by omega) hy0 hn hm
theorem eqI_refl (z : Int) : eqI z z = true := by unfold eqI; simp
set_option maxRecDepth 100000 in
set_option maxHeartbeats 2000000 in
theorem law_divs_no {ah al dh dl a d : Int} (_ha : WideIs ah al a) (hd : WideIs dh dl d) (h0 : d ≤ 0) (w : World) :
    Calls Try.prog 6 #[.agg #[.int .i64 ah, .int .u64 al], .agg #[.int .i64 dh, .int .u64 dl]] w fun e w' => e = .returned (.bool true) ∧ Below w.heap.size w w' := by
  have qe := run_eql_wide
  have hc : cmpI d 0 ≤ 0 := by unfold cmpI; split <;> (try split) <;> omega
  have hc2 : -1 ≤ cmpI d 0 := by unfold cmpI; split <;> (try split) <;> omega
  have ez : eqL 0 0 0 0 = true := by decide
  go_enter Try.func6, Try.ntmps6
  go_wp2_with fail
  refine (wdiv_zero hd h0 _).mono ?_
  rintro e v1 ⟨rfl, g_v1⟩
  have TA_v1 := hid (two_later g_v1 (b := w.heap.size) (u := .int .i64 ah) (v := .int .u64 al) ⟨by simp [go_sem], by simp [go_sem], by simp [go_sem], by simp [go_sem]⟩).1
  have TD_v1 := hid (two_later g_v1 (b := w.heap.size + 1) (u := .int .i64 dh) (v := .int .u64 dl) ⟨by simp [go_sem], by simp [go_sem], by simp [go_sem], by simp [go_sem]⟩).1
  have x_v1 := bthen (B := w.heap.size) (w := w) (by go_grown) (by go_size) g_v1
  have z_v1 := x_v1.size
  clear g_v1
  obtain ⟨A1, A2, A3, A4⟩ := TA_v1.out
  have A5 := Two.lt TA_v1.out
  obtain ⟨D1, D2, D3, D4⟩ := TD_v1.out
  have D5 := Two.lt TD_v1.out
  go_wp2_with fail
  refine (rof_any hd _).mono ?_
  rintro e v2 ⟨a2, l2, c2, rfl, q2, g_v2⟩
  have g_v2' := bthen (B := v1.heap.size) (w := v1) (by go_grown) (by go_size) g_v2
  have TA_v2 := hid (two_later g_v2' TA_v1.out).1
  have TD_v2 := hid (two_later g_v2' TD_v1.out).1
  have Tqq_v2 := hid (two_later g_v2 (b := v1.heap.size) (u := .int .i64 0) (v := .int .u64 0) ⟨by simp [go_sem], by simp [go_sem], by simp [go_sem], by simp [go_sem]⟩).1
  have Trr_v2 := hid (two_later g_v2 (b := v1.heap.size + 1) (u := .int .i64 0) (v := .int .u64 0) ⟨by simp [go_sem], by simp [go_sem], by simp [go_sem], by simp [go_sem]⟩).1
  have x_v2 := bthen x_v1 x_v1.size g_v2'
  have z_v2 := x_v2.size
  clear g_v2 g_v2' A1 A2 A3 A4 A5 D1 D2 D3 D4 D5
  obtain ⟨A1, A2, A3, A4⟩ := TA_v2.out
  have A5 := Two.lt TA_v2.out
  obtain ⟨D1, D2, D3, D4⟩ := TD_v2.out
  have D5 := Two.lt TD_v2.out
  obtain ⟨qq1, qq2, qq3, qq4⟩ := Tqq_v2.out
  have qq5 := Two.lt Tqq_v2.out
  obtain ⟨rr1, rr2, rr3, rr4⟩ := Trr_v2.out
  have rr5 := Two.lt Trr_v2.out
  go_wp2_with fail
  refine (rint_any 0 (by decide) (by decide) _).mono ?_
  rintro e v3 ⟨a3, l3, c3, rfl, q3, g_v3⟩
  have g_v3' := bthen (B := v2.heap.size) (w := v2) (by go_grown) (by go_size) g_v3
  have TA_v3 := hid (two_later g_v3' TA_v2.out).1
  have TD_v3 := hid (two_later g_v3' TD_v2.out).1
  have Tqq_v3 := hid (two_later g_v3' Tqq_v2.out).1
  have Trr_v3 := hid (two_later g_v3' Trr_v2.out).1
  have x_v3 := bthen x_v2 x_v2.size g_v3'
  have z_v3 := x_v3.size
  have Q2 := hid (q2.later g_v3)
  have Q3 := hid q3
  clear q2 q3 g_v3 g_v3' A1 A2 A3 A4 A5 D1 D2 D3 D4 D5 qq1 qq2 qq3 qq4 qq5 rr1 rr2 rr3 rr4 rr5
  obtain ⟨A1, A2, A3, A4⟩ := TA_v3.out
  have A5 := Two.lt TA_v3.out
  obtain ⟨D1, D2, D3, D4⟩ := TD_v3.out
  have D5 := Two.lt TD_v3.out
  obtain ⟨qq1, qq2, qq3, qq4⟩ := Tqq_v3.out
  have qq5 := Two.lt Tqq_v3.out
  obtain ⟨rr1, rr2, rr3, rr4⟩ := Trr_v3.out
  have rr5 := Two.lt Trr_v3.out
  go_wp2_with fail
  refine (bcmp_any Q2.out Q3.out (by decide) (by decide)).mono ?_
  rintro e v4 ⟨rfl, g_v4⟩
  have g_v4' := bthen (B := v3.heap.size) (w := v3) (by go_grown) (by go_size) g_v4
  have TA_v4 := hid (two_later g_v4' TA_v3.out).1
  have TD_v4 := hid (two_later g_v4' TD_v3.out).1
  have Tqq_v4 := hid (two_later g_v4' Tqq_v3.out).1
  have Trr_v4 := hid (two_later g_v4' Trr_v3.out).1
  have x_v4 := bthen x_v3 x_v3.size g_v4'
  have z_v4 := x_v4.size
  clear g_v4 g_v4' A1 A2 A3 A4 A5 D1 D2 D3 D4 D5 qq1 qq2 qq3 qq4 qq5 rr1 rr2 rr3 rr4 rr5
  obtain ⟨A1, A2, A3, A4⟩ := TA_v4.out
  have A5 := Two.lt TA_v4.out
  obtain ⟨D1, D2, D3, D4⟩ := TD_v4.out
  have D5 := Two.lt TD_v4.out
  obtain ⟨qq1, qq2, qq3, qq4⟩ := Tqq_v4.out
  have qq5 := Two.lt Tqq_v4.out
  obtain ⟨rr1, rr2, rr3, rr4⟩ := Trr_v4.out
  have rr5 := Two.lt Trr_v4.out
  go_wp2_with fail
  refine (answers_any _).mono ?_
  rintro e v5 ⟨rfl, g_v5⟩
  have g_v5' := bthen (B := v4.heap.size) (w := v4) (by go_grown) (by go_size) g_v5
  have TA_v5 := hid (two_later g_v5' TA_v4.out).1
  have TD_v5 := hid (two_later g_v5' TD_v4.out).1
  have Tqq_v5 := hid (two_later g_v5' Tqq_v4.out).1
  have Trr_v5 := hid (two_later g_v5' Trr_v4.out).1
  have x_v5 := bthen x_v4 x_v4.size g_v5'
  have z_v5 := x_v5.size
  clear g_v5 g_v5' A1 A2 A3 A4 A5 D1 D2 D3 D4 D5 qq1 qq2 qq3 qq4 qq5 rr1 rr2 rr3 rr4 rr5
  obtain ⟨A1, A2, A3, A4⟩ := TA_v5.out
  have A5 := Two.lt TA_v5.out
  obtain ⟨D1, D2, D3, D4⟩ := TD_v5.out
  have D5 := Two.lt TD_v5.out
  obtain ⟨qq1, qq2, qq3, qq4⟩ := Tqq_v5.out
  have qq5 := Two.lt Tqq_v5.out
  obtain ⟨rr1, rr2, rr3, rr4⟩ := Trr_v5.out
  have rr5 := Two.lt Trr_v5.out
  go_wp2_with fail
  go_ret
  exact ⟨rfl, x_v5⟩
set_option maxRecDepth 100000 in
set_option maxHeartbeats 8000000 in
theorem law_divs_yes {ah al dh dl a d : Int} (ha : WideIs ah al a) (hd : WideIs dh dl d) (h0 : 0 < d) (w : World) :
    Calls Try.prog 6 #[.agg #[.int .i64 ah, .int .u64 al], .agg #[.int .i64 dh, .int .u64 dl]] w fun e w' => e = .returned (.bool true) ∧ Below w.heap.size w w' := by
  have hc : cmpI d 0 = 1 := cmpI_gt h0
  obtain ⟨x, hx⟩ : ∃ x, Hid (x = a / d) := ⟨_, rfl⟩
  obtain ⟨y, hy⟩ : ∃ y, Hid (y = a % d) := ⟨_, rfl⟩
  have ex := eqI_refl x
  have ey := eqI_refl y
  go_enter Try.func6, Try.ntmps6
  go_wp2_with fail
  refine (wdiv_any ha hd h0 _).mono ?_
  rw [← hx.out, ← hy.out]
  rintro e v1 ⟨qh, ql, rh, rl, iq, ir, rfl, g_v1⟩
  have TA_v1 := hid (two_later g_v1 (b := w.heap.size) (u := .int .i64 ah) (v := .int .u64 al) ⟨by simp [go_sem], by simp [go_sem], by simp [go_sem], by simp [go_sem]⟩).1
  have TD_v1 := hid (two_later g_v1 (b := w.heap.size + 1) (u := .int .i64 dh) (v := .int .u64 dl) ⟨by simp [go_sem], by simp [go_sem], by simp [go_sem], by simp [go_sem]⟩).1
  have x_v1 := bthen (B := w.heap.size) (w := w) (by go_grown) (by go_size) g_v1
  have z_v1 := x_v1.size
  have IQ := hid iq
  have IR := hid ir
  clear g_v1 iq ir
  obtain ⟨A1, A2, A3, A4⟩ := TA_v1.out
  have A5 := Two.lt TA_v1.out
  obtain ⟨D1, D2, D3, D4⟩ := TD_v1.out
  have D5 := Two.lt TD_v1.out
  go_wp2_with fail
  refine (rof_any hd _).mono ?_
  rintro e v2 ⟨a2, l2, c2, rfl, q2, g_v2⟩
  have g_v2' := bthen (B := v1.heap.size) (w := v1) (by go_grown) (by go_size) g_v2
  have TA_v2 := hid (two_later g_v2' TA_v1.out).1
  have TD_v2 := hid (two_later g_v2' TD_v1.out).1
  have Tqq_v2 := hid (two_later g_v2 (b := v1.heap.size) (u := .int .i64 qh) (v := .int .u64 ql) ⟨by simp [go_sem], by simp [go_sem], by simp [go_sem], by simp [go_sem]⟩).1
  have Trr_v2 := hid (two_later g_v2 (b := v1.heap.size + 1) (u := .int .i64 rh) (v := .int .u64 rl) ⟨by simp [go_sem], by simp [go_sem], by simp [go_sem], by simp [go_sem]⟩).1
  have x_v2 := bthen x_v1 x_v1.size g_v2'
  have z_v2 := x_v2.size
  clear g_v2 g_v2' A1 A2 A3 A4 A5 D1 D2 D3 D4 D5
  obtain ⟨A1, A2, A3, A4⟩ := TA_v2.out
  have A5 := Two.lt TA_v2.out
  obtain ⟨D1, D2, D3, D4⟩ := TD_v2.out
  have D5 := Two.lt TD_v2.out
  obtain ⟨qq1, qq2, qq3, qq4⟩ := Tqq_v2.out
  have qq5 := Two.lt Tqq_v2.out
  obtain ⟨rr1, rr2, rr3, rr4⟩ := Trr_v2.out
  have rr5 := Two.lt Trr_v2.out
  go_wp2_with fail
  refine (rint_any 0 (by decide) (by decide) _).mono ?_
  rintro e v3 ⟨a3, l3, c3, rfl, q3, g_v3⟩
  have g_v3' := bthen (B := v2.heap.size) (w := v2) (by go_grown) (by go_size) g_v3
  have TA_v3 := hid (two_later g_v3' TA_v2.out).1
  have TD_v3 := hid (two_later g_v3' TD_v2.out).1
  have Tqq_v3 := hid (two_later g_v3' Tqq_v2.out).1
  have Trr_v3 := hid (two_later g_v3' Trr_v2.out).1
  have x_v3 := bthen x_v2 x_v2.size g_v3'
  have z_v3 := x_v3.size
  have Q2 := hid (q2.later g_v3)
  have Q3 := hid q3
  clear q2 q3 g_v3 g_v3' A1 A2 A3 A4 A5 D1 D2 D3 D4 D5 qq1 qq2 qq3 qq4 qq5 rr1 rr2 rr3 rr4 rr5
  obtain ⟨A1, A2, A3, A4⟩ := TA_v3.out
  have A5 := Two.lt TA_v3.out
  obtain ⟨D1, D2, D3, D4⟩ := TD_v3.out
  have D5 := Two.lt TD_v3.out
  obtain ⟨qq1, qq2, qq3, qq4⟩ := Tqq_v3.out
  have qq5 := Two.lt Tqq_v3.out
  obtain ⟨rr1, rr2, rr3, rr4⟩ := Trr_v3.out
  have rr5 := Two.lt Trr_v3.out
  go_wp2_with fail
  refine (bcmp_any Q2.out Q3.out (by decide) (by decide)).mono ?_
  rintro e v4 ⟨rfl, g_v4⟩
  have g_v4' := bthen (B := v3.heap.size) (w := v3) (by go_grown) (by go_size) g_v4
  have TA_v4 := hid (two_later g_v4' TA_v3.out).1
  have TD_v4 := hid (two_later g_v4' TD_v3.out).1
  have Tqq_v4 := hid (two_later g_v4' Tqq_v3.out).1
  have Trr_v4 := hid (two_later g_v4' Trr_v3.out).1
  have x_v4 := bthen x_v3 x_v3.size g_v4'
  have z_v4 := x_v4.size
  clear g_v4 g_v4' A1 A2 A3 A4 A5 D1 D2 D3 D4 D5 qq1 qq2 qq3 qq4 qq5 rr1 rr2 rr3 rr4 rr5
  obtain ⟨A1, A2, A3, A4⟩ := TA_v4.out
  have A5 := Two.lt TA_v4.out
  obtain ⟨D1, D2, D3, D4⟩ := TD_v4.out
  have D5 := Two.lt TD_v4.out
  obtain ⟨qq1, qq2, qq3, qq4⟩ := Tqq_v4.out
  have qq5 := Two.lt Tqq_v4.out
  obtain ⟨rr1, rr2, rr3, rr4⟩ := Trr_v4.out
  have rr5 := Two.lt Trr_v4.out
  clear A1 A2 A3 A4 D1 D2 D3 D4 qq1 qq2 qq3 qq4 qq5 rr1 rr2 rr3 rr4 rr5 A5 D5
  go_upto_region 4 with fail
  have KS : Hid (∀ W2 : World, Below v4.heap.size v4 W2 → (Below v4.heap.size v4 W2 ∧ W2.cell? ⟨w.heap.size, 0, none⟩ = some (.int .i64 ah) ∧ W2.cell? ⟨w.heap.size, 1, none⟩ = some (.int .u64 al) ∧ W2.cell? ⟨w.heap.size + 1, 0, none⟩ = some (.int .i64 dh) ∧ W2.cell? ⟨w.heap.size + 1, 1, none⟩ = some (.int .u64 dl))) := fun W2 hb => ⟨hb, cell_later hb TA_v4.out.1, cell_later hb TA_v4.out.2.1, cell_later hb TD_v4.out.1, cell_later hb TD_v4.out.2.1⟩
  clear Q2 Q3 hc
  go_cut [8, 9] (fun p q wc => ∃ (b8 b9 lx cx ly cy : Nat) (ax ay : Option Addr), p = .pointer (some ⟨b8, 0, none⟩) ∧ q = .pointer (some ⟨b9, 0, none⟩) ∧ Hid (Two wc b8 (.bool (sg x)) (.slice ax lx cx) ∧ Two wc b9 (.bool (sg y)) (.slice ay ly cy) ∧ v4.heap.size ≤ b8 ∧ v4.heap.size ≤ b9 ∧ b8 ≠ b9 ∧ BigIs 12 wc (.slice ax lx cx) x ∧ BigIs 12 wc (.slice ay ly cy) y ∧ Below v4.heap.size v4 wc))
  case first =>
    go_region_held3 (fun w' => Below v4.heap.size v4 w' ∧ w'.cell? ⟨w.heap.size, 0, none⟩ = some (.int .i64 ah) ∧ w'.cell? ⟨w.heap.size, 1, none⟩ = some (.int .u64 al) ∧ w'.cell? ⟨w.heap.size + 1, 0, none⟩ = some (.int .i64 dh) ∧ w'.cell? ⟨w.heap.size + 1, 1, none⟩ = some (.int .u64 dl))
      (exact KS.out _ (by first | (go_grown; done) | fail))
      (first
        | (go_at_call 27; refine (bdiv_any ((Q5.out.later (bthen (by go_grown) (by go_size) hb2)).later (by go_grown)) (Q6.out.later (by go_grown)) h0 (by decide) (by decide)).mono ?_; rw [← hx.out, ← hy.out]; rintro e w3 ⟨a7, l7, c7, a8, l8, c8, rfl, o7, o8, hb3⟩; have X3 := bthen (B := v4.heap.size) (w := v4) (by go_grown) (by go_size) hb3; have X3s := X3.size; have Y3 := bthen (B := w2.heap.size) (w := w2) (by go_grown) (by go_size) hb3; have Y3s := Y3.size; (try have n1a := (two_later Y3 n1a).1); (try have n1b := (two_later Y3 n1b).1); (try have n2a := (two_later Y3 n2a).1); (try have n2b := (two_later Y3 n2b).1); (try have n3a := (two_later hb3 (b := w2.heap.size) (u := .bool false) (v := .slice none 0 0) ⟨by first | (simp [go_sem]; done) | fail, by first | (simp [go_sem]; done) | fail, by first | (simp [go_sem]; done) | fail, by first | (simp [go_sem]; done) | fail⟩).1); (try have q3a := Two.lt n3a); (try have n3b := (two_later hb3 (b := w2.heap.size + 1) (u := .bool false) (v := .slice none 0 0) ⟨by first | (simp [go_sem]; done) | fail, by first | (simp [go_sem]; done) | fail, by first | (simp [go_sem]; done) | fail, by first | (simp [go_sem]; done) | fail⟩).1); (try have q3b := Two.lt n3b); (try have p1a := Two.lt n1a); (try obtain ⟨o1a1, o1a2, o1a3, o1a4⟩ := id n1a); (try have p1b := Two.lt n1b); (try obtain ⟨o1b1, o1b2, o1b3, o1b4⟩ := id n1b); (try have p2a := Two.lt n2a); (try obtain ⟨o2a1, o2a2, o2a3, o2a4⟩ := id n2a); (try have p2b := Two.lt n2b); (try obtain ⟨o2b1, o2b2, o2b3, o2b4⟩ := id n2b); (try have p3a := Two.lt n3a); (try obtain ⟨o3a1, o3a2, o3a3, o3a4⟩ := id n3a); (try have p3b := Two.lt n3b); (try obtain ⟨o3b1, o3b2, o3b3, o3b4⟩ := id n3b); have Q7 := hid o7; clear o7; have Q8 := hid o8; clear o8)
        | (go_at_call 12; have dummy := Q5; clear dummy; refine (rof_any hd _).mono ?_; rintro e w2 ⟨a6, l6, c6, rfl, o6, hb2⟩; have X2 := bthen (B := v4.heap.size) (w := v4) (by go_grown) (by go_size) hb2; have X2s := X2.size; have Y2 := bthen (B := w1.heap.size) (w := w1) (by go_grown) (by go_size) hb2; have Y2s := Y2.size; (try have n1a := (two_later Y2 n1a).1); (try have n1b := (two_later Y2 n1b).1); (try have n2a := (two_later hb2 (b := w1.heap.size) (u := .bool false) (v := .slice none 0 0) ⟨by first | (simp [go_sem]; done) | fail, by first | (simp [go_sem]; done) | fail, by first | (simp [go_sem]; done) | fail, by first | (simp [go_sem]; done) | fail⟩).1); (try have q2a := Two.lt n2a); (try have n2b := (two_later hb2 (b := w1.heap.size + 1) (u := .bool false) (v := .slice none 0 0) ⟨by first | (simp [go_sem]; done) | fail, by first | (simp [go_sem]; done) | fail, by first | (simp [go_sem]; done) | fail, by first | (simp [go_sem]; done) | fail⟩).1); (try have q2b := Two.lt n2b); have Q6 := hid o6; clear o6)
        | (go_at_call 12; refine (rof_any ha _).mono ?_; rintro e w1 ⟨a5, l5, c5, rfl, o5, hb1⟩; have X1 := bthen (B := v4.heap.size) (w := v4) (by go_grown) (by go_size) hb1; have X1s := X1.size; have Y1 := bthen (B := v4.heap.size) (w := v4) (by go_grown) (by go_size) hb1; have Y1s := Y1.size; (try have n1a := (two_later hb1 (b := v4.heap.size) (u := .bool false) (v := .slice none 0 0) ⟨by first | (simp [go_sem]; done) | fail, by first | (simp [go_sem]; done) | fail, by first | (simp [go_sem]; done) | fail, by first | (simp [go_sem]; done) | fail⟩).1); (try have q1a := Two.lt n1a); (try have n1b := (two_later hb1 (b := v4.heap.size + 1) (u := .bool false) (v := .slice none 0 0) ⟨by first | (simp [go_sem]; done) | fail, by first | (simp [go_sem]; done) | fail, by first | (simp [go_sem]; done) | fail, by first | (simp [go_sem]; done) | fail⟩).1); (try have q1b := Two.lt n1b); have Q5 := hid o5; clear o5))
    all_goals
      go_wp2_with fail
      go_meet
      refine ⟨_, _, l7, c7, l8, c8, a7, a8, rfl, rfl, ?_⟩
      refine Fin2.meets (w := w3) ?_ Q7 Q8 ?_ ?_ ?_ ?_
      · first | (with_reducible exact fin_aa) | (with_reducible exact fin_aa') | (with_reducible exact fin_ab (by assumption)) | (with_reducible exact fin_ba (by assumption)) | (with_reducible exact fin_bb (by assumption) (by assumption) (by omega))
      · go_grown
      · omega
      · omega
      · omega
  case rest =>
    obtain ⟨b8, b9, lx, cx, ly, cy, ax, ay, rfl, rfl, ⟨t1, t2, -, -⟩, ⟨t3, t4, -, -⟩, -, -, -, bx, by', hbc⟩ := hcut
    have BX := hid bx
    have BY := hid by'
    clear bx by'
    have S0 : Below w.heap.size w wc ∧ wc.cell? ⟨v1.heap.size, 0, none⟩ = some (.int .i64 qh) ∧ wc.cell? ⟨v1.heap.size, 1, none⟩ = some (.int .u64 ql) ∧ wc.cell? ⟨v1.heap.size + 1, 0, none⟩ = some (.int .i64 rh) ∧ wc.cell? ⟨v1.heap.size + 1, 1, none⟩ = some (.int .u64 rl) ∧ wc.cell? ⟨b8, 0, none⟩ = some (.bool (sg x)) ∧ wc.cell? ⟨b8, 1, none⟩ = some (.slice ax lx cx) ∧ wc.cell? ⟨b9, 0, none⟩ = some (.bool (sg y)) ∧ wc.cell? ⟨b9, 1, none⟩ = some (.slice ay ly cy) := ⟨bthen x_v4 x_v4.size hbc, cell_later hbc Tqq_v4.out.1, cell_later hbc Tqq_v4.out.2.1, cell_later hbc Trr_v4.out.1, cell_later hbc Trr_v4.out.2.1, t1, t2, t3, t4⟩
    clear KS t1 t2 t3 t4 hbc
    have KS : Hid (∀ W1 W2 : World, Below W1.heap.size W1 W2 → (Below w.heap.size w W1 ∧ W1.cell? ⟨v1.heap.size, 0, none⟩ = some (.int .i64 qh) ∧ W1.cell? ⟨v1.heap.size, 1, none⟩ = some (.int .u64 ql) ∧ W1.cell? ⟨v1.heap.size + 1, 0, none⟩ = some (.int .i64 rh) ∧ W1.cell? ⟨v1.heap.size + 1, 1, none⟩ = some (.int .u64 rl) ∧ W1.cell? ⟨b8, 0, none⟩ = some (.bool (sg x)) ∧ W1.cell? ⟨b8, 1, none⟩ = some (.slice ax lx cx) ∧ W1.cell? ⟨b9, 0, none⟩ = some (.bool (sg y)) ∧ W1.cell? ⟨b9, 1, none⟩ = some (.slice ay ly cy)) → (Below w.heap.size w W2 ∧ W2.cell? ⟨v1.heap.size, 0, none⟩ = some (.int .i64 qh) ∧ W2.cell? ⟨v1.heap.size, 1, none⟩ = some (.int .u64 ql) ∧ W2.cell? ⟨v1.heap.size + 1, 0, none⟩ = some (.int .i64 rh) ∧ W2.cell? ⟨v1.heap.size + 1, 1, none⟩ = some (.int .u64 rl) ∧ W2.cell? ⟨b8, 0, none⟩ = some (.bool (sg x)) ∧ W2.cell? ⟨b8, 1, none⟩ = some (.slice ax lx cx) ∧ W2.cell? ⟨b9, 0, none⟩ = some (.bool (sg y)) ∧ W2.cell? ⟨b9, 1, none⟩ = some (.slice ay ly cy))) := fun W1 W2 hb ⟨h0, h1, h2, h3, h4, h5, h6, h7, h8⟩ => ⟨bthen h0 h0.size hb, cell_later hb h1, cell_later hb h2, cell_later hb h3, cell_later hb h4, cell_later hb h5, cell_later hb h6, cell_later hb h7, cell_later hb h8⟩
    go_upto_region 5 with fail
    go_region_held3 (fun w' => Below w.heap.size w w' ∧ w'.cell? ⟨v1.heap.size, 0, none⟩ = some (.int .i64 qh) ∧ w'.cell? ⟨v1.heap.size, 1, none⟩ = some (.int .u64 ql) ∧ w'.cell? ⟨v1.heap.size + 1, 0, none⟩ = some (.int .i64 rh) ∧ w'.cell? ⟨v1.heap.size + 1, 1, none⟩ = some (.int .u64 rl) ∧ w'.cell? ⟨b8, 0, none⟩ = some (.bool (sg x)) ∧ w'.cell? ⟨b8, 1, none⟩ = some (.slice ax lx cx) ∧ w'.cell? ⟨b9, 0, none⟩ = some (.bool (sg y)) ∧ w'.cell? ⟨b9, 1, none⟩ = some (.slice ay ly cy))
      (first | exact KS.out _ _ hb5 (by assumption) | exact KS.out _ _ hb4 (by assumption) | exact KS.out _ _ hb3 (by assumption) | exact KS.out _ _ hb2 (by assumption) | exact KS.out _ _ hb1 (by assumption) | exact KS.out _ _ (Below.drew (Below.refl _ _)) (by assumption))
      (first
        | (go_at_call 11; have dummy := YY4; clear dummy; refine (same_any Q4.out (BY.out.later YY4) (by decide) (by decide)).mono ?_; rintro e w5 ⟨rfl, hb5⟩; have YY5 := bthen YY4 YY4.size hb5; have SF := KS.out _ _ hb5 (by assumption))
        | (go_at_call 12; have dummy := YY3; clear dummy; refine (rof_any IR.out _).mono ?_; rintro e w4 ⟨a4, l4, c4, rfl, q4, hb4⟩; have YY4 := bthen YY3 YY3.size hb4; have Q4 := hid q4; clear q4)
        | (go_at_call 11; have dummy := YY2; clear dummy; refine (same_any Q2.out (BX.out.later YY2) (by decide) (by decide)).mono ?_; rintro e w3 ⟨rfl, hb3⟩; have YY3 := bthen YY2 YY2.size hb3)
        | (go_at_call 12; have dummy := YY1; clear dummy; refine (rof_any IQ.out _).mono ?_; rintro e w2 ⟨a2, l2, c2, rfl, q2, hb2⟩; have YY2 := bthen YY1 YY1.size hb2; have Q2 := hid q2; clear q2)
        | (go_at_call 14; refine (answers_any _).mono ?_; rintro e w1 ⟨rfl, hb1⟩; have YY1 := bthen (B := wc.heap.size) (w := wc) (by go_grown) (by go_size) hb1))
    go_wp2
    go_ret
    exact ⟨rfl, SF.1⟩
theorem law_divs {ah al dh dl a d : Int} (ha : WideIs ah al a) (hd : WideIs dh dl d) (w : World) :
    Calls Try.prog 6 #[.agg #[.int .i64 ah, .int .u64 al], .agg #[.int .i64 dh, .int .u64 dl]] w fun e w' => e = .returned (.bool true) ∧ Below w.heap.size w w' := by
  by_cases h : d ≤ 0
  · exact law_divs_no ha hd h w
  · exact law_divs_yes ha hd (by omega) w
end Go.Proofs.Ytbnijcmffdahgaa
