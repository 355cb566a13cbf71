/-
  The walk of the law WideBack: what was added is taken away again; what was divided is made again. No conditions.
-/
import Derived.Test.YtbnijcmffdahgaaWideG
import Derived.Deep.DeepCutAuto
namespace Go.Proofs.Ytbnijcmffdahgaa
open Go.RowKit

attribute [local go_sem ↓] Go.wp_at_zero Go.wp_at_succ
theorem back_neg {a d : Int} (a0 : -170141183460469231731687303715884105728 ≤ a) (a1 : a < 170141183460469231731687303715884105728) (h0 : 0 < d) (h : inW (a / d * d) = false) : a < 0 := by
  unfold inW at h; rw [decide_eq_false_iff_not] at h
  have h1 := Int.emod_add_mul_ediv a d
  have h2 := Int.emod_nonneg a (by omega : d ≠ 0)
  have h3 := Int.mul_comm d (a / d)
  by_cases g : 0 ≤ a
  · have h4 := Int.mul_nonneg (Int.ediv_nonneg g (by omega : 0 ≤ d)) (by omega : 0 ≤ d)
    omega
  · omega
set_option maxRecDepth 100000 in
set_option maxHeartbeats 8000000 in
theorem law_back {ah al bh bl dh dl a b d : Int} (ha : WideIs ah al a) (hb : WideIs bh bl b) (hd : WideIs dh dl d) (w : World) :
    Calls Try.prog 8 #[.agg #[.int .i64 ah, .int .u64 al], .agg #[.int .i64 bh, .int .u64 bl], .agg #[.int .i64 dh, .int .u64 dl]] w fun e w' => e = .returned (.bool true) ∧ Below w.heap.size w w' := by
  have qe := run_eql_wide
  have qn := run_neq_wide
  go_enter Try.func8, Try.ntmps8
  go_wp2_with fail
  refine (wadd_any ha hb _).mono ?_
  rintro e v1 ⟨sh, sl, is, rfl, g_v1⟩
  have TA_v1 := hid (two_later g_v1 (b := w.heap.size) (u := .int .i64 ah) (v := .int .u64 al) ⟨by simp [go_sem], by simp [go_sem], by simp [go_sem], by simp [go_sem]⟩).1
  have TB_v1 := hid (two_later g_v1 (b := w.heap.size + 1) (u := .int .i64 bh) (v := .int .u64 bl) ⟨by simp [go_sem], by simp [go_sem], by simp [go_sem], by simp [go_sem]⟩).1
  have TD_v1 := hid (two_later g_v1 (b := w.heap.size + 1 + 1) (u := .int .i64 dh) (v := .int .u64 dl) ⟨by simp [go_sem], by simp [go_sem], by simp [go_sem], by simp [go_sem]⟩).1
  have x_v1 := bthen (B := w.heap.size) (w := w) (by go_grown) (by go_size) g_v1
  have z_v1 := x_v1.size
  have IS := hid is
  clear g_v1 is
  obtain ⟨A1, A2, A3, A4⟩ := TA_v1.out
  have A5 := Two.lt TA_v1.out
  obtain ⟨B1, B2, B3, B4⟩ := TB_v1.out
  have B5 := Two.lt TB_v1.out
  obtain ⟨D1, D2, D3, D4⟩ := TD_v1.out
  have D5 := Two.lt TD_v1.out
  cases f1 : inW (a + b)
  · have fe1 : fitE (a + b) = 2 := by unfold fitE; rw [if_neg (by rw [f1]; decide)]
    clear f1
    by_cases hd0 : d ≤ 0
    · have hc : cmpI d 0 ≤ 0 := by unfold cmpI; split <;> (try split) <;> omega
      have hc2 : -1 ≤ cmpI d 0 := by unfold cmpI; split <;> (try split) <;> omega
      go_wp2_with fail
      refine (wdiv_zero hd hd0 _).mono ?_
      rintro e u1 ⟨rfl, g_u1⟩
      have g_u1' := bthen (B := v1.heap.size) (w := v1) (by go_grown) (by go_size) g_u1
      have TA_u1 := hid (two_later g_u1' TA_v1.out).1
      have TB_u1 := hid (two_later g_u1' TB_v1.out).1
      have TD_u1 := hid (two_later g_u1' TD_v1.out).1
      have TS_u1 := hid (two_later g_u1 (b := v1.heap.size) (u := .int .i64 sh) (v := .int .u64 sl) ⟨by simp [go_sem], by simp [go_sem], by simp [go_sem], by simp [go_sem]⟩).1
      have x_u1 := bthen x_v1 x_v1.size g_u1'
      have z_u1 := x_u1.size
      clear g_u1 g_u1' A1 A2 A3 A4 A5 B1 B2 B3 B4 B5 D1 D2 D3 D4 D5
      obtain ⟨A1, A2, A3, A4⟩ := TA_u1.out
      have A5 := Two.lt TA_u1.out
      obtain ⟨B1, B2, B3, B4⟩ := TB_u1.out
      have B5 := Two.lt TB_u1.out
      obtain ⟨D1, D2, D3, D4⟩ := TD_u1.out
      have D5 := Two.lt TD_u1.out
      obtain ⟨S1, S2, S3, S4⟩ := TS_u1.out
      have S5 := Two.lt TS_u1.out
      go_wp2_with fail
      refine (answers_any _).mono ?_
      rintro e u2 ⟨rfl, g_u2⟩
      have g_u2' := bthen (B := u1.heap.size) (w := u1) (by go_grown) (by go_size) g_u2
      have TA_u2 := hid (two_later g_u2' TA_u1.out).1
      have TB_u2 := hid (two_later g_u2' TB_u1.out).1
      have TD_u2 := hid (two_later g_u2' TD_u1.out).1
      have TS_u2 := hid (two_later g_u2' TS_u1.out).1
      have x_u2 := bthen x_u1 x_u1.size g_u2'
      have z_u2 := x_u2.size
      clear g_u2 g_u2' A1 A2 A3 A4 A5 B1 B2 B3 B4 B5 D1 D2 D3 D4 D5 S1 S2 S3 S4 S5
      obtain ⟨A1, A2, A3, A4⟩ := TA_u2.out
      have A5 := Two.lt TA_u2.out
      obtain ⟨B1, B2, B3, B4⟩ := TB_u2.out
      have B5 := Two.lt TB_u2.out
      obtain ⟨D1, D2, D3, D4⟩ := TD_u2.out
      have D5 := Two.lt TD_u2.out
      obtain ⟨S1, S2, S3, S4⟩ := TS_u2.out
      have S5 := Two.lt TS_u2.out
      go_wp2_with fail
      refine (wcmp_any hd wide_0 _).mono ?_
      rintro e u3 ⟨rfl, g_u3⟩
      have g_u3' := bthen (B := u2.heap.size) (w := u2) (by go_grown) (by go_size) g_u3
      have TA_u3 := hid (two_later g_u3' TA_u2.out).1
      have TB_u3 := hid (two_later g_u3' TB_u2.out).1
      have TD_u3 := hid (two_later g_u3' TD_u2.out).1
      have TS_u3 := hid (two_later g_u3' TS_u2.out).1
      have x_u3 := bthen x_u2 x_u2.size g_u3'
      have z_u3 := x_u3.size
      clear g_u3 g_u3' A1 A2 A3 A4 A5 B1 B2 B3 B4 B5 D1 D2 D3 D4 D5 S1 S2 S3 S4 S5
      obtain ⟨A1, A2, A3, A4⟩ := TA_u3.out
      have A5 := Two.lt TA_u3.out
      obtain ⟨B1, B2, B3, B4⟩ := TB_u3.out
      have B5 := Two.lt TB_u3.out
      obtain ⟨D1, D2, D3, D4⟩ := TD_u3.out
      have D5 := Two.lt TD_u3.out
      obtain ⟨S1, S2, S3, S4⟩ := TS_u3.out
      have S5 := Two.lt TS_u3.out
      go_wp2_with fail
      go_ret
      exact ⟨rfl, x_u3⟩
    · have hd1 : 0 < d := by omega
      go_wp2_with fail
      refine (wdiv_any ha hd hd1 _).mono ?_
      rintro e u1 ⟨qh, ql, rh, rl, iq, ir, rfl, g_u1⟩
      have g_u1' := bthen (B := v1.heap.size) (w := v1) (by go_grown) (by go_size) g_u1
      have TA_u1 := hid (two_later g_u1' TA_v1.out).1
      have TB_u1 := hid (two_later g_u1' TB_v1.out).1
      have TD_u1 := hid (two_later g_u1' TD_v1.out).1
      have TS_u1 := hid (two_later g_u1 (b := v1.heap.size) (u := .int .i64 sh) (v := .int .u64 sl) ⟨by simp [go_sem], by simp [go_sem], by simp [go_sem], by simp [go_sem]⟩).1
      have x_u1 := bthen x_v1 x_v1.size g_u1'
      have z_u1 := x_u1.size
      have IQ := hid iq
      have IR := hid ir
      clear g_u1 g_u1' iq ir A1 A2 A3 A4 A5 B1 B2 B3 B4 B5 D1 D2 D3 D4 D5
      obtain ⟨A1, A2, A3, A4⟩ := TA_u1.out
      have A5 := Two.lt TA_u1.out
      obtain ⟨B1, B2, B3, B4⟩ := TB_u1.out
      have B5 := Two.lt TB_u1.out
      obtain ⟨D1, D2, D3, D4⟩ := TD_u1.out
      have D5 := Two.lt TD_u1.out
      obtain ⟨S1, S2, S3, S4⟩ := TS_u1.out
      have S5 := Two.lt TS_u1.out
      go_wp2_with fail
      refine (wmul_any IQ.out hd _).mono ?_
      rintro e u2 ⟨ph, pl, ip, rfl, g_u2⟩
      have g_u2' := bthen (B := u1.heap.size) (w := u1) (by go_grown) (by go_size) g_u2
      have TA_u2 := hid (two_later g_u2' TA_u1.out).1
      have TB_u2 := hid (two_later g_u2' TB_u1.out).1
      have TD_u2 := hid (two_later g_u2' TD_u1.out).1
      have TS_u2 := hid (two_later g_u2' TS_u1.out).1
      have TQ_u2 := hid (two_later g_u2 (b := u1.heap.size) (u := .int .i64 qh) (v := .int .u64 ql) ⟨by simp [go_sem], by simp [go_sem], by simp [go_sem], by simp [go_sem]⟩).1
      have TR_u2 := hid (two_later g_u2 (b := u1.heap.size + 1) (u := .int .i64 rh) (v := .int .u64 rl) ⟨by simp [go_sem], by simp [go_sem], by simp [go_sem], by simp [go_sem]⟩).1
      have x_u2 := bthen x_u1 x_u1.size g_u2'
      have z_u2 := x_u2.size
      have IP := hid ip
      clear g_u2 g_u2' ip A1 A2 A3 A4 A5 B1 B2 B3 B4 B5 D1 D2 D3 D4 D5 S1 S2 S3 S4 S5
      obtain ⟨A1, A2, A3, A4⟩ := TA_u2.out
      have A5 := Two.lt TA_u2.out
      obtain ⟨B1, B2, B3, B4⟩ := TB_u2.out
      have B5 := Two.lt TB_u2.out
      obtain ⟨D1, D2, D3, D4⟩ := TD_u2.out
      have D5 := Two.lt TD_u2.out
      obtain ⟨S1, S2, S3, S4⟩ := TS_u2.out
      have S5 := Two.lt TS_u2.out
      obtain ⟨Q1, Q2, Q3, Q4⟩ := TQ_u2.out
      have Q5 := Two.lt TQ_u2.out
      obtain ⟨R1, R2, R3, R4⟩ := TR_u2.out
      have R5 := Two.lt TR_u2.out
      cases fi : inW (a / d * d)
      · have fe : fitE (a / d * d) = 2 := by unfold fitE; rw [if_neg (by rw [fi]; decide)]
        have hneg : a < 0 := back_neg ha.range.1 ha.range.2 hd1 fi
        have hc : cmpI a 0 = -1 := cmpI_lt hneg
        clear fi hneg
        go_wp2_with fail
        refine (answers_any _).mono ?_
        rintro e u3 ⟨rfl, g_u3⟩
        have g_u3' := bthen (B := u2.heap.size) (w := u2) (by go_grown) (by go_size) g_u3
        have TA_u3 := hid (two_later g_u3' TA_u2.out).1
        have TB_u3 := hid (two_later g_u3' TB_u2.out).1
        have TD_u3 := hid (two_later g_u3' TD_u2.out).1
        have TS_u3 := hid (two_later g_u3' TS_u2.out).1
        have TQ_u3 := hid (two_later g_u3' TQ_u2.out).1
        have TR_u3 := hid (two_later g_u3' TR_u2.out).1
        have x_u3 := bthen x_u2 x_u2.size g_u3'
        have z_u3 := x_u3.size
        clear g_u3 g_u3' A1 A2 A3 A4 A5 B1 B2 B3 B4 B5 D1 D2 D3 D4 D5 S1 S2 S3 S4 S5 Q1 Q2 Q3 Q4 Q5 R1 R2 R3 R4 R5
        obtain ⟨A1, A2, A3, A4⟩ := TA_u3.out
        have A5 := Two.lt TA_u3.out
        obtain ⟨B1, B2, B3, B4⟩ := TB_u3.out
        have B5 := Two.lt TB_u3.out
        obtain ⟨D1, D2, D3, D4⟩ := TD_u3.out
        have D5 := Two.lt TD_u3.out
        obtain ⟨S1, S2, S3, S4⟩ := TS_u3.out
        have S5 := Two.lt TS_u3.out
        obtain ⟨Q1, Q2, Q3, Q4⟩ := TQ_u3.out
        have Q5 := Two.lt TQ_u3.out
        obtain ⟨R1, R2, R3, R4⟩ := TR_u3.out
        have R5 := Two.lt TR_u3.out
        go_wp2_with fail
        refine (wcmp_any ha wide_0 _).mono ?_
        rintro e u4 ⟨rfl, g_u4⟩
        have g_u4' := bthen (B := u3.heap.size) (w := u3) (by go_grown) (by go_size) g_u4
        have TA_u4 := hid (two_later g_u4' TA_u3.out).1
        have TB_u4 := hid (two_later g_u4' TB_u3.out).1
        have TD_u4 := hid (two_later g_u4' TD_u3.out).1
        have TS_u4 := hid (two_later g_u4' TS_u3.out).1
        have TQ_u4 := hid (two_later g_u4' TQ_u3.out).1
        have TR_u4 := hid (two_later g_u4' TR_u3.out).1
        have x_u4 := bthen x_u3 x_u3.size g_u4'
        have z_u4 := x_u4.size
        clear g_u4 g_u4' A1 A2 A3 A4 A5 B1 B2 B3 B4 B5 D1 D2 D3 D4 D5 S1 S2 S3 S4 S5 Q1 Q2 Q3 Q4 Q5 R1 R2 R3 R4 R5
        obtain ⟨A1, A2, A3, A4⟩ := TA_u4.out
        have A5 := Two.lt TA_u4.out
        obtain ⟨B1, B2, B3, B4⟩ := TB_u4.out
        have B5 := Two.lt TB_u4.out
        obtain ⟨D1, D2, D3, D4⟩ := TD_u4.out
        have D5 := Two.lt TD_u4.out
        obtain ⟨S1, S2, S3, S4⟩ := TS_u4.out
        have S5 := Two.lt TS_u4.out
        obtain ⟨Q1, Q2, Q3, Q4⟩ := TQ_u4.out
        have Q5 := Two.lt TQ_u4.out
        obtain ⟨R1, R2, R3, R4⟩ := TR_u4.out
        have R5 := Two.lt TR_u4.out
        go_wp2_with fail
        go_ret
        exact ⟨rfl, x_u4⟩
      · have fe : fitE (a / d * d) = 0 := by unfold fitE; rw [if_pos fi]
        have IP' : Hid (WideIs ph pl (a / d * d)) := IP.out.eq (by unfold fitV; rw [if_pos fi])
        obtain ⟨r0, r1⟩ : 0 ≤ a % d ∧ a % d < d := ⟨Int.emod_nonneg _ (by omega), Int.emod_lt_of_pos _ hd1⟩
        have hc : cmpI (a % d) d = -1 := cmpI_lt r1
        have hrh : 0 ≤ rh := by have h1 := IR.out.sign; omega
        have EA : Hid (a / d * d + a % d = a) := by rw [Hid, Int.mul_comm]; have h1 := Int.emod_add_mul_ediv a d; omega
        have FA := hid (inW_yes ha.range.1 ha.range.2)
        have fa : fitE a = 0 := FA.out.2.2
        clear fi IP r0 r1
        go_wp2_with fail
        refine (wadd_any IP'.out IR.out _).mono ?_
        rw [EA.out]
        rintro e u3 ⟨th, tl, it, rfl, g_u3⟩
        have g_u3' := bthen (B := u2.heap.size) (w := u2) (by go_grown) (by go_size) g_u3
        have TA_u3 := hid (two_later g_u3' TA_u2.out).1
        have TB_u3 := hid (two_later g_u3' TB_u2.out).1
        have TD_u3 := hid (two_later g_u3' TD_u2.out).1
        have TS_u3 := hid (two_later g_u3' TS_u2.out).1
        have TQ_u3 := hid (two_later g_u3' TQ_u2.out).1
        have TR_u3 := hid (two_later g_u3' TR_u2.out).1
        have TP_u3 := hid (two_later g_u3 (b := u2.heap.size) (u := .int .i64 ph) (v := .int .u64 pl) ⟨by simp [go_sem], by simp [go_sem], by simp [go_sem], by simp [go_sem]⟩).1
        have x_u3 := bthen x_u2 x_u2.size g_u3'
        have z_u3 := x_u3.size
        have IT := hid it
        clear g_u3 g_u3' it A1 A2 A3 A4 A5 B1 B2 B3 B4 B5 D1 D2 D3 D4 D5 S1 S2 S3 S4 S5 Q1 Q2 Q3 Q4 Q5 R1 R2 R3 R4 R5
        obtain ⟨A1, A2, A3, A4⟩ := TA_u3.out
        have A5 := Two.lt TA_u3.out
        obtain ⟨B1, B2, B3, B4⟩ := TB_u3.out
        have B5 := Two.lt TB_u3.out
        obtain ⟨D1, D2, D3, D4⟩ := TD_u3.out
        have D5 := Two.lt TD_u3.out
        obtain ⟨S1, S2, S3, S4⟩ := TS_u3.out
        have S5 := Two.lt TS_u3.out
        obtain ⟨Q1, Q2, Q3, Q4⟩ := TQ_u3.out
        have Q5 := Two.lt TQ_u3.out
        obtain ⟨R1, R2, R3, R4⟩ := TR_u3.out
        have R5 := Two.lt TR_u3.out
        obtain ⟨P1, P2, P3, P4⟩ := TP_u3.out
        have P5 := Two.lt TP_u3.out
        have eqt := eqW_same (IT.out.eq FA.out.2.1) ha
        go_wp2_with fail
        refine (answers_any _).mono ?_
        rintro e u4 ⟨rfl, g_u4⟩
        have g_u4' := bthen (B := u3.heap.size) (w := u3) (by go_grown) (by go_size) g_u4
        have TA_u4 := hid (two_later g_u4' TA_u3.out).1
        have TB_u4 := hid (two_later g_u4' TB_u3.out).1
        have TD_u4 := hid (two_later g_u4' TD_u3.out).1
        have TS_u4 := hid (two_later g_u4' TS_u3.out).1
        have TQ_u4 := hid (two_later g_u4' TQ_u3.out).1
        have TR_u4 := hid (two_later g_u4' TR_u3.out).1
        have TP_u4 := hid (two_later g_u4' TP_u3.out).1
        have TE_u4 := hid (two_later g_u4 (b := u3.heap.size) (u := .int .i64 th) (v := .int .u64 tl) ⟨by simp [go_sem], by simp [go_sem], by simp [go_sem], by simp [go_sem]⟩).1
        have x_u4 := bthen x_u3 x_u3.size g_u4'
        have z_u4 := x_u4.size
        clear g_u4 g_u4' A1 A2 A3 A4 A5 B1 B2 B3 B4 B5 D1 D2 D3 D4 D5 S1 S2 S3 S4 S5 Q1 Q2 Q3 Q4 Q5 R1 R2 R3 R4 R5 P1 P2 P3 P4 P5
        obtain ⟨A1, A2, A3, A4⟩ := TA_u4.out
        have A5 := Two.lt TA_u4.out
        obtain ⟨B1, B2, B3, B4⟩ := TB_u4.out
        have B5 := Two.lt TB_u4.out
        obtain ⟨D1, D2, D3, D4⟩ := TD_u4.out
        have D5 := Two.lt TD_u4.out
        obtain ⟨S1, S2, S3, S4⟩ := TS_u4.out
        have S5 := Two.lt TS_u4.out
        obtain ⟨Q1, Q2, Q3, Q4⟩ := TQ_u4.out
        have Q5 := Two.lt TQ_u4.out
        obtain ⟨R1, R2, R3, R4⟩ := TR_u4.out
        have R5 := Two.lt TR_u4.out
        obtain ⟨P1, P2, P3, P4⟩ := TP_u4.out
        have P5 := Two.lt TP_u4.out
        obtain ⟨E1, E2, E3, E4⟩ := TE_u4.out
        have E5 := Two.lt TE_u4.out
        go_wp2_with fail
        refine (wcmp_any IR.out hd _).mono ?_
        rintro e u5 ⟨rfl, g_u5⟩
        have g_u5' := bthen (B := u4.heap.size) (w := u4) (by go_grown) (by go_size) g_u5
        have TA_u5 := hid (two_later g_u5' TA_u4.out).1
        have TB_u5 := hid (two_later g_u5' TB_u4.out).1
        have TD_u5 := hid (two_later g_u5' TD_u4.out).1
        have TS_u5 := hid (two_later g_u5' TS_u4.out).1
        have TQ_u5 := hid (two_later g_u5' TQ_u4.out).1
        have TR_u5 := hid (two_later g_u5' TR_u4.out).1
        have TP_u5 := hid (two_later g_u5' TP_u4.out).1
        have TE_u5 := hid (two_later g_u5' TE_u4.out).1
        have x_u5 := bthen x_u4 x_u4.size g_u5'
        have z_u5 := x_u5.size
        clear g_u5 g_u5' A1 A2 A3 A4 A5 B1 B2 B3 B4 B5 D1 D2 D3 D4 D5 S1 S2 S3 S4 S5 Q1 Q2 Q3 Q4 Q5 R1 R2 R3 R4 R5 P1 P2 P3 P4 P5 E1 E2 E3 E4 E5
        obtain ⟨A1, A2, A3, A4⟩ := TA_u5.out
        have A5 := Two.lt TA_u5.out
        obtain ⟨B1, B2, B3, B4⟩ := TB_u5.out
        have B5 := Two.lt TB_u5.out
        obtain ⟨D1, D2, D3, D4⟩ := TD_u5.out
        have D5 := Two.lt TD_u5.out
        obtain ⟨S1, S2, S3, S4⟩ := TS_u5.out
        have S5 := Two.lt TS_u5.out
        obtain ⟨Q1, Q2, Q3, Q4⟩ := TQ_u5.out
        have Q5 := Two.lt TQ_u5.out
        obtain ⟨R1, R2, R3, R4⟩ := TR_u5.out
        have R5 := Two.lt TR_u5.out
        obtain ⟨P1, P2, P3, P4⟩ := TP_u5.out
        have P5 := Two.lt TP_u5.out
        obtain ⟨E1, E2, E3, E4⟩ := TE_u5.out
        have E5 := Two.lt TE_u5.out
        go_wp2_with fail
        go_ret
        exact ⟨rfl, x_u5⟩
  · have fe1 : fitE (a + b) = 0 := by unfold fitE; rw [if_pos f1]
    have IS' : Hid (WideIs sh sl (a + b)) := IS.out.eq (by unfold fitV; rw [if_pos f1])
    have FA := hid (inW_yes ha.range.1 ha.range.2)
    have fa : fitE a = 0 := FA.out.2.2
    have EB : Hid (a + b - b = a) := by rw [Hid]; omega
    clear f1 IS
    go_wp2_with fail
    refine (wsub_any IS'.out hb _).mono ?_
    rw [EB.out]
    rintro e v2 ⟨yh, yl, iy, rfl, g_v2⟩
    have g_v2' := bthen (B := v1.heap.size) (w := v1) (by go_grown) (by go_size) g_v2
    have TA_v2 := hid (two_later g_v2' TA_v1.out).1
    have TB_v2 := hid (two_later g_v2' TB_v1.out).1
    have TD_v2 := hid (two_later g_v2' TD_v1.out).1
    have TS_v2 := hid (two_later g_v2 (b := v1.heap.size) (u := .int .i64 sh) (v := .int .u64 sl) ⟨by simp [go_sem], by simp [go_sem], by simp [go_sem], by simp [go_sem]⟩).1
    have x_v2 := bthen x_v1 x_v1.size g_v2'
    have z_v2 := x_v2.size
    have IY := hid iy
    clear g_v2 g_v2' iy A1 A2 A3 A4 A5 B1 B2 B3 B4 B5 D1 D2 D3 D4 D5
    obtain ⟨A1, A2, A3, A4⟩ := TA_v2.out
    have A5 := Two.lt TA_v2.out
    obtain ⟨B1, B2, B3, B4⟩ := TB_v2.out
    have B5 := Two.lt TB_v2.out
    obtain ⟨D1, D2, D3, D4⟩ := TD_v2.out
    have D5 := Two.lt TD_v2.out
    obtain ⟨S1, S2, S3, S4⟩ := TS_v2.out
    have S5 := Two.lt TS_v2.out
    have eqy := eqW_same (IY.out.eq FA.out.2.1) ha
    clear FA IS' EB
    by_cases hd0 : d ≤ 0
    · have hc : cmpI d 0 ≤ 0 := by unfold cmpI; split <;> (try split) <;> omega
      have hc2 : -1 ≤ cmpI d 0 := by unfold cmpI; split <;> (try split) <;> omega
      go_wp2_with fail
      refine (wdiv_zero hd hd0 _).mono ?_
      rintro e u1 ⟨rfl, g_u1⟩
      have g_u1' := bthen (B := v2.heap.size) (w := v2) (by go_grown) (by go_size) g_u1
      have TA_u1 := hid (two_later g_u1' TA_v2.out).1
      have TB_u1 := hid (two_later g_u1' TB_v2.out).1
      have TD_u1 := hid (two_later g_u1' TD_v2.out).1
      have TS_u1 := hid (two_later g_u1' TS_v2.out).1
      have TY_u1 := hid (two_later g_u1 (b := v2.heap.size) (u := .int .i64 yh) (v := .int .u64 yl) ⟨by simp [go_sem], by simp [go_sem], by simp [go_sem], by simp [go_sem]⟩).1
      have x_u1 := bthen x_v2 x_v2.size g_u1'
      have z_u1 := x_u1.size
      clear g_u1 g_u1' A1 A2 A3 A4 A5 B1 B2 B3 B4 B5 D1 D2 D3 D4 D5 S1 S2 S3 S4 S5
      obtain ⟨A1, A2, A3, A4⟩ := TA_u1.out
      have A5 := Two.lt TA_u1.out
      obtain ⟨B1, B2, B3, B4⟩ := TB_u1.out
      have B5 := Two.lt TB_u1.out
      obtain ⟨D1, D2, D3, D4⟩ := TD_u1.out
      have D5 := Two.lt TD_u1.out
      obtain ⟨S1, S2, S3, S4⟩ := TS_u1.out
      have S5 := Two.lt TS_u1.out
      obtain ⟨Y1, Y2, Y3, Y4⟩ := TY_u1.out
      have Y5 := Two.lt TY_u1.out
      go_wp2_with fail
      refine (answers_any _).mono ?_
      rintro e u2 ⟨rfl, g_u2⟩
      have g_u2' := bthen (B := u1.heap.size) (w := u1) (by go_grown) (by go_size) g_u2
      have TA_u2 := hid (two_later g_u2' TA_u1.out).1
      have TB_u2 := hid (two_later g_u2' TB_u1.out).1
      have TD_u2 := hid (two_later g_u2' TD_u1.out).1
      have TS_u2 := hid (two_later g_u2' TS_u1.out).1
      have TY_u2 := hid (two_later g_u2' TY_u1.out).1
      have x_u2 := bthen x_u1 x_u1.size g_u2'
      have z_u2 := x_u2.size
      clear g_u2 g_u2' A1 A2 A3 A4 A5 B1 B2 B3 B4 B5 D1 D2 D3 D4 D5 S1 S2 S3 S4 S5 Y1 Y2 Y3 Y4 Y5
      obtain ⟨A1, A2, A3, A4⟩ := TA_u2.out
      have A5 := Two.lt TA_u2.out
      obtain ⟨B1, B2, B3, B4⟩ := TB_u2.out
      have B5 := Two.lt TB_u2.out
      obtain ⟨D1, D2, D3, D4⟩ := TD_u2.out
      have D5 := Two.lt TD_u2.out
      obtain ⟨S1, S2, S3, S4⟩ := TS_u2.out
      have S5 := Two.lt TS_u2.out
      obtain ⟨Y1, Y2, Y3, Y4⟩ := TY_u2.out
      have Y5 := Two.lt TY_u2.out
      go_wp2_with fail
      refine (wcmp_any hd wide_0 _).mono ?_
      rintro e u3 ⟨rfl, g_u3⟩
      have g_u3' := bthen (B := u2.heap.size) (w := u2) (by go_grown) (by go_size) g_u3
      have TA_u3 := hid (two_later g_u3' TA_u2.out).1
      have TB_u3 := hid (two_later g_u3' TB_u2.out).1
      have TD_u3 := hid (two_later g_u3' TD_u2.out).1
      have TS_u3 := hid (two_later g_u3' TS_u2.out).1
      have TY_u3 := hid (two_later g_u3' TY_u2.out).1
      have x_u3 := bthen x_u2 x_u2.size g_u3'
      have z_u3 := x_u3.size
      clear g_u3 g_u3' A1 A2 A3 A4 A5 B1 B2 B3 B4 B5 D1 D2 D3 D4 D5 S1 S2 S3 S4 S5 Y1 Y2 Y3 Y4 Y5
      obtain ⟨A1, A2, A3, A4⟩ := TA_u3.out
      have A5 := Two.lt TA_u3.out
      obtain ⟨B1, B2, B3, B4⟩ := TB_u3.out
      have B5 := Two.lt TB_u3.out
      obtain ⟨D1, D2, D3, D4⟩ := TD_u3.out
      have D5 := Two.lt TD_u3.out
      obtain ⟨S1, S2, S3, S4⟩ := TS_u3.out
      have S5 := Two.lt TS_u3.out
      obtain ⟨Y1, Y2, Y3, Y4⟩ := TY_u3.out
      have Y5 := Two.lt TY_u3.out
      go_wp2_with fail
      go_ret
      exact ⟨rfl, x_u3⟩
    · have hd1 : 0 < d := by omega
      go_wp2_with fail
      refine (wdiv_any ha hd hd1 _).mono ?_
      rintro e u1 ⟨qh, ql, rh, rl, iq, ir, rfl, g_u1⟩
      have g_u1' := bthen (B := v2.heap.size) (w := v2) (by go_grown) (by go_size) g_u1
      have TA_u1 := hid (two_later g_u1' TA_v2.out).1
      have TB_u1 := hid (two_later g_u1' TB_v2.out).1
      have TD_u1 := hid (two_later g_u1' TD_v2.out).1
      have TS_u1 := hid (two_later g_u1' TS_v2.out).1
      have TY_u1 := hid (two_later g_u1 (b := v2.heap.size) (u := .int .i64 yh) (v := .int .u64 yl) ⟨by simp [go_sem], by simp [go_sem], by simp [go_sem], by simp [go_sem]⟩).1
      have x_u1 := bthen x_v2 x_v2.size g_u1'
      have z_u1 := x_u1.size
      have IQ := hid iq
      have IR := hid ir
      clear g_u1 g_u1' iq ir A1 A2 A3 A4 A5 B1 B2 B3 B4 B5 D1 D2 D3 D4 D5 S1 S2 S3 S4 S5
      obtain ⟨A1, A2, A3, A4⟩ := TA_u1.out
      have A5 := Two.lt TA_u1.out
      obtain ⟨B1, B2, B3, B4⟩ := TB_u1.out
      have B5 := Two.lt TB_u1.out
      obtain ⟨D1, D2, D3, D4⟩ := TD_u1.out
      have D5 := Two.lt TD_u1.out
      obtain ⟨S1, S2, S3, S4⟩ := TS_u1.out
      have S5 := Two.lt TS_u1.out
      obtain ⟨Y1, Y2, Y3, Y4⟩ := TY_u1.out
      have Y5 := Two.lt TY_u1.out
      go_wp2_with fail
      refine (wmul_any IQ.out hd _).mono ?_
      rintro e u2 ⟨ph, pl, ip, rfl, g_u2⟩
      have g_u2' := bthen (B := u1.heap.size) (w := u1) (by go_grown) (by go_size) g_u2
      have TA_u2 := hid (two_later g_u2' TA_u1.out).1
      have TB_u2 := hid (two_later g_u2' TB_u1.out).1
      have TD_u2 := hid (two_later g_u2' TD_u1.out).1
      have TS_u2 := hid (two_later g_u2' TS_u1.out).1
      have TY_u2 := hid (two_later g_u2' TY_u1.out).1
      have TQ_u2 := hid (two_later g_u2 (b := u1.heap.size) (u := .int .i64 qh) (v := .int .u64 ql) ⟨by simp [go_sem], by simp [go_sem], by simp [go_sem], by simp [go_sem]⟩).1
      have TR_u2 := hid (two_later g_u2 (b := u1.heap.size + 1) (u := .int .i64 rh) (v := .int .u64 rl) ⟨by simp [go_sem], by simp [go_sem], by simp [go_sem], by simp [go_sem]⟩).1
      have x_u2 := bthen x_u1 x_u1.size g_u2'
      have z_u2 := x_u2.size
      have IP := hid ip
      clear g_u2 g_u2' ip A1 A2 A3 A4 A5 B1 B2 B3 B4 B5 D1 D2 D3 D4 D5 S1 S2 S3 S4 S5 Y1 Y2 Y3 Y4 Y5
      obtain ⟨A1, A2, A3, A4⟩ := TA_u2.out
      have A5 := Two.lt TA_u2.out
      obtain ⟨B1, B2, B3, B4⟩ := TB_u2.out
      have B5 := Two.lt TB_u2.out
      obtain ⟨D1, D2, D3, D4⟩ := TD_u2.out
      have D5 := Two.lt TD_u2.out
      obtain ⟨S1, S2, S3, S4⟩ := TS_u2.out
      have S5 := Two.lt TS_u2.out
      obtain ⟨Y1, Y2, Y3, Y4⟩ := TY_u2.out
      have Y5 := Two.lt TY_u2.out
      obtain ⟨Q1, Q2, Q3, Q4⟩ := TQ_u2.out
      have Q5 := Two.lt TQ_u2.out
      obtain ⟨R1, R2, R3, R4⟩ := TR_u2.out
      have R5 := Two.lt TR_u2.out
      cases fi : inW (a / d * d)
      · have fe : fitE (a / d * d) = 2 := by unfold fitE; rw [if_neg (by rw [fi]; decide)]
        have hneg : a < 0 := back_neg ha.range.1 ha.range.2 hd1 fi
        have hc : cmpI a 0 = -1 := cmpI_lt hneg
        clear fi hneg
        go_wp2_with fail
        refine (answers_any _).mono ?_
        rintro e u3 ⟨rfl, g_u3⟩
        have g_u3' := bthen (B := u2.heap.size) (w := u2) (by go_grown) (by go_size) g_u3
        have TA_u3 := hid (two_later g_u3' TA_u2.out).1
        have TB_u3 := hid (two_later g_u3' TB_u2.out).1
        have TD_u3 := hid (two_later g_u3' TD_u2.out).1
        have TS_u3 := hid (two_later g_u3' TS_u2.out).1
        have TY_u3 := hid (two_later g_u3' TY_u2.out).1
        have TQ_u3 := hid (two_later g_u3' TQ_u2.out).1
        have TR_u3 := hid (two_later g_u3' TR_u2.out).1
        have x_u3 := bthen x_u2 x_u2.size g_u3'
        have z_u3 := x_u3.size
        clear g_u3 g_u3' A1 A2 A3 A4 A5 B1 B2 B3 B4 B5 D1 D2 D3 D4 D5 S1 S2 S3 S4 S5 Y1 Y2 Y3 Y4 Y5 Q1 Q2 Q3 Q4 Q5 R1 R2 R3 R4 R5
        obtain ⟨A1, A2, A3, A4⟩ := TA_u3.out
        have A5 := Two.lt TA_u3.out
        obtain ⟨B1, B2, B3, B4⟩ := TB_u3.out
        have B5 := Two.lt TB_u3.out
        obtain ⟨D1, D2, D3, D4⟩ := TD_u3.out
        have D5 := Two.lt TD_u3.out
        obtain ⟨S1, S2, S3, S4⟩ := TS_u3.out
        have S5 := Two.lt TS_u3.out
        obtain ⟨Y1, Y2, Y3, Y4⟩ := TY_u3.out
        have Y5 := Two.lt TY_u3.out
        obtain ⟨Q1, Q2, Q3, Q4⟩ := TQ_u3.out
        have Q5 := Two.lt TQ_u3.out
        obtain ⟨R1, R2, R3, R4⟩ := TR_u3.out
        have R5 := Two.lt TR_u3.out
        go_wp2_with fail
        refine (wcmp_any ha wide_0 _).mono ?_
        rintro e u4 ⟨rfl, g_u4⟩
        have g_u4' := bthen (B := u3.heap.size) (w := u3) (by go_grown) (by go_size) g_u4
        have TA_u4 := hid (two_later g_u4' TA_u3.out).1
        have TB_u4 := hid (two_later g_u4' TB_u3.out).1
        have TD_u4 := hid (two_later g_u4' TD_u3.out).1
        have TS_u4 := hid (two_later g_u4' TS_u3.out).1
        have TY_u4 := hid (two_later g_u4' TY_u3.out).1
        have TQ_u4 := hid (two_later g_u4' TQ_u3.out).1
        have TR_u4 := hid (two_later g_u4' TR_u3.out).1
        have x_u4 := bthen x_u3 x_u3.size g_u4'
        have z_u4 := x_u4.size
        clear g_u4 g_u4' A1 A2 A3 A4 A5 B1 B2 B3 B4 B5 D1 D2 D3 D4 D5 S1 S2 S3 S4 S5 Y1 Y2 Y3 Y4 Y5 Q1 Q2 Q3 Q4 Q5 R1 R2 R3 R4 R5
        obtain ⟨A1, A2, A3, A4⟩ := TA_u4.out
        have A5 := Two.lt TA_u4.out
        obtain ⟨B1, B2, B3, B4⟩ := TB_u4.out
        have B5 := Two.lt TB_u4.out
        obtain ⟨D1, D2, D3, D4⟩ := TD_u4.out
        have D5 := Two.lt TD_u4.out
        obtain ⟨S1, S2, S3, S4⟩ := TS_u4.out
        have S5 := Two.lt TS_u4.out
        obtain ⟨Y1, Y2, Y3, Y4⟩ := TY_u4.out
        have Y5 := Two.lt TY_u4.out
        obtain ⟨Q1, Q2, Q3, Q4⟩ := TQ_u4.out
        have Q5 := Two.lt TQ_u4.out
        obtain ⟨R1, R2, R3, R4⟩ := TR_u4.out
        have R5 := Two.lt TR_u4.out
        go_wp2_with fail
        go_ret
        exact ⟨rfl, x_u4⟩
      · have fe : fitE (a / d * d) = 0 := by unfold fitE; rw [if_pos fi]
        have IP' : Hid (WideIs ph pl (a / d * d)) := IP.out.eq (by unfold fitV; rw [if_pos fi])
        obtain ⟨r0, r1⟩ : 0 ≤ a % d ∧ a % d < d := ⟨Int.emod_nonneg _ (by omega), Int.emod_lt_of_pos _ hd1⟩
        have hc : cmpI (a % d) d = -1 := cmpI_lt r1
        have hrh : 0 ≤ rh := by have h1 := IR.out.sign; omega
        have EA : Hid (a / d * d + a % d = a) := by rw [Hid, Int.mul_comm]; have h1 := Int.emod_add_mul_ediv a d; omega
        have FA := hid (inW_yes ha.range.1 ha.range.2)
        have fa : fitE a = 0 := FA.out.2.2
        clear fi IP r0 r1
        go_wp2_with fail
        refine (wadd_any IP'.out IR.out _).mono ?_
        rw [EA.out]
        rintro e u3 ⟨th, tl, it, rfl, g_u3⟩
        have g_u3' := bthen (B := u2.heap.size) (w := u2) (by go_grown) (by go_size) g_u3
        have TA_u3 := hid (two_later g_u3' TA_u2.out).1
        have TB_u3 := hid (two_later g_u3' TB_u2.out).1
        have TD_u3 := hid (two_later g_u3' TD_u2.out).1
        have TS_u3 := hid (two_later g_u3' TS_u2.out).1
        have TY_u3 := hid (two_later g_u3' TY_u2.out).1
        have TQ_u3 := hid (two_later g_u3' TQ_u2.out).1
        have TR_u3 := hid (two_later g_u3' TR_u2.out).1
        have TP_u3 := hid (two_later g_u3 (b := u2.heap.size) (u := .int .i64 ph) (v := .int .u64 pl) ⟨by simp [go_sem], by simp [go_sem], by simp [go_sem], by simp [go_sem]⟩).1
        have x_u3 := bthen x_u2 x_u2.size g_u3'
        have z_u3 := x_u3.size
        have IT := hid it
        clear g_u3 g_u3' it A1 A2 A3 A4 A5 B1 B2 B3 B4 B5 D1 D2 D3 D4 D5 S1 S2 S3 S4 S5 Y1 Y2 Y3 Y4 Y5 Q1 Q2 Q3 Q4 Q5 R1 R2 R3 R4 R5
        obtain ⟨A1, A2, A3, A4⟩ := TA_u3.out
        have A5 := Two.lt TA_u3.out
        obtain ⟨B1, B2, B3, B4⟩ := TB_u3.out
        have B5 := Two.lt TB_u3.out
        obtain ⟨D1, D2, D3, D4⟩ := TD_u3.out
        have D5 := Two.lt TD_u3.out
        obtain ⟨S1, S2, S3, S4⟩ := TS_u3.out
        have S5 := Two.lt TS_u3.out
        obtain ⟨Y1, Y2, Y3, Y4⟩ := TY_u3.out
        have Y5 := Two.lt TY_u3.out
        obtain ⟨Q1, Q2, Q3, Q4⟩ := TQ_u3.out
        have Q5 := Two.lt TQ_u3.out
        obtain ⟨R1, R2, R3, R4⟩ := TR_u3.out
        have R5 := Two.lt TR_u3.out
        obtain ⟨P1, P2, P3, P4⟩ := TP_u3.out
        have P5 := Two.lt TP_u3.out
        have eqt := eqW_same (IT.out.eq FA.out.2.1) ha
        go_wp2_with fail
        refine (answers_any _).mono ?_
        rintro e u4 ⟨rfl, g_u4⟩
        have g_u4' := bthen (B := u3.heap.size) (w := u3) (by go_grown) (by go_size) g_u4
        have TA_u4 := hid (two_later g_u4' TA_u3.out).1
        have TB_u4 := hid (two_later g_u4' TB_u3.out).1
        have TD_u4 := hid (two_later g_u4' TD_u3.out).1
        have TS_u4 := hid (two_later g_u4' TS_u3.out).1
        have TY_u4 := hid (two_later g_u4' TY_u3.out).1
        have TQ_u4 := hid (two_later g_u4' TQ_u3.out).1
        have TR_u4 := hid (two_later g_u4' TR_u3.out).1
        have TP_u4 := hid (two_later g_u4' TP_u3.out).1
        have TE_u4 := hid (two_later g_u4 (b := u3.heap.size) (u := .int .i64 th) (v := .int .u64 tl) ⟨by simp [go_sem], by simp [go_sem], by simp [go_sem], by simp [go_sem]⟩).1
        have x_u4 := bthen x_u3 x_u3.size g_u4'
        have z_u4 := x_u4.size
        clear g_u4 g_u4' A1 A2 A3 A4 A5 B1 B2 B3 B4 B5 D1 D2 D3 D4 D5 S1 S2 S3 S4 S5 Y1 Y2 Y3 Y4 Y5 Q1 Q2 Q3 Q4 Q5 R1 R2 R3 R4 R5 P1 P2 P3 P4 P5
        obtain ⟨A1, A2, A3, A4⟩ := TA_u4.out
        have A5 := Two.lt TA_u4.out
        obtain ⟨B1, B2, B3, B4⟩ := TB_u4.out
        have B5 := Two.lt TB_u4.out
        obtain ⟨D1, D2, D3, D4⟩ := TD_u4.out
        have D5 := Two.lt TD_u4.out
        obtain ⟨S1, S2, S3, S4⟩ := TS_u4.out
        have S5 := Two.lt TS_u4.out
        obtain ⟨Y1, Y2, Y3, Y4⟩ := TY_u4.out
        have Y5 := Two.lt TY_u4.out
        obtain ⟨Q1, Q2, Q3, Q4⟩ := TQ_u4.out
        have Q5 := Two.lt TQ_u4.out
        obtain ⟨R1, R2, R3, R4⟩ := TR_u4.out
        have R5 := Two.lt TR_u4.out
        obtain ⟨P1, P2, P3, P4⟩ := TP_u4.out
        have P5 := Two.lt TP_u4.out
        obtain ⟨E1, E2, E3, E4⟩ := TE_u4.out
        have E5 := Two.lt TE_u4.out
        go_wp2_with fail
        refine (wcmp_any IR.out hd _).mono ?_
        rintro e u5 ⟨rfl, g_u5⟩
        have g_u5' := bthen (B := u4.heap.size) (w := u4) (by go_grown) (by go_size) g_u5
        have TA_u5 := hid (two_later g_u5' TA_u4.out).1
        have TB_u5 := hid (two_later g_u5' TB_u4.out).1
        have TD_u5 := hid (two_later g_u5' TD_u4.out).1
        have TS_u5 := hid (two_later g_u5' TS_u4.out).1
        have TY_u5 := hid (two_later g_u5' TY_u4.out).1
        have TQ_u5 := hid (two_later g_u5' TQ_u4.out).1
        have TR_u5 := hid (two_later g_u5' TR_u4.out).1
        have TP_u5 := hid (two_later g_u5' TP_u4.out).1
        have TE_u5 := hid (two_later g_u5' TE_u4.out).1
        have x_u5 := bthen x_u4 x_u4.size g_u5'
        have z_u5 := x_u5.size
        clear g_u5 g_u5' A1 A2 A3 A4 A5 B1 B2 B3 B4 B5 D1 D2 D3 D4 D5 S1 S2 S3 S4 S5 Y1 Y2 Y3 Y4 Y5 Q1 Q2 Q3 Q4 Q5 R1 R2 R3 R4 R5 P1 P2 P3 P4 P5 E1 E2 E3 E4 E5
        obtain ⟨A1, A2, A3, A4⟩ := TA_u5.out
        have A5 := Two.lt TA_u5.out
        obtain ⟨B1, B2, B3, B4⟩ := TB_u5.out
        have B5 := Two.lt TB_u5.out
        obtain ⟨D1, D2, D3, D4⟩ := TD_u5.out
        have D5 := Two.lt TD_u5.out
        obtain ⟨S1, S2, S3, S4⟩ := TS_u5.out
        have S5 := Two.lt TS_u5.out
        obtain ⟨Y1, Y2, Y3, Y4⟩ := TY_u5.out
        have Y5 := Two.lt TY_u5.out
        obtain ⟨Q1, Q2, Q3, Q4⟩ := TQ_u5.out
        have Q5 := Two.lt TQ_u5.out
        obtain ⟨R1, R2, R3, R4⟩ := TR_u5.out
        have R5 := Two.lt TR_u5.out
        obtain ⟨P1, P2, P3, P4⟩ := TP_u5.out
        have P5 := Two.lt TP_u5.out
        obtain ⟨E1, E2, E3, E4⟩ := TE_u5.out
        have E5 := Two.lt TE_u5.out
        go_wp2_with fail
        go_ret
        exact ⟨rfl, x_u5⟩
end Go.Proofs.Ytbnijcmffdahgaa
