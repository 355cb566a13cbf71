/-
  The walk of the law LimbBack: what was multiplied, and has something less than the divisor more, is divided again. No conditions.
-/
import Derived.Test.YtdefgplehkbpcaaLimbF
namespace Go.Proofs.Ytdefgplehkbpcaa
open Go.RowKit

theorem back_facts {a d m P : Int} (hP : P = a * d) (a0 : 0 ≤ a) (a1 : a < 340282366920938463463374607431768211456) (m0 : 0 ≤ m) (m1 : m < d) (d1 : d < 340282366920938463463374607431768211456) :
    0 ≤ P ∧ P + m < 340282366920938463463374607431768211456 * d ∧ (P + m) / d = a ∧ (P + m) % d = m ∧ d < 340282366920938463463374607431768211456 := by
  have h1 : a * d ≤ 340282366920938463463374607431768211455 * d := Int.mul_le_mul_of_nonneg_right (by omega) (by omega)
  refine ⟨by rw [hP]; exact Int.mul_nonneg a0 (by omega), by omega, ?_, ?_, d1⟩
  · rw [hP, Int.add_comm, Int.add_mul_ediv_right _ _ (by omega), Int.ediv_eq_zero_of_lt m0 m1]; omega
  · rw [hP, Int.add_comm, Int.add_mul_emod_self_right, Int.emod_eq_of_lt m0 m1]
theorem back_plain {P m d : Int} (_h0 : 0 ≤ P) (h1 : P + m < 340282366920938463463374607431768211456 * d) (m0 : 0 ≤ m) (hc : overB (P % 340282366920938463463374607431768211456) m = false) :
    P / 340282366920938463463374607431768211456 < d ∧ P / 340282366920938463463374607431768211456 * 340282366920938463463374607431768211456 + (P % 340282366920938463463374607431768211456 + m) % 340282366920938463463374607431768211456 = P + m := by
  unfold overB at hc
  have hc' := of_decide_eq_false hc
  omega
theorem back_over {P m d : Int} (h0 : 0 ≤ P) (h1 : P + m < 340282366920938463463374607431768211456 * d) (m0 : 0 ≤ m) (m1 : m < d) (d1 : d < 340282366920938463463374607431768211456) (hc : overB (P % 340282366920938463463374607431768211456) m = true) :
    (P / 340282366920938463463374607431768211456 + 1) % 340282366920938463463374607431768211456 < d ∧ (P / 340282366920938463463374607431768211456 + 1) % 340282366920938463463374607431768211456 * 340282366920938463463374607431768211456 + (P % 340282366920938463463374607431768211456 + m) % 340282366920938463463374607431768211456 = P + m := by
  unfold overB at hc
  have hc' := of_decide_eq_true hc
  have h2 : P / 340282366920938463463374607431768211456 + 1 < d := by omega
  have h3 : (P / 340282366920938463463374607431768211456 + 1) % 340282366920938463463374607431768211456 = P / 340282366920938463463374607431768211456 + 1 := Int.emod_eq_of_lt (by omega) (by omega)
  rw [h3]
  omega

set_option maxRecDepth 100000 in
set_option maxHeartbeats 1000000 in
theorem law_back {ah al dh dl mh ml a d m : Int} (ha : LimbIs ah al a) (hd : LimbIs dh dl d) (hm : LimbIs mh ml m) (w : World) :
    Calls Try.prog 6 #[.agg #[.int .u64 ah, .int .u64 al], .agg #[.int .u64 dh, .int .u64 dl], .agg #[.int .u64 mh, .int .u64 ml]] w fun e w' => e = .returned (.bool true) ∧ Below w.heap.size w w' := by
  have qe := run_eql_limb
  by_cases hlt : d ≤ m
  · have hcm : 0 ≤ cmpI m d := by unfold cmpI; rw [if_neg (by omega)]; split <;> omega
    go_enter Try.func6, Try.ntmps6
    go_wp2_with fail
    refine (cmp_any hm hd _).mono ?_
    rintro e w1 ⟨rfl, hb1⟩
    have x1 := bthen (B := w.heap.size) (w := w) (by go_grown) (by go_size) hb1
    go_wp2_with fail
    refine (answers_any _).mono ?_
    rintro e w2 ⟨rfl, hb2⟩
    have x2 := bthen x1 x1.size hb2
    go_wp2_with fail
    go_ret
    exact ⟨rfl, x2⟩
  · have hcm : cmpI m d = -1 := by unfold cmpI; rw [if_pos (by omega)]
    obtain ⟨P, hP⟩ : ∃ P, Hid (P = a * d) := ⟨_, rfl⟩
    obtain ⟨f1, f2, f3, f4, f5⟩ := back_facts hP.out ha.range.1 ha.range.2 hm.range.1 (by omega) hd.range.2
    have g1 := @back_plain P m d f1 f2 hm.range.1
    have g2 := @back_over P m d f1 f2 hm.range.1 (by omega) f5
    have F3 : Hid _ := f3
    have F4 : Hid _ := f4
    have G1 : Hid _ := g1
    have G2 : Hid _ := g2
    clear f1 f2 f3 f4 f5 g1 g2 hlt
    go_enter Try.func6, Try.ntmps6
    go_wp2_with fail
    refine (cmp_any hm hd _).mono ?_
    rintro e w1 ⟨rfl, hb1⟩
    obtain ⟨⟨p1, p2, p3, p4⟩, p5⟩ := two_later hb1 (b := w.heap.size) (u := .int .u64 ah) (v := .int .u64 al) ⟨by simp [go_sem, *], by simp [go_sem, *], by simp [go_sem, *], by simp [go_sem, *]⟩
    obtain ⟨⟨q1, q2, q3, q4⟩, q5⟩ := two_later hb1 (b := w.heap.size + 1) (u := .int .u64 dh) (v := .int .u64 dl) ⟨by simp [go_sem, *], by simp [go_sem, *], by simp [go_sem, *], by simp [go_sem, *]⟩
    obtain ⟨⟨r1, r2, r3, r4⟩, r5⟩ := two_later hb1 (b := w.heap.size + 1 + 1) (u := .int .u64 mh) (v := .int .u64 ml) ⟨by simp [go_sem, *], by simp [go_sem, *], by simp [go_sem, *], by simp [go_sem, *]⟩
    have x1 := bthen (B := w.heap.size) (w := w) (by go_grown) (by go_size) hb1
    clear hb1
    go_wp2_with fail
    refine (mul_any ha hd _).mono ?_
    rw [← hP.out]
    rintro e w2 ⟨hh, hl, lh, ll, ih, il, rfl, hb2⟩
    obtain ⟨⟨s1, s2, s3, s4⟩, s5⟩ := two_later hb2 (b := w.heap.size) (u := .int .u64 ah) (v := .int .u64 al) ⟨by simp [go_sem, *], by simp [go_sem, *], by simp [go_sem, *], by simp [go_sem, *]⟩
    obtain ⟨⟨t1, t2, t3, t4⟩, t5⟩ := two_later hb2 (b := w.heap.size + 1) (u := .int .u64 dh) (v := .int .u64 dl) ⟨by simp [go_sem, *], by simp [go_sem, *], by simp [go_sem, *], by simp [go_sem, *]⟩
    obtain ⟨⟨u1, u2, u3, u4⟩, u5⟩ := two_later hb2 (b := w.heap.size + 1 + 1) (u := .int .u64 mh) (v := .int .u64 ml) ⟨by simp [go_sem, *], by simp [go_sem, *], by simp [go_sem, *], by simp [go_sem, *]⟩
    have x2 := bthen x1 x1.size hb2
    have z2 := x2.size
    have n0 : ¬ w2.heap.size + 1 = w.heap.size := by omega
    have n1 : ¬ w2.heap.size = w.heap.size := by omega
    have n2 : ¬ w2.heap.size = w.heap.size + 1 := by omega
    have n3 : ¬ w2.heap.size = w.heap.size + 1 + 1 := by omega
    clear hb2 x1
    clear p1 p2 p3 p4 p5 q1 q2 q3 q4 q5 r1 r2 r3 r4 r5
    go_wp2_with fail
    refine (add_any il hm _).mono ?_
    rintro e w3 ⟨ch, cl, ic, rfl, hb3⟩
    obtain ⟨⟨p1, p2, p3, p4⟩, p5⟩ := two_later hb3 (b := w.heap.size) (u := .int .u64 ah) (v := .int .u64 al) ⟨by simp [go_sem, *], by simp [go_sem, *], by simp [go_sem, *], by simp [go_sem, *]⟩
    obtain ⟨⟨q1, q2, q3, q4⟩, q5⟩ := two_later hb3 (b := w.heap.size + 1) (u := .int .u64 dh) (v := .int .u64 dl) ⟨by simp [go_sem, *], by simp [go_sem, *], by simp [go_sem, *], by simp [go_sem, *]⟩
    obtain ⟨⟨r1, r2, r3, r4⟩, r5⟩ := two_later hb3 (b := w.heap.size + 1 + 1) (u := .int .u64 mh) (v := .int .u64 ml) ⟨by simp [go_sem, *], by simp [go_sem, *], by simp [go_sem, *], by simp [go_sem, *]⟩
    obtain ⟨⟨v1, v2, v3, v4⟩, v5⟩ := two_later hb3 (b := w2.heap.size) (u := .int .u64 hh) (v := .int .u64 hl) ⟨by simp [go_sem, *], by simp [go_sem, *], by simp [go_sem, *], by simp [go_sem, *]⟩
    obtain ⟨⟨y1, y2, y3, y4⟩, y5⟩ := two_later hb3 (b := w2.heap.size + 1) (u := .int .u64 lh) (v := .int .u64 ll) ⟨by simp [go_sem, *], by simp [go_sem, *], by simp [go_sem, *], by simp [go_sem, *]⟩
    have x3 := bthen (B := w.heap.size) (w := w) (by go_grown) (by go_size) hb3
    have z3 := x3.size
    clear hb3 x2
    clear s1 s2 s3 s4 s5 t1 t2 t3 t4 t5 u1 u2 u3 u4 u5
    by_cases hov : overB (P % 340282366920938463463374607431768211456) m = true
    · obtain ⟨k1, k2⟩ := G2.out hov
      have K2 : Hid _ := k2
      clear k2
      go_wp2_with fail
      refine (add_any ih limb_0_1 _).mono ?_
      rintro e w4 ⟨jh, jl, ij, rfl, hb4⟩
      obtain ⟨⟨s1, s2, s3, s4⟩, s5⟩ := two_later hb4 (b := w.heap.size) (u := .int .u64 ah) (v := .int .u64 al) ⟨by simp [go_sem, *], by simp [go_sem, *], by simp [go_sem, *], by simp [go_sem, *]⟩
      obtain ⟨⟨t1, t2, t3, t4⟩, t5⟩ := two_later hb4 (b := w.heap.size + 1) (u := .int .u64 dh) (v := .int .u64 dl) ⟨by simp [go_sem, *], by simp [go_sem, *], by simp [go_sem, *], by simp [go_sem, *]⟩
      obtain ⟨⟨u1, u2, u3, u4⟩, u5⟩ := two_later hb4 (b := w.heap.size + 1 + 1) (u := .int .u64 mh) (v := .int .u64 ml) ⟨by simp [go_sem, *], by simp [go_sem, *], by simp [go_sem, *], by simp [go_sem, *]⟩
      obtain ⟨⟨a1, a2, a3, a4⟩, a5⟩ := two_later hb4 (b := w2.heap.size) (u := .int .u64 hh) (v := .int .u64 hl) ⟨by simp [go_sem, *], by simp [go_sem, *], by simp [go_sem, *], by simp [go_sem, *]⟩
      obtain ⟨⟨b1, b2, b3, b4⟩, b5⟩ := two_later hb4 (b := w2.heap.size + 1) (u := .int .u64 ch) (v := .int .u64 cl) ⟨by simp [go_sem, *], by simp [go_sem, *], by simp [go_sem, *], by simp [go_sem, *]⟩
      have x4 := bthen (B := w.heap.size) (w := w) (by go_grown) (by go_size) hb4
      have z4 := x4.size
      clear hb4 x3
      clear p1 p2 p3 p4 p5 q1 q2 q3 q4 q5 r1 r2 r3 r4 r5 v1 v2 v3 v4 v5 y1 y2 y3 y4 y5
      go_wp2_with fail
      refine (div_yes ij ic hd k1 _).mono ?_
      rw [K2.out, F3.out, F4.out]
      rintro e w5 ⟨qh, ql, rh, rl, iq, ir, rfl, hb5⟩
      have y1 := eqL_same iq ha
      have y2 := eqL_same ir hm
      obtain ⟨⟨p1, p2, p3, p4⟩, p5⟩ := two_later hb5 (b := w.heap.size) (u := .int .u64 ah) (v := .int .u64 al) ⟨by simp [go_sem, *], by simp [go_sem, *], by simp [go_sem, *], by simp [go_sem, *]⟩
      obtain ⟨⟨r1, r2, r3, r4⟩, r5⟩ := two_later hb5 (b := w.heap.size + 1 + 1) (u := .int .u64 mh) (v := .int .u64 ml) ⟨by simp [go_sem, *], by simp [go_sem, *], by simp [go_sem, *], by simp [go_sem, *]⟩
      have x5 := bthen (B := w.heap.size) (w := w) (by go_grown) (by go_size) hb5
      have z5 := x5.size
      have n5 : w.heap.size + 1 < w5.heap.size := by omega
      clear hb5 x4
      go_wp2_with fail
      refine (answers_any _).mono ?_
      rintro e w6 ⟨rfl, hb6⟩
      obtain ⟨⟨c1, c2, c3, c4⟩, c5⟩ := two_later hb6 (b := w.heap.size) (u := .int .u64 ah) (v := .int .u64 al) ⟨by simp [go_sem, *], by simp [go_sem, *], by simp [go_sem, *], by simp [go_sem, *]⟩
      obtain ⟨⟨d1, d2, d3, d4⟩, d5⟩ := two_later hb6 (b := w.heap.size + 1 + 1) (u := .int .u64 mh) (v := .int .u64 ml) ⟨by simp [go_sem, *], by simp [go_sem, *], by simp [go_sem, *], by simp [go_sem, *]⟩
      obtain ⟨⟨e1, e2, e3, e4⟩, e5⟩ := two_later hb6 (b := w5.heap.size) (u := .int .u64 qh) (v := .int .u64 ql) ⟨by simp [go_sem, *], by simp [go_sem, *], by simp [go_sem, *], by simp [go_sem, *]⟩
      obtain ⟨⟨f1, f2, f3, f4⟩, f5⟩ := two_later hb6 (b := w5.heap.size + 1) (u := .int .u64 rh) (v := .int .u64 rl) ⟨by simp [go_sem, *], by simp [go_sem, *], by simp [go_sem, *], by simp [go_sem, *]⟩
      have x6 := bthen (B := w.heap.size) (w := w) (by go_grown) (by go_size) hb6
      go_wp2_with fail
      go_ret
      exact ⟨rfl, x6⟩
    · have hov2 : overB (P % 340282366920938463463374607431768211456) m = false := by simpa using hov
      obtain ⟨k1, k2⟩ := G1.out hov2
      have K2 : Hid _ := k2
      clear k2 hov
      go_wp2_with fail
      refine (div_yes ih ic hd k1 _).mono ?_
      rw [K2.out, F3.out, F4.out]
      rintro e w5 ⟨qh, ql, rh, rl, iq, ir, rfl, hb5⟩
      have y1' := eqL_same iq ha
      have y2' := eqL_same ir hm
      obtain ⟨⟨a1, a2, a3, a4⟩, a5⟩ := two_later hb5 (b := w.heap.size) (u := .int .u64 ah) (v := .int .u64 al) ⟨by simp [go_sem, *], by simp [go_sem, *], by simp [go_sem, *], by simp [go_sem, *]⟩
      obtain ⟨⟨b1, b2, b3, b4⟩, b5⟩ := two_later hb5 (b := w.heap.size + 1 + 1) (u := .int .u64 mh) (v := .int .u64 ml) ⟨by simp [go_sem, *], by simp [go_sem, *], by simp [go_sem, *], by simp [go_sem, *]⟩
      have x5 := bthen (B := w.heap.size) (w := w) (by go_grown) (by go_size) hb5
      have z5 := x5.size
      have n5 : w.heap.size + 1 < w5.heap.size := by omega
      clear hb5 x3
      go_wp2_with fail
      refine (answers_any _).mono ?_
      rintro e w6 ⟨rfl, hb6⟩
      obtain ⟨⟨c1, c2, c3, c4⟩, c5⟩ := two_later hb6 (b := w.heap.size) (u := .int .u64 ah) (v := .int .u64 al) ⟨by simp [go_sem, *], by simp [go_sem, *], by simp [go_sem, *], by simp [go_sem, *]⟩
      obtain ⟨⟨d1, d2, d3, d4⟩, d5⟩ := two_later hb6 (b := w.heap.size + 1 + 1) (u := .int .u64 mh) (v := .int .u64 ml) ⟨by simp [go_sem, *], by simp [go_sem, *], by simp [go_sem, *], by simp [go_sem, *]⟩
      obtain ⟨⟨e1, e2, e3, e4⟩, e5⟩ := two_later hb6 (b := w5.heap.size) (u := .int .u64 qh) (v := .int .u64 ql) ⟨by simp [go_sem, *], by simp [go_sem, *], by simp [go_sem, *], by simp [go_sem, *]⟩
      obtain ⟨⟨f1, f2, f3, f4⟩, f5⟩ := two_later hb6 (b := w5.heap.size + 1) (u := .int .u64 rh) (v := .int .u64 rl) ⟨by simp [go_sem, *], by simp [go_sem, *], by simp [go_sem, *], by simp [go_sem, *]⟩
      have x6 := bthen (B := w.heap.size) (w := w) (by go_grown) (by go_size) hb6
      go_wp2_with fail
      go_ret
      exact ⟨rfl, x6⟩
end Go.Proofs.Ytdefgplehkbpcaa
