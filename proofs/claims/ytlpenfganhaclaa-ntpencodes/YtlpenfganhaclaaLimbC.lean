/-
  The contract of limb.Div: the quotient rounded down and what is left (P1.3), or 0, 0 and false where the high part is not less than the divisor. No conditions.
-/
import Derived.Test.YtlpenfganhaclaaLimbB
namespace Go.Proofs.Ytlpenfganhaclaa
open Go.RowKit

/-- What holds when k bits have been brought down: lo is what is left of the low part, q the quotient so far, r what is left. -/
def DivInv (hi lo d : Int) (k : Nat) (l q r : Int) : Prop :=
  0 ≤ r ∧ r < d ∧ 0 ≤ q ∧ q < 2 ^ k ∧ 0 ≤ l ∧ l < 340282366920938463463374607431768211456 ∧ (hi * 340282366920938463463374607431768211456 + lo) * 2 ^ k = (q * d + r) * 340282366920938463463374607431768211456 + l
theorem DivInv.start {hi lo d : Int} (h0 : 0 ≤ hi) (h1 : hi < d) (l0 : 0 ≤ lo) (l1 : lo < 340282366920938463463374607431768211456) : DivInv hi lo d 0 lo 0 hi :=
  ⟨h0, h1, by omega, by simp, l0, l1, by simp⟩
theorem dbl_01 {l : Int} (l0 : 0 ≤ l) (l1 : l < 340282366920938463463374607431768211456) : 0 ≤ dblOut l 0 ∧ dblOut l 0 ≤ 1 := by unfold dblOut; omega
theorem stepT_01 (r b d : Int) : 0 ≤ stepT r b d ∧ stepT r b d ≤ 1 := by unfold stepT; split <;> decide
theorem pow_le_128 {k : Nat} (hk : k < 128) : (2 : Int) ^ (k + 1) ≤ 340282366920938463463374607431768211456 := by
  have h : (2 : Nat) ^ (k + 1) ≤ 2 ^ 128 := Nat.pow_le_pow_right (by decide) (by omega)
  have e : (2 : Nat) ^ 128 = 340282366920938463463374607431768211456 := by decide
  rw [show (2 : Int) ^ (k + 1) = ((2 ^ (k + 1) : Nat) : Int) by rw [Int.natCast_pow]; rfl]
  rw [e] at h
  omega
theorem DivInv.step {hi lo d : Int} {k : Nat} {l q r : Int} (h : DivInv hi lo d k l q r) (hk : k < 128) :
    DivInv hi lo d (k + 1) ((2 * l + 0) % 340282366920938463463374607431768211456) ((2 * q + stepT r (dblOut l 0) d) % 340282366920938463463374607431768211456) (stepR r (dblOut l 0) d) := by
  obtain ⟨r0, r1, q0, q1, l0, l1, e⟩ := h
  have hp := pow_le_128 hk
  have e2 : (2 : Int) ^ (k + 1) = 2 * 2 ^ k := by rw [Int.pow_succ]; omega
  obtain ⟨t0, t1⟩ := stepT_01 r (dblOut l 0) d
  have hq : (2 * q + stepT r (dblOut l 0) d) % 340282366920938463463374607431768211456 = 2 * q + stepT r (dblOut l 0) d := Int.emod_eq_of_lt (by omega) (by omega)
  rw [hq]
  have hl : (2 * l + 0) % 340282366920938463463374607431768211456 = 2 * l - dblOut l 0 * 340282366920938463463374607431768211456 := by unfold dblOut; omega
  obtain ⟨b0, b1⟩ := dbl_01 l0 l1
  have hl2 : 0 ≤ (2 * l + 0) % 340282366920938463463374607431768211456 ∧ (2 * l + 0) % 340282366920938463463374607431768211456 < 340282366920938463463374607431768211456 := by omega
  refine ⟨?_, ?_, by omega, by omega, hl2.1, hl2.2, ?_⟩
  · unfold stepR; split <;> omega
  · unfold stepR; split <;> omega
  · rw [hl, e2]
    have e3 : (hi * 340282366920938463463374607431768211456 + lo) * (2 * 2 ^ k) = 2 * ((q * d + r) * 340282366920938463463374607431768211456 + l) := by rw [← e, Int.mul_left_comm]
    rw [e3]
    unfold stepT stepR
    split
    · rw [show (2 * q + 0) * d = 2 * (q * d) by rw [Int.add_zero, Int.mul_assoc]]; omega
    · rw [show (2 * q + 1) * d = 2 * (q * d) + d by rw [Int.add_mul, Int.mul_assoc, Int.one_mul]]; omega
theorem DivInv.done {hi lo d : Int} {l q r : Int} (h : DivInv hi lo d 128 l q r) : (hi * 340282366920938463463374607431768211456 + lo) / d = q ∧ (hi * 340282366920938463463374607431768211456 + lo) % d = r := by
  obtain ⟨r0, r1, q0, q1, l0, l1, e⟩ := h
  have e2 : (2 : Int) ^ 128 = 340282366920938463463374607431768211456 := by decide
  rw [e2] at e
  have e3 : hi * 340282366920938463463374607431768211456 + lo = q * d + r := by omega
  rw [e3]
  constructor
  · rw [Int.add_comm, Int.add_mul_ediv_right _ _ (by omega), Int.ediv_eq_zero_of_lt r0 r1]; omega
  · rw [Int.add_comm, Int.add_mul_emod_self_right, Int.emod_eq_of_lt r0 r1]

set_option maxHeartbeats 400000 in
theorem div_no {hh hl lh ll dh dl hi lo d : Int} (h1 : LimbIs hh hl hi) (_h2 : LimbIs lh ll lo) (h3 : LimbIs dh dl d) (hge : d ≤ hi) (w : World) :
    Calls Try.prog 65 #[.agg #[.int .u64 hh, .int .u64 hl], .agg #[.int .u64 lh, .int .u64 ll], .agg #[.int .u64 dh, .int .u64 dl]] w fun e w' =>
      e = .returned (.tuple #[.agg #[.int .u64 0, .int .u64 0], .agg #[.int .u64 0, .int .u64 0], .bool false]) ∧ Below w.heap.size w w' := by
  have hcm : 0 ≤ cmpI hi d := by unfold cmpI; rw [if_neg (by omega)]; split <;> omega
  go_enter Try.func65, Try.ntmps65
  go_wp2_with (go_at_call 76; refine (cmp_any h1 h3 _).mono ?_; rintro e w1 ⟨rfl, hb1⟩; obtain ⟨⟨p1, p2, p3, p4⟩, p5⟩ := two_later hb1 (b := w.heap.size + 1 + 1 + 1) (u := .int .u64 0) (v := .int .u64 0) ⟨by simp [go_sem], by simp [go_sem], by simp [go_sem], by simp [go_sem]⟩; obtain ⟨⟨q1, q2, q3, q4⟩, q5⟩ := two_later hb1 (b := w.heap.size + 1 + 1 + 1 + 1) (u := .int .u64 0) (v := .int .u64 0) ⟨by simp [go_sem], by simp [go_sem], by simp [go_sem], by simp [go_sem]⟩)
  refine bodyPost_ret (v := .tuple #[.agg #[.int .u64 0, .int .u64 0], .agg #[.int .u64 0, .int .u64 0], .bool false]) (by simp [results, Try.results65, go_sem, p1, p2, q1, q2]) rfl ⟨rfl, ?_⟩
  have x1 := bthen (B := w.heap.size) (w := w) (by go_grown) (by go_size) hb1
  go_grown

set_option maxRecDepth 100000 in
set_option maxHeartbeats 1000000 in
theorem div_yes {hh hl lh ll dh dl hi lo d : Int} (h1 : LimbIs hh hl hi) (h2 : LimbIs lh ll lo) (h3 : LimbIs dh dl d) (hlt : hi < d) (w : World) :
    Calls Try.prog 65 #[.agg #[.int .u64 hh, .int .u64 hl], .agg #[.int .u64 lh, .int .u64 ll], .agg #[.int .u64 dh, .int .u64 dl]] w fun e w' =>
      ∃ qh ql rh rl : Int, LimbIs qh ql ((hi * 340282366920938463463374607431768211456 + lo) / d) ∧ LimbIs rh rl ((hi * 340282366920938463463374607431768211456 + lo) % d) ∧
        e = .returned (.tuple #[.agg #[.int .u64 qh, .int .u64 ql], .agg #[.int .u64 rh, .int .u64 rl], .bool true]) ∧ Below w.heap.size w w' := by
  have hcm : cmpI hi d = -1 := by unfold cmpI; rw [if_pos hlt]
  have hst := DivInv.start h1.range.1 hlt h2.range.1 h2.range.2
  go_enter Try.func65, Try.ntmps65
  go_wp2_with (go_at_call 76; refine (cmp_any h1 h3 _).mono ?_; rintro e w1 ⟨rfl, hb1⟩; obtain ⟨⟨p1, p2, p3, p4⟩, p5⟩ := two_later hb1 (b := w.heap.size + 1 + 1 + 1) (u := .int .u64 0) (v := .int .u64 0) ⟨by simp [go_sem], by simp [go_sem], by simp [go_sem], by simp [go_sem]⟩; obtain ⟨⟨q1, q2, q3, q4⟩, q5⟩ := two_later hb1 (b := w.heap.size + 1 + 1 + 1 + 1) (u := .int .u64 0) (v := .int .u64 0) ⟨by simp [go_sem], by simp [go_sem], by simp [go_sem], by simp [go_sem]⟩; obtain ⟨⟨r1, r2, r3, r4⟩, r5⟩ := two_later hb1 (b := w.heap.size) (u := .int .u64 hh) (v := .int .u64 hl) ⟨by simp [go_sem], by simp [go_sem], by simp [go_sem], by simp [go_sem]⟩; obtain ⟨⟨s1, s2, s3, s4⟩, s5⟩ := two_later hb1 (b := w.heap.size + 1) (u := .int .u64 lh) (v := .int .u64 ll) ⟨by simp [go_sem], by simp [go_sem], by simp [go_sem], by simp [go_sem]⟩; obtain ⟨⟨t1, t2, t3, t4⟩, t5⟩ := two_later hb1 (b := w.heap.size + 1 + 1) (u := .int .u64 dh) (v := .int .u64 dl) ⟨by simp [go_sem], by simp [go_sem], by simp [go_sem], by simp [go_sem]⟩)
  have x1 := bthen (B := w.heap.size) (w := w) (by go_grown) (by go_size) hb1
  go_loopw [17] (fun i wr => ∃ k : Nat, k ≤ 128 ∧ i = .int .i64 k ∧ ∃ lh ll l qh ql q rh rl r : Int, LimbIs lh ll l ∧ LimbIs qh ql q ∧ LimbIs rh rl r ∧ DivInv hi lo d k l q r ∧
      Two wr (w.heap.size + 1) (.int .u64 lh) (.int .u64 ll) ∧ Two wr (w.heap.size + 1 + 1) (.int .u64 dh) (.int .u64 dl) ∧ Two wr (w.heap.size + 1 + 1 + 1) (.int .u64 qh) (.int .u64 ql) ∧ Two wr (w.heap.size + 1 + 1 + 1 + 1) (.int .u64 rh) (.int .u64 rl) ∧ Below w.heap.size w wr)
    (fun i _ => 128 - (intOf i).toNat)
  case atStart =>
    refine ⟨0, by omega, rfl, _, _, _, 0, 0, 0, _, _, _, h2, ⟨by omega, by omega, by omega, by omega, by omega⟩, h1, hst, ?_, ?_, ?_, ?_, by go_grown⟩
    · exact ⟨by simp [go_sem, *], by simp [go_sem, *], by simp [go_sem, *], by simp [go_sem, *]⟩
    · exact ⟨by simp [go_sem, *], by simp [go_sem, *], by simp [go_sem, *], by simp [go_sem, *]⟩
    · exact ⟨by simp [go_sem, *], by simp [go_sem, *], by simp [go_sem, *], by simp [go_sem, *]⟩
    · exact ⟨by simp [go_sem, *], by simp [go_sem, *], by simp [go_sem, *], by simp [go_sem, *]⟩
  case round =>
    clear hst p1 p2 p3 p4 p5 q1 q2 q3 q4 q5 r1 r2 r3 r4 r5 s1 s2 s3 s4 s5 t1 t2 t3 t4 t5 x1 hcm
    obtain ⟨k, hk, rfl, lh', ll', l, qh, ql, q, rh, rl, r, il, iq, ir, inv, ⟨a1, a2, a3, a4⟩, ⟨d1, d2, d3, d4⟩, ⟨e1, e2, e3, e4⟩, ⟨f1, f2, f3, f4⟩, hbw⟩ := hrel
    by_cases hlt2 : k < 128
    · obtain ⟨b0, b1⟩ := dbl_01 il.range.1 il.range.2
      have hrd : r < d := inv.2.1
      obtain ⟨t0, t1⟩ := stepT_01 r (dblOut l 0) d
      go_wp2_with fail
      refine (double_any il (by omega) (by omega) _).mono ?_
      rintro e w1 ⟨h, l1, hl1, rfl, hb1⟩
      obtain ⟨⟨p1, p2, p3, p4⟩, p5⟩ := two_later hb1 (b := w.heap.size + 1) (u := .int .u64 lh') (v := .int .u64 ll') ⟨by simp [go_sem, *], by simp [go_sem, *], by simp [go_sem, *], by simp [go_sem, *]⟩
      obtain ⟨⟨q1, q2, q3, q4⟩, q5⟩ := two_later hb1 (b := w.heap.size + 1 + 1) (u := .int .u64 dh) (v := .int .u64 dl) ⟨by simp [go_sem, *], by simp [go_sem, *], by simp [go_sem, *], by simp [go_sem, *]⟩
      obtain ⟨⟨r1, r2, r3, r4⟩, r5⟩ := two_later hb1 (b := w.heap.size + 1 + 1 + 1) (u := .int .u64 qh) (v := .int .u64 ql) ⟨by simp [go_sem, *], by simp [go_sem, *], by simp [go_sem, *], by simp [go_sem, *]⟩
      obtain ⟨⟨s1, s2, s3, s4⟩, s5⟩ := two_later hb1 (b := w.heap.size + 1 + 1 + 1 + 1) (u := .int .u64 rh) (v := .int .u64 rl) ⟨by simp [go_sem, *], by simp [go_sem, *], by simp [go_sem, *], by simp [go_sem, *]⟩
      have x1 := bthen hbw hbw.size hb1
      clear a1 a2 a3 a4 d1 d2 d3 d4 e1 e2 e3 e4 f1 f2 f3 f4 hb1
      go_wp2_with fail
      refine (step_any ir h3 b0 b1 hrd _).mono ?_
      rintro e w2 ⟨h2', l2, hl2, rfl, hb2⟩
      obtain ⟨⟨a1, a2, a3, a4⟩, a5⟩ := two_later hb2 (b := w.heap.size + 1) (u := .int .u64 h) (v := .int .u64 l1) ⟨by simp [go_sem, *], by simp [go_sem, *], by simp [go_sem, *], by simp [go_sem, *]⟩
      obtain ⟨⟨d1, d2, d3, d4⟩, d5⟩ := two_later hb2 (b := w.heap.size + 1 + 1) (u := .int .u64 dh) (v := .int .u64 dl) ⟨by simp [go_sem, *], by simp [go_sem, *], by simp [go_sem, *], by simp [go_sem, *]⟩
      obtain ⟨⟨e1, e2, e3, e4⟩, e5⟩ := two_later hb2 (b := w.heap.size + 1 + 1 + 1) (u := .int .u64 qh) (v := .int .u64 ql) ⟨by simp [go_sem, *], by simp [go_sem, *], by simp [go_sem, *], by simp [go_sem, *]⟩
      obtain ⟨⟨f1, f2, f3, f4⟩, f5⟩ := two_later hb2 (b := w.heap.size + 1 + 1 + 1 + 1) (u := .int .u64 rh) (v := .int .u64 rl) ⟨by simp [go_sem, *], by simp [go_sem, *], by simp [go_sem, *], by simp [go_sem, *]⟩
      have x2 := bthen (B := w.heap.size) (w := w) (by go_grown) (by go_size) hb2
      clear p1 p2 p3 p4 p5 q1 q2 q3 q4 q5 r1 r2 r3 r4 r5 s1 s2 s3 s4 s5 hb2
      go_wp2_with fail
      refine (double_any iq t0 t1 _).mono ?_
      rintro e w3 ⟨h3', l3, hl3, rfl, hb3⟩
      obtain ⟨⟨p1, p2, p3, p4⟩, p5⟩ := two_later hb3 (b := w.heap.size + 1) (u := .int .u64 h) (v := .int .u64 l1) ⟨by simp [go_sem, *], by simp [go_sem, *], by simp [go_sem, *], by simp [go_sem, *]⟩
      obtain ⟨⟨q1, q2, q3, q4⟩, q5⟩ := two_later hb3 (b := w.heap.size + 1 + 1) (u := .int .u64 dh) (v := .int .u64 dl) ⟨by simp [go_sem, *], by simp [go_sem, *], by simp [go_sem, *], by simp [go_sem, *]⟩
      obtain ⟨⟨r1, r2, r3, r4⟩, r5⟩ := two_later hb3 (b := w.heap.size + 1 + 1 + 1) (u := .int .u64 qh) (v := .int .u64 ql) ⟨by simp [go_sem, *], by simp [go_sem, *], by simp [go_sem, *], by simp [go_sem, *]⟩
      obtain ⟨⟨s1, s2, s3, s4⟩, s5⟩ := two_later hb3 (b := w.heap.size + 1 + 1 + 1 + 1) (u := .int .u64 h2') (v := .int .u64 l2) ⟨by simp [go_sem, *], by simp [go_sem, *], by simp [go_sem, *], by simp [go_sem, *]⟩
      have x3 := bthen (B := w.heap.size) (w := w) (by go_grown) (by go_size) hb3
      clear a1 a2 a3 a4 a5 d1 d2 d3 d4 d5 e1 e2 e3 e4 e5 f1 f2 f3 f4 f5 hb3
      go_wp2_with fail
      go_roundw
      case rel =>
        refine ⟨k + 1, by omega, by go_num, _, _, _, _, _, _, _, _, _, hl1, hl3, hl2, inv.step hlt2, ?_, ?_, ?_, ?_, by go_grown⟩
        · exact ⟨by simp [go_sem, *], by simp [go_sem, *], by simp [go_sem, *], by simp [go_sem, *]⟩
        · exact ⟨by simp [go_sem, *], by simp [go_sem, *], by simp [go_sem, *], by simp [go_sem, *]⟩
        · exact ⟨by simp [go_sem, *], by simp [go_sem, *], by simp [go_sem, *], by simp [go_sem, *]⟩
        · exact ⟨by simp [go_sem, *], by simp [go_sem, *], by simp [go_sem, *], by simp [go_sem, *]⟩
      case measure => simp [intOf]; omega
    · have hk2 : k = 128 := by omega
      subst hk2
      obtain ⟨z1, z2⟩ := inv.done
      go_wp2_with fail
      go_region
      go_wp2
      refine bodyPost_ret (v := .tuple #[.agg #[.int .u64 qh, .int .u64 ql], .agg #[.int .u64 rh, .int .u64 rl], .bool true]) (by simp [results, Try.results65, go_sem, *]) rfl ⟨_, _, _, _, by rw [z1]; exact iq, by rw [z2]; exact ir, rfl, ?_⟩
      go_grown
end Go.Proofs.Ytlpenfganhaclaa
