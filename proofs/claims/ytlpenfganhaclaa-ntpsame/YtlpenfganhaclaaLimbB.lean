/-
  The contracts of limb.double, limb.step and limb.Div: division bit by bit. No conditions.
-/
import Derived.Test.YtlpenfganhaclaaLimbA
import Derived.Deep.RegionHeld3
import Derived.BigQuiet
namespace Go.Proofs.Ytlpenfganhaclaa
open Go.RowKit

/-- The bit that has no room. -/
def dblOut (a b : Int) : Int := (2 * a + b) / 340282366920938463463374607431768211456
theorem or_low (x b : Int) (_hx0 : 0 ≤ x) (b0 : 0 ≤ b) (b1 : b ≤ 1) : bits .or .u64 (IntKind.u64.wrap (x * 2)) b = (x * 2) % 18446744073709551616 + b := by
  rw [IntKind.wrap_u64, u64_or _ _ (by omega) (by omega) (by omega) (by omega), nat_join 1 _ _ (by omega) (by omega)]
  omega
theorem double_is {ah al a b : Int} (ha : LimbIs ah al a) (b0 : 0 ≤ b) (b1 : b ≤ 1) :
    LimbIs (bits .or .u64 (IntKind.u64.wrap (ah * 2)) (al / 9223372036854775808)) (bits .or .u64 (IntKind.u64.wrap (al * 2)) b) ((2 * a + b) % 340282366920938463463374607431768211456) ∧ ah / 9223372036854775808 = dblOut a b := by
  obtain ⟨a1, a2, a3, a4, HA⟩ := ha
  rw [or_low ah _ a1 (by omega) (by omega), or_low al _ a3 b0 b1]
  unfold dblOut LimbIs
  refine ⟨⟨?_, ?_, ?_, ?_, ?_⟩, ?_⟩ <;> omega

set_option maxHeartbeats 400000 in
theorem double_any {ah al a b : Int} (ha : LimbIs ah al a) (b0 : 0 ≤ b) (b1 : b ≤ 1) (w : World) :
    Calls Try.prog 77 #[.agg #[.int .u64 ah, .int .u64 al], .int .u64 b] w fun e w' =>
      ∃ h l : Int, LimbIs h l ((2 * a + b) % 340282366920938463463374607431768211456) ∧ e = .returned (.tuple #[.agg #[.int .u64 h, .int .u64 l], .int .u64 (dblOut a b)]) ∧ Below w.heap.size w w' := by
  obtain ⟨k1, k2⟩ := double_is ha b0 b1
  have K2 : Hid (ah / 9223372036854775808 = dblOut a b) := k2
  clear k2
  obtain ⟨a1, a2, a3, a4, -⟩ := ha
  go_enter Try.func77, Try.ntmps77
  go_wp2
  go_region
  go_wp2
  go_returns
  exact ⟨_, _, k1, by rw [K2.out], by go_grown⟩

def stepR (r b d : Int) : Int := if 2 * r + b < d then 2 * r + b else 2 * r + b - d
def stepT (r b d : Int) : Int := if 2 * r + b < d then 0 else 1

set_option maxHeartbeats 400000 in
theorem step_any {rh rl r dh dl d b : Int} (hr : LimbIs rh rl r) (hd : LimbIs dh dl d) (b0 : 0 ≤ b) (b1 : b ≤ 1) (hlt : r < d) (w : World) :
    Calls Try.prog 78 #[.agg #[.int .u64 rh, .int .u64 rl], .int .u64 b, .agg #[.int .u64 dh, .int .u64 dl]] w fun e w' =>
      ∃ h l : Int, LimbIs h l (stepR r b d) ∧ e = .returned (.tuple #[.agg #[.int .u64 h, .int .u64 l], .int .u64 (stepT r b d)]) ∧ Below w.heap.size w w' := by
  obtain ⟨r0, r1⟩ := hr.range
  obtain ⟨d0, d1⟩ := hd.range
  by_cases c1 : 2 * r + b < d
  · have ho : dblOut r b = 0 := by unfold dblOut; omega
    have hcm : cmpI ((2 * r + b) % 340282366920938463463374607431768211456) d = -1 := by unfold cmpI; rw [if_pos (by omega)]
    have hR : stepR r b d = (2 * r + b) % 340282366920938463463374607431768211456 := by unfold stepR; rw [if_pos c1]; omega
    have hT : stepT r b d = 0 := by unfold stepT; rw [if_pos c1]
    rw [hR, hT]
    clear hR hT c1 hlt r0 r1 d0 d1
    go_enter Try.func78, Try.ntmps78
    go_wp2_with (first | (go_at_call 77; refine (double_any hr b0 b1 _).mono ?_; rintro e w1 ⟨h, l, hl, rfl, hb1⟩; obtain ⟨⟨p1, p2, p3, p4⟩, p5⟩ := two_later hb1 (b := w.heap.size + 1) (u := .int .u64 dh) (v := .int .u64 dl) ⟨by simp [go_sem], by simp [go_sem], by simp [go_sem], by simp [go_sem]⟩; obtain ⟨⟨q1, q2, q3, q4⟩, q5⟩ := two_later hb1 (b := w.heap.size + 1 + 1) (u := .int .u64 0) (v := .int .u64 0) ⟨by simp [go_sem], by simp [go_sem], by simp [go_sem], by simp [go_sem]⟩) | (go_at_call 76; refine (cmp_any hl hd _).mono ?_; rintro e w2 ⟨rfl, hb2⟩; obtain ⟨⟨r1, r2, r3, r4⟩, r5⟩ := two_later hb2 (b := w.heap.size + 1) (u := .int .u64 dh) (v := .int .u64 dl) ⟨by simp [go_sem, *], by simp [go_sem, *], by simp [go_sem, *], by simp [go_sem, *]⟩; obtain ⟨⟨s1, s2, s3, s4⟩, s5⟩ := two_later hb2 (b := w.heap.size + 1 + 1) (u := .int .u64 h) (v := .int .u64 l) ⟨by simp [go_sem, *], by simp [go_sem, *], by simp [go_sem, *], by simp [go_sem, *]⟩))
    refine bodyPost_ret (v := .tuple #[.agg #[.int .u64 h, .int .u64 l], .int .u64 0]) (by simp [results, Try.results78, go_sem, s1, s2]) rfl ⟨_, _, hl, rfl, ?_⟩
    have x1 := bthen (B := w.heap.size) (w := w) (by go_grown) (by go_size) hb1
    have x2 := bthen (B := w.heap.size) (w := w) (by go_grown) (by go_size) hb2
    go_grown
  · have hT : stepT r b d = 1 := by unfold stepT; rw [if_neg c1]
    have hR : stepR r b d = ((2 * r + b) % 340282366920938463463374607431768211456 - d) % 340282366920938463463374607431768211456 := by unfold stepR; rw [if_neg c1]; omega
    rw [hR, hT]
    clear hR hT
    by_cases c2 : 2 * r + b < 340282366920938463463374607431768211456
    · have ho : dblOut r b = 0 := by unfold dblOut; omega
      have hcm : 0 ≤ cmpI ((2 * r + b) % 340282366920938463463374607431768211456) d := by unfold cmpI; rw [if_neg (by omega)]; split <;> omega
      clear c1 hlt r0 r1 d0 d1 c2
      go_enter Try.func78, Try.ntmps78
      go_wp2_with (first | (go_at_call 77; refine (double_any hr b0 b1 _).mono ?_; rintro e w1 ⟨h, l, hl, rfl, hb1⟩; obtain ⟨⟨p1, p2, p3, p4⟩, p5⟩ := two_later hb1 (b := w.heap.size + 1) (u := .int .u64 dh) (v := .int .u64 dl) ⟨by simp [go_sem], by simp [go_sem], by simp [go_sem], by simp [go_sem]⟩; obtain ⟨⟨q1, q2, q3, q4⟩, q5⟩ := two_later hb1 (b := w.heap.size + 1 + 1) (u := .int .u64 0) (v := .int .u64 0) ⟨by simp [go_sem], by simp [go_sem], by simp [go_sem], by simp [go_sem]⟩) | (go_at_call 76; refine (cmp_any hl hd _).mono ?_; rintro e w2 ⟨rfl, hb2⟩; obtain ⟨⟨r1, r2, r3, r4⟩, r5⟩ := two_later hb2 (b := w.heap.size + 1) (u := .int .u64 dh) (v := .int .u64 dl) ⟨by simp [go_sem, *], by simp [go_sem, *], by simp [go_sem, *], by simp [go_sem, *]⟩; obtain ⟨⟨s1, s2, s3, s4⟩, s5⟩ := two_later hb2 (b := w.heap.size + 1 + 1) (u := .int .u64 h) (v := .int .u64 l) ⟨by simp [go_sem, *], by simp [go_sem, *], by simp [go_sem, *], by simp [go_sem, *]⟩) | (go_at_call 75; refine (sub_any hl hd _).mono ?_; rintro e w3 ⟨h3, l3, hl3, rfl, hb3⟩; obtain ⟨⟨t1, t2, t3, t4⟩, t5⟩ := two_later hb3 (b := w.heap.size + 1 + 1) (u := .int .u64 h) (v := .int .u64 l) ⟨by simp [go_sem, *], by simp [go_sem, *], by simp [go_sem, *], by simp [go_sem, *]⟩))
      refine bodyPost_ret (v := .tuple #[.agg #[.int .u64 h3, .int .u64 l3], .int .u64 1]) (by simp [results, Try.results78, go_sem, isSome_setCell, t1, t2]) rfl ⟨_, _, hl3, rfl, ?_⟩
      have x1 := bthen (B := w.heap.size) (w := w) (by go_grown) (by go_size) hb1
      have x2 := bthen (B := w.heap.size) (w := w) (by go_grown) (by go_size) hb2
      have x3 := bthen (B := w.heap.size) (w := w) (by go_grown) (by go_size) hb3
      go_grown
    · have ho : dblOut r b = 1 := by unfold dblOut; omega
      clear c1 hlt r0 r1 d0 d1 c2
      go_enter Try.func78, Try.ntmps78
      go_wp2_with (first | (go_at_call 77; refine (double_any hr b0 b1 _).mono ?_; rintro e w1 ⟨h, l, hl, rfl, hb1⟩; obtain ⟨⟨p1, p2, p3, p4⟩, p5⟩ := two_later hb1 (b := w.heap.size + 1) (u := .int .u64 dh) (v := .int .u64 dl) ⟨by simp [go_sem], by simp [go_sem], by simp [go_sem], by simp [go_sem]⟩; obtain ⟨⟨q1, q2, q3, q4⟩, q5⟩ := two_later hb1 (b := w.heap.size + 1 + 1) (u := .int .u64 0) (v := .int .u64 0) ⟨by simp [go_sem], by simp [go_sem], by simp [go_sem], by simp [go_sem]⟩) | (go_at_call 75; refine (sub_any hl hd _).mono ?_; rintro e w3 ⟨h3, l3, hl3, rfl, hb3⟩; obtain ⟨⟨t1, t2, t3, t4⟩, t5⟩ := two_later hb3 (b := w.heap.size + 1 + 1) (u := .int .u64 h) (v := .int .u64 l) ⟨by simp [go_sem, *], by simp [go_sem, *], by simp [go_sem, *], by simp [go_sem, *]⟩))
      refine bodyPost_ret (v := .tuple #[.agg #[.int .u64 h3, .int .u64 l3], .int .u64 1]) (by simp [results, Try.results78, go_sem, isSome_setCell, t1, t2]) rfl ⟨_, _, hl3, rfl, ?_⟩
      have x1 := bthen (B := w.heap.size) (w := w) (by go_grown) (by go_size) hb1
      have x3 := bthen (B := w.heap.size) (w := w) (by go_grown) (by go_size) hb3
      go_grown
end Go.Proofs.Ytlpenfganhaclaa
