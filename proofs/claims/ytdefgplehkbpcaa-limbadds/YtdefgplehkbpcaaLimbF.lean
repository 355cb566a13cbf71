/-
  The contract of the laws' own helper 'answers' (it answers true), and the walk of the law LimbTurns. No conditions.
-/
import Derived.Test.YtdefgplehkbpcaaLimbC
import Derived.Test.YtdefgplehkbpcaaLimbE
namespace Go.Proofs.Ytdefgplehkbpcaa
open Go.RowKit

theorem limb_0_0 : LimbIs 0 0 0 := by unfold LimbIs; omega
theorem limb_0_1 : LimbIs 0 1 1 := by unfold LimbIs; omega
theorem limb_0_2 : LimbIs 0 2 2 := by unfold LimbIs; omega
theorem limb_1_0 : LimbIs 1 0 18446744073709551616 := by unfold LimbIs; omega
theorem limb_half : LimbIs 9223372036854775808 0 ((1 * 340282366920938463463374607431768211456 + 1) / 2) := by unfold LimbIs; omega
theorem limb_rest : LimbIs 0 1 ((1 * 340282366920938463463374607431768211456 + 1) % 2) := by unfold LimbIs; omega
theorem limb_sq1 : LimbIs 0 1 (18446744073709551616 * 18446744073709551616 / 340282366920938463463374607431768211456) := by unfold LimbIs; omega
theorem limb_sq0 : LimbIs 0 0 (18446744073709551616 * 18446744073709551616 % 340282366920938463463374607431768211456) := by unfold LimbIs; omega

set_option maxRecDepth 100000 in
set_option maxHeartbeats 1000000 in
theorem answers_any (w : World) : Calls Try.prog 16 #[] w fun e w' => e = .returned (.bool true) ∧ Below w.heap.size w w' := by
  have qe := run_eql_limb
  go_enter Try.func16, Try.ntmps16
  go_wp2_with fail
  refine (div_yes limb_0_1 limb_0_1 limb_0_2 (by decide) _).mono ?_
  rintro e w1 ⟨qh, ql, rh, rl, hq, hr, rfl, hb1⟩
  have y1 := eqL_same hq limb_half
  have y2 := eqL_same hr limb_rest
  clear hq hr
  go_wp2_with fail
  refine (mul_any limb_1_0 limb_1_0 _).mono ?_
  rintro e w2 ⟨hh, hl, lh, ll, hq, hr, rfl, hb2⟩
  have y3 := eqL_same hq limb_sq1
  have y4 := eqL_same hr limb_sq0
  clear hq hr
  obtain ⟨⟨p1, p2, p3, p4⟩, p5⟩ := two_later hb2 (b := w1.heap.size) (u := .int .u64 qh) (v := .int .u64 ql) ⟨by simp [go_sem], by simp [go_sem], by simp [go_sem], by simp [go_sem]⟩
  obtain ⟨⟨q1, q2, q3, q4⟩, q5⟩ := two_later hb2 (b := w1.heap.size + 1) (u := .int .u64 rh) (v := .int .u64 rl) ⟨by simp [go_sem], by simp [go_sem], by simp [go_sem], by simp [go_sem]⟩
  have x1 := hb1.size
  have x2 := bthen (B := w.heap.size) (w := w) (by go_grown) (by go_size) hb2
  have x3 := x2.size
  clear hb2
  go_wp2_with fail
  go_ret
  exact ⟨rfl, by go_grown⟩

theorem cmp_neg (a b : Int) : ∃ k : Int, -1 ≤ k ∧ k ≤ 1 ∧ cmpI a b = k ∧ cmpI b a = -k := by
  refine ⟨cmpI a b, ?_, ?_, rfl, ?_⟩ <;> (unfold cmpI; split <;> (try split) <;> (try split) <;> omega)
theorem over_comm (a b : Int) : overB b a = overB a b := by unfold overB; rw [Int.add_comm]
theorem turn_back {a b : Int} (a0 : 0 ≤ a) (a1 : a < 340282366920938463463374607431768211456) (b0 : 0 ≤ b) (b1 : b < 340282366920938463463374607431768211456) :
    ((a + b) % 340282366920938463463374607431768211456 - b) % 340282366920938463463374607431768211456 = a ∧ lessB ((a + b) % 340282366920938463463374607431768211456) b = overB a b := by
  refine ⟨by omega, ?_⟩
  unfold lessB overB; rw [decide_eq_decide]; omega

set_option maxRecDepth 100000 in
set_option maxHeartbeats 1000000 in
theorem law_turns {ah al bh bl a b : Int} (ha : LimbIs ah al a) (hb : LimbIs bh bl b) (w : World) :
    Calls Try.prog 7 #[.agg #[.int .u64 ah, .int .u64 al], .agg #[.int .u64 bh, .int .u64 bl]] w fun e w' => e = .returned (.bool true) ∧ Below w.heap.size w w' := by
  have qe := run_eql_limb
  have oc := over_comm a b
  obtain ⟨tb, tl⟩ := turn_back ha.range.1 ha.range.2 hb.range.1 hb.range.2
  obtain ⟨k, k0, k1, cab, cba⟩ := cmp_neg a b
  have kw : IntKind.i64.wrap k = k := IntWalk.i64_in _ ⟨by omega, by omega⟩
  go_enter Try.func7, Try.ntmps7
  go_wp2_with fail
  refine (add_any ha hb _).mono ?_
  rintro e w1 ⟨sh, sl, hs, rfl, hb1⟩
  obtain ⟨⟨p1, p2, p3, p4⟩, p5⟩ := two_later hb1 (b := w.heap.size) (u := .int .u64 ah) (v := .int .u64 al) ⟨by simp [go_sem], by simp [go_sem], by simp [go_sem], by simp [go_sem]⟩
  obtain ⟨⟨q1, q2, q3, q4⟩, q5⟩ := two_later hb1 (b := w.heap.size + 1) (u := .int .u64 bh) (v := .int .u64 bl) ⟨by simp [go_sem], by simp [go_sem], by simp [go_sem], by simp [go_sem]⟩
  have x1 := bthen (B := w.heap.size) (w := w) (by go_grown) (by go_size) hb1
  have z1 := x1.size
  clear hb1
  go_wp2_with fail
  refine (add_any hb ha _).mono ?_
  rintro e w2 ⟨th, tl', ht, rfl, hb2⟩
  rw [Int.add_comm b a] at ht
  have y1 := eqL_same hs ht
  obtain ⟨⟨r1, r2, r3, r4⟩, r5⟩ := two_later hb2 (b := w.heap.size) (u := .int .u64 ah) (v := .int .u64 al) ⟨by simp [go_sem, *], by simp [go_sem, *], by simp [go_sem, *], by simp [go_sem, *]⟩
  obtain ⟨⟨s1, s2, s3, s4⟩, s5⟩ := two_later hb2 (b := w.heap.size + 1) (u := .int .u64 bh) (v := .int .u64 bl) ⟨by simp [go_sem, *], by simp [go_sem, *], by simp [go_sem, *], by simp [go_sem, *]⟩
  obtain ⟨⟨t1, t2, t3, t4⟩, t5⟩ := two_later hb2 (b := w1.heap.size) (u := .int .u64 sh) (v := .int .u64 sl) ⟨by simp [go_sem, *], by simp [go_sem, *], by simp [go_sem, *], by simp [go_sem, *]⟩
  have x2 := bthen (B := w.heap.size) (w := w) (by go_grown) (by go_size) hb2
  have z2 := x2.size
  clear hb2 p1 p2 p3 p4 p5 q1 q2 q3 q4 q5
  go_wp2_with fail
  refine (sub_any hs hb _).mono ?_
  rintro e w3 ⟨dh, dl, hd, rfl, hb3⟩
  rw [tb] at hd
  have y2 := eqL_same hd ha
  obtain ⟨⟨a1, a2, a3, a4⟩, a5⟩ := two_later hb3 (b := w.heap.size) (u := .int .u64 ah) (v := .int .u64 al) ⟨by simp [go_sem, *], by simp [go_sem, *], by simp [go_sem, *], by simp [go_sem, *]⟩
  obtain ⟨⟨b1, b2, b3, b4⟩, b5⟩ := two_later hb3 (b := w.heap.size + 1) (u := .int .u64 bh) (v := .int .u64 bl) ⟨by simp [go_sem, *], by simp [go_sem, *], by simp [go_sem, *], by simp [go_sem, *]⟩
  obtain ⟨⟨c1, c2, c3, c4⟩, c5⟩ := two_later hb3 (b := w1.heap.size) (u := .int .u64 sh) (v := .int .u64 sl) ⟨by simp [go_sem, *], by simp [go_sem, *], by simp [go_sem, *], by simp [go_sem, *]⟩
  obtain ⟨⟨d1, d2, d3, d4⟩, d5⟩ := two_later hb3 (b := w2.heap.size) (u := .int .u64 th) (v := .int .u64 tl') ⟨by simp [go_sem, *], by simp [go_sem, *], by simp [go_sem, *], by simp [go_sem, *]⟩
  have x3 := bthen (B := w.heap.size) (w := w) (by go_grown) (by go_size) hb3
  have z3 := x3.size
  clear hb3 r1 r2 r3 r4 r5 s1 s2 s3 s4 s5 t1 t2 t3 t4 t5 tb
  go_wp2_with fail
  obtain ⟨W, hW⟩ : ∃ W, W = w3.alloc (Obj.cells #[Value.int IntKind.u64 dh, Value.int IntKind.u64 dl] 24) := ⟨_, rfl⟩
  rw [← hW]
  have S0 : Below w.heap.size w W ∧ W.cell? ⟨w.heap.size, 0, none⟩ = some (.int .u64 ah) ∧ W.cell? ⟨w.heap.size, 1, none⟩ = some (.int .u64 al) ∧ W.cell? ⟨w.heap.size + 1, 0, none⟩ = some (.int .u64 bh) ∧ W.cell? ⟨w.heap.size + 1, 1, none⟩ = some (.int .u64 bl) ∧ W.cell? ⟨w1.heap.size, 0, none⟩ = some (.int .u64 sh) ∧ W.cell? ⟨w1.heap.size, 1, none⟩ = some (.int .u64 sl) ∧ W.cell? ⟨w2.heap.size, 0, none⟩ = some (.int .u64 th) ∧ W.cell? ⟨w2.heap.size, 1, none⟩ = some (.int .u64 tl') ∧ W.cell? ⟨w3.heap.size, 0, none⟩ = some (.int .u64 dh) ∧ W.cell? ⟨w3.heap.size, 1, none⟩ = some (.int .u64 dl) := by
    rw [hW]
    exact ⟨by go_grown, by simp [go_sem, *], by simp [go_sem, *], by simp [go_sem, *], by simp [go_sem, *], by simp [go_sem, *], by simp [go_sem, *], by simp [go_sem, *], by simp [go_sem, *], by simp [go_sem, *], by simp [go_sem, *]⟩
  have KS : Hid (∀ W1 W2 : World, Below W1.heap.size W1 W2 → (Below w.heap.size w W1 ∧ W1.cell? ⟨w.heap.size, 0, none⟩ = some (.int .u64 ah) ∧ W1.cell? ⟨w.heap.size, 1, none⟩ = some (.int .u64 al) ∧ W1.cell? ⟨w.heap.size + 1, 0, none⟩ = some (.int .u64 bh) ∧ W1.cell? ⟨w.heap.size + 1, 1, none⟩ = some (.int .u64 bl) ∧ W1.cell? ⟨w1.heap.size, 0, none⟩ = some (.int .u64 sh) ∧ W1.cell? ⟨w1.heap.size, 1, none⟩ = some (.int .u64 sl) ∧ W1.cell? ⟨w2.heap.size, 0, none⟩ = some (.int .u64 th) ∧ W1.cell? ⟨w2.heap.size, 1, none⟩ = some (.int .u64 tl') ∧ W1.cell? ⟨w3.heap.size, 0, none⟩ = some (.int .u64 dh) ∧ W1.cell? ⟨w3.heap.size, 1, none⟩ = some (.int .u64 dl)) → (Below w.heap.size w W2 ∧ W2.cell? ⟨w.heap.size, 0, none⟩ = some (.int .u64 ah) ∧ W2.cell? ⟨w.heap.size, 1, none⟩ = some (.int .u64 al) ∧ W2.cell? ⟨w.heap.size + 1, 0, none⟩ = some (.int .u64 bh) ∧ W2.cell? ⟨w.heap.size + 1, 1, none⟩ = some (.int .u64 bl) ∧ W2.cell? ⟨w1.heap.size, 0, none⟩ = some (.int .u64 sh) ∧ W2.cell? ⟨w1.heap.size, 1, none⟩ = some (.int .u64 sl) ∧ W2.cell? ⟨w2.heap.size, 0, none⟩ = some (.int .u64 th) ∧ W2.cell? ⟨w2.heap.size, 1, none⟩ = some (.int .u64 tl') ∧ W2.cell? ⟨w3.heap.size, 0, none⟩ = some (.int .u64 dh) ∧ W2.cell? ⟨w3.heap.size, 1, none⟩ = some (.int .u64 dl))) := fun W1 W2 hb ⟨h0, h1, h2, h3, h4, h5, h6, h7, h8, h9, h10⟩ => ⟨bthen h0 h0.size hb, cell_later hb h1, cell_later hb h2, cell_later hb h3, cell_later hb h4, cell_later hb h5, cell_later hb h6, cell_later hb h7, cell_later hb h8, cell_later hb h9, cell_later hb h10⟩
  clear hW a1 a2 a3 a4 a5 b1 b2 b3 b4 b5 c1 c2 c3 c4 c5 d1 d2 d3 d4 d5 x1 x2 x3 z1 z2 z3 tl oc hs ht hd
  go_region_held3 (fun w' => Below w.heap.size w w' ∧ w'.cell? ⟨w.heap.size, 0, none⟩ = some (.int .u64 ah) ∧ w'.cell? ⟨w.heap.size, 1, none⟩ = some (.int .u64 al) ∧ w'.cell? ⟨w.heap.size + 1, 0, none⟩ = some (.int .u64 bh) ∧ w'.cell? ⟨w.heap.size + 1, 1, none⟩ = some (.int .u64 bl) ∧ w'.cell? ⟨w1.heap.size, 0, none⟩ = some (.int .u64 sh) ∧ w'.cell? ⟨w1.heap.size, 1, none⟩ = some (.int .u64 sl) ∧ w'.cell? ⟨w2.heap.size, 0, none⟩ = some (.int .u64 th) ∧ w'.cell? ⟨w2.heap.size, 1, none⟩ = some (.int .u64 tl') ∧ w'.cell? ⟨w3.heap.size, 0, none⟩ = some (.int .u64 dh) ∧ w'.cell? ⟨w3.heap.size, 1, none⟩ = some (.int .u64 dl))
    (first | exact KS.out _ _ hb4 (by assumption) | exact KS.out _ _ (Below.drew (Below.refl _ _)) (by assumption))
    (first | (go_at_call 16; refine (answers_any _).mono ?_; rintro e w4 ⟨rfl, hb4⟩; have X4 := (KS.out _ _ hb4 (by assumption)).1) | (go_at_call 15; refine (cmp_any (by assumption) (by assumption) _).mono ?_; rintro e w4 ⟨rfl, hb4⟩; have X4 := (KS.out _ _ hb4 (by assumption)).1))
  go_wp2
  go_ret
  exact ⟨rfl, X4⟩
end Go.Proofs.Ytdefgplehkbpcaa
