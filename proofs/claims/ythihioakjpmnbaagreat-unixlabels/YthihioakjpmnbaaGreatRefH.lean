/-
 The contracts of the reference numbers' trim, told more closely, and digit: the greatest digit with which the divisor is not more than what is left. No conditions beside the memory's own.
-/
import Derived.Test.YthihioakjpmnbaaGreatRefE
namespace Go.Proofs.YthihioakjpmnbaaGreat
open Go.RowKit

attribute [local go_sem ↓] Go.wp_at_zero Go.wp_at_succ
set_option maxRecDepth 100000 in
set_option maxHeartbeats 1000000 in
theorem bsub_any {n m : Nat} {a a' : Option Addr} {l l' c c' : Nat} {x y : Int} {w : World} (ha : BigIs n w (.slice a l c) x) (hb : BigIs m w (.slice a' l' c') y) (hn : n ≤ 10000000) (hm : m ≤ 10000000) :
  Calls Tryz.prog 28 #[.agg #[.bool (sg x), .slice a l c], .agg #[.bool (sg y), .slice a' l' c']] w fun e w' =>
   ∃ b k d, e = .returned (.agg #[.bool (sg (x - y)), .slice b k d]) ∧ BigIs (max n m + 1) w' (.slice b k d) (x - y) ∧ Below w.heap.size w w' := by
 have HA := hid ha
 have HB := hid hb
 clear ha hb
 obtain ⟨D, hD⟩ : ∃ D, Hid (D = x - y) := ⟨_, rfl⟩
 rw [← hD.out]
 have KS : Hid (∀ W1 W2 : World, Below W1.heap.size W1 W2 → (Below w.heap.size w W1 ∧ W1.cell? ⟨w.heap.size, 0, none⟩ = some (.bool (sg x)) ∧ W1.cell? ⟨w.heap.size, 1, none⟩ = some (.slice a l c) ∧ W1.cell? ⟨w.heap.size + 1, 0, none⟩ = some (.bool (sg y)) ∧ W1.cell? ⟨w.heap.size + 1, 1, none⟩ = some (.slice a' l' c')) → (Below w.heap.size w W2 ∧ W2.cell? ⟨w.heap.size, 0, none⟩ = some (.bool (sg x)) ∧ W2.cell? ⟨w.heap.size, 1, none⟩ = some (.slice a l c) ∧ W2.cell? ⟨w.heap.size + 1, 0, none⟩ = some (.bool (sg y)) ∧ W2.cell? ⟨w.heap.size + 1, 1, none⟩ = some (.slice a' l' c'))) := fun W1 W2 hb ⟨h0, h1, h2, h3, h4⟩ => ⟨bthen h0 h0.size hb, cell_later hb h1, cell_later hb h2, cell_later hb h3, cell_later hb h4⟩
 go_enter Tryz.func28, Tryz.ntmps28
 go_wp2_with fail
 go_region_held3 (fun w' => Below w.heap.size w w' ∧ w'.cell? ⟨w.heap.size, 0, none⟩ = some (.bool (sg x)) ∧ w'.cell? ⟨w.heap.size, 1, none⟩ = some (.slice a l c) ∧ w'.cell? ⟨w.heap.size + 1, 0, none⟩ = some (.bool (sg y)) ∧ w'.cell? ⟨w.heap.size + 1, 1, none⟩ = some (.slice a' l' c'))
  (first | exact KS.out _ _ hb2 (by assumption) | exact KS.out _ _ hb1 (by assumption) | exact KS.out _ _ (Below.drew (Below.refl _ _)) (by assumption) | (refine ⟨by go_grown, ?_, ?_, ?_, ?_⟩ <;> simp [go_sem, *]))
  (first
   | (go_at_call 46; refine (neg_any (HB.out.later (by go_grown))).mono ?_; rintro e w1 ⟨rfl, q1, hb1⟩; have X1 := bthen (B := w.heap.size) (w := w) (by go_grown) (by go_size) hb1; have X1s := X1.size; have R1 := hid (two_later hb1 (b := w.heap.size + 1 + 1) (u := .bool false) (v := .slice none 0 0) ⟨by simp [go_sem], by simp [go_sem], by simp [go_sem], by simp [go_sem]⟩); have Q1 := hid q1; clear q1)
   | (go_at_call 27; refine (badd_any (HA.out.later X1) Q1.out hn hm).mono ?_; rw [show x + -y = D from (hD.out.trans Int.sub_eq_add_neg).symm]; rintro e w2 ⟨b, k, d, rfl, q2, hb2⟩; have X2 := bthen X1 X1s hb2; have X2s := X2.size; have R2 := hid (two_later hb2 R1.out.1); obtain ⟨⟨r1, r2, r3, r4⟩, r5⟩ := two_later hb2 R1.out.1; have Q2 := hid q2; clear q2))
 go_wp2
 refine bodyPost_ret (v := .agg #[.bool (sg D), .slice b k d]) (by simp [results, Tryz.results28, go_sem, *]) rfl ⟨_, _, _, rfl, ?_, by go_grown⟩
 exact BigIs.put Q2.out R2.out.1 (noInt_bool _) (noInt_slice _ _ _) _ _

/-- 2 to a power, under a name. -/
def p2 (n : Nat) : Int := 2 ^ n
theorem p2_pos (n : Nat) : 0 < p2 n := by unfold p2; exact Int.pow_pos (by decide)
theorem pw_p2 (k : Nat) : pw k = p2 (16 * k) := by
 unfold pw p2; rw [Int.pow_mul]; rfl

theorem p2_add (i j : Nat) : p2 (i + j) = p2 i * p2 j := by unfold p2; rw [Int.pow_add]
theorem p2_small {r : Nat} (h : r < 16) : 0 < p2 r ∧ p2 r < 65536 := by
 have key : ∀ r : Fin 16, 0 < p2 r.val ∧ p2 r.val < 65536 := by decide
 exact key ⟨r, h⟩
/-- The digits of a power of 2. -/
def powDs (n : Nat) : List Int := (zeros (n / 16 + 1)).set (n / 16) (p2 (n % 16))
theorem powDs_len (n : Nat) : (powDs n).length = n / 16 + 1 := by unfold powDs; rw [List.length_set, zeros_len]
theorem powDs_ok (n : Nat) : Dig (powDs n) ∧ Canon (powDs n) ∧ val (powDs n) = p2 n := by
 obtain ⟨h0, h1⟩ := p2_small (r := n % 16) (by omega)
 refine ⟨dig_set (dig_zeros _) (by omega) h1, .inr ?_, ?_⟩
 ·rw [powDs_len]
  show dg (powDs n) (n / 16 + 1 - 1) ≠ 0
  rw [Nat.add_sub_cancel]
  unfold powDs
  rw [dg_set_at (by rw [zeros_len]; omega)]; omega
 ·unfold powDs
  rw [val_set (by rw [zeros_len]; omega), val_zeros, dg_zeros, pw_p2, Int.sub_zero, ← p2_add, Int.zero_add]
  congr 1; omega

set_option maxRecDepth 100000 in
set_option maxHeartbeats 1000000 in
theorem pow2_any (n : Nat) (hn : n ≤ 1000000) (w : World) :
  Calls Tryz.prog 34 #[.int .i64 (n : Int)] w fun e w' => ∃ a l c, e = .returned (.agg #[.bool (sg (p2 n)), .slice a l c]) ∧ BigIs (n / 16 + 1) w' (.slice a l c) (p2 n) ∧ Below w.heap.size w w' := by
 have hs := sg_pos (z := p2 n) (by have := p2_pos n; omega)
 obtain ⟨W', mk1, mk2, mk3, mk4⟩ := made (n / 16 + 1) (by omega) (w.alloc (.cells #[.bool false, .slice none 0 0] 36))
 have ec : ((n / 16 + 1 : Nat) : Int) = (n : Int) / 16 + 1 := by omega
 rw [ec] at mk1
 have z0 : (0 : Int) ≤ (n : Int) := by omega
 have z1 : (n : Int) ≤ 1000000 := by omega
 have tw := two_later mk3 (b := w.heap.size) (u := .bool false) (v := .slice none 0 0) ⟨by simp [go_sem], by simp [go_sem], by simp [go_sem], by simp [go_sem]⟩
 obtain ⟨⟨p1, p2', p3, p4⟩, p5⟩ := id tw
 have x1 := bthen (B := w.heap.size) (w := w) (by go_grown) (by go_size) mk3
 have zz1 := x1.size
 obtain ⟨c1, c2⟩ := mk2 (n / 16) (by omega)
 simp only [World.size_alloc] at c1 c2
 obtain ⟨s0, s1⟩ := p2_small (r := n % 16) (by omega)
 have hw : wrap64 (2 ^ (n % 16)) = p2 (n % 16) := IntWalk.wrap64_in _ ⟨by unfold p2 at s0; omega, by unfold p2 at s1; omega⟩
 have MK2 := hid mk2
 have TW := hid tw.1
 clear mk2 mk3 mk4 ec tw
 go_enter Tryz.func34, Tryz.ntmps34
 go_wp2_with fail
 refine bodyPost_ret (v := .agg #[.bool false, .slice (some ⟨w.heap.size + 1, 0, none⟩) (n / 16 + 1) (n / 16 + 1)]) (by simp [results, Tryz.results34, go_sem, *]) rfl ⟨_, _, _, by rw [hs], ?_, by go_grown⟩
 obtain ⟨o1, o2, o3⟩ := powDs_ok n
 refine BigIs.put ⟨powDs n, ⟨_, w.heap.size + 1, 0, n / 16 + 1, by rw [powDs_len], by rw [powDs_len]; omega, by unfold maxLen; omega, .inr rfl, fun j hj => ?_⟩, o1, o2, by rw [powDs_len]; omega, by rw [o3, ab_pos (by have := p2_pos n; omega)]⟩ (u0 := .bool false) (u1 := .slice none 0 0) ⟨?_, ?_, ?_, ?_⟩ (noInt_bool _) (noInt_slice _ _ _) _ _
 ·rw [powDs_len] at hj
  have hc := (MK2.out j hj).1
  simp only [World.size_alloc] at hc
  rw [Nat.zero_add]
  unfold powDs
  by_cases e : j = n / 16
  ·subst e; rw [World.cell?_setCell_same _ _ _ hc, dg_set_at (by rw [zeros_len]; omega)]
  ·rw [World.cell?_setCell_other _ _ _ _ (fun h => e (by simpa using h.symm)), dg_set_other e, dg_zeros]; exact hc
 ·simp [go_sem, *]
 ·simp [go_sem, *]
 ·simp [go_sem, *]
 ·simp [go_sem, *]

theorem word_b (n : Int) (h0 : 0 ≤ n) (h1 : n < 18446744073709551616) (w : World) :
  Calls Tryz.prog 35 #[.int .u64 n] w fun e w' => ∃ a l c, e = .returned (.agg #[.bool (sg n), .slice a l c]) ∧ BigIs 4 w' (.slice a l c) n ∧ Below w.heap.size w w' := by
 rw [sg_pos h0]; exact word_any n h0 h1 w
theorem pow2_lit (n : Nat) (z : Int) (hz : (n : Int) = z) (hn : n ≤ 1000000) (w : World) :
  Calls Tryz.prog 34 #[.int .i64 z] w fun e w' => ∃ a l c, e = .returned (.agg #[.bool (sg (p2 n)), .slice a l c]) ∧ BigIs (n / 16 + 1) w' (.slice a l c) (p2 n) ∧ Below w.heap.size w w' := by
 subst hz; exact pow2_any n hn w

end Go.Proofs.YthihioakjpmnbaaGreat

namespace Go.Proofs.YthihioakjpmnbaaGreat
open Go.RowKit

/-- A store into another block leaves the digits as they are. -/
theorem Digs.apart {w : World} {g off l c : Nat} {zs : List Int} (h : Digs w (.slice (some ⟨g, off, none⟩) l c) zs) {r o : Nat} (hn : g ≠ r) (x : Value) : Digs (w.setCell ⟨r, o, none⟩ x) (.slice (some ⟨g, off, none⟩) l c) zs := by
 obtain ⟨ao, b, off', cap, h1, h2, h3, h4, h5⟩ := h
 refine ⟨ao, b, off', cap, h1, h2, h3, h4, fun j hj => ?_⟩
 have e : ao = some ⟨g, off, none⟩ := by simp at h1; exact h1.1.symm
 have eb : b = g := by
  rcases h4 with h4 | h4
  ·rw [h4.1] at e; cases e
  ·rw [h4] at e; simp at e; exact e.1
 rw [World.cell?_setCell_other _ _ _ _ (fun e => hn (by have := congrArg Addr.block e; simp at this; omega))]
 exact h5 j hj

set_option maxRecDepth 100000 in
set_option maxHeartbeats 1000000 in
theorem trim_s {ao : Option Addr} {l cap : Nat} {zs : List Int} {w : World} (h : Digs w (.slice ao l cap) zs) (hl : zs.length ≤ 1000000000) :
  Calls Tryz.prog 55 #[.slice ao l cap] w fun e w' =>
   ∃ n : Nat, n ≤ zs.length ∧ (∀ j, n ≤ j → j < zs.length → dg zs j = 0) ∧ (n = 0 ∨ dg zs (n - 1) ≠ 0) ∧ e = .returned (.slice ao n cap) ∧ Digs w (.slice ao n cap) (zs.take n) ∧ w' = w := by
 obtain ⟨ao', b, off, cap', e, h2, h3, h4, h5⟩ := h
 obtain ⟨rfl, rfl, rfl⟩ : ao = ao' ∧ l = zs.length ∧ cap = cap' := by simpa using e
 clear e
 have hlen : (zs.length : Int) ≤ 1000000000 := by omega
 go_enter Tryz.func55, Tryz.ntmps55
 go_wp2
 go_loop [3] (fun t => ∃ n : Nat, n ≤ zs.length ∧ t = .int .i64 n ∧ Hid (∀ j, n ≤ j → j < zs.length → dg zs j = 0)) (fun t => (intOf t).toNat)
 case atStart => exact ⟨zs.length, Nat.le_refl _, rfl, fun j h1 h2 => by omega⟩
 case round =>
  obtain ⟨n, hn, rfl, hz⟩ := hrel
  have hcap : (zs.length : Int) ≤ cap := by omega
  by_cases h0 : n = 0
  ·subst h0
   go_wp2
   go_ret
   exact ⟨0, Nat.zero_le _, hz.out, .inl rfl, rfl, ⟨ao, b, off, cap, by simp, by simp, h3, h4, fun j hj => by simp at hj⟩, rfl⟩
  ·obtain ⟨m, rfl⟩ : ∃ m, n = m + 1 := ⟨n - 1, by omega⟩
   obtain rfl := some_of h4 (by omega)
   have hc := h5 m (by omega)
   have z1 : (0 : Int) ≤ (m : Int) + 1 - 1 := by omega
   have z2 : (m : Int) + 1 - 1 < zs.length := by omega
   have z3 : ((m : Int) + 1 - 1).toNat = m := by omega
   have H5 := hid h5
   clear h5
   by_cases hd : dg zs m = 0
   ·go_wp2
    go_round
    case rel => exact ⟨m, by omega, by go_num, fun j h1 h2 => by by_cases e : j = m; (subst e; exact hd); exact hz.out j (by omega) h2⟩
    case measure => simp [intOf]
   ·go_wp2
    go_ret
    exact ⟨m + 1, hn, hz.out, .inr (by simpa using hd), rfl, ⟨some ⟨b, off, none⟩, b, off, cap, by simp; omega, by simp; omega, h3, .inr rfl, fun j hj => by simp at hj; rw [dg_take (by omega)]; exact H5.out j (by omega)⟩, rfl⟩

theorem bmul_pp {n m : Nat} {a a' : Option Addr} {l l' c c' : Nat} {x y : Int} {w : World} (ha : BigIs n w (.slice a l c) x) (hb : BigIs m w (.slice a' l' c') y) (hx : 0 ≤ x) (hy : 0 ≤ y) (hn : n ≤ 10000000) (hm : m ≤ 10000000) :
  Calls Tryz.prog 33 #[.agg #[.bool false, .slice a l c], .agg #[.bool false, .slice a' l' c']] w fun e w' =>
   ∃ b k d, e = .returned (.agg #[.bool false, .slice b k d]) ∧ BigIs (n + m) w' (.slice b k d) (x * y) ∧ Below w.heap.size w w' := by
 have h := bmul_any ha hb hn hm
 rw [sg_pos hx, sg_pos hy, sg_pos (Int.mul_nonneg hx hy)] at h
 exact h
/-- The digits of a struct that is no variable. -/
theorem run_field_big (b : Bool) (a : Option Addr) (l c : Nat) (w : World) : (Instr.field 36 (.agg #[.bool b, .slice a l c]) 1).run Tryz.prog w = .ok (.slice a l c) w := by kernel_rfl
theorem Digs.big {w : World} {v : Value} {zs : List Int} (h : Digs w v zs) (hd : Dig zs) (hc : Canon zs) : BigIs zs.length w v (val zs) := ⟨zs, h, hd, hc, Nat.le_refl _, by rw [ab_pos (val_range hd).1]⟩

set_option maxRecDepth 100000 in
set_option maxHeartbeats 1000000 in
theorem digit_any {ar ad : Option Addr} {lr cr ld cd : Nat} {rs ys : List Int} {w : World} (hr : Digs w (.slice ar lr cr) rs) (hd : Digs w (.slice ad ld cd) ys) (r2 : Dig rs) (r3 : Canon rs) (y2 : Dig ys) (y3 : Canon ys)
  (hY : 0 < val ys) (hlt : val rs < 65536 * val ys) (hl1 : rs.length ≤ 1000000) (hl2 : ys.length ≤ 1000000) :
  Calls Tryz.prog 101 #[.slice ar lr cr, .slice ad ld cd] w fun e w' => e = .returned (.int .i64 (val rs / val ys)) ∧ Below w.heap.size w w' := by
 have HR := hid hr
 have HD := hid hd
 have R0 := (val_range r2).1
 clear hr hd
 obtain ⟨R, hR⟩ : ∃ R, Hid (R = val rs) := ⟨_, rfl⟩
 obtain ⟨Y, hYv⟩ : ∃ Y, Hid (Y = val ys) := ⟨_, rfl⟩
 rw [← hR.out] at hlt R0 ⊢
 rw [← hYv.out] at hlt hY ⊢
 have rf := run_field_big
 go_enter Tryz.func101, Tryz.ntmps101
 go_wp2
 go_loopw [5, 6] (fun t u wr => ∃ lo hi : Int, t = .int .i64 lo ∧ u = .int .i64 hi ∧ 0 ≤ lo ∧ lo ≤ hi ∧ hi ≤ 65535 ∧ Hid (lo * Y ≤ R ∧ R < (hi + 1) * Y) ∧ Below w.heap.size w wr) (fun t u _ => (intOf u - intOf t).toNat)
 case atStart => exact ⟨0, 65535, rfl, rfl, by omega, by omega, by omega, ⟨by omega, by omega⟩, Below.refl _ _⟩
 case round =>
  obtain ⟨lo, hi, rfl, rfl, h0, h1, h2, h3, hbw⟩ := hrel
  by_cases hlh : lo < hi
  ·obtain ⟨M, hM⟩ : ∃ M, Hid (M = (lo + hi + 1) / 2) := ⟨_, rfl⟩
   have hM1 : lo < M := by have := hM.out; omega
   have hM2 : M ≤ hi := by have := hM.out; omega
   have eM : (lo + hi + 1) / 2 = M := hM.out.symm
   obtain ⟨P, hP⟩ : ∃ P, Hid (P = Y * M) := ⟨_, rfl⟩
   have P0 : 0 ≤ P := by rw [hP.out]; exact Int.mul_nonneg (by omega) (by omega)
   by_cases hc : P ≤ R
   all_goals
    go_wp2_with fail
    refine (word_any M (by omega) (by omega) _).mono ?_
    rintro e w1 ⟨a1, l1, c1, rfl, q1, hb1⟩
    have x1 := bthen hbw hbw.size hb1
    have Q1 := hid q1
    clear q1
    go_wp2_with fail
    refine (bmul_pp (x := Y) ((Digs.big (HD.out.later x1) y2 y3).eq hYv.out.symm) Q1.out (by omega) (by omega) (by omega) (by decide)).mono ?_
    rw [← hP.out]
    rintro e w2 ⟨a2, l2, c2, rfl, q2, hb2⟩
    have x2 := bthen x1 x1.size hb2
    obtain ⟨ps, t1, t2, t3, t4, t5, rfl⟩ := q2.open
    rw [ab_pos P0] at t5
    have T1 := hid t1
    have T5 := hid t5
    clear q2 t1 t5
    go_wp2_with fail
    refine (cmps_any T1.out (HR.out.later x2) t2 r2 t3 r3 (by omega) (by omega)).mono ?_
    rw [T5.out, ← hR.out]
    rintro e w3 ⟨rfl, hb3⟩
    have x3 := bthen x2 x2.size hb3
   ·have hcm : cmpI P R ≤ 0 := by unfold cmpI; split <;> (try split) <;> omega
    go_wp2_with fail
    go_roundw
    case rel => exact ⟨M, hi, rfl, rfl, by omega, hM2, h2, ⟨by rw [Int.mul_comm, ← hP.out]; exact hc, h3.out.2⟩, x3⟩
    case measure => simp [intOf]; omega
   ·have hcm : ¬ cmpI P R ≤ 0 := by unfold cmpI; split <;> (try split) <;> omega
    go_wp2_with fail
    go_roundw
    case rel => exact ⟨lo, M - 1, rfl, by go_num, h0, by omega, by omega, ⟨h3.out.1, by rw [show M - 1 + 1 = M by omega, Int.mul_comm, ← hP.out]; omega⟩, x3⟩
    case measure => simp [intOf]; omega
  ·obtain rfl : lo = hi := by omega
   have hq : R / Y = lo := by
    obtain ⟨e1, e2⟩ := h3.out
    rw [Int.add_mul, Int.one_mul] at e2
    have : R = (R - lo * Y) + lo * Y := by omega
    rw [this, Int.add_mul_ediv_right _ _ (by omega), Int.ediv_eq_zero_of_lt (by omega) (by omega)]; omega
   go_wp2_with fail
   go_ret
   exact ⟨by first | rfl | (rw [hq]; rfl), hbw⟩
end Go.Proofs.YthihioakjpmnbaaGreat
