/-
  The contracts of wide.MulDiv, Div and Int in the small logic (P2.1, P2.3, P2.4). No conditions.
-/
import Derived.Test.YtlpenfganhaclaaWdB
import Derived.Test.YtlpenfganhaclaaLimbC
namespace Go.Proofs.Ytlpenfganhaclaa
open Go.RowKit
set_option maxRecDepth 100000

theorem floor_up {P d q r : Int} (hd : 0 < d) (hq : P / d = q) (hr : P % d = r) (h0 : r ≠ 0) : -P / d = -(q + 1) ∧ -P % d = d - r := by
  rw [Int.ediv_emod_unique hd]
  have h1 := Int.emod_add_mul_ediv P d
  have h2 := Int.emod_nonneg P (by omega : d ≠ 0)
  have h3 := Int.emod_lt_of_pos P hd
  rw [hq, hr] at h1
  rw [hr] at h2 h3
  refine ⟨?_, by omega, by omega⟩
  rw [Int.mul_neg, Int.mul_add]; omega
theorem floor_even {P d q : Int} (hd : 0 < d) (hq : P / d = q) (hr : P % d = 0) : -P / d = -q ∧ -P % d = 0 := by
  rw [Int.ediv_emod_unique hd]
  have h1 := Int.emod_add_mul_ediv P d
  rw [hq, hr] at h1
  refine ⟨?_, by omega, by omega⟩
  rw [Int.mul_neg]; omega
theorem over_hi {P d : Int} (hd : 0 < d) (h : d ≤ P / 340282366920938463463374607431768211456) : 340282366920938463463374607431768211456 ≤ P / d := by
  rw [Int.le_ediv_iff_mul_le hd]; omega
/-- A quotient that the size's has no room for. -/
theorem over_both {P Z d : Int} (hd : 0 < d) (hZ : Z = P ∨ Z = -P) (h : 340282366920938463463374607431768211456 ≤ P / d) : inW (Z / d) = false ∧ fitV (Z / d) = 0 ∧ fitE (Z / d) = 2 := by
  apply inW_no
  rcases hZ with rfl | rfl
  · omega
  · by_cases hr : P % d = 0
    · rw [(floor_even hd rfl hr).1]; omega
    · rw [(floor_up hd rfl rfl hr).1]; omega
theorem mul_ab (a b : Int) : a * b = ab a * ab b ∨ a * b = -(ab a * ab b) := by
  by_cases h : sg a = sg b
  · exact .inl (mul_like h)
  · exact .inr (mul_unlike h)
/-- What is left, where the quotient fits. -/
def fitR (x y : Int) : Int := if inW x = true then y else 0
theorem fitR_yes {x y : Int} (h : inW x = true) : fitR x y = y := by unfold fitR; rw [if_pos h]
theorem fitR_no {x y : Int} (h : inW x = false) : fitR x y = 0 := by unfold fitR; rw [if_neg (by rw [h]; decide)]
theorem inW_quot {a d : Int} (a0 : -170141183460469231731687303715884105728 ≤ a) (a1 : a < 170141183460469231731687303715884105728) (h0 : 0 < d) : inW (a / d) = true := by
  unfold inW; rw [decide_eq_true_eq]
  have h1 := Int.emod_add_mul_ediv a d
  have h2 := Int.emod_nonneg a (by omega : d ≠ 0)
  have h3 := Int.emod_lt_of_pos a h0
  by_cases g : 0 ≤ a / d
  · have : 1 * (a / d) ≤ d * (a / d) := Int.mul_le_mul_of_nonneg_right (by omega) g
    omega
  · have h4 : d * (a / d + 1) ≤ 1 * (a / d + 1) := Int.mul_le_mul_of_nonpos_right (by omega) (by omega)
    rw [Int.mul_add, Int.one_mul, Int.mul_one] at h4
    omega
theorem wcmp_0 (d : Int) : cmpI d 0 ≤ 0 ↔ d ≤ 0 := by unfold cmpI; split <;> (try split) <;> omega
theorem c_ofb {h l n z : Int} (k : LimbIs h l n) (e : z = n) (_h0 : 0 ≤ z) (h1 : z < 170141183460469231731687303715884105728) (w : World) : Calls Try.prog 70 #[.agg #[.int .u64 h, .int .u64 l]] w fun e w' => ∃ r, e = .returned r ∧ IsW z r ∧ Below w.heap.size w w' := by
  subst e
  refine (ofBits_any k w).mono ?_
  rintro e w' ⟨_, i, rfl, hb⟩
  exact ⟨_, rfl, ⟨_, _, rfl, i.eq (by unfold sgn; rw [if_pos h1])⟩, hb⟩
theorem c_bitsd {h l z : Int} (k : WideIs h l z) (h0 : 0 < z) (w : World) : Calls Try.prog 66 #[.agg #[.int .i64 h, .int .u64 l]] w fun e w' => ∃ r, e = .returned r ∧ IsLb z r ∧ Below w.heap.size w w' := by
  have e : z % 340282366920938463463374607431768211456 = z := by have := k.range; omega
  have q := c_bits k w
  rw [e] at q
  exact q
theorem c_next {th tl lh ll dh dl T L D : Int} (hT : LimbIs th tl T) (hL : LimbIs lh ll L) (hD : LimbIs dh dl D) (hlt : L ≤ D) (ho : overB T 1 = false) (w : World) :
    Calls Try.prog 68 #[.agg #[.int .u64 th, .int .u64 tl], .agg #[.int .u64 lh, .int .u64 ll], .agg #[.int .u64 dh, .int .u64 dl]] w fun e w' => ∃ r, e = .returned r ∧
      (∃ h l h' l', r = .tuple #[.agg #[.int .u64 h, .int .u64 l], .agg #[.int .u64 h', .int .u64 l'], .bool true] ∧ LimbIs h l (T + 1) ∧ LimbIs h' l' (D - L)) ∧ Below w.heap.size w w' := by
  have e : (T + 1) % 340282366920938463463374607431768211456 = T + 1 := by unfold overB at ho; rw [decide_eq_false_iff_not] at ho; have := hT.range; omega
  refine (nextDown_any hT hL hD hlt w).mono ?_
  rintro _ w' ⟨_, _, _, _, i, j, rfl, hb⟩
  rw [ho]
  exact ⟨_, rfl, ⟨_, _, _, _, rfl, i.eq e, j⟩, hb⟩
theorem c_next_no {th tl lh ll dh dl T L D : Int} (hT : LimbIs th tl T) (hL : LimbIs lh ll L) (hD : LimbIs dh dl D) (hlt : L ≤ D) (ho : overB T 1 = true) (w : World) :
    Calls Try.prog 68 #[.agg #[.int .u64 th, .int .u64 tl], .agg #[.int .u64 lh, .int .u64 ll], .agg #[.int .u64 dh, .int .u64 dl]] w fun e w' => ∃ r, e = .returned r ∧
      (∃ h l h' l' : Int, r = .tuple #[.agg #[.int .u64 h, .int .u64 l], .agg #[.int .u64 h', .int .u64 l'], .bool false]) ∧ Below w.heap.size w w' := by
  refine (nextDown_any hT hL hD hlt w).mono ?_
  rintro _ w' ⟨_, _, _, _, i, j, rfl, hb⟩
  rw [ho]
  exact ⟨_, rfl, ⟨_, _, _, _, rfl⟩, hb⟩
theorem c_ldiv_no {hh hl lh ll dh dl hi lo d : Int} (h1 : LimbIs hh hl hi) (h2 : LimbIs lh ll lo) (h3 : LimbIs dh dl d) (hge : d ≤ hi) (w : World) :
    Calls Try.prog 65 #[.agg #[.int .u64 hh, .int .u64 hl], .agg #[.int .u64 lh, .int .u64 ll], .agg #[.int .u64 dh, .int .u64 dl]] w fun e w' => ∃ r, e = .returned r ∧ r = .tuple #[.agg #[.int .u64 0, .int .u64 0], .agg #[.int .u64 0, .int .u64 0], .bool false] ∧ Below w.heap.size w w' := by
  refine (div_no h1 h2 h3 hge w).mono ?_
  rintro e w' ⟨rfl, hb⟩
  exact ⟨_, rfl, rfl, hb⟩
theorem c_ldiv {hh hl lh ll dh dl d P : Int} (h1 : LimbIs hh hl (P / 340282366920938463463374607431768211456)) (h2 : LimbIs lh ll (P % 340282366920938463463374607431768211456)) (h3 : LimbIs dh dl d) (_h0 : 0 ≤ P) (hlt : P / 340282366920938463463374607431768211456 < d) (w : World) :
    Calls Try.prog 65 #[.agg #[.int .u64 hh, .int .u64 hl], .agg #[.int .u64 lh, .int .u64 ll], .agg #[.int .u64 dh, .int .u64 dl]] w fun e w' => ∃ r, e = .returned r ∧ (∃ q p, r = .tuple #[q, p, .bool true] ∧ IsLb (P / d) q ∧ IsLb (P % d) p) ∧ Below w.heap.size w w' := by
  have e : P / 340282366920938463463374607431768211456 * 340282366920938463463374607431768211456 + P % 340282366920938463463374607431768211456 = P := by omega
  have q := div_yes h1 h2 h3 hlt w
  rw [e] at q
  refine q.mono ?_
  rintro _ w' ⟨_, _, _, _, i, j, rfl, hb⟩
  exact ⟨_, rfl, ⟨_, _, rfl, ⟨_, _, rfl, i⟩, ⟨_, _, rfl, j⟩⟩, hb⟩
theorem c_wof1 (w : World) : Calls Try.prog 21 #[.int .i64 1] w fun e w' => ∃ u, e = .returned u ∧ IsW 1 u ∧ Below w.heap.size w w' := by
  refine (wof_any 1 (by decide) (by decide) w).mono ?_
  rintro e w' ⟨h, l, i, rfl, hb⟩
  exact ⟨_, rfl, ⟨_, _, rfl, i⟩, hb⟩
theorem wmuldiv_zero {ah al bh bl dh dl d : Int} (hd : WideIs dh dl d) (h0 : d ≤ 0) (w : World) :
    Calls Try.prog 48 #[.agg #[.int .i64 ah, .int .u64 al], .agg #[.int .i64 bh, .int .u64 bl], .agg #[.int .i64 dh, .int .u64 dl]] w fun e w' => e = .returned (.tuple #[.agg #[.int .i64 0, .int .u64 0], .agg #[.int .i64 0, .int .u64 0], .int .i64 3]) ∧ Below w.heap.size w w' := by
  refine calls_Wp (args := [_, _, _]) (n := 80) Try.func48 rfl rfl (by simp) ?_
  repeat refine Wp.seq ?_
  refine wR [0, 1, 2, 3, 4, 5] ?_
  refine sE (fun _ _ _ _ => ?_)
  refine sE (fun _ _ _ _ => ?_)
  refine sE (fun _ _ _ _ => ?_)
  refine sO (fun _ _ _ _ => ?_)
  refine sO (fun _ _ _ _ => ?_)
  refine sZ 1 ?_
  repeat refine Wp.seq ?_
  refine wQ 1 ?_
  refine s_val rfl rfl rfl rfl (v := .agg #[.int .i64 0, .int .u64 0]) (fun _ => by kernel_rfl) ?_
  refine s_call rfl rfl rfl (by kernel_rfl) rfl ?_
  refine (wcmp_any hd wide_0 _).mono ?_
  rintro e w1 ⟨rfl, b1⟩
  refine ⟨_, rfl, b1, ?_⟩
  refine s_cmp (c := true) rfl rfl rfl rfl rfl (congrArg some (decide_eq_true ((wcmp_0 d).2 h0))) ?_
  refine vOrd_nil ?_
  refine Wp.condT rfl rfl ?_
  repeat refine Wp.seq ?_
  refine wR [0, 1, 2, 3, 4] ?_
  refine s_val rfl rfl rfl rfl (v := .agg #[.int .i64 0, .int .u64 0]) (fun _ => by kernel_rfl) ?_
  refine s_val rfl rfl rfl rfl (v := .agg #[.int .i64 0, .int .u64 0]) (fun _ => by kernel_rfl) ?_
  refine sS (fun _ _ _ => ?_)
  refine sS (fun _ _ _ => ?_)
  refine sZ 1 ?_
  exact Wp.ret ⟨.inr rfl, fun l => ⟨_, ⟨_, _, _, res_cell rfl rfl rfl rfl, res_cell rfl rfl rfl rfl, res_tmp (P := Try.prog) rfl rfl, rfl⟩, rfl, l⟩⟩
set_option maxHeartbeats 8000000 in
theorem wmuldiv_any {ah al bh bl dh dl a b d : Int} (ha : WideIs ah al a) (hb : WideIs bh bl b) (hd : WideIs dh dl d) (h0 : 0 < d) (w : World) :
    Calls Try.prog 48 #[.agg #[.int .i64 ah, .int .u64 al], .agg #[.int .i64 bh, .int .u64 bl], .agg #[.int .i64 dh, .int .u64 dl]] w fun e w' => ∃ qh ql rh rl : Int, WideIs qh ql (fitV (a * b / d)) ∧ WideIs rh rl (fitR (a * b / d) (a * b % d)) ∧ e = .returned (.tuple #[.agg #[.int .i64 qh, .int .u64 ql], .agg #[.int .i64 rh, .int .u64 rl], .int .i64 (fitE (a * b / d))]) ∧ Below w.heap.size w w' := by
  obtain ⟨P, hP⟩ : ∃ P, P = ab a * ab b := ⟨_, rfl⟩
  have P0 : 0 ≤ P := by rw [hP]; exact Int.mul_nonneg (ab_nonneg a) (ab_nonneg b)
  have r0 := Int.emod_nonneg (a * b) (by omega : d ≠ 0)
  have r1 := Int.emod_lt_of_pos (a * b) h0
  have p1 := Int.emod_lt_of_pos P h0
  refine calls_Wp (args := [_, _, _]) (n := 80) Try.func48 rfl rfl (by simp) ?_
  repeat refine Wp.seq ?_
  refine wR [0, 1, 2, 3, 4, 5] ?_
  refine sE (fun _ _ _ _ => ?_)
  refine sE (fun _ _ _ _ => ?_)
  refine sE (fun _ _ _ _ => ?_)
  refine sO (fun _ _ _ _ => ?_)
  refine sO (fun _ _ _ _ => ?_)
  refine sZ 1 ?_
  repeat refine Wp.seq ?_
  refine wQ 1 ?_
  refine s_val rfl rfl rfl rfl (v := .agg #[.int .i64 0, .int .u64 0]) (fun _ => by kernel_rfl) ?_
  refine s_call rfl rfl rfl (by kernel_rfl) rfl ?_
  refine (wcmp_any hd wide_0 _).mono ?_
  rintro e w1 ⟨rfl, b1⟩
  refine ⟨_, rfl, b1, ?_⟩
  refine s_cmp (c := false) rfl rfl rfl rfl rfl (congrArg some (decide_eq_false (fun q => by have := (wcmp_0 d).1 q; omega))) ?_
  refine vOrd_nil ?_
  refine Wp.condF rfl rfl (Wp.skip ?_)
  repeat refine Wp.seq ?_
  refine wD [0, 2, 8, 9, 1, 3, 4, 5, 6, 7, 10, 11] [772, 771, 767, 511, 0, 0, 0, 0, 959, 1919, 0, 0] (fun | 1 => fun v _ => IsLb (ab a) v | 3 => fun v _ => IsLb (ab b) v | 4 => fun v _ => ∃ hi lo, v = .tuple #[hi, lo] ∧ IsLb (ab a * ab b / 340282366920938463463374607431768211456) hi ∧ IsLb (ab a * ab b % 340282366920938463463374607431768211456) lo | _ => fun _ _ => True) (fun _ _ => ?_)
  refine sQ 2 ?_
  refine sO (fun _ _ _ _ => ?_)
  refine sO (fun _ _ _ _ => ?_)
  refine sD (fun wc lc => c_size ha wc) ?_
  rintro v v1 v2 i1 - -
  refine sD (fun wc lc => c_size hb wc) ?_
  rintro v v3 v4 i2 - -
  refine sD (fun wc lc => c_lmul i1 i2 wc) ?_
  rintro v v5 v6 ⟨hi, lo, rfl, ⟨hh, hl, rfl, i3⟩, ⟨lh, ll, rfl, i4⟩⟩ - -
  refine sQ 3 ?_
  refine sS (fun _ _ _ => ?_)
  refine sS (fun _ _ _ => ?_)
  refine vOrd_nil ?_
  rw [← hP] at i3 i4
  by_cases g0 : d ≤ P / 340282366920938463463374607431768211456
  · skip
    repeat refine Wp.seq ?_
    refine wD [0, 1, 2, 9, 10, 3, 4, 5, 6, 7, 8, 11, 12, 13] [1550, 1549, 1539, 1535, 1023, 0, 0, 0, 1983, 3967, 7935, 0, 0, 0] (fun | 3 => fun v _ => IsLb d v | 4 => fun v _ => v = .tuple #[.agg #[.int .u64 0, .int .u64 0], .agg #[.int .u64 0, .int .u64 0], .bool false] | _ => fun _ _ => True) (fun _ _ => ?_)
    refine sQ 3 ?_
    refine sO (fun _ _ _ _ => ?_)
    refine sO (fun _ _ _ _ => ?_)
    refine sD (fun wc lc => c_bitsd hd h0 wc) ?_
    rintro v v7 v8 ⟨eh, el, rfl, ie⟩ - -
    refine sD (fun wc lc => c_ldiv_no i3 i4 ie g0 wc) ?_
    rintro v v9 v10 rfl - -
    refine sQ 4 ?_
    refine sS (fun _ _ _ => ?_)
    refine sS (fun _ _ _ => ?_)
    refine sZ 1 ?_
    repeat refine Wp.seq ?_
    refine wZ ?_
    refine Wp.condT rfl rfl ?_
    obtain ⟨fw, fv, fe⟩ := over_both (P := P) h0 (by rw [hP]; exact mul_ab a b) (over_hi h0 g0)
    have fr : fitR (a * b / d) (a * b % d) = 0 := fitR_no fw
    repeat refine Wp.seq ?_
    refine wR [0, 1, 2, 3, 4] ?_
    refine s_val rfl rfl rfl rfl (v := .agg #[.int .i64 0, .int .u64 0]) (fun _ => by kernel_rfl) ?_
    refine s_val rfl rfl rfl rfl (v := .agg #[.int .i64 0, .int .u64 0]) (fun _ => by kernel_rfl) ?_
    refine sS (fun _ _ _ => ?_)
    refine sS (fun _ _ _ => ?_)
    refine sZ 1 ?_
    exact Wp.ret ⟨.inr rfl, fun l => ⟨_, ⟨_, _, _, res_cell rfl rfl rfl rfl, res_cell rfl rfl rfl rfl, res_tmp (P := Try.prog) rfl rfl, rfl⟩, _, _, _, _, wide_0.eq fv.symm, wide_0.eq fr.symm, by rw [fe], l⟩⟩
  repeat refine Wp.seq ?_
  refine wD [0, 1, 2, 9, 10, 3, 4, 5, 6, 7, 8, 11, 12, 13] [1550, 1549, 1539, 1535, 1023, 0, 0, 0, 1983, 3967, 7935, 0, 0, 0] (fun | 3 => fun v _ => IsLb d v | 4 => fun v _ => ∃ q p, v = .tuple #[q, p, .bool true] ∧ IsLb (P / d) q ∧ IsLb (P % d) p | _ => fun _ _ => True) (fun _ _ => ?_)
  refine sQ 3 ?_
  refine sO (fun _ _ _ _ => ?_)
  refine sO (fun _ _ _ _ => ?_)
  refine sD (fun wc lc => c_bitsd hd h0 wc) ?_
  rintro v v7 v8 ⟨eh, el, rfl, ie⟩ - -
  refine s_callD rfl rfl rfl (by kernel_rfl) rfl (fun wc lc => c_ldiv i3 i4 ie P0 (by omega) wc) ?_
  rintro v v9 v10 ⟨q, p, rfl, ⟨th, tl, rfl, iT⟩, ⟨lfh, lfl, rfl, iL⟩⟩ - -
  refine sQ 4 ?_
  refine sS (fun _ _ _ => ?_)
  refine sS (fun _ _ _ => ?_)
  refine sZ 1 ?_
  repeat refine Wp.seq ?_
  refine wZ ?_
  refine Wp.condF rfl rfl (Wp.skip ?_)
  cases HA : sg a
  · skip
    cases HB : sg b
    · skip
      have EP : a * b = P := by rw [hP]; exact mul_like (by rw [HA, HB])
      repeat refine Wp.seq ?_
      refine wD [0, 2, 1, 3, 4, 5] [4, 3, 0, 0, 0, 0] (fun | 1 => fun v _ => v = .bool false | 3 => fun v _ => v = .bool false | _ => fun _ _ => True) (fun _ _ => ?_)
      refine sQ 2 ?_
      refine sD (fun wc lc => c_below ha HA wc) ?_
      rintro v x1 x2 rfl - -
      refine sD (fun wc lc => c_below hb HB wc) ?_
      rintro v x3 x4 rfl - -
      refine s_eqv (c := false) rfl rfl rfl rfl rfl (fun _ => by kernel_rfl) (fun _ => by kernel_rfl) ?_
      refine sZ 1 ?_
      repeat refine Wp.seq ?_
      refine wZ ?_
      refine Wp.condF rfl rfl (Wp.skip ?_)
      have hQ : a * b / d = P / d := by rw [EP]
      have hR : a * b % d = P % d := by rw [EP]
      repeat refine Wp.seq ?_
      refine wQ 2 ?_
      refine s_call rfl rfl rfl (by kernel_rfl) rfl ?_
      refine (signed_p iT _).mono ?_
      rintro e w7 ⟨qh, ql, iq, rfl, b7⟩
      refine ⟨_, rfl, b7, ?_⟩
      refine sQ 3 ?_
      refine sS (fun _ _ _ => ?_)
      refine sZ 1 ?_
      rw [← hQ] at iq ⊢
      repeat refine Wp.seq ?_
      refine wR [0, 1] ?_
      cases hw : inW (a * b / d)
      · skip
        have fv : fitV (a * b / d) = 0 := by unfold fitV; simp [hw]
        have fe : fitE (a * b / d) = 2 := by unfold fitE; simp [hw]
        have fr : fitR (a * b / d) (a * b % d) = 0 := fitR_no hw
        rw [fe]
        refine sM ?_
        refine s_cmp (c := true) rfl rfl rfl rfl rfl rfl ?_
        refine vOrd_nil ?_
        refine Wp.condT rfl rfl ?_
        repeat refine Wp.seq ?_
        refine wR [0, 1, 2, 3, 4, 5] ?_
        refine s_val rfl rfl rfl rfl (v := .agg #[.int .i64 0, .int .u64 0]) (fun _ => by kernel_rfl) ?_
        refine s_val rfl rfl rfl rfl (v := .agg #[.int .i64 0, .int .u64 0]) (fun _ => by kernel_rfl) ?_
        refine sM ?_
        refine sS (fun _ _ _ => ?_)
        refine sS (fun _ _ _ => ?_)
        refine sZ 1 ?_
        exact Wp.ret ⟨.inr rfl, fun l => ⟨_, ⟨_, _, _, res_cell rfl rfl rfl rfl, res_cell rfl rfl rfl rfl, res_tmp (P := Try.prog) rfl rfl, rfl⟩, _, _, _, _, wide_0.eq fv.symm, wide_0.eq fr.symm, rfl, l⟩⟩
      · skip
        have fv : fitV (a * b / d) = a * b / d := by unfold fitV; simp [hw]
        have fe : fitE (a * b / d) = 0 := by unfold fitE; simp [hw]
        have fr : fitR (a * b / d) (a * b % d) = a * b % d := fitR_yes hw
        rw [fe]
        refine sM ?_
        refine s_cmp (c := false) rfl rfl rfl rfl rfl rfl ?_
        refine vOrd_nil ?_
        refine Wp.condF rfl rfl (Wp.skip ?_)
        repeat refine Wp.seq ?_
        refine wD [0, 1, 2, 3, 4, 5] [6, 0, 0, 0, 0, 0] (fun | 2 => fun v _ => IsW (a * b % d) v | _ => fun _ _ => True) (fun _ _ => ?_)
        refine sQ 2 ?_
        refine s_callD rfl rfl rfl (by kernel_rfl) rfl (fun wc lc => c_ofb iL hR r0 (by have := hd.range; omega) wc) ?_
        rintro v y1 y2 ⟨rh, rl, rfl, ir⟩ - -
        refine sS (fun _ _ _ => ?_)
        refine sS (fun _ _ _ => ?_)
        refine sZ 1 ?_
        exact Wp.ret ⟨.inr rfl, fun l => ⟨_, ⟨_, _, _, res_cell rfl rfl rfl rfl, res_cell rfl rfl rfl rfl, res_tmp (P := Try.prog) rfl rfl, rfl⟩, _, _, _, _, iq, ir.eq fr.symm, rfl, l⟩⟩
    · skip
      have EP : a * b = -P := by rw [hP]; exact mul_unlike (by rw [HA, HB]; decide)
      repeat refine Wp.seq ?_
      refine wD [0, 2, 1, 3, 4, 5] [4, 3, 0, 0, 0, 0] (fun | 1 => fun v _ => v = .bool false | 3 => fun v _ => v = .bool true | _ => fun _ _ => True) (fun _ _ => ?_)
      refine sQ 2 ?_
      refine sD (fun wc lc => c_below ha HA wc) ?_
      rintro v x1 x2 rfl - -
      refine sD (fun wc lc => c_below hb HB wc) ?_
      rintro v x3 x4 rfl - -
      refine s_eqv (c := true) rfl rfl rfl rfl rfl (fun _ => by kernel_rfl) (fun _ => by kernel_rfl) ?_
      refine sZ 1 ?_
      repeat refine Wp.seq ?_
      refine wQ 3 ?_
      refine s_val rfl rfl rfl rfl (v := .agg #[.int .u64 0, .int .u64 0]) (fun _ => by kernel_rfl) ?_
      by_cases hz : P % d = 0
      · skip
        refine s_eqv (c := false) rfl rfl rfl rfl rfl (fun _ => by kernel_rfl) (fun w => by rw [run_neq_limb, eqL_same iL (limb_0.eq hz.symm)]; rfl) ?_
        refine sZ 1 ?_
        refine Wp.condF rfl rfl (Wp.skip ?_)
        have hQ : a * b / d = -(P / d) := by rw [EP]; exact (floor_even h0 rfl hz).1
        have hR : a * b % d = P % d := by rw [EP, hz]; exact (floor_even h0 rfl hz).2
        repeat refine Wp.seq ?_
        refine wQ 2 ?_
        refine s_call rfl rfl rfl (by kernel_rfl) rfl ?_
        refine (signed_m iT _).mono ?_
        rintro e w7 ⟨qh, ql, iq, rfl, b7⟩
        refine ⟨_, rfl, b7, ?_⟩
        refine sQ 3 ?_
        refine sS (fun _ _ _ => ?_)
        refine sZ 1 ?_
        rw [← hQ] at iq ⊢
        repeat refine Wp.seq ?_
        refine wR [0, 1] ?_
        cases hw : inW (a * b / d)
        · skip
          have fv : fitV (a * b / d) = 0 := by unfold fitV; simp [hw]
          have fe : fitE (a * b / d) = 2 := by unfold fitE; simp [hw]
          have fr : fitR (a * b / d) (a * b % d) = 0 := fitR_no hw
          rw [fe]
          refine sM ?_
          refine s_cmp (c := true) rfl rfl rfl rfl rfl rfl ?_
          refine vOrd_nil ?_
          refine Wp.condT rfl rfl ?_
          repeat refine Wp.seq ?_
          refine wR [0, 1, 2, 3, 4, 5] ?_
          refine s_val rfl rfl rfl rfl (v := .agg #[.int .i64 0, .int .u64 0]) (fun _ => by kernel_rfl) ?_
          refine s_val rfl rfl rfl rfl (v := .agg #[.int .i64 0, .int .u64 0]) (fun _ => by kernel_rfl) ?_
          refine sM ?_
          refine sS (fun _ _ _ => ?_)
          refine sS (fun _ _ _ => ?_)
          refine sZ 1 ?_
          exact Wp.ret ⟨.inr rfl, fun l => ⟨_, ⟨_, _, _, res_cell rfl rfl rfl rfl, res_cell rfl rfl rfl rfl, res_tmp (P := Try.prog) rfl rfl, rfl⟩, _, _, _, _, wide_0.eq fv.symm, wide_0.eq fr.symm, rfl, l⟩⟩
        · skip
          have fv : fitV (a * b / d) = a * b / d := by unfold fitV; simp [hw]
          have fe : fitE (a * b / d) = 0 := by unfold fitE; simp [hw]
          have fr : fitR (a * b / d) (a * b % d) = a * b % d := fitR_yes hw
          rw [fe]
          refine sM ?_
          refine s_cmp (c := false) rfl rfl rfl rfl rfl rfl ?_
          refine vOrd_nil ?_
          refine Wp.condF rfl rfl (Wp.skip ?_)
          repeat refine Wp.seq ?_
          refine wD [0, 1, 2, 3, 4, 5] [6, 0, 0, 0, 0, 0] (fun | 2 => fun v _ => IsW (a * b % d) v | _ => fun _ _ => True) (fun _ _ => ?_)
          refine sQ 2 ?_
          refine s_callD rfl rfl rfl (by kernel_rfl) rfl (fun wc lc => c_ofb iL hR r0 (by have := hd.range; omega) wc) ?_
          rintro v y1 y2 ⟨rh, rl, rfl, ir⟩ - -
          refine sS (fun _ _ _ => ?_)
          refine sS (fun _ _ _ => ?_)
          refine sZ 1 ?_
          exact Wp.ret ⟨.inr rfl, fun l => ⟨_, ⟨_, _, _, res_cell rfl rfl rfl rfl, res_cell rfl rfl rfl rfl, res_tmp (P := Try.prog) rfl rfl, rfl⟩, _, _, _, _, iq, ir.eq fr.symm, rfl, l⟩⟩
      · skip
        refine s_eqv (c := true) rfl rfl rfl rfl rfl (fun _ => by kernel_rfl) (fun w => by rw [run_neq_limb, eqL_other iL limb_0 hz]; rfl) ?_
        refine sZ 1 ?_
        refine Wp.condT rfl rfl ?_
        obtain ⟨up1, up2⟩ := floor_up h0 (P := P) rfl rfl hz
        cases ho : overB (P / d) 1
        · skip
          repeat refine Wp.seq ?_
          refine wD [0, 1, 2, 3, 4, 5, 6, 7, 8, 9, 10, 11] [14, 13, 0, 0, 0, 0, 447, 895, 1791, 0, 0, 0] (fun | 3 => fun v _ => IsLb d v | 4 => fun v _ => ∃ h l h' l', v = .tuple #[.agg #[.int .u64 h, .int .u64 l], .agg #[.int .u64 h', .int .u64 l'], .bool true] ∧ LimbIs h l (P / d + 1) ∧ LimbIs h' l' (d - P % d) | _ => fun _ _ => True) (fun _ _ => ?_)
          refine sQ 3 ?_
          refine sD (fun wc lc => c_bitsd hd h0 wc) ?_
          rintro v x5 x6 ⟨eh, el, rfl, ie⟩ - -
          refine s_callD rfl rfl rfl (by kernel_rfl) rfl (fun wc lc => c_next iT iL ie (by omega) ho wc) ?_
          rintro v x7 x8 ⟨th, tl, fh, fl, rfl, iT2, iL2⟩ - -
          refine sQ 4 ?_
          refine sS (fun _ _ _ => ?_)
          refine sS (fun _ _ _ => ?_)
          refine sZ 1 ?_
          repeat refine Wp.seq ?_
          refine wZ ?_
          refine Wp.condF rfl rfl (Wp.skip ?_)
          have hQ : a * b / d = -(P / d + 1) := by rw [EP]; exact up1
          have hR : a * b % d = d - P % d := by rw [EP]; exact up2
          repeat refine Wp.seq ?_
          refine wQ 2 ?_
          refine s_call rfl rfl rfl (by kernel_rfl) rfl ?_
          refine (signed_m iT2 _).mono ?_
          rintro e w7 ⟨qh, ql, iq, rfl, b7⟩
          refine ⟨_, rfl, b7, ?_⟩
          refine sQ 3 ?_
          refine sS (fun _ _ _ => ?_)
          refine sZ 1 ?_
          rw [← hQ] at iq ⊢
          repeat refine Wp.seq ?_
          refine wR [0, 1] ?_
          cases hw : inW (a * b / d)
          · skip
            have fv : fitV (a * b / d) = 0 := by unfold fitV; simp [hw]
            have fe : fitE (a * b / d) = 2 := by unfold fitE; simp [hw]
            have fr : fitR (a * b / d) (a * b % d) = 0 := fitR_no hw
            rw [fe]
            refine sM ?_
            refine s_cmp (c := true) rfl rfl rfl rfl rfl rfl ?_
            refine vOrd_nil ?_
            refine Wp.condT rfl rfl ?_
            repeat refine Wp.seq ?_
            refine wR [0, 1, 2, 3, 4, 5] ?_
            refine s_val rfl rfl rfl rfl (v := .agg #[.int .i64 0, .int .u64 0]) (fun _ => by kernel_rfl) ?_
            refine s_val rfl rfl rfl rfl (v := .agg #[.int .i64 0, .int .u64 0]) (fun _ => by kernel_rfl) ?_
            refine sM ?_
            refine sS (fun _ _ _ => ?_)
            refine sS (fun _ _ _ => ?_)
            refine sZ 1 ?_
            exact Wp.ret ⟨.inr rfl, fun l => ⟨_, ⟨_, _, _, res_cell rfl rfl rfl rfl, res_cell rfl rfl rfl rfl, res_tmp (P := Try.prog) rfl rfl, rfl⟩, _, _, _, _, wide_0.eq fv.symm, wide_0.eq fr.symm, rfl, l⟩⟩
          · skip
            have fv : fitV (a * b / d) = a * b / d := by unfold fitV; simp [hw]
            have fe : fitE (a * b / d) = 0 := by unfold fitE; simp [hw]
            have fr : fitR (a * b / d) (a * b % d) = a * b % d := fitR_yes hw
            rw [fe]
            refine sM ?_
            refine s_cmp (c := false) rfl rfl rfl rfl rfl rfl ?_
            refine vOrd_nil ?_
            refine Wp.condF rfl rfl (Wp.skip ?_)
            repeat refine Wp.seq ?_
            refine wD [0, 1, 2, 3, 4, 5] [6, 0, 0, 0, 0, 0] (fun | 2 => fun v _ => IsW (a * b % d) v | _ => fun _ _ => True) (fun _ _ => ?_)
            refine sQ 2 ?_
            refine s_callD rfl rfl rfl (by kernel_rfl) rfl (fun wc lc => c_ofb iL2 hR r0 (by have := hd.range; omega) wc) ?_
            rintro v y1 y2 ⟨rh, rl, rfl, ir⟩ - -
            refine sS (fun _ _ _ => ?_)
            refine sS (fun _ _ _ => ?_)
            refine sZ 1 ?_
            exact Wp.ret ⟨.inr rfl, fun l => ⟨_, ⟨_, _, _, res_cell rfl rfl rfl rfl, res_cell rfl rfl rfl rfl, res_tmp (P := Try.prog) rfl rfl, rfl⟩, _, _, _, _, iq, ir.eq fr.symm, rfl, l⟩⟩
        · skip
          have hov : 340282366920938463463374607431768211456 ≤ P / d + 1 := by unfold overB at ho; simpa using ho
          obtain ⟨-, fv, fe⟩ : inW (a * b / d) = false ∧ fitV (a * b / d) = 0 ∧ fitE (a * b / d) = 2 := inW_no (by rw [EP, up1]; omega)
          have fr : fitR (a * b / d) (a * b % d) = 0 := fitR_no (by unfold inW; rw [decide_eq_false_iff_not, EP, up1]; omega)
          repeat refine Wp.seq ?_
          refine wD [0, 1, 2, 3, 4, 5, 6, 7, 8, 9, 10, 11] [14, 13, 0, 0, 0, 0, 447, 895, 1791, 0, 0, 0] (fun | 3 => fun v _ => IsLb d v | 4 => fun v _ => ∃ h l h' l' : Int, v = .tuple #[.agg #[.int .u64 h, .int .u64 l], .agg #[.int .u64 h', .int .u64 l'], .bool false] | _ => fun _ _ => True) (fun _ _ => ?_)
          refine sQ 3 ?_
          refine sD (fun wc lc => c_bitsd hd h0 wc) ?_
          rintro v x5 x6 ⟨eh, el, rfl, ie⟩ - -
          refine s_callD rfl rfl rfl (by kernel_rfl) rfl (fun wc lc => c_next_no iT iL ie (by omega) ho wc) ?_
          rintro v x7 x8 ⟨th, tl, fh, fl, rfl⟩ - -
          refine sQ 4 ?_
          refine sS (fun _ _ _ => ?_)
          refine sS (fun _ _ _ => ?_)
          refine sZ 1 ?_
          repeat refine Wp.seq ?_
          refine wZ ?_
          refine Wp.condT rfl rfl ?_
          repeat refine Wp.seq ?_
          refine wR [0, 1, 2, 3, 4] ?_
          refine s_val rfl rfl rfl rfl (v := .agg #[.int .i64 0, .int .u64 0]) (fun _ => by kernel_rfl) ?_
          refine s_val rfl rfl rfl rfl (v := .agg #[.int .i64 0, .int .u64 0]) (fun _ => by kernel_rfl) ?_
          refine sS (fun _ _ _ => ?_)
          refine sS (fun _ _ _ => ?_)
          refine sZ 1 ?_
          exact Wp.ret ⟨.inr rfl, fun l => ⟨_, ⟨_, _, _, res_cell rfl rfl rfl rfl, res_cell rfl rfl rfl rfl, res_tmp (P := Try.prog) rfl rfl, rfl⟩, _, _, _, _, wide_0.eq fv.symm, wide_0.eq fr.symm, by rw [fe], l⟩⟩
  · skip
    cases HB : sg b
    · skip
      have EP : a * b = -P := by rw [hP]; exact mul_unlike (by rw [HA, HB]; decide)
      repeat refine Wp.seq ?_
      refine wD [0, 2, 1, 3, 4, 5] [4, 3, 0, 0, 0, 0] (fun | 1 => fun v _ => v = .bool true | 3 => fun v _ => v = .bool false | _ => fun _ _ => True) (fun _ _ => ?_)
      refine sQ 2 ?_
      refine sD (fun wc lc => c_below ha HA wc) ?_
      rintro v x1 x2 rfl - -
      refine sD (fun wc lc => c_below hb HB wc) ?_
      rintro v x3 x4 rfl - -
      refine s_eqv (c := true) rfl rfl rfl rfl rfl (fun _ => by kernel_rfl) (fun _ => by kernel_rfl) ?_
      refine sZ 1 ?_
      repeat refine Wp.seq ?_
      refine wQ 3 ?_
      refine s_val rfl rfl rfl rfl (v := .agg #[.int .u64 0, .int .u64 0]) (fun _ => by kernel_rfl) ?_
      by_cases hz : P % d = 0
      · skip
        refine s_eqv (c := false) rfl rfl rfl rfl rfl (fun _ => by kernel_rfl) (fun w => by rw [run_neq_limb, eqL_same iL (limb_0.eq hz.symm)]; rfl) ?_
        refine sZ 1 ?_
        refine Wp.condF rfl rfl (Wp.skip ?_)
        have hQ : a * b / d = -(P / d) := by rw [EP]; exact (floor_even h0 rfl hz).1
        have hR : a * b % d = P % d := by rw [EP, hz]; exact (floor_even h0 rfl hz).2
        repeat refine Wp.seq ?_
        refine wQ 2 ?_
        refine s_call rfl rfl rfl (by kernel_rfl) rfl ?_
        refine (signed_m iT _).mono ?_
        rintro e w7 ⟨qh, ql, iq, rfl, b7⟩
        refine ⟨_, rfl, b7, ?_⟩
        refine sQ 3 ?_
        refine sS (fun _ _ _ => ?_)
        refine sZ 1 ?_
        rw [← hQ] at iq ⊢
        repeat refine Wp.seq ?_
        refine wR [0, 1] ?_
        cases hw : inW (a * b / d)
        · skip
          have fv : fitV (a * b / d) = 0 := by unfold fitV; simp [hw]
          have fe : fitE (a * b / d) = 2 := by unfold fitE; simp [hw]
          have fr : fitR (a * b / d) (a * b % d) = 0 := fitR_no hw
          rw [fe]
          refine sM ?_
          refine s_cmp (c := true) rfl rfl rfl rfl rfl rfl ?_
          refine vOrd_nil ?_
          refine Wp.condT rfl rfl ?_
          repeat refine Wp.seq ?_
          refine wR [0, 1, 2, 3, 4, 5] ?_
          refine s_val rfl rfl rfl rfl (v := .agg #[.int .i64 0, .int .u64 0]) (fun _ => by kernel_rfl) ?_
          refine s_val rfl rfl rfl rfl (v := .agg #[.int .i64 0, .int .u64 0]) (fun _ => by kernel_rfl) ?_
          refine sM ?_
          refine sS (fun _ _ _ => ?_)
          refine sS (fun _ _ _ => ?_)
          refine sZ 1 ?_
          exact Wp.ret ⟨.inr rfl, fun l => ⟨_, ⟨_, _, _, res_cell rfl rfl rfl rfl, res_cell rfl rfl rfl rfl, res_tmp (P := Try.prog) rfl rfl, rfl⟩, _, _, _, _, wide_0.eq fv.symm, wide_0.eq fr.symm, rfl, l⟩⟩
        · skip
          have fv : fitV (a * b / d) = a * b / d := by unfold fitV; simp [hw]
          have fe : fitE (a * b / d) = 0 := by unfold fitE; simp [hw]
          have fr : fitR (a * b / d) (a * b % d) = a * b % d := fitR_yes hw
          rw [fe]
          refine sM ?_
          refine s_cmp (c := false) rfl rfl rfl rfl rfl rfl ?_
          refine vOrd_nil ?_
          refine Wp.condF rfl rfl (Wp.skip ?_)
          repeat refine Wp.seq ?_
          refine wD [0, 1, 2, 3, 4, 5] [6, 0, 0, 0, 0, 0] (fun | 2 => fun v _ => IsW (a * b % d) v | _ => fun _ _ => True) (fun _ _ => ?_)
          refine sQ 2 ?_
          refine s_callD rfl rfl rfl (by kernel_rfl) rfl (fun wc lc => c_ofb iL hR r0 (by have := hd.range; omega) wc) ?_
          rintro v y1 y2 ⟨rh, rl, rfl, ir⟩ - -
          refine sS (fun _ _ _ => ?_)
          refine sS (fun _ _ _ => ?_)
          refine sZ 1 ?_
          exact Wp.ret ⟨.inr rfl, fun l => ⟨_, ⟨_, _, _, res_cell rfl rfl rfl rfl, res_cell rfl rfl rfl rfl, res_tmp (P := Try.prog) rfl rfl, rfl⟩, _, _, _, _, iq, ir.eq fr.symm, rfl, l⟩⟩
      · skip
        refine s_eqv (c := true) rfl rfl rfl rfl rfl (fun _ => by kernel_rfl) (fun w => by rw [run_neq_limb, eqL_other iL limb_0 hz]; rfl) ?_
        refine sZ 1 ?_
        refine Wp.condT rfl rfl ?_
        obtain ⟨up1, up2⟩ := floor_up h0 (P := P) rfl rfl hz
        cases ho : overB (P / d) 1
        · skip
          repeat refine Wp.seq ?_
          refine wD [0, 1, 2, 3, 4, 5, 6, 7, 8, 9, 10, 11] [14, 13, 0, 0, 0, 0, 447, 895, 1791, 0, 0, 0] (fun | 3 => fun v _ => IsLb d v | 4 => fun v _ => ∃ h l h' l', v = .tuple #[.agg #[.int .u64 h, .int .u64 l], .agg #[.int .u64 h', .int .u64 l'], .bool true] ∧ LimbIs h l (P / d + 1) ∧ LimbIs h' l' (d - P % d) | _ => fun _ _ => True) (fun _ _ => ?_)
          refine sQ 3 ?_
          refine sD (fun wc lc => c_bitsd hd h0 wc) ?_
          rintro v x5 x6 ⟨eh, el, rfl, ie⟩ - -
          refine s_callD rfl rfl rfl (by kernel_rfl) rfl (fun wc lc => c_next iT iL ie (by omega) ho wc) ?_
          rintro v x7 x8 ⟨th, tl, fh, fl, rfl, iT2, iL2⟩ - -
          refine sQ 4 ?_
          refine sS (fun _ _ _ => ?_)
          refine sS (fun _ _ _ => ?_)
          refine sZ 1 ?_
          repeat refine Wp.seq ?_
          refine wZ ?_
          refine Wp.condF rfl rfl (Wp.skip ?_)
          have hQ : a * b / d = -(P / d + 1) := by rw [EP]; exact up1
          have hR : a * b % d = d - P % d := by rw [EP]; exact up2
          repeat refine Wp.seq ?_
          refine wQ 2 ?_
          refine s_call rfl rfl rfl (by kernel_rfl) rfl ?_
          refine (signed_m iT2 _).mono ?_
          rintro e w7 ⟨qh, ql, iq, rfl, b7⟩
          refine ⟨_, rfl, b7, ?_⟩
          refine sQ 3 ?_
          refine sS (fun _ _ _ => ?_)
          refine sZ 1 ?_
          rw [← hQ] at iq ⊢
          repeat refine Wp.seq ?_
          refine wR [0, 1] ?_
          cases hw : inW (a * b / d)
          · skip
            have fv : fitV (a * b / d) = 0 := by unfold fitV; simp [hw]
            have fe : fitE (a * b / d) = 2 := by unfold fitE; simp [hw]
            have fr : fitR (a * b / d) (a * b % d) = 0 := fitR_no hw
            rw [fe]
            refine sM ?_
            refine s_cmp (c := true) rfl rfl rfl rfl rfl rfl ?_
            refine vOrd_nil ?_
            refine Wp.condT rfl rfl ?_
            repeat refine Wp.seq ?_
            refine wR [0, 1, 2, 3, 4, 5] ?_
            refine s_val rfl rfl rfl rfl (v := .agg #[.int .i64 0, .int .u64 0]) (fun _ => by kernel_rfl) ?_
            refine s_val rfl rfl rfl rfl (v := .agg #[.int .i64 0, .int .u64 0]) (fun _ => by kernel_rfl) ?_
            refine sM ?_
            refine sS (fun _ _ _ => ?_)
            refine sS (fun _ _ _ => ?_)
            refine sZ 1 ?_
            exact Wp.ret ⟨.inr rfl, fun l => ⟨_, ⟨_, _, _, res_cell rfl rfl rfl rfl, res_cell rfl rfl rfl rfl, res_tmp (P := Try.prog) rfl rfl, rfl⟩, _, _, _, _, wide_0.eq fv.symm, wide_0.eq fr.symm, rfl, l⟩⟩
          · skip
            have fv : fitV (a * b / d) = a * b / d := by unfold fitV; simp [hw]
            have fe : fitE (a * b / d) = 0 := by unfold fitE; simp [hw]
            have fr : fitR (a * b / d) (a * b % d) = a * b % d := fitR_yes hw
            rw [fe]
            refine sM ?_
            refine s_cmp (c := false) rfl rfl rfl rfl rfl rfl ?_
            refine vOrd_nil ?_
            refine Wp.condF rfl rfl (Wp.skip ?_)
            repeat refine Wp.seq ?_
            refine wD [0, 1, 2, 3, 4, 5] [6, 0, 0, 0, 0, 0] (fun | 2 => fun v _ => IsW (a * b % d) v | _ => fun _ _ => True) (fun _ _ => ?_)
            refine sQ 2 ?_
            refine s_callD rfl rfl rfl (by kernel_rfl) rfl (fun wc lc => c_ofb iL2 hR r0 (by have := hd.range; omega) wc) ?_
            rintro v y1 y2 ⟨rh, rl, rfl, ir⟩ - -
            refine sS (fun _ _ _ => ?_)
            refine sS (fun _ _ _ => ?_)
            refine sZ 1 ?_
            exact Wp.ret ⟨.inr rfl, fun l => ⟨_, ⟨_, _, _, res_cell rfl rfl rfl rfl, res_cell rfl rfl rfl rfl, res_tmp (P := Try.prog) rfl rfl, rfl⟩, _, _, _, _, iq, ir.eq fr.symm, rfl, l⟩⟩
        · skip
          have hov : 340282366920938463463374607431768211456 ≤ P / d + 1 := by unfold overB at ho; simpa using ho
          obtain ⟨-, fv, fe⟩ : inW (a * b / d) = false ∧ fitV (a * b / d) = 0 ∧ fitE (a * b / d) = 2 := inW_no (by rw [EP, up1]; omega)
          have fr : fitR (a * b / d) (a * b % d) = 0 := fitR_no (by unfold inW; rw [decide_eq_false_iff_not, EP, up1]; omega)
          repeat refine Wp.seq ?_
          refine wD [0, 1, 2, 3, 4, 5, 6, 7, 8, 9, 10, 11] [14, 13, 0, 0, 0, 0, 447, 895, 1791, 0, 0, 0] (fun | 3 => fun v _ => IsLb d v | 4 => fun v _ => ∃ h l h' l' : Int, v = .tuple #[.agg #[.int .u64 h, .int .u64 l], .agg #[.int .u64 h', .int .u64 l'], .bool false] | _ => fun _ _ => True) (fun _ _ => ?_)
          refine sQ 3 ?_
          refine sD (fun wc lc => c_bitsd hd h0 wc) ?_
          rintro v x5 x6 ⟨eh, el, rfl, ie⟩ - -
          refine s_callD rfl rfl rfl (by kernel_rfl) rfl (fun wc lc => c_next_no iT iL ie (by omega) ho wc) ?_
          rintro v x7 x8 ⟨th, tl, fh, fl, rfl⟩ - -
          refine sQ 4 ?_
          refine sS (fun _ _ _ => ?_)
          refine sS (fun _ _ _ => ?_)
          refine sZ 1 ?_
          repeat refine Wp.seq ?_
          refine wZ ?_
          refine Wp.condT rfl rfl ?_
          repeat refine Wp.seq ?_
          refine wR [0, 1, 2, 3, 4] ?_
          refine s_val rfl rfl rfl rfl (v := .agg #[.int .i64 0, .int .u64 0]) (fun _ => by kernel_rfl) ?_
          refine s_val rfl rfl rfl rfl (v := .agg #[.int .i64 0, .int .u64 0]) (fun _ => by kernel_rfl) ?_
          refine sS (fun _ _ _ => ?_)
          refine sS (fun _ _ _ => ?_)
          refine sZ 1 ?_
          exact Wp.ret ⟨.inr rfl, fun l => ⟨_, ⟨_, _, _, res_cell rfl rfl rfl rfl, res_cell rfl rfl rfl rfl, res_tmp (P := Try.prog) rfl rfl, rfl⟩, _, _, _, _, wide_0.eq fv.symm, wide_0.eq fr.symm, by rw [fe], l⟩⟩
    · skip
      have EP : a * b = P := by rw [hP]; exact mul_like (by rw [HA, HB])
      repeat refine Wp.seq ?_
      refine wD [0, 2, 1, 3, 4, 5] [4, 3, 0, 0, 0, 0] (fun | 1 => fun v _ => v = .bool true | 3 => fun v _ => v = .bool true | _ => fun _ _ => True) (fun _ _ => ?_)
      refine sQ 2 ?_
      refine sD (fun wc lc => c_below ha HA wc) ?_
      rintro v x1 x2 rfl - -
      refine sD (fun wc lc => c_below hb HB wc) ?_
      rintro v x3 x4 rfl - -
      refine s_eqv (c := false) rfl rfl rfl rfl rfl (fun _ => by kernel_rfl) (fun _ => by kernel_rfl) ?_
      refine sZ 1 ?_
      repeat refine Wp.seq ?_
      refine wZ ?_
      refine Wp.condF rfl rfl (Wp.skip ?_)
      have hQ : a * b / d = P / d := by rw [EP]
      have hR : a * b % d = P % d := by rw [EP]
      repeat refine Wp.seq ?_
      refine wQ 2 ?_
      refine s_call rfl rfl rfl (by kernel_rfl) rfl ?_
      refine (signed_p iT _).mono ?_
      rintro e w7 ⟨qh, ql, iq, rfl, b7⟩
      refine ⟨_, rfl, b7, ?_⟩
      refine sQ 3 ?_
      refine sS (fun _ _ _ => ?_)
      refine sZ 1 ?_
      rw [← hQ] at iq ⊢
      repeat refine Wp.seq ?_
      refine wR [0, 1] ?_
      cases hw : inW (a * b / d)
      · skip
        have fv : fitV (a * b / d) = 0 := by unfold fitV; simp [hw]
        have fe : fitE (a * b / d) = 2 := by unfold fitE; simp [hw]
        have fr : fitR (a * b / d) (a * b % d) = 0 := fitR_no hw
        rw [fe]
        refine sM ?_
        refine s_cmp (c := true) rfl rfl rfl rfl rfl rfl ?_
        refine vOrd_nil ?_
        refine Wp.condT rfl rfl ?_
        repeat refine Wp.seq ?_
        refine wR [0, 1, 2, 3, 4, 5] ?_
        refine s_val rfl rfl rfl rfl (v := .agg #[.int .i64 0, .int .u64 0]) (fun _ => by kernel_rfl) ?_
        refine s_val rfl rfl rfl rfl (v := .agg #[.int .i64 0, .int .u64 0]) (fun _ => by kernel_rfl) ?_
        refine sM ?_
        refine sS (fun _ _ _ => ?_)
        refine sS (fun _ _ _ => ?_)
        refine sZ 1 ?_
        exact Wp.ret ⟨.inr rfl, fun l => ⟨_, ⟨_, _, _, res_cell rfl rfl rfl rfl, res_cell rfl rfl rfl rfl, res_tmp (P := Try.prog) rfl rfl, rfl⟩, _, _, _, _, wide_0.eq fv.symm, wide_0.eq fr.symm, rfl, l⟩⟩
      · skip
        have fv : fitV (a * b / d) = a * b / d := by unfold fitV; simp [hw]
        have fe : fitE (a * b / d) = 0 := by unfold fitE; simp [hw]
        have fr : fitR (a * b / d) (a * b % d) = a * b % d := fitR_yes hw
        rw [fe]
        refine sM ?_
        refine s_cmp (c := false) rfl rfl rfl rfl rfl rfl ?_
        refine vOrd_nil ?_
        refine Wp.condF rfl rfl (Wp.skip ?_)
        repeat refine Wp.seq ?_
        refine wD [0, 1, 2, 3, 4, 5] [6, 0, 0, 0, 0, 0] (fun | 2 => fun v _ => IsW (a * b % d) v | _ => fun _ _ => True) (fun _ _ => ?_)
        refine sQ 2 ?_
        refine s_callD rfl rfl rfl (by kernel_rfl) rfl (fun wc lc => c_ofb iL hR r0 (by have := hd.range; omega) wc) ?_
        rintro v y1 y2 ⟨rh, rl, rfl, ir⟩ - -
        refine sS (fun _ _ _ => ?_)
        refine sS (fun _ _ _ => ?_)
        refine sZ 1 ?_
        exact Wp.ret ⟨.inr rfl, fun l => ⟨_, ⟨_, _, _, res_cell rfl rfl rfl rfl, res_cell rfl rfl rfl rfl, res_tmp (P := Try.prog) rfl rfl, rfl⟩, _, _, _, _, iq, ir.eq fr.symm, rfl, l⟩⟩
theorem wdiv_any {ah al dh dl a d : Int} (ha : WideIs ah al a) (hd : WideIs dh dl d) (h0 : 0 < d) (w : World) :
    Calls Try.prog 20 #[.agg #[.int .i64 ah, .int .u64 al], .agg #[.int .i64 dh, .int .u64 dl]] w fun e w' => ∃ qh ql rh rl : Int, WideIs qh ql (a / d) ∧ WideIs rh rl (a % d) ∧ e = .returned (.tuple #[.agg #[.int .i64 qh, .int .u64 ql], .agg #[.int .i64 rh, .int .u64 rl], .int .i64 0]) ∧ Below w.heap.size w w' := by
  have F := inW_quot ha.range.1 ha.range.2 h0
  have E1 : fitV (a * 1 / d) = a / d := by rw [Int.mul_one]; unfold fitV; rw [if_pos F]
  have E2 : fitR (a * 1 / d) (a * 1 % d) = a % d := by rw [Int.mul_one]; exact fitR_yes F
  have E3 : fitE (a * 1 / d) = 0 := by rw [Int.mul_one]; unfold fitE; rw [if_pos F]
  refine calls_Wp (args := [_, _]) (n := 14) Try.func20 rfl rfl (by simp) ?_
  repeat refine Wp.seq ?_
  refine wR [0, 1, 2, 3, 4] ?_
  refine sE (fun _ _ _ _ => ?_)
  refine sE (fun _ _ _ _ => ?_)
  refine sO (fun _ _ _ _ => ?_)
  refine sO (fun _ _ _ _ => ?_)
  refine sZ 1 ?_
  repeat refine Wp.seq ?_
  refine wD [0, 2, 1, 3, 4, 5, 6, 7, 8, 9] [6, 3, 0, 0, 111, 95, 0, 0, 0, 0] (fun | 1 => fun v _ => IsW 1 v | 3 => fun v _ => ∃ qh ql rh rl, v = .tuple #[.agg #[.int .i64 qh, .int .u64 ql], .agg #[.int .i64 rh, .int .u64 rl], .int .i64 0] ∧ WideIs qh ql (a / d) ∧ WideIs rh rl (a % d) | _ => fun _ _ => True) (fun _ _ => ?_)
  refine sQ 2 ?_
  refine sD (fun wc lc => c_wof1 wc) ?_
  rintro v v1 v2 ⟨oh, ol, rfl, io⟩ - -
  refine s_callD rfl rfl rfl (by kernel_rfl) rfl (fun wc lc => (wmuldiv_any ha io hd h0 wc).mono (by rw [E1, E2, E3]; rintro e w' ⟨_, _, _, _, i, j, rfl, hb⟩; exact ⟨_, rfl, ⟨_, _, _, _, rfl, i, j⟩, hb⟩)) ?_
  rintro v v3 v4 ⟨qh, ql, rh, rl, rfl, iq, ir⟩ - -
  refine sQ 3 ?_
  refine sS (fun _ _ _ => ?_)
  refine sS (fun _ _ _ => ?_)
  refine sZ 1 ?_
  exact Wp.ret ⟨.inr rfl, fun l => ⟨_, ⟨_, _, _, res_cell rfl rfl rfl rfl, res_cell rfl rfl rfl rfl, res_tmp (P := Try.prog) rfl rfl, rfl⟩, _, _, _, _, iq, ir, rfl, l⟩⟩
theorem wdiv_zero {ah al dh dl d : Int} (hd : WideIs dh dl d) (h0 : d ≤ 0) (w : World) :
    Calls Try.prog 20 #[.agg #[.int .i64 ah, .int .u64 al], .agg #[.int .i64 dh, .int .u64 dl]] w fun e w' => e = .returned (.tuple #[.agg #[.int .i64 0, .int .u64 0], .agg #[.int .i64 0, .int .u64 0], .int .i64 3]) ∧ Below w.heap.size w w' := by
  refine calls_Wp (args := [_, _]) (n := 14) Try.func20 rfl rfl (by simp) ?_
  repeat refine Wp.seq ?_
  refine wR [0, 1, 2, 3, 4] ?_
  refine sE (fun _ _ _ _ => ?_)
  refine sE (fun _ _ _ _ => ?_)
  refine sO (fun _ _ _ _ => ?_)
  refine sO (fun _ _ _ _ => ?_)
  refine sZ 1 ?_
  repeat refine Wp.seq ?_
  refine wD [0, 2, 1, 3, 4, 5, 6, 7, 8, 9] [6, 3, 0, 0, 111, 95, 0, 0, 0, 0] (fun | 1 => fun v _ => IsW 1 v | 3 => fun v _ => v = .tuple #[.agg #[.int .i64 0, .int .u64 0], .agg #[.int .i64 0, .int .u64 0], .int .i64 3] | _ => fun _ _ => True) (fun _ _ => ?_)
  refine sQ 2 ?_
  refine sD (fun wc lc => c_wof1 wc) ?_
  rintro v v1 v2 ⟨oh, ol, rfl, io⟩ - -
  refine s_callD rfl rfl rfl (by kernel_rfl) rfl (fun wc lc => (wmuldiv_zero hd h0 wc).mono (by rintro e w' ⟨rfl, hb⟩; exact ⟨_, rfl, rfl, hb⟩)) ?_
  rintro v v3 v4 rfl - -
  refine sQ 3 ?_
  refine sS (fun _ _ _ => ?_)
  refine sS (fun _ _ _ => ?_)
  refine sZ 1 ?_
  exact Wp.ret ⟨.inr rfl, fun l => ⟨_, ⟨_, _, _, res_cell rfl rfl rfl rfl, res_cell rfl rfl rfl rfl, res_tmp (P := Try.prog) rfl rfl, rfl⟩, rfl, l⟩⟩
end Go.Proofs.Ytlpenfganhaclaa
