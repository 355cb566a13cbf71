/-
  The contracts of wide.Add, Sub, Neg, Mul, nextDown and Int in the small logic (P2.1, P2.2). No conditions.
-/
import Derived.Test.YtlpenfganhaclaaWideA
import Derived.Test.YtlpenfganhaclaaLimbE
import Derived.Test.YtlpenfganhaclaaVc
namespace Go.Proofs.Ytlpenfganhaclaa
open Go.RowKit
set_option maxRecDepth 100000

/-! ### What is known of a value -/
def IsW (z : Int) (v : Value) : Prop := ∃ h l : Int, v = .agg #[.int .i64 h, .int .u64 l] ∧ WideIs h l z
def IsLb (z : Int) (v : Value) : Prop := ∃ h l : Int, v = .agg #[.int .u64 h, .int .u64 l] ∧ LimbIs h l z
theorem c_lmul {a b : Int} {u v : Value} (hu : IsLb a u) (hv : IsLb b v) (w : World) : Calls Try.prog 63 #[u, v] w fun e w' => ∃ r, e = .returned r ∧ (∃ hi lo, r = .tuple #[hi, lo] ∧ IsLb (a * b / 340282366920938463463374607431768211456) hi ∧ IsLb (a * b % 340282366920938463463374607431768211456) lo) ∧ Below w.heap.size w w' := by
  obtain ⟨_, _, rfl, hu⟩ := hu
  obtain ⟨_, _, rfl, hv⟩ := hv
  refine (mul_any hu hv w).mono ?_
  rintro e w' ⟨_, _, _, _, i, j, rfl, hb⟩
  exact ⟨_, rfl, ⟨_, _, rfl, ⟨_, _, rfl, i⟩, ⟨_, _, rfl, j⟩⟩, hb⟩
theorem c_ladd {a b : Int} {u v : Value} (hu : IsLb a u) (hv : IsLb b v) (w : World) : Calls Try.prog 72 #[u, v] w fun e w' => ∃ r, e = .returned r ∧ (∃ s o, r = .tuple #[s, .bool o] ∧ IsLb ((a + b) % 340282366920938463463374607431768211456) s) ∧ Below w.heap.size w w' := by
  obtain ⟨_, _, rfl, hu⟩ := hu
  obtain ⟨_, _, rfl, hv⟩ := hv
  refine (add_any hu hv w).mono ?_
  rintro e w' ⟨_, _, i, rfl, hb⟩
  exact ⟨_, rfl, ⟨_, _, rfl, ⟨_, _, rfl, i⟩⟩, hb⟩
theorem c_lsub {a b : Int} {u v : Value} (hu : IsLb a u) (hv : IsLb b v) (w : World) : Calls Try.prog 75 #[u, v] w fun e w' => ∃ r, e = .returned r ∧ (∃ s o, r = .tuple #[s, .bool o] ∧ IsLb ((a - b) % 340282366920938463463374607431768211456) s) ∧ Below w.heap.size w w' := by
  obtain ⟨_, _, rfl, hu⟩ := hu
  obtain ⟨_, _, rfl, hv⟩ := hv
  refine (sub_any hu hv w).mono ?_
  rintro e w' ⟨_, _, i, rfl, hb⟩
  exact ⟨_, rfl, ⟨_, _, rfl, ⟨_, _, rfl, i⟩⟩, hb⟩
theorem c_bits {h l z : Int} (k : WideIs h l z) (w : World) : Calls Try.prog 66 #[.agg #[.int .i64 h, .int .u64 l]] w fun e w' => ∃ r, e = .returned r ∧ IsLb (z % 340282366920938463463374607431768211456) r ∧ Below w.heap.size w w' := by
  refine (bitsOf_any k w).mono ?_
  rintro e w' ⟨_, i, rfl, hb⟩
  exact ⟨_, rfl, ⟨_, _, rfl, i⟩, hb⟩
theorem c_size {h l z : Int} (k : WideIs h l z) (w : World) : Calls Try.prog 64 #[.agg #[.int .i64 h, .int .u64 l]] w fun e w' => ∃ r, e = .returned r ∧ IsLb (ab z) r ∧ Below w.heap.size w w' := by
  refine (size_any k w).mono ?_
  rintro e w' ⟨_, _, i, rfl, hb⟩
  exact ⟨_, rfl, ⟨_, _, rfl, i⟩, hb⟩
theorem c_below {h l z : Int} {s : Bool} (k : WideIs h l z) (hs : sg z = s) (w : World) : Calls Try.prog 67 #[.agg #[.int .i64 h, .int .u64 l]] w fun e w' => ∃ r, e = .returned r ∧ r = .bool s ∧ Below w.heap.size w w' := by
  subst hs
  refine (below_any k w).mono ?_
  rintro e w' ⟨rfl, hb⟩
  exact ⟨_, rfl, rfl, hb⟩
theorem c_signed_p {h l n : Int} (k : LimbIs h l n) (w : World) : Calls Try.prog 69 #[.agg #[.int .u64 h, .int .u64 l], .bool false] w fun e w' => ∃ r, e = .returned r ∧ (∃ s, r = .tuple #[s, .int .i64 (fitE n)] ∧ IsW (fitV n) s) ∧ Below w.heap.size w w' := by
  refine (signed_p k w).mono ?_
  rintro e w' ⟨_, _, i, rfl, hb⟩
  exact ⟨_, rfl, ⟨_, rfl, ⟨_, _, rfl, i⟩⟩, hb⟩
theorem c_signed_m {h l n : Int} (k : LimbIs h l n) (w : World) : Calls Try.prog 69 #[.agg #[.int .u64 h, .int .u64 l], .bool true] w fun e w' => ∃ r, e = .returned r ∧ (∃ s, r = .tuple #[s, .int .i64 (fitE (-n))] ∧ IsW (fitV (-n)) s) ∧ Below w.heap.size w w' := by
  refine (signed_m k w).mono ?_
  rintro e w' ⟨_, _, i, rfl, hb⟩
  exact ⟨_, rfl, ⟨_, rfl, ⟨_, _, rfl, i⟩⟩, hb⟩
theorem sg_true {z : Int} (h : sg z = true) : z < 0 := by unfold sg at h; simpa using h
theorem sg_false {z : Int} (h : sg z = false) : 0 ≤ z := by unfold sg at h; simpa using h
/-- The sum's bits, as a number with a sign, are the sum, or it does not fit. -/
theorem sum_bits {a b : Int} (a0 : -170141183460469231731687303715884105728 ≤ a) (a1 : a < 170141183460469231731687303715884105728) (b0 : -170141183460469231731687303715884105728 ≤ b) (b1 : b < 170141183460469231731687303715884105728) :
    (-170141183460469231731687303715884105728 ≤ a + b ∧ a + b < 170141183460469231731687303715884105728 → sgn ((a % 340282366920938463463374607431768211456 + b % 340282366920938463463374607431768211456) % 340282366920938463463374607431768211456) = a + b) ∧
    (a + b < -170141183460469231731687303715884105728 → sgn ((a % 340282366920938463463374607431768211456 + b % 340282366920938463463374607431768211456) % 340282366920938463463374607431768211456) = a + b + 340282366920938463463374607431768211456) ∧
    (170141183460469231731687303715884105728 ≤ a + b → sgn ((a % 340282366920938463463374607431768211456 + b % 340282366920938463463374607431768211456) % 340282366920938463463374607431768211456) = a + b - 340282366920938463463374607431768211456) := by
  unfold sgn
  refine ⟨fun h => ?_, fun h => ?_, fun h => ?_⟩ <;> split <;> omega
theorem diff_bits {a b : Int} (a0 : -170141183460469231731687303715884105728 ≤ a) (a1 : a < 170141183460469231731687303715884105728) (b0 : -170141183460469231731687303715884105728 ≤ b) (b1 : b < 170141183460469231731687303715884105728) :
    (-170141183460469231731687303715884105728 ≤ a - b ∧ a - b < 170141183460469231731687303715884105728 → sgn ((a % 340282366920938463463374607431768211456 - b % 340282366920938463463374607431768211456) % 340282366920938463463374607431768211456) = a - b) ∧
    (a - b < -170141183460469231731687303715884105728 → sgn ((a % 340282366920938463463374607431768211456 - b % 340282366920938463463374607431768211456) % 340282366920938463463374607431768211456) = a - b + 340282366920938463463374607431768211456) ∧
    (170141183460469231731687303715884105728 ≤ a - b → sgn ((a % 340282366920938463463374607431768211456 - b % 340282366920938463463374607431768211456) % 340282366920938463463374607431768211456) = a - b - 340282366920938463463374607431768211456) := by
  unfold sgn
  refine ⟨fun h => ?_, fun h => ?_, fun h => ?_⟩ <;> split <;> omega
theorem mul_like {a b : Int} (h : sg a = sg b) : a * b = ab a * ab b := by
  cases hb : sg b
  · rw [hb] at h
    have := sg_false h; have := sg_false hb
    rw [ab_pos (by omega), ab_pos (by omega)]
  · rw [hb] at h
    have := sg_true h; have := sg_true hb
    rw [ab_neg (by omega), ab_neg (by omega), Int.neg_mul_neg]
theorem mul_unlike {a b : Int} (h : ¬ sg a = sg b) : a * b = -(ab a * ab b) := by
  cases hb : sg b <;> cases ha : sg a <;> simp only [ha, hb, not_true_eq_false] at h
  · have := sg_true ha; have := sg_false hb
    rw [ab_neg (by omega), ab_pos (by omega), Int.neg_mul, Int.neg_neg]
  · have := sg_false ha; have := sg_true hb
    rw [ab_pos (by omega), ab_neg (by omega), Int.mul_neg, Int.neg_neg]
set_option maxHeartbeats 4000000 in
theorem wadd_fit {a b : Int} (a0 : -170141183460469231731687303715884105728 ≤ a) (a1 : a < 170141183460469231731687303715884105728) (b0 : -170141183460469231731687303715884105728 ≤ b) (b1 : b < 170141183460469231731687303715884105728) :
    (inW (a + b) = true ∧ sgn ((a % 340282366920938463463374607431768211456 + b % 340282366920938463463374607431768211456) % 340282366920938463463374607431768211456) = a + b ∧ ¬ (sg a = sg b ∧ sg (sgn ((a % 340282366920938463463374607431768211456 + b % 340282366920938463463374607431768211456) % 340282366920938463463374607431768211456)) ≠ sg a)) ∨ (inW (a + b) = false ∧ sg a = sg b ∧ sg (sgn ((a % 340282366920938463463374607431768211456 + b % 340282366920938463463374607431768211456) % 340282366920938463463374607431768211456)) ≠ sg a) := by
  obtain ⟨s1, s2, s3⟩ := sum_bits a0 a1 b0 b1
  generalize sgn ((a % 340282366920938463463374607431768211456 + b % 340282366920938463463374607431768211456) % 340282366920938463463374607431768211456) = s at *
  unfold inW sg
  by_cases g : -170141183460469231731687303715884105728 ≤ a + b ∧ a + b < 170141183460469231731687303715884105728
  · refine .inl ⟨by simpa using g, s1 g, ?_⟩
    rw [s1 g]
    simp only [ne_eq, decide_eq_decide]
    omega
  · refine .inr ⟨by simpa using g, ?_⟩
    simp only [ne_eq, decide_eq_decide]
    by_cases g2 : a + b < -170141183460469231731687303715884105728
    · have := s2 g2; omega
    · have := s3 (by omega); omega
set_option maxHeartbeats 4000000 in
theorem wadd_any {ah al bh bl a b : Int} (ha : WideIs ah al a) (hb : WideIs bh bl b) (w : World) :
    Calls Try.prog 56 #[.agg #[.int .i64 ah, .int .u64 al], .agg #[.int .i64 bh, .int .u64 bl]] w fun e w' =>
      ∃ h l : Int, WideIs h l (fitV (a + b)) ∧ e = .returned (.tuple #[.agg #[.int .i64 h, .int .u64 l], .int .i64 (fitE (a + b))]) ∧ Below w.heap.size w w' := by
  refine calls_Wp (args := [_, _]) (n := 33) Try.func56 rfl rfl (by simp) ?_
  repeat refine Wp.seq ?_
  refine wR [0, 1, 2, 3] ?_
  refine sE (fun _ _ _ _ => ?_)
  refine sE (fun _ _ _ _ => ?_)
  refine sO (fun _ _ _ _ => ?_)
  refine sZ 1 ?_
  repeat refine Wp.seq ?_
  refine wD [0, 2, 8, 1, 3, 4, 5, 6, 7, 9, 10] [260, 259, 255, 0, 0, 0, 0, 447, 895, 0, 0] (fun | 1 => fun v _ => IsLb (a % 340282366920938463463374607431768211456) v | 3 => fun v _ => IsLb (b % 340282366920938463463374607431768211456) v | 4 => fun v _ => ∃ s o, v = .tuple #[s, .bool o] ∧ IsLb ((a % 340282366920938463463374607431768211456 + b % 340282366920938463463374607431768211456) % 340282366920938463463374607431768211456) s | _ => fun _ _ => True) (fun _ _ => ?_)
  refine sQ 2 ?_
  refine sO (fun _ _ _ _ => ?_)
  refine sD (fun wc lc => c_bits ha wc) ?_
  rintro v v1 v2 i1 - -
  refine sD (fun wc lc => c_bits hb wc) ?_
  rintro v v3 v4 i2 - -
  refine sD (fun wc lc => c_ladd i1 i2 wc) ?_
  rintro v v5 v6 ⟨s, o, rfl, sh, sl, rfl, i3⟩ - -
  refine sQ 3 ?_
  refine sS (fun _ _ _ => ?_)
  refine sZ 1 ?_
  repeat refine Wp.seq ?_
  refine wQ 1 ?_
  refine s_call rfl rfl rfl (by kernel_rfl) rfl ?_
  refine (ofBits_any i3 _).mono ?_
  rintro e w1 ⟨rh, i4, rfl, b1⟩
  refine ⟨_, rfl, b1, ?_⟩
  refine sO (fun _ _ _ _ => ?_)
  refine sS (fun _ _ _ => ?_)
  refine vOrd_nil ?_
  have C := wadd_fit ha.range.1 ha.range.2 hb.range.1 hb.range.2
  generalize sgn ((a % 340282366920938463463374607431768211456 + b % 340282366920938463463374607431768211456) % 340282366920938463463374607431768211456) = S at *
  cases HA : sg a
  · skip
    cases HB : sg b
    · skip
      cases HS : sg S
      · skip
        repeat refine Wp.seq ?_
        refine wD [0, 2, 1, 3, 4, 5, 6, 8, 7, 9, 10, 11] [4, 3, 0, 0, 0, 0, 319, 255, 0, 0, 0, 0] (fun | 1 => fun v _ => v = .bool false | 3 => fun v _ => v = .bool false | 7 => fun v _ => v = .bool false | 9 => fun v _ => v = .bool false | _ => fun _ _ => True) (fun _ _ => ?_)
        refine sQ 2 ?_
        refine sD (fun wc lc => c_below ha HA wc) ?_
        rintro v v7 v8 rfl - -
        refine sD (fun wc lc => c_below hb HB wc) ?_
        rintro v v9 v10 rfl - -
        refine s_eqv (c := true) rfl rfl rfl rfl rfl (fun _ => by kernel_rfl) (fun _ => by kernel_rfl) ?_
        refine sQ 3 ?_
        refine sD (fun wc lc => c_below i4 HS wc) ?_
        rintro v v11 v12 rfl - -
        refine sD (fun wc lc => c_below ha HA wc) ?_
        rintro v v13 v14 rfl - -
        refine s_eqv (c := false) rfl rfl rfl rfl rfl (fun _ => by kernel_rfl) (fun _ => by kernel_rfl) ?_
        refine sZ 1 ?_
        refine Wp.condF rfl rfl (Wp.skip ?_)
        obtain ⟨hf, hS⟩ : inW (a + b) = true ∧ S = a + b := by
          rcases C with ⟨c1, c2, -⟩ | ⟨-, c⟩
          · exact ⟨c1, c2⟩
          · exact absurd c (by rw [HA, HB, HS]; decide)
        have fv : fitV (a + b) = a + b := by unfold fitV; simp [hf]
        repeat refine Wp.seq ?_
        refine wQ 1 ?_
        refine sS (fun _ _ _ => ?_)
        refine sZ 1 ?_
        exact Wp.ret ⟨.inr rfl, fun l => ⟨_, ⟨_, _, res_cell rfl rfl rfl rfl, res_tmp (P := Try.prog) rfl rfl, rfl⟩, _, _, i4.eq (by rw [hS, fv]), by rw [show fitE (a + b) = 0 by unfold fitE; simp [hf]], l⟩⟩
      · skip
        repeat refine Wp.seq ?_
        refine wD [0, 2, 1, 3, 4, 5, 6, 8, 7, 9, 10, 11] [4, 3, 0, 0, 0, 0, 319, 255, 0, 0, 0, 0] (fun | 1 => fun v _ => v = .bool false | 3 => fun v _ => v = .bool false | 7 => fun v _ => v = .bool true | 9 => fun v _ => v = .bool false | _ => fun _ _ => True) (fun _ _ => ?_)
        refine sQ 2 ?_
        refine sD (fun wc lc => c_below ha HA wc) ?_
        rintro v v7 v8 rfl - -
        refine sD (fun wc lc => c_below hb HB wc) ?_
        rintro v v9 v10 rfl - -
        refine s_eqv (c := true) rfl rfl rfl rfl rfl (fun _ => by kernel_rfl) (fun _ => by kernel_rfl) ?_
        refine sQ 3 ?_
        refine sD (fun wc lc => c_below i4 HS wc) ?_
        rintro v v11 v12 rfl - -
        refine sD (fun wc lc => c_below ha HA wc) ?_
        rintro v v13 v14 rfl - -
        refine s_eqv (c := true) rfl rfl rfl rfl rfl (fun _ => by kernel_rfl) (fun _ => by kernel_rfl) ?_
        refine sZ 1 ?_
        refine Wp.condT rfl rfl ?_
        have hf : inW (a + b) = false := by
          rcases C with ⟨-, -, c⟩ | ⟨c, -⟩
          · exact absurd (by rw [HA, HB, HS]; decide) c
          · exact c
        have fv : fitV (a + b) = 0 := by unfold fitV; simp [hf]
        repeat refine Wp.seq ?_
        refine wR [0, 1, 2] ?_
        refine s_val rfl rfl rfl rfl (v := .agg #[.int .i64 0, .int .u64 0]) (fun _ => by kernel_rfl) ?_
        refine sS (fun _ _ _ => ?_)
        refine sZ 1 ?_
        exact Wp.ret ⟨.inr rfl, fun l => ⟨_, ⟨_, _, res_cell rfl rfl rfl rfl, res_tmp (P := Try.prog) rfl rfl, rfl⟩, _, _, wide_0.eq fv.symm, by rw [show fitE (a + b) = 2 by unfold fitE; simp [hf]], l⟩⟩
    · skip
      cases HS : sg S
      · skip
        repeat refine Wp.seq ?_
        refine wD [0, 2, 1, 3, 4, 5, 6, 8, 7, 9, 10, 11] [4, 3, 0, 0, 0, 0, 319, 255, 0, 0, 0, 0] (fun | 1 => fun v _ => v = .bool false | 3 => fun v _ => v = .bool true | 7 => fun v _ => v = .bool false | 9 => fun v _ => v = .bool false | _ => fun _ _ => True) (fun _ _ => ?_)
        refine sQ 2 ?_
        refine sD (fun wc lc => c_below ha HA wc) ?_
        rintro v v7 v8 rfl - -
        refine sD (fun wc lc => c_below hb HB wc) ?_
        rintro v v9 v10 rfl - -
        refine s_eqv (c := false) rfl rfl rfl rfl rfl (fun _ => by kernel_rfl) (fun _ => by kernel_rfl) ?_
        refine sZ 7 ?_
        refine Wp.condF rfl rfl (Wp.skip ?_)
        obtain ⟨hf, hS⟩ : inW (a + b) = true ∧ S = a + b := by
          rcases C with ⟨c1, c2, -⟩ | ⟨-, c⟩
          · exact ⟨c1, c2⟩
          · exact absurd c (by rw [HA, HB, HS]; decide)
        have fv : fitV (a + b) = a + b := by unfold fitV; simp [hf]
        repeat refine Wp.seq ?_
        refine wQ 1 ?_
        refine sS (fun _ _ _ => ?_)
        refine sZ 1 ?_
        exact Wp.ret ⟨.inr rfl, fun l => ⟨_, ⟨_, _, res_cell rfl rfl rfl rfl, res_tmp (P := Try.prog) rfl rfl, rfl⟩, _, _, i4.eq (by rw [hS, fv]), by rw [show fitE (a + b) = 0 by unfold fitE; simp [hf]], l⟩⟩
      · skip
        repeat refine Wp.seq ?_
        refine wD [0, 2, 1, 3, 4, 5, 6, 8, 7, 9, 10, 11] [4, 3, 0, 0, 0, 0, 319, 255, 0, 0, 0, 0] (fun | 1 => fun v _ => v = .bool false | 3 => fun v _ => v = .bool true | 7 => fun v _ => v = .bool true | 9 => fun v _ => v = .bool false | _ => fun _ _ => True) (fun _ _ => ?_)
        refine sQ 2 ?_
        refine sD (fun wc lc => c_below ha HA wc) ?_
        rintro v v7 v8 rfl - -
        refine sD (fun wc lc => c_below hb HB wc) ?_
        rintro v v9 v10 rfl - -
        refine s_eqv (c := false) rfl rfl rfl rfl rfl (fun _ => by kernel_rfl) (fun _ => by kernel_rfl) ?_
        refine sZ 7 ?_
        refine Wp.condF rfl rfl (Wp.skip ?_)
        obtain ⟨hf, hS⟩ : inW (a + b) = true ∧ S = a + b := by
          rcases C with ⟨c1, c2, -⟩ | ⟨-, c⟩
          · exact ⟨c1, c2⟩
          · exact absurd c (by rw [HA, HB, HS]; decide)
        have fv : fitV (a + b) = a + b := by unfold fitV; simp [hf]
        repeat refine Wp.seq ?_
        refine wQ 1 ?_
        refine sS (fun _ _ _ => ?_)
        refine sZ 1 ?_
        exact Wp.ret ⟨.inr rfl, fun l => ⟨_, ⟨_, _, res_cell rfl rfl rfl rfl, res_tmp (P := Try.prog) rfl rfl, rfl⟩, _, _, i4.eq (by rw [hS, fv]), by rw [show fitE (a + b) = 0 by unfold fitE; simp [hf]], l⟩⟩
  · skip
    cases HB : sg b
    · skip
      cases HS : sg S
      · skip
        repeat refine Wp.seq ?_
        refine wD [0, 2, 1, 3, 4, 5, 6, 8, 7, 9, 10, 11] [4, 3, 0, 0, 0, 0, 319, 255, 0, 0, 0, 0] (fun | 1 => fun v _ => v = .bool true | 3 => fun v _ => v = .bool false | 7 => fun v _ => v = .bool false | 9 => fun v _ => v = .bool true | _ => fun _ _ => True) (fun _ _ => ?_)
        refine sQ 2 ?_
        refine sD (fun wc lc => c_below ha HA wc) ?_
        rintro v v7 v8 rfl - -
        refine sD (fun wc lc => c_below hb HB wc) ?_
        rintro v v9 v10 rfl - -
        refine s_eqv (c := false) rfl rfl rfl rfl rfl (fun _ => by kernel_rfl) (fun _ => by kernel_rfl) ?_
        refine sZ 7 ?_
        refine Wp.condF rfl rfl (Wp.skip ?_)
        obtain ⟨hf, hS⟩ : inW (a + b) = true ∧ S = a + b := by
          rcases C with ⟨c1, c2, -⟩ | ⟨-, c⟩
          · exact ⟨c1, c2⟩
          · exact absurd c (by rw [HA, HB, HS]; decide)
        have fv : fitV (a + b) = a + b := by unfold fitV; simp [hf]
        repeat refine Wp.seq ?_
        refine wQ 1 ?_
        refine sS (fun _ _ _ => ?_)
        refine sZ 1 ?_
        exact Wp.ret ⟨.inr rfl, fun l => ⟨_, ⟨_, _, res_cell rfl rfl rfl rfl, res_tmp (P := Try.prog) rfl rfl, rfl⟩, _, _, i4.eq (by rw [hS, fv]), by rw [show fitE (a + b) = 0 by unfold fitE; simp [hf]], l⟩⟩
      · skip
        repeat refine Wp.seq ?_
        refine wD [0, 2, 1, 3, 4, 5, 6, 8, 7, 9, 10, 11] [4, 3, 0, 0, 0, 0, 319, 255, 0, 0, 0, 0] (fun | 1 => fun v _ => v = .bool true | 3 => fun v _ => v = .bool false | 7 => fun v _ => v = .bool true | 9 => fun v _ => v = .bool true | _ => fun _ _ => True) (fun _ _ => ?_)
        refine sQ 2 ?_
        refine sD (fun wc lc => c_below ha HA wc) ?_
        rintro v v7 v8 rfl - -
        refine sD (fun wc lc => c_below hb HB wc) ?_
        rintro v v9 v10 rfl - -
        refine s_eqv (c := false) rfl rfl rfl rfl rfl (fun _ => by kernel_rfl) (fun _ => by kernel_rfl) ?_
        refine sZ 7 ?_
        refine Wp.condF rfl rfl (Wp.skip ?_)
        obtain ⟨hf, hS⟩ : inW (a + b) = true ∧ S = a + b := by
          rcases C with ⟨c1, c2, -⟩ | ⟨-, c⟩
          · exact ⟨c1, c2⟩
          · exact absurd c (by rw [HA, HB, HS]; decide)
        have fv : fitV (a + b) = a + b := by unfold fitV; simp [hf]
        repeat refine Wp.seq ?_
        refine wQ 1 ?_
        refine sS (fun _ _ _ => ?_)
        refine sZ 1 ?_
        exact Wp.ret ⟨.inr rfl, fun l => ⟨_, ⟨_, _, res_cell rfl rfl rfl rfl, res_tmp (P := Try.prog) rfl rfl, rfl⟩, _, _, i4.eq (by rw [hS, fv]), by rw [show fitE (a + b) = 0 by unfold fitE; simp [hf]], l⟩⟩
    · skip
      cases HS : sg S
      · skip
        repeat refine Wp.seq ?_
        refine wD [0, 2, 1, 3, 4, 5, 6, 8, 7, 9, 10, 11] [4, 3, 0, 0, 0, 0, 319, 255, 0, 0, 0, 0] (fun | 1 => fun v _ => v = .bool true | 3 => fun v _ => v = .bool true | 7 => fun v _ => v = .bool false | 9 => fun v _ => v = .bool true | _ => fun _ _ => True) (fun _ _ => ?_)
        refine sQ 2 ?_
        refine sD (fun wc lc => c_below ha HA wc) ?_
        rintro v v7 v8 rfl - -
        refine sD (fun wc lc => c_below hb HB wc) ?_
        rintro v v9 v10 rfl - -
        refine s_eqv (c := true) rfl rfl rfl rfl rfl (fun _ => by kernel_rfl) (fun _ => by kernel_rfl) ?_
        refine sQ 3 ?_
        refine sD (fun wc lc => c_below i4 HS wc) ?_
        rintro v v11 v12 rfl - -
        refine sD (fun wc lc => c_below ha HA wc) ?_
        rintro v v13 v14 rfl - -
        refine s_eqv (c := true) rfl rfl rfl rfl rfl (fun _ => by kernel_rfl) (fun _ => by kernel_rfl) ?_
        refine sZ 1 ?_
        refine Wp.condT rfl rfl ?_
        have hf : inW (a + b) = false := by
          rcases C with ⟨-, -, c⟩ | ⟨c, -⟩
          · exact absurd (by rw [HA, HB, HS]; decide) c
          · exact c
        have fv : fitV (a + b) = 0 := by unfold fitV; simp [hf]
        repeat refine Wp.seq ?_
        refine wR [0, 1, 2] ?_
        refine s_val rfl rfl rfl rfl (v := .agg #[.int .i64 0, .int .u64 0]) (fun _ => by kernel_rfl) ?_
        refine sS (fun _ _ _ => ?_)
        refine sZ 1 ?_
        exact Wp.ret ⟨.inr rfl, fun l => ⟨_, ⟨_, _, res_cell rfl rfl rfl rfl, res_tmp (P := Try.prog) rfl rfl, rfl⟩, _, _, wide_0.eq fv.symm, by rw [show fitE (a + b) = 2 by unfold fitE; simp [hf]], l⟩⟩
      · skip
        repeat refine Wp.seq ?_
        refine wD [0, 2, 1, 3, 4, 5, 6, 8, 7, 9, 10, 11] [4, 3, 0, 0, 0, 0, 319, 255, 0, 0, 0, 0] (fun | 1 => fun v _ => v = .bool true | 3 => fun v _ => v = .bool true | 7 => fun v _ => v = .bool true | 9 => fun v _ => v = .bool true | _ => fun _ _ => True) (fun _ _ => ?_)
        refine sQ 2 ?_
        refine sD (fun wc lc => c_below ha HA wc) ?_
        rintro v v7 v8 rfl - -
        refine sD (fun wc lc => c_below hb HB wc) ?_
        rintro v v9 v10 rfl - -
        refine s_eqv (c := true) rfl rfl rfl rfl rfl (fun _ => by kernel_rfl) (fun _ => by kernel_rfl) ?_
        refine sQ 3 ?_
        refine sD (fun wc lc => c_below i4 HS wc) ?_
        rintro v v11 v12 rfl - -
        refine sD (fun wc lc => c_below ha HA wc) ?_
        rintro v v13 v14 rfl - -
        refine s_eqv (c := false) rfl rfl rfl rfl rfl (fun _ => by kernel_rfl) (fun _ => by kernel_rfl) ?_
        refine sZ 1 ?_
        refine Wp.condF rfl rfl (Wp.skip ?_)
        obtain ⟨hf, hS⟩ : inW (a + b) = true ∧ S = a + b := by
          rcases C with ⟨c1, c2, -⟩ | ⟨-, c⟩
          · exact ⟨c1, c2⟩
          · exact absurd c (by rw [HA, HB, HS]; decide)
        have fv : fitV (a + b) = a + b := by unfold fitV; simp [hf]
        repeat refine Wp.seq ?_
        refine wQ 1 ?_
        refine sS (fun _ _ _ => ?_)
        refine sZ 1 ?_
        exact Wp.ret ⟨.inr rfl, fun l => ⟨_, ⟨_, _, res_cell rfl rfl rfl rfl, res_tmp (P := Try.prog) rfl rfl, rfl⟩, _, _, i4.eq (by rw [hS, fv]), by rw [show fitE (a + b) = 0 by unfold fitE; simp [hf]], l⟩⟩
theorem wsub_fit {a b : Int} (a0 : -170141183460469231731687303715884105728 ≤ a) (a1 : a < 170141183460469231731687303715884105728) (b0 : -170141183460469231731687303715884105728 ≤ b) (b1 : b < 170141183460469231731687303715884105728) :
    (inW (a - b) = true ∧ sgn ((a % 340282366920938463463374607431768211456 - b % 340282366920938463463374607431768211456) % 340282366920938463463374607431768211456) = a - b ∧ ¬ (sg a ≠ sg b ∧ sg (sgn ((a % 340282366920938463463374607431768211456 - b % 340282366920938463463374607431768211456) % 340282366920938463463374607431768211456)) ≠ sg a)) ∨ (inW (a - b) = false ∧ sg a ≠ sg b ∧ sg (sgn ((a % 340282366920938463463374607431768211456 - b % 340282366920938463463374607431768211456) % 340282366920938463463374607431768211456)) ≠ sg a) := by
  obtain ⟨s1, s2, s3⟩ := diff_bits a0 a1 b0 b1
  generalize sgn ((a % 340282366920938463463374607431768211456 - b % 340282366920938463463374607431768211456) % 340282366920938463463374607431768211456) = s at *
  unfold inW sg
  by_cases g : -170141183460469231731687303715884105728 ≤ a - b ∧ a - b < 170141183460469231731687303715884105728
  · refine .inl ⟨by simpa using g, s1 g, ?_⟩
    rw [s1 g]
    simp only [ne_eq, decide_eq_decide]
    omega
  · refine .inr ⟨by simpa using g, ?_⟩
    simp only [ne_eq, decide_eq_decide]
    by_cases g2 : a - b < -170141183460469231731687303715884105728
    · have := s2 g2; omega
    · have := s3 (by omega); omega
set_option maxHeartbeats 4000000 in
theorem wsub_any {ah al bh bl a b : Int} (ha : WideIs ah al a) (hb : WideIs bh bl b) (w : World) :
    Calls Try.prog 73 #[.agg #[.int .i64 ah, .int .u64 al], .agg #[.int .i64 bh, .int .u64 bl]] w fun e w' =>
      ∃ h l : Int, WideIs h l (fitV (a - b)) ∧ e = .returned (.tuple #[.agg #[.int .i64 h, .int .u64 l], .int .i64 (fitE (a - b))]) ∧ Below w.heap.size w w' := by
  refine calls_Wp (args := [_, _]) (n := 33) Try.func73 rfl rfl (by simp) ?_
  repeat refine Wp.seq ?_
  refine wR [0, 1, 2, 3] ?_
  refine sE (fun _ _ _ _ => ?_)
  refine sE (fun _ _ _ _ => ?_)
  refine sO (fun _ _ _ _ => ?_)
  refine sZ 1 ?_
  repeat refine Wp.seq ?_
  refine wD [0, 2, 8, 1, 3, 4, 5, 6, 7, 9, 10] [260, 259, 255, 0, 0, 0, 0, 447, 895, 0, 0] (fun | 1 => fun v _ => IsLb (a % 340282366920938463463374607431768211456) v | 3 => fun v _ => IsLb (b % 340282366920938463463374607431768211456) v | 4 => fun v _ => ∃ s o, v = .tuple #[s, .bool o] ∧ IsLb ((a % 340282366920938463463374607431768211456 - b % 340282366920938463463374607431768211456) % 340282366920938463463374607431768211456) s | _ => fun _ _ => True) (fun _ _ => ?_)
  refine sQ 2 ?_
  refine sO (fun _ _ _ _ => ?_)
  refine sD (fun wc lc => c_bits ha wc) ?_
  rintro v v1 v2 i1 - -
  refine sD (fun wc lc => c_bits hb wc) ?_
  rintro v v3 v4 i2 - -
  refine sD (fun wc lc => c_lsub i1 i2 wc) ?_
  rintro v v5 v6 ⟨s, o, rfl, sh, sl, rfl, i3⟩ - -
  refine sQ 3 ?_
  refine sS (fun _ _ _ => ?_)
  refine sZ 1 ?_
  repeat refine Wp.seq ?_
  refine wQ 1 ?_
  refine s_call rfl rfl rfl (by kernel_rfl) rfl ?_
  refine (ofBits_any i3 _).mono ?_
  rintro e w1 ⟨rh, i4, rfl, b1⟩
  refine ⟨_, rfl, b1, ?_⟩
  refine sO (fun _ _ _ _ => ?_)
  refine sS (fun _ _ _ => ?_)
  refine vOrd_nil ?_
  have C := wsub_fit ha.range.1 ha.range.2 hb.range.1 hb.range.2
  generalize sgn ((a % 340282366920938463463374607431768211456 - b % 340282366920938463463374607431768211456) % 340282366920938463463374607431768211456) = S at *
  cases HA : sg a
  · skip
    cases HB : sg b
    · skip
      cases HS : sg S
      · skip
        repeat refine Wp.seq ?_
        refine wD [0, 2, 1, 3, 4, 5, 6, 8, 7, 9, 10, 11] [4, 3, 0, 0, 0, 0, 319, 255, 0, 0, 0, 0] (fun | 1 => fun v _ => v = .bool false | 3 => fun v _ => v = .bool false | 7 => fun v _ => v = .bool false | 9 => fun v _ => v = .bool false | _ => fun _ _ => True) (fun _ _ => ?_)
        refine sQ 2 ?_
        refine sD (fun wc lc => c_below ha HA wc) ?_
        rintro v v7 v8 rfl - -
        refine sD (fun wc lc => c_below hb HB wc) ?_
        rintro v v9 v10 rfl - -
        refine s_eqv (c := false) rfl rfl rfl rfl rfl (fun _ => by kernel_rfl) (fun _ => by kernel_rfl) ?_
        refine sZ 7 ?_
        refine Wp.condF rfl rfl (Wp.skip ?_)
        obtain ⟨hf, hS⟩ : inW (a - b) = true ∧ S = a - b := by
          rcases C with ⟨c1, c2, -⟩ | ⟨-, c⟩
          · exact ⟨c1, c2⟩
          · exact absurd c (by rw [HA, HB, HS]; decide)
        have fv : fitV (a - b) = a - b := by unfold fitV; simp [hf]
        repeat refine Wp.seq ?_
        refine wQ 1 ?_
        refine sS (fun _ _ _ => ?_)
        refine sZ 1 ?_
        exact Wp.ret ⟨.inr rfl, fun l => ⟨_, ⟨_, _, res_cell rfl rfl rfl rfl, res_tmp (P := Try.prog) rfl rfl, rfl⟩, _, _, i4.eq (by rw [hS, fv]), by rw [show fitE (a - b) = 0 by unfold fitE; simp [hf]], l⟩⟩
      · skip
        repeat refine Wp.seq ?_
        refine wD [0, 2, 1, 3, 4, 5, 6, 8, 7, 9, 10, 11] [4, 3, 0, 0, 0, 0, 319, 255, 0, 0, 0, 0] (fun | 1 => fun v _ => v = .bool false | 3 => fun v _ => v = .bool false | 7 => fun v _ => v = .bool true | 9 => fun v _ => v = .bool false | _ => fun _ _ => True) (fun _ _ => ?_)
        refine sQ 2 ?_
        refine sD (fun wc lc => c_below ha HA wc) ?_
        rintro v v7 v8 rfl - -
        refine sD (fun wc lc => c_below hb HB wc) ?_
        rintro v v9 v10 rfl - -
        refine s_eqv (c := false) rfl rfl rfl rfl rfl (fun _ => by kernel_rfl) (fun _ => by kernel_rfl) ?_
        refine sZ 7 ?_
        refine Wp.condF rfl rfl (Wp.skip ?_)
        obtain ⟨hf, hS⟩ : inW (a - b) = true ∧ S = a - b := by
          rcases C with ⟨c1, c2, -⟩ | ⟨-, c⟩
          · exact ⟨c1, c2⟩
          · exact absurd c (by rw [HA, HB, HS]; decide)
        have fv : fitV (a - b) = a - b := by unfold fitV; simp [hf]
        repeat refine Wp.seq ?_
        refine wQ 1 ?_
        refine sS (fun _ _ _ => ?_)
        refine sZ 1 ?_
        exact Wp.ret ⟨.inr rfl, fun l => ⟨_, ⟨_, _, res_cell rfl rfl rfl rfl, res_tmp (P := Try.prog) rfl rfl, rfl⟩, _, _, i4.eq (by rw [hS, fv]), by rw [show fitE (a - b) = 0 by unfold fitE; simp [hf]], l⟩⟩
    · skip
      cases HS : sg S
      · skip
        repeat refine Wp.seq ?_
        refine wD [0, 2, 1, 3, 4, 5, 6, 8, 7, 9, 10, 11] [4, 3, 0, 0, 0, 0, 319, 255, 0, 0, 0, 0] (fun | 1 => fun v _ => v = .bool false | 3 => fun v _ => v = .bool true | 7 => fun v _ => v = .bool false | 9 => fun v _ => v = .bool false | _ => fun _ _ => True) (fun _ _ => ?_)
        refine sQ 2 ?_
        refine sD (fun wc lc => c_below ha HA wc) ?_
        rintro v v7 v8 rfl - -
        refine sD (fun wc lc => c_below hb HB wc) ?_
        rintro v v9 v10 rfl - -
        refine s_eqv (c := true) rfl rfl rfl rfl rfl (fun _ => by kernel_rfl) (fun _ => by kernel_rfl) ?_
        refine sQ 3 ?_
        refine sD (fun wc lc => c_below i4 HS wc) ?_
        rintro v v11 v12 rfl - -
        refine sD (fun wc lc => c_below ha HA wc) ?_
        rintro v v13 v14 rfl - -
        refine s_eqv (c := false) rfl rfl rfl rfl rfl (fun _ => by kernel_rfl) (fun _ => by kernel_rfl) ?_
        refine sZ 1 ?_
        refine Wp.condF rfl rfl (Wp.skip ?_)
        obtain ⟨hf, hS⟩ : inW (a - b) = true ∧ S = a - b := by
          rcases C with ⟨c1, c2, -⟩ | ⟨-, c⟩
          · exact ⟨c1, c2⟩
          · exact absurd c (by rw [HA, HB, HS]; decide)
        have fv : fitV (a - b) = a - b := by unfold fitV; simp [hf]
        repeat refine Wp.seq ?_
        refine wQ 1 ?_
        refine sS (fun _ _ _ => ?_)
        refine sZ 1 ?_
        exact Wp.ret ⟨.inr rfl, fun l => ⟨_, ⟨_, _, res_cell rfl rfl rfl rfl, res_tmp (P := Try.prog) rfl rfl, rfl⟩, _, _, i4.eq (by rw [hS, fv]), by rw [show fitE (a - b) = 0 by unfold fitE; simp [hf]], l⟩⟩
      · skip
        repeat refine Wp.seq ?_
        refine wD [0, 2, 1, 3, 4, 5, 6, 8, 7, 9, 10, 11] [4, 3, 0, 0, 0, 0, 319, 255, 0, 0, 0, 0] (fun | 1 => fun v _ => v = .bool false | 3 => fun v _ => v = .bool true | 7 => fun v _ => v = .bool true | 9 => fun v _ => v = .bool false | _ => fun _ _ => True) (fun _ _ => ?_)
        refine sQ 2 ?_
        refine sD (fun wc lc => c_below ha HA wc) ?_
        rintro v v7 v8 rfl - -
        refine sD (fun wc lc => c_below hb HB wc) ?_
        rintro v v9 v10 rfl - -
        refine s_eqv (c := true) rfl rfl rfl rfl rfl (fun _ => by kernel_rfl) (fun _ => by kernel_rfl) ?_
        refine sQ 3 ?_
        refine sD (fun wc lc => c_below i4 HS wc) ?_
        rintro v v11 v12 rfl - -
        refine sD (fun wc lc => c_below ha HA wc) ?_
        rintro v v13 v14 rfl - -
        refine s_eqv (c := true) rfl rfl rfl rfl rfl (fun _ => by kernel_rfl) (fun _ => by kernel_rfl) ?_
        refine sZ 1 ?_
        refine Wp.condT rfl rfl ?_
        have hf : inW (a - b) = false := by
          rcases C with ⟨-, -, c⟩ | ⟨c, -⟩
          · exact absurd (by rw [HA, HB, HS]; decide) c
          · exact c
        have fv : fitV (a - b) = 0 := by unfold fitV; simp [hf]
        repeat refine Wp.seq ?_
        refine wR [0, 1, 2] ?_
        refine s_val rfl rfl rfl rfl (v := .agg #[.int .i64 0, .int .u64 0]) (fun _ => by kernel_rfl) ?_
        refine sS (fun _ _ _ => ?_)
        refine sZ 1 ?_
        exact Wp.ret ⟨.inr rfl, fun l => ⟨_, ⟨_, _, res_cell rfl rfl rfl rfl, res_tmp (P := Try.prog) rfl rfl, rfl⟩, _, _, wide_0.eq fv.symm, by rw [show fitE (a - b) = 2 by unfold fitE; simp [hf]], l⟩⟩
  · skip
    cases HB : sg b
    · skip
      cases HS : sg S
      · skip
        repeat refine Wp.seq ?_
        refine wD [0, 2, 1, 3, 4, 5, 6, 8, 7, 9, 10, 11] [4, 3, 0, 0, 0, 0, 319, 255, 0, 0, 0, 0] (fun | 1 => fun v _ => v = .bool true | 3 => fun v _ => v = .bool false | 7 => fun v _ => v = .bool false | 9 => fun v _ => v = .bool true | _ => fun _ _ => True) (fun _ _ => ?_)
        refine sQ 2 ?_
        refine sD (fun wc lc => c_below ha HA wc) ?_
        rintro v v7 v8 rfl - -
        refine sD (fun wc lc => c_below hb HB wc) ?_
        rintro v v9 v10 rfl - -
        refine s_eqv (c := true) rfl rfl rfl rfl rfl (fun _ => by kernel_rfl) (fun _ => by kernel_rfl) ?_
        refine sQ 3 ?_
        refine sD (fun wc lc => c_below i4 HS wc) ?_
        rintro v v11 v12 rfl - -
        refine sD (fun wc lc => c_below ha HA wc) ?_
        rintro v v13 v14 rfl - -
        refine s_eqv (c := true) rfl rfl rfl rfl rfl (fun _ => by kernel_rfl) (fun _ => by kernel_rfl) ?_
        refine sZ 1 ?_
        refine Wp.condT rfl rfl ?_
        have hf : inW (a - b) = false := by
          rcases C with ⟨-, -, c⟩ | ⟨c, -⟩
          · exact absurd (by rw [HA, HB, HS]; decide) c
          · exact c
        have fv : fitV (a - b) = 0 := by unfold fitV; simp [hf]
        repeat refine Wp.seq ?_
        refine wR [0, 1, 2] ?_
        refine s_val rfl rfl rfl rfl (v := .agg #[.int .i64 0, .int .u64 0]) (fun _ => by kernel_rfl) ?_
        refine sS (fun _ _ _ => ?_)
        refine sZ 1 ?_
        exact Wp.ret ⟨.inr rfl, fun l => ⟨_, ⟨_, _, res_cell rfl rfl rfl rfl, res_tmp (P := Try.prog) rfl rfl, rfl⟩, _, _, wide_0.eq fv.symm, by rw [show fitE (a - b) = 2 by unfold fitE; simp [hf]], l⟩⟩
      · skip
        repeat refine Wp.seq ?_
        refine wD [0, 2, 1, 3, 4, 5, 6, 8, 7, 9, 10, 11] [4, 3, 0, 0, 0, 0, 319, 255, 0, 0, 0, 0] (fun | 1 => fun v _ => v = .bool true | 3 => fun v _ => v = .bool false | 7 => fun v _ => v = .bool true | 9 => fun v _ => v = .bool true | _ => fun _ _ => True) (fun _ _ => ?_)
        refine sQ 2 ?_
        refine sD (fun wc lc => c_below ha HA wc) ?_
        rintro v v7 v8 rfl - -
        refine sD (fun wc lc => c_below hb HB wc) ?_
        rintro v v9 v10 rfl - -
        refine s_eqv (c := true) rfl rfl rfl rfl rfl (fun _ => by kernel_rfl) (fun _ => by kernel_rfl) ?_
        refine sQ 3 ?_
        refine sD (fun wc lc => c_below i4 HS wc) ?_
        rintro v v11 v12 rfl - -
        refine sD (fun wc lc => c_below ha HA wc) ?_
        rintro v v13 v14 rfl - -
        refine s_eqv (c := false) rfl rfl rfl rfl rfl (fun _ => by kernel_rfl) (fun _ => by kernel_rfl) ?_
        refine sZ 1 ?_
        refine Wp.condF rfl rfl (Wp.skip ?_)
        obtain ⟨hf, hS⟩ : inW (a - b) = true ∧ S = a - b := by
          rcases C with ⟨c1, c2, -⟩ | ⟨-, c⟩
          · exact ⟨c1, c2⟩
          · exact absurd c (by rw [HA, HB, HS]; decide)
        have fv : fitV (a - b) = a - b := by unfold fitV; simp [hf]
        repeat refine Wp.seq ?_
        refine wQ 1 ?_
        refine sS (fun _ _ _ => ?_)
        refine sZ 1 ?_
        exact Wp.ret ⟨.inr rfl, fun l => ⟨_, ⟨_, _, res_cell rfl rfl rfl rfl, res_tmp (P := Try.prog) rfl rfl, rfl⟩, _, _, i4.eq (by rw [hS, fv]), by rw [show fitE (a - b) = 0 by unfold fitE; simp [hf]], l⟩⟩
    · skip
      cases HS : sg S
      · skip
        repeat refine Wp.seq ?_
        refine wD [0, 2, 1, 3, 4, 5, 6, 8, 7, 9, 10, 11] [4, 3, 0, 0, 0, 0, 319, 255, 0, 0, 0, 0] (fun | 1 => fun v _ => v = .bool true | 3 => fun v _ => v = .bool true | 7 => fun v _ => v = .bool false | 9 => fun v _ => v = .bool true | _ => fun _ _ => True) (fun _ _ => ?_)
        refine sQ 2 ?_
        refine sD (fun wc lc => c_below ha HA wc) ?_
        rintro v v7 v8 rfl - -
        refine sD (fun wc lc => c_below hb HB wc) ?_
        rintro v v9 v10 rfl - -
        refine s_eqv (c := false) rfl rfl rfl rfl rfl (fun _ => by kernel_rfl) (fun _ => by kernel_rfl) ?_
        refine sZ 7 ?_
        refine Wp.condF rfl rfl (Wp.skip ?_)
        obtain ⟨hf, hS⟩ : inW (a - b) = true ∧ S = a - b := by
          rcases C with ⟨c1, c2, -⟩ | ⟨-, c⟩
          · exact ⟨c1, c2⟩
          · exact absurd c (by rw [HA, HB, HS]; decide)
        have fv : fitV (a - b) = a - b := by unfold fitV; simp [hf]
        repeat refine Wp.seq ?_
        refine wQ 1 ?_
        refine sS (fun _ _ _ => ?_)
        refine sZ 1 ?_
        exact Wp.ret ⟨.inr rfl, fun l => ⟨_, ⟨_, _, res_cell rfl rfl rfl rfl, res_tmp (P := Try.prog) rfl rfl, rfl⟩, _, _, i4.eq (by rw [hS, fv]), by rw [show fitE (a - b) = 0 by unfold fitE; simp [hf]], l⟩⟩
      · skip
        repeat refine Wp.seq ?_
        refine wD [0, 2, 1, 3, 4, 5, 6, 8, 7, 9, 10, 11] [4, 3, 0, 0, 0, 0, 319, 255, 0, 0, 0, 0] (fun | 1 => fun v _ => v = .bool true | 3 => fun v _ => v = .bool true | 7 => fun v _ => v = .bool true | 9 => fun v _ => v = .bool true | _ => fun _ _ => True) (fun _ _ => ?_)
        refine sQ 2 ?_
        refine sD (fun wc lc => c_below ha HA wc) ?_
        rintro v v7 v8 rfl - -
        refine sD (fun wc lc => c_below hb HB wc) ?_
        rintro v v9 v10 rfl - -
        refine s_eqv (c := false) rfl rfl rfl rfl rfl (fun _ => by kernel_rfl) (fun _ => by kernel_rfl) ?_
        refine sZ 7 ?_
        refine Wp.condF rfl rfl (Wp.skip ?_)
        obtain ⟨hf, hS⟩ : inW (a - b) = true ∧ S = a - b := by
          rcases C with ⟨c1, c2, -⟩ | ⟨-, c⟩
          · exact ⟨c1, c2⟩
          · exact absurd c (by rw [HA, HB, HS]; decide)
        have fv : fitV (a - b) = a - b := by unfold fitV; simp [hf]
        repeat refine Wp.seq ?_
        refine wQ 1 ?_
        refine sS (fun _ _ _ => ?_)
        refine sZ 1 ?_
        exact Wp.ret ⟨.inr rfl, fun l => ⟨_, ⟨_, _, res_cell rfl rfl rfl rfl, res_tmp (P := Try.prog) rfl rfl, rfl⟩, _, _, i4.eq (by rw [hS, fv]), by rw [show fitE (a - b) = 0 by unfold fitE; simp [hf]], l⟩⟩
theorem wmul_any {ah al bh bl a b : Int} (ha : WideIs ah al a) (hb : WideIs bh bl b) (w : World) :
    Calls Try.prog 49 #[.agg #[.int .i64 ah, .int .u64 al], .agg #[.int .i64 bh, .int .u64 bl]] w fun e w' =>
      ∃ h l : Int, WideIs h l (fitV (a * b)) ∧ e = .returned (.tuple #[.agg #[.int .i64 h, .int .u64 l], .int .i64 (fitE (a * b))]) ∧ Below w.heap.size w w' := by
  obtain ⟨P, hP⟩ : ∃ P, P = ab a * ab b := ⟨_, rfl⟩
  have P0 : 0 ≤ P := by rw [hP]; exact Int.mul_nonneg (ab_nonneg a) (ab_nonneg b)
  refine calls_Wp (args := [_, _]) (n := 29) Try.func49 rfl rfl (by simp) ?_
  repeat refine Wp.seq ?_
  refine wR [0, 1, 2, 3] ?_
  refine sE (fun _ _ _ _ => ?_)
  refine sE (fun _ _ _ _ => ?_)
  refine sO (fun _ _ _ _ => ?_)
  refine sZ 1 ?_
  repeat refine Wp.seq ?_
  refine wD [0, 2, 8, 9, 1, 3, 4, 5, 6, 7, 10, 11] [772, 771, 767, 511, 0, 0, 0, 0, 959, 1919, 0, 0] (fun | 1 => fun v _ => IsLb (ab a) v | 3 => fun v _ => IsLb (ab b) v | 4 => fun v _ => ∃ hi lo, v = .tuple #[hi, lo] ∧ IsLb (ab a * ab b / 340282366920938463463374607431768211456) hi ∧ IsLb (ab a * ab b % 340282366920938463463374607431768211456) lo | _ => fun _ _ => True) (fun _ _ => ?_)
  refine sQ 2 ?_
  refine sO (fun _ _ _ _ => ?_)
  refine sO (fun _ _ _ _ => ?_)
  refine sD (fun wc lc => c_size ha wc) ?_
  rintro v v1 v2 i1 - -
  refine sD (fun wc lc => c_size hb wc) ?_
  rintro v v3 v4 i2 - -
  refine sD (fun wc lc => c_lmul i1 i2 wc) ?_
  rintro v v5 v6 ⟨hi, lo, rfl, ⟨hh, hl, rfl, i3⟩, ⟨lh, ll, rfl, i4⟩⟩ - -
  refine sQ 3 ?_
  refine sS (fun _ _ _ => ?_)
  refine sS (fun _ _ _ => ?_)
  refine vOrd_nil ?_
  rw [← hP] at i3 i4
  repeat refine Wp.seq ?_
  refine wQ 1 ?_
  refine s_val rfl rfl rfl rfl (v := .agg #[.int .u64 0, .int .u64 0]) (fun _ => by kernel_rfl) ?_
  by_cases g : P < 340282366920938463463374607431768211456
  · refine s_eqv (c := false) rfl rfl rfl rfl rfl (fun _ => by kernel_rfl) (fun w => by rw [run_neq_limb, eqL_same i3 (limb_0.eq (by omega))]; rfl) ?_
    refine vOrd_nil ?_
    refine Wp.condF rfl rfl (Wp.skip ?_)
    have L4 : LimbIs lh ll P := i4.eq (by omega)
    cases HA : sg a
    · skip
      cases HB : sg b
      · skip
        have EP : a * b = P := by rw [hP]; exact mul_like (by rw [HA, HB])
        repeat refine Wp.seq ?_
        refine wD [0, 1, 3, 2, 4, 5, 6, 7, 8, 9, 10] [62, 9, 7, 0, 0, 0, 0, 383, 0, 0, 0] (fun | 2 => fun v _ => v = .bool false | 4 => fun v _ => v = .bool false | 6 => fun v _ => ∃ s, v = .tuple #[s, .int .i64 (fitE P)] ∧ IsW (fitV P) s | _ => fun _ _ => True) (fun _ _ => ?_)
        refine sQ 3 ?_
        refine sD (fun wc lc => c_below ha HA wc) ?_
        rintro v v7 v8 rfl - -
        refine sD (fun wc lc => c_below hb HB wc) ?_
        rintro v v9 v10 rfl - -
        refine s_eqv (c := false) rfl rfl rfl rfl rfl (fun _ => by kernel_rfl) (fun _ => by kernel_rfl) ?_
        refine sD (fun wc lc => c_signed_p L4 wc) ?_
        rintro v v11 v12 ⟨s, rfl, rh, rl, rfl, i6⟩ - -
        refine sQ 2 ?_
        refine sS (fun _ _ _ => ?_)
        refine sZ 1 ?_
        exact Wp.ret ⟨.inr rfl, fun l => ⟨_, ⟨_, _, res_cell rfl rfl rfl rfl, res_tmp (P := Try.prog) rfl rfl, rfl⟩, _, _, i6.eq (by rw [EP]), by rw [EP], l⟩⟩
      · skip
        have EP : a * b = (-P) := by rw [hP]; exact mul_unlike (by rw [HA, HB]; decide)
        repeat refine Wp.seq ?_
        refine wD [0, 1, 3, 2, 4, 5, 6, 7, 8, 9, 10] [62, 9, 7, 0, 0, 0, 0, 383, 0, 0, 0] (fun | 2 => fun v _ => v = .bool false | 4 => fun v _ => v = .bool true | 6 => fun v _ => ∃ s, v = .tuple #[s, .int .i64 (fitE (-P))] ∧ IsW (fitV (-P)) s | _ => fun _ _ => True) (fun _ _ => ?_)
        refine sQ 3 ?_
        refine sD (fun wc lc => c_below ha HA wc) ?_
        rintro v v7 v8 rfl - -
        refine sD (fun wc lc => c_below hb HB wc) ?_
        rintro v v9 v10 rfl - -
        refine s_eqv (c := true) rfl rfl rfl rfl rfl (fun _ => by kernel_rfl) (fun _ => by kernel_rfl) ?_
        refine sD (fun wc lc => c_signed_m L4 wc) ?_
        rintro v v11 v12 ⟨s, rfl, rh, rl, rfl, i6⟩ - -
        refine sQ 2 ?_
        refine sS (fun _ _ _ => ?_)
        refine sZ 1 ?_
        exact Wp.ret ⟨.inr rfl, fun l => ⟨_, ⟨_, _, res_cell rfl rfl rfl rfl, res_tmp (P := Try.prog) rfl rfl, rfl⟩, _, _, i6.eq (by rw [EP]), by rw [EP], l⟩⟩
    · skip
      cases HB : sg b
      · skip
        have EP : a * b = (-P) := by rw [hP]; exact mul_unlike (by rw [HA, HB]; decide)
        repeat refine Wp.seq ?_
        refine wD [0, 1, 3, 2, 4, 5, 6, 7, 8, 9, 10] [62, 9, 7, 0, 0, 0, 0, 383, 0, 0, 0] (fun | 2 => fun v _ => v = .bool true | 4 => fun v _ => v = .bool false | 6 => fun v _ => ∃ s, v = .tuple #[s, .int .i64 (fitE (-P))] ∧ IsW (fitV (-P)) s | _ => fun _ _ => True) (fun _ _ => ?_)
        refine sQ 3 ?_
        refine sD (fun wc lc => c_below ha HA wc) ?_
        rintro v v7 v8 rfl - -
        refine sD (fun wc lc => c_below hb HB wc) ?_
        rintro v v9 v10 rfl - -
        refine s_eqv (c := true) rfl rfl rfl rfl rfl (fun _ => by kernel_rfl) (fun _ => by kernel_rfl) ?_
        refine sD (fun wc lc => c_signed_m L4 wc) ?_
        rintro v v11 v12 ⟨s, rfl, rh, rl, rfl, i6⟩ - -
        refine sQ 2 ?_
        refine sS (fun _ _ _ => ?_)
        refine sZ 1 ?_
        exact Wp.ret ⟨.inr rfl, fun l => ⟨_, ⟨_, _, res_cell rfl rfl rfl rfl, res_tmp (P := Try.prog) rfl rfl, rfl⟩, _, _, i6.eq (by rw [EP]), by rw [EP], l⟩⟩
      · skip
        have EP : a * b = P := by rw [hP]; exact mul_like (by rw [HA, HB])
        repeat refine Wp.seq ?_
        refine wD [0, 1, 3, 2, 4, 5, 6, 7, 8, 9, 10] [62, 9, 7, 0, 0, 0, 0, 383, 0, 0, 0] (fun | 2 => fun v _ => v = .bool true | 4 => fun v _ => v = .bool true | 6 => fun v _ => ∃ s, v = .tuple #[s, .int .i64 (fitE P)] ∧ IsW (fitV P) s | _ => fun _ _ => True) (fun _ _ => ?_)
        refine sQ 3 ?_
        refine sD (fun wc lc => c_below ha HA wc) ?_
        rintro v v7 v8 rfl - -
        refine sD (fun wc lc => c_below hb HB wc) ?_
        rintro v v9 v10 rfl - -
        refine s_eqv (c := false) rfl rfl rfl rfl rfl (fun _ => by kernel_rfl) (fun _ => by kernel_rfl) ?_
        refine sD (fun wc lc => c_signed_p L4 wc) ?_
        rintro v v11 v12 ⟨s, rfl, rh, rl, rfl, i6⟩ - -
        refine sQ 2 ?_
        refine sS (fun _ _ _ => ?_)
        refine sZ 1 ?_
        exact Wp.ret ⟨.inr rfl, fun l => ⟨_, ⟨_, _, res_cell rfl rfl rfl rfl, res_tmp (P := Try.prog) rfl rfl, rfl⟩, _, _, i6.eq (by rw [EP]), by rw [EP], l⟩⟩
  · refine s_eqv (c := true) rfl rfl rfl rfl rfl (fun _ => by kernel_rfl) (fun w => by rw [run_neq_limb, eqL_other i3 limb_0 (by omega)]; rfl) ?_
    refine vOrd_nil ?_
    refine Wp.condT rfl rfl ?_
    obtain ⟨-, fv, fe⟩ : inW (a * b) = false ∧ fitV (a * b) = 0 ∧ fitE (a * b) = 2 := by
      apply inW_no
      by_cases hs : sg a = sg b
      · rw [mul_like hs, ← hP]; omega
      · rw [mul_unlike hs, ← hP]; omega
    repeat refine Wp.seq ?_
    refine wR [0, 1, 2] ?_
    refine s_val rfl rfl rfl rfl (v := .agg #[.int .i64 0, .int .u64 0]) (fun _ => by kernel_rfl) ?_
    refine sS (fun _ _ _ => ?_)
    refine sZ 1 ?_
    exact Wp.ret ⟨.inr rfl, fun l => ⟨_, ⟨_, _, res_cell rfl rfl rfl rfl, res_tmp (P := Try.prog) rfl rfl, rfl⟩, _, _, wide_0.eq fv.symm, by rw [fe], l⟩⟩
theorem limb_1 : LimbIs 0 1 1 := by unfold LimbIs; omega
/-- Is it an int? -/
def inI (z : Int) : Bool := decide (-9223372036854775808 ≤ z ∧ z < 9223372036854775808)
theorem int_low {h l z : Int} (k : WideIs h l z) (g : inI z = true) : wrap64 l = z := by
  unfold inI at g; rw [decide_eq_true_eq] at g
  obtain ⟨_, _, _, _, _⟩ := k
  unfold wrap64; omega
theorem int_not {h l z : Int} (k : WideIs h l z) (g : inI z = false) : wrap64 l ≠ z := by
  unfold inI at g; rw [decide_eq_false_iff_not] at g
  obtain ⟨_, _, _, _, _⟩ := k
  unfold wrap64; omega
theorem nextDown_any {th tl lh ll dh dl T L D : Int} (hT : LimbIs th tl T) (hL : LimbIs lh ll L) (hD : LimbIs dh dl D) (hlt : L ≤ D) (w : World) :
    Calls Try.prog 68 #[.agg #[.int .u64 th, .int .u64 tl], .agg #[.int .u64 lh, .int .u64 ll], .agg #[.int .u64 dh, .int .u64 dl]] w fun e w' =>
      ∃ h l h' l' : Int, LimbIs h l ((T + 1) % 340282366920938463463374607431768211456) ∧ LimbIs h' l' (D - L) ∧ e = .returned (.tuple #[.agg #[.int .u64 h, .int .u64 l], .agg #[.int .u64 h', .int .u64 l'], .bool (!overB T 1)]) ∧ Below w.heap.size w w' := by
  have ED : (D - L) % 340282366920938463463374607431768211456 = D - L := by have := hL.range; have := hD.range; omega
  refine calls_Wp (args := [_, _, _]) (n := 29) Try.func68 rfl rfl (by simp) ?_
  repeat refine Wp.seq ?_
  refine wR [0, 1, 2, 3, 4, 5] ?_
  refine sE (fun _ _ _ _ => ?_)
  refine sE (fun _ _ _ _ => ?_)
  refine sE (fun _ _ _ _ => ?_)
  refine sO (fun _ _ _ _ => ?_)
  refine sO (fun _ _ _ _ => ?_)
  refine sZ 1 ?_
  repeat refine Wp.seq ?_
  refine wQ 1 ?_
  refine s_val rfl rfl rfl rfl (v := .agg #[.int .u64 0, .int .u64 1]) (fun _ => by kernel_rfl) ?_
  refine s_call rfl rfl rfl (by kernel_rfl) rfl ?_
  refine (add_any hT limb_1 _).mono ?_
  rintro e w1 ⟨h, l, i1, rfl, b1⟩
  refine ⟨_, rfl, b1, ?_⟩
  refine sQ 3 ?_
  refine sO (fun _ _ _ _ => ?_)
  refine sS (fun _ _ _ => ?_)
  refine sZ 1 ?_
  repeat refine Wp.seq ?_
  refine wQ 2 ?_
  refine s_call rfl rfl rfl (by kernel_rfl) rfl ?_
  refine (sub_any hD hL _).mono ?_
  rintro e w2 ⟨h', l', i2, rfl, b2⟩
  refine ⟨_, rfl, b2, ?_⟩
  refine sQ 3 ?_
  refine sO (fun _ _ _ _ => ?_)
  refine sS (fun _ _ _ => ?_)
  refine sZ 1 ?_
  repeat refine Wp.seq ?_
  refine (Wp.drawn2 (by kernel_rfl) (by kernel_rfl) [0, 2, 3] [14, 51, 55] [1, 4, 5, 6] [0, 0, 0] [4, 1, 5, 6] [0, 0, 0] (by kernel_rfl) (by kernel_rfl) (fun _ _ _ => True) (fun _ _ => ?_))
  refine sQ 3 ?_
  refine vOrd_nil ⟨?_, ?_⟩
  · refine sL ?_
    refine sS (fun _ _ _ => ?_)
    refine sS (fun _ _ _ => ?_)
    refine sZ 1 ?_
    exact Wp.ret ⟨.inr rfl, fun l => ⟨_, ⟨_, _, _, res_cell rfl rfl rfl rfl, res_cell rfl rfl rfl rfl, res_tmp (P := Try.prog) rfl rfl, rfl⟩, _, _, _, _, i1, i2.eq ED, rfl, l⟩⟩
  · refine sS (fun _ _ _ => ?_)
    refine sL ?_
    refine sS (fun _ _ _ => ?_)
    refine sZ 1 ?_
    exact Wp.ret ⟨.inr rfl, fun l => ⟨_, ⟨_, _, _, res_cell rfl rfl rfl rfl, res_cell rfl rfl rfl rfl, res_tmp (P := Try.prog) rfl rfl, rfl⟩, _, _, _, _, i1, i2.eq ED, rfl, l⟩⟩
end Go.Proofs.Ytlpenfganhaclaa
