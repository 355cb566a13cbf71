/-
  The contracts of the package wide's small functions: Of, Int, Cmp, below, bitsOf, ofBits, size, signed, nextDown. No conditions.
-/
import Derived.Test.YtlpenfganhaclaaLimbA
import Derived.Test.YtlpenfganhaclaaRefC
namespace Go.Proofs.Ytlpenfganhaclaa
open Go.RowKit

/-! ### Numbers of two words with a sign -/
/-- h is a word with a sign, l one without, and the number z is h times 2^64, and l. -/
def WideIs (h l z : Int) : Prop := -9223372036854775808 ≤ h ∧ h < 9223372036854775808 ∧ 0 ≤ l ∧ l < 18446744073709551616 ∧ z = h * 18446744073709551616 + l
theorem WideIs.range {h l z : Int} (k : WideIs h l z) : -170141183460469231731687303715884105728 ≤ z ∧ z < 170141183460469231731687303715884105728 := by
  obtain ⟨_, _, _, _, _⟩ := k; omega
theorem WideIs.same {h l h' l' z : Int} (k : WideIs h l z) (k' : WideIs h' l' z) : h = h' ∧ l = l' := by
  obtain ⟨_, _, _, _, _⟩ := k; obtain ⟨_, _, _, _, _⟩ := k'; omega
theorem WideIs.other {h l h' l' z z' : Int} (k : WideIs h l z) (k' : WideIs h' l' z') (n : z ≠ z') : ¬ (h = h' ∧ l = l') := by
  obtain ⟨_, _, _, _, _⟩ := k; obtain ⟨_, _, _, _, _⟩ := k'; omega
theorem WideIs.eq {h l z z' : Int} (k : WideIs h l z) (e : z = z') : WideIs h l z' := e ▸ k
theorem WideIs.sign {h l z : Int} (k : WideIs h l z) : h < 0 ↔ z < 0 := by
  obtain ⟨_, _, _, _, _⟩ := k; omega
theorem wide_0 : WideIs 0 0 0 := by unfold WideIs; omega
theorem LimbIs.eq {h l z z' : Int} (k : LimbIs h l z) (e : z = z') : LimbIs h l z' := e ▸ k
theorem limb_0 : LimbIs 0 0 0 := by unfold LimbIs; omega

/-- Does z fit? -/
def inW (z : Int) : Bool := decide (-170141183460469231731687303715884105728 ≤ z ∧ z < 170141183460469231731687303715884105728)
/-- What is answered of z: z, if it fits, and else 0 and ErrOver. -/
def fitV (z : Int) : Int := if inW z = true then z else 0
def fitE (z : Int) : Int := if inW z = true then 0 else 2
theorem inW_yes {z : Int} (h0 : -170141183460469231731687303715884105728 ≤ z) (h1 : z < 170141183460469231731687303715884105728) : inW z = true ∧ fitV z = z ∧ fitE z = 0 := by
  have : inW z = true := by unfold inW; rw [decide_eq_true_eq]; exact ⟨h0, h1⟩
  unfold fitV fitE; rw [if_pos this, if_pos this]; exact ⟨this, rfl, rfl⟩
theorem inW_no {z : Int} (h : ¬ (-170141183460469231731687303715884105728 ≤ z ∧ z < 170141183460469231731687303715884105728)) : inW z = false ∧ fitV z = 0 ∧ fitE z = 2 := by
  have : inW z = false := by unfold inW; rw [decide_eq_false_iff_not]; exact h
  unfold fitV fitE; rw [if_neg (by rw [this]; decide), if_neg (by rw [this]; decide)]; exact ⟨this, rfl, rfl⟩

/-! ### '==' and '!=' of two Wides, and of two Limbs -/
theorem run_eql_wide (a b c d : Int) (w : World) : (binOp .eql 24 (.agg #[.int .i64 a, .int .u64 b]) (.agg #[.int .i64 c, .int .u64 d])).run Try.prog w = .ok (.bool (eqL a b c d)) w := by
  unfold eqL
  by_cases h1 : a = c <;> by_cases h2 : b = d <;> simp [go_sem, h1, h2]
theorem run_neq_wide (a b c d : Int) (w : World) : (binOp .neq 24 (.agg #[.int .i64 a, .int .u64 b]) (.agg #[.int .i64 c, .int .u64 d])).run Try.prog w = .ok (.bool (!eqL a b c d)) w := by
  unfold eqL
  by_cases h1 : a = c <;> by_cases h2 : b = d <;> simp [go_sem, h1, h2]
theorem run_neq_limb (a b c d : Int) (w : World) : (binOp .neq 85 (.agg #[.int .u64 a, .int .u64 b]) (.agg #[.int .u64 c, .int .u64 d])).run Try.prog w = .ok (.bool (!eqL a b c d)) w := by
  unfold eqL
  by_cases h1 : a = c <;> by_cases h2 : b = d <;> simp [go_sem, h1, h2]
theorem eqW_same {a b c d z : Int} (h : WideIs a b z) (k : WideIs c d z) : eqL a b c d = true := by
  obtain ⟨rfl, rfl⟩ := h.same k; simp [eqL]
theorem eqW_other {a b c d z y : Int} (h : WideIs a b z) (k : WideIs c d y) (n : z ≠ y) : eqL a b c d = false := by
  have := h.other k n
  unfold eqL
  by_cases h1 : a = c <;> by_cases h2 : b = d <;> simp_all

/-! ### Bits -/
theorem bits_is {h l z : Int} (k : WideIs h l z) : LimbIs (h % 18446744073709551616) l (z % 340282366920938463463374607431768211456) := by
  obtain ⟨_, _, _, _, _⟩ := k; exact ⟨by omega, by omega, by omega, by omega, by omega⟩
/-- The number with a sign that has these bits. -/
def sgn (n : Int) : Int := if n < 170141183460469231731687303715884105728 then n else n - 340282366920938463463374607431768211456
theorem sgn_is {h l n : Int} (k : LimbIs h l n) : WideIs (wrap64 h) l (sgn n) := by
  obtain ⟨_, _, _, _, _⟩ := k
  unfold wrap64 sgn
  exact ⟨by omega, by omega, by omega, by omega, by split <;> omega⟩
set_option maxHeartbeats 400000 in
theorem bitsOf_any {h l z : Int} (k : WideIs h l z) (w : World) :
    Calls Try.prog 66 #[.agg #[.int .i64 h, .int .u64 l]] w fun e w' =>
      ∃ h' : Int, LimbIs h' l (z % 340282366920938463463374607431768211456) ∧ e = .returned (.agg #[.int .u64 h', .int .u64 l]) ∧ Below w.heap.size w w' := by
  have b := bits_is k
  obtain ⟨k1, k2, k3, k4, -⟩ := k
  go_enter Try.func66, Try.ntmps66
  go_wp2_with fail
  go_returns
  exact ⟨_, b, rfl, by go_grown⟩
set_option maxHeartbeats 400000 in
theorem ofBits_any {h l n : Int} (k : LimbIs h l n) (w : World) :
    Calls Try.prog 70 #[.agg #[.int .u64 h, .int .u64 l]] w fun e w' =>
      ∃ h' : Int, WideIs h' l (sgn n) ∧ e = .returned (.agg #[.int .i64 h', .int .u64 l]) ∧ Below w.heap.size w w' := by
  have K := sgn_is k
  obtain ⟨k1, k2, k3, k4, -⟩ := k
  go_enter Try.func70, Try.ntmps70
  go_wp2_with fail
  go_returns
  exact ⟨_, K, rfl, by go_grown⟩
set_option maxHeartbeats 400000 in
theorem below_any {h l z : Int} (k : WideIs h l z) (w : World) :
    Calls Try.prog 67 #[.agg #[.int .i64 h, .int .u64 l]] w fun e w' => e = .returned (.bool (sg z)) ∧ Below w.heap.size w w' := by
  have s : sg z = decide (h < 0) := by unfold sg; rw [decide_eq_decide]; exact k.sign.symm
  go_enter Try.func67, Try.ntmps67
  go_wp2_with fail
  go_returns
  exact ⟨by rw [s]; rfl, by go_grown⟩
set_option maxHeartbeats 400000 in
theorem wof_any (n : Int) (h0 : -9223372036854775808 ≤ n) (h1 : n ≤ 9223372036854775807) (w : World) :
    Calls Try.prog 21 #[.int .i64 n] w fun e w' => ∃ h l : Int, WideIs h l n ∧ e = .returned (.agg #[.int .i64 h, .int .u64 l]) ∧ Below w.heap.size w w' := by
  go_enter Try.func21, Try.ntmps21
  go_wp2_with fail
  go_returns
  exact ⟨_, _, by rw [IntKind.wrap_u64]; exact ⟨by omega, by omega, by omega, by omega, by omega⟩, rfl, by go_grown⟩
set_option maxHeartbeats 400000 in
theorem wcmp_any {ah al bh bl a b : Int} (ha : WideIs ah al a) (hb : WideIs bh bl b) (w : World) :
    Calls Try.prog 62 #[.agg #[.int .i64 ah, .int .u64 al], .agg #[.int .i64 bh, .int .u64 bl]] w fun e w' =>
      e = .returned (.int .i64 (cmpI a b)) ∧ Below w.heap.size w w' := by
  have qe := run_eql_wide
  by_cases hab : a = b
  · subst hab
    have hq := eqW_same ha hb
    have hc : cmpI a a = 0 := cmpI_eq rfl
    go_enter Try.func62, Try.ntmps62
    go_wp2
    go_returns
    exact ⟨by first | rfl | (rw [hc]; rfl), by go_grown⟩
  · have hq := eqW_other ha hb hab
    obtain ⟨a1, a2, a3, a4, a5⟩ := ha
    obtain ⟨b1, b2, b3, b4, b5⟩ := hb
    by_cases g1 : ah < bh
    · have hc : cmpI a b = -1 := cmpI_lt (by omega)
      clear a5 b5
      go_enter Try.func62, Try.ntmps62
      go_wp2
      go_returns
      exact ⟨by first | rfl | (rw [hc]; rfl), by go_grown⟩
    by_cases g2 : ah = bh
    · by_cases g3 : al < bl
      · have hc : cmpI a b = -1 := cmpI_lt (by omega)
        clear a5 b5
        subst g2
        go_enter Try.func62, Try.ntmps62
        go_wp2
        go_returns
        exact ⟨by first | rfl | (rw [hc]; rfl), by go_grown⟩
      · have hc : cmpI a b = 1 := cmpI_gt (by omega)
        clear a5 b5
        subst g2
        go_enter Try.func62, Try.ntmps62
        go_wp2
        go_returns
        exact ⟨by first | rfl | (rw [hc]; rfl), by go_grown⟩
    · have hc : cmpI a b = 1 := cmpI_gt (by omega)
      clear a5 b5
      go_enter Try.func62, Try.ntmps62
      go_wp2
      go_returns
      exact ⟨by first | rfl | (rw [hc]; rfl), by go_grown⟩
theorem neg_mod {z : Int} (h0 : -170141183460469231731687303715884105728 ≤ z) (h : z < 0) : (0 - z % 340282366920938463463374607431768211456) % 340282366920938463463374607431768211456 = ab z := by
  unfold ab; rw [if_pos h]; omega
set_option maxHeartbeats 400000 in
theorem size_any {h l z : Int} (k : WideIs h l z) (w : World) :
    Calls Try.prog 64 #[.agg #[.int .i64 h, .int .u64 l]] w fun e w' =>
      ∃ h' l' : Int, LimbIs h' l' (ab z) ∧ e = .returned (.agg #[.int .u64 h', .int .u64 l']) ∧ Below w.heap.size w w' := by
  have kr := k.range
  go_enter Try.func64, Try.ntmps64
  go_wp2_with fail
  refine (bitsOf_any k _).mono ?_
  rintro e w1 ⟨h1, b1, rfl, hb1⟩
  obtain ⟨⟨p1, p2, p3, p4⟩, p5⟩ := two_later hb1 (b := w.heap.size) (u := .int .i64 h) (v := .int .u64 l) ⟨by simp [go_sem], by simp [go_sem], by simp [go_sem], by simp [go_sem]⟩
  obtain ⟨⟨q1, q2, q3, q4⟩, q5⟩ := two_later hb1 (b := w.heap.size + 1) (u := .int .u64 0) (v := .int .u64 0) ⟨by simp [go_sem], by simp [go_sem], by simp [go_sem], by simp [go_sem]⟩
  have x1 := bthen (B := w.heap.size) (w := w) (by go_grown) (by go_size) hb1
  have z1 := x1.size
  clear hb1
  go_wp2_with fail
  refine (below_any k _).mono ?_
  rintro e w2 ⟨rfl, hb2⟩
  obtain ⟨⟨r1, r2, r3, r4⟩, r5⟩ := two_later hb2 (b := w.heap.size + 1) (u := .int .u64 0) (v := .int .u64 0) ⟨by simp [go_sem, *], by simp [go_sem, *], by simp [go_sem, *], by simp [go_sem, *]⟩
  obtain ⟨⟨s1, s2, s3, s4⟩, s5⟩ := two_later hb2 (b := w1.heap.size) (u := .int .u64 h1) (v := .int .u64 l) ⟨by simp [go_sem, *], by simp [go_sem, *], by simp [go_sem, *], by simp [go_sem, *]⟩
  have x2 := bthen (B := w.heap.size) (w := w) (by go_grown) (by go_size) hb2
  have z2 := x2.size
  clear hb2 p1 p2 p3 p4 p5 q1 q2 q3 q4
  by_cases g : z < 0
  · have sz := sg_neg g
    go_wp2_with fail
    refine (sub_any limb_0 b1 _).mono ?_
    rintro e w3 ⟨h3, l3, b3, rfl, hb3⟩
    rw [neg_mod kr.1 g] at b3
    obtain ⟨⟨t1, t2, t3, t4⟩, t5⟩ := two_later hb3 (b := w.heap.size + 1) (u := .int .u64 0) (v := .int .u64 0) ⟨by simp [go_sem, *], by simp [go_sem, *], by simp [go_sem, *], by simp [go_sem, *]⟩
    obtain ⟨⟨u1, u2, u3, u4⟩, u5⟩ := two_later hb3 (b := w1.heap.size) (u := .int .u64 h1) (v := .int .u64 l) ⟨by simp [go_sem, *], by simp [go_sem, *], by simp [go_sem, *], by simp [go_sem, *]⟩
    have x3 := bthen (B := w.heap.size) (w := w) (by go_grown) (by go_size) hb3
    have z3 := x3.size
    clear hb3 r1 r2 r3 r4 s1 s2 s3 s4
    go_wp2_with fail
    refine bodyPost_ret (v := .agg #[.int .u64 h3, .int .u64 l3]) (by simp [results, Try.results64, go_sem, *]) rfl ⟨_, _, b3, rfl, by go_grown⟩
  · have sz := sg_pos (z := z) (by omega)
    have e1 : z % 340282366920938463463374607431768211456 = ab z := by rw [ab_pos (by omega)]; omega
    rw [e1] at b1
    go_wp2_with fail
    refine bodyPost_ret (v := .agg #[.int .u64 h1, .int .u64 l]) (by simp [results, Try.results64, go_sem, *]) rfl ⟨_, _, b1, rfl, by go_grown⟩
/-! ### A size with a sign put on -/
set_option maxHeartbeats 400000 in
theorem signed_p {h l n : Int} (k : LimbIs h l n) (w : World) :
    Calls Try.prog 69 #[.agg #[.int .u64 h, .int .u64 l], .bool false] w fun e w' =>
      ∃ h' l' : Int, WideIs h' l' (fitV n) ∧ e = .returned (.tuple #[.agg #[.int .i64 h', .int .u64 l'], .int .i64 (fitE n)]) ∧ Below w.heap.size w w' := by
  have kr := k.range
  have qe := run_neq_limb
  go_enter Try.func69, Try.ntmps69
  go_wp2_with fail
  refine (ofBits_any k _).mono ?_
  rintro e w1 ⟨h1, b1, rfl, hb1⟩
  obtain ⟨⟨p1, p2, p3, p4⟩, p5⟩ := two_later hb1 (b := w.heap.size) (u := .int .u64 h) (v := .int .u64 l) ⟨by simp [go_sem, *], by simp [go_sem, *], by simp [go_sem, *], by simp [go_sem, *]⟩
  obtain ⟨⟨q1, q2, q3, q4⟩, q5⟩ := two_later hb1 (b := w.heap.size + 1) (u := .int .i64 0) (v := .int .u64 0) ⟨by simp [go_sem, *], by simp [go_sem, *], by simp [go_sem, *], by simp [go_sem, *]⟩
  have x1 := bthen (B := w.heap.size) (w := w) (by go_grown) (by go_size) hb1
  have z1 := x1.size
  clear hb1
  go_wp2_with fail
  refine (below_any b1 _).mono ?_
  rintro e w2 ⟨rfl, hb2⟩
  obtain ⟨⟨r1, r2, r3, r4⟩, r5⟩ := two_later hb2 (b := w.heap.size) (u := .int .u64 h) (v := .int .u64 l) ⟨by simp [go_sem, *], by simp [go_sem, *], by simp [go_sem, *], by simp [go_sem, *]⟩
  obtain ⟨⟨s1, s2, s3, s4⟩, s5⟩ := two_later hb2 (b := w.heap.size + 1) (u := .int .i64 0) (v := .int .u64 0) ⟨by simp [go_sem, *], by simp [go_sem, *], by simp [go_sem, *], by simp [go_sem, *]⟩
  obtain ⟨⟨t1, t2, t3, t4⟩, t5⟩ := two_later hb2 (b := w1.heap.size) (u := .int .i64 h1) (v := .int .u64 l) ⟨by simp [go_sem, *], by simp [go_sem, *], by simp [go_sem, *], by simp [go_sem, *]⟩
  have x2 := bthen (B := w.heap.size) (w := w) (by go_grown) (by go_size) hb2
  have z2 := x2.size
  clear hb2 p1 p2 p3 p4 q1 q2 q3 q4
  by_cases g : n < 170141183460469231731687303715884105728
  · obtain ⟨-, fv, fe⟩ := inW_yes (z := n) (by omega) g
    have e1 : sgn n = n := by unfold sgn; rw [if_pos g]
    rw [e1] at b1
    have sz : sg (sgn n) = false := by rw [e1]; exact sg_pos kr.1
    clear e1 g
    go_wp2_with fail
    refine bodyPost_ret (v := .tuple #[.agg #[.int .i64 h1, .int .u64 l], .int .i64 0]) (by simp [results, Try.results69, go_sem, *]) rfl ⟨_, _, b1.eq fv.symm, by rw [fe], by go_grown⟩
  · obtain ⟨-, fv, fe⟩ := inW_no (z := n) (by omega)
    have sz : sg (sgn n) = true := sg_neg (by unfold sgn; rw [if_neg g]; omega)
    have hq := eqL_other k limb_0 (by omega)
    clear g
    go_wp2_with fail
    refine bodyPost_ret (v := .tuple #[.agg #[.int .i64 0, .int .u64 0], .int .i64 2]) (by simp [results, Try.results69, go_sem, *]) rfl ⟨_, _, wide_0.eq fv.symm, by rw [fe], by go_grown⟩
set_option maxHeartbeats 400000 in
theorem signed_m {h l n : Int} (k : LimbIs h l n) (w : World) :
    Calls Try.prog 69 #[.agg #[.int .u64 h, .int .u64 l], .bool true] w fun e w' =>
      ∃ h' l' : Int, WideIs h' l' (fitV (-n)) ∧ e = .returned (.tuple #[.agg #[.int .i64 h', .int .u64 l'], .int .i64 (fitE (-n))]) ∧ Below w.heap.size w w' := by
  have kr := k.range
  have qe := run_neq_limb
  go_enter Try.func69, Try.ntmps69
  go_wp2_with fail
  refine (sub_any limb_0 k _).mono ?_
  rintro e w0 ⟨h0, l0, b0, rfl, hb0⟩
  obtain ⟨⟨u1, u2, u3, u4⟩, u5⟩ := two_later hb0 (b := w.heap.size) (u := .int .u64 h) (v := .int .u64 l) ⟨by simp [go_sem, *], by simp [go_sem, *], by simp [go_sem, *], by simp [go_sem, *]⟩
  obtain ⟨⟨v1, v2, v3, v4⟩, v5⟩ := two_later hb0 (b := w.heap.size + 1) (u := .int .i64 0) (v := .int .u64 0) ⟨by simp [go_sem, *], by simp [go_sem, *], by simp [go_sem, *], by simp [go_sem, *]⟩
  have x0 := bthen (B := w.heap.size) (w := w) (by go_grown) (by go_size) hb0
  have z0 := x0.size
  clear hb0
  obtain ⟨N, hN⟩ : ∃ N, Hid (N = (0 - n) % 340282366920938463463374607431768211456) := ⟨_, rfl⟩
  rw [← hN.out] at b0
  go_wp2_with fail
  refine (ofBits_any b0 _).mono ?_
  rintro e w1 ⟨h1, b1, rfl, hb1⟩
  obtain ⟨⟨p1, p2, p3, p4⟩, p5⟩ := two_later hb1 (b := w.heap.size) (u := .int .u64 h0) (v := .int .u64 l0) ⟨by simp [go_sem, *], by simp [go_sem, *], by simp [go_sem, *], by simp [go_sem, *]⟩
  obtain ⟨⟨q1, q2, q3, q4⟩, q5⟩ := two_later hb1 (b := w.heap.size + 1) (u := .int .i64 0) (v := .int .u64 0) ⟨by simp [go_sem, *], by simp [go_sem, *], by simp [go_sem, *], by simp [go_sem, *]⟩
  have x1 := bthen (B := w.heap.size) (w := w) (by go_grown) (by go_size) hb1
  have z1 := x1.size
  clear hb1 u1 u2 u3 u4 v1 v2 v3 v4
  go_wp2_with fail
  refine (below_any b1 _).mono ?_
  rintro e w2 ⟨rfl, hb2⟩
  obtain ⟨⟨r1, r2, r3, r4⟩, r5⟩ := two_later hb2 (b := w.heap.size) (u := .int .u64 h0) (v := .int .u64 l0) ⟨by simp [go_sem, *], by simp [go_sem, *], by simp [go_sem, *], by simp [go_sem, *]⟩
  obtain ⟨⟨s1, s2, s3, s4⟩, s5⟩ := two_later hb2 (b := w.heap.size + 1) (u := .int .i64 0) (v := .int .u64 0) ⟨by simp [go_sem, *], by simp [go_sem, *], by simp [go_sem, *], by simp [go_sem, *]⟩
  obtain ⟨⟨t1, t2, t3, t4⟩, t5⟩ := two_later hb2 (b := w1.heap.size) (u := .int .i64 h1) (v := .int .u64 l0) ⟨by simp [go_sem, *], by simp [go_sem, *], by simp [go_sem, *], by simp [go_sem, *]⟩
  have x2 := bthen (B := w.heap.size) (w := w) (by go_grown) (by go_size) hb2
  have z2 := x2.size
  clear hb2 p1 p2 p3 p4 q1 q2 q3 q4
  by_cases g0 : n = 0
  · have e0 : N = 0 := by have := hN.out; omega
    obtain ⟨-, fv, fe⟩ := inW_yes (z := -n) (by omega) (by omega)
    have e1 : sgn N = -n := by unfold sgn; rw [e0, if_pos (by decide)]; omega
    rw [e1] at b1
    have sz : sg (sgn N) = false := by rw [e1]; exact sg_pos (by omega)
    have hq := eqL_same b0 (limb_0.eq e0.symm)
    clear e1 g0 e0
    go_wp2_with fail
    refine bodyPost_ret (v := .tuple #[.agg #[.int .i64 h1, .int .u64 l0], .int .i64 0]) (by simp [results, Try.results69, go_sem, *]) rfl ⟨_, _, b1.eq fv.symm, by rw [fe], by go_grown⟩
  by_cases g : n ≤ 170141183460469231731687303715884105728
  · obtain ⟨-, fv, fe⟩ := inW_yes (z := -n) (by omega) (by omega)
    have e1 : sgn N = -n := by have := hN.out; unfold sgn; rw [if_neg (by omega)]; omega
    rw [e1] at b1
    have sz : sg (sgn N) = true := by rw [e1]; exact sg_neg (by omega)
    clear e1 g g0
    go_wp2_with fail
    refine bodyPost_ret (v := .tuple #[.agg #[.int .i64 h1, .int .u64 l0], .int .i64 0]) (by simp [results, Try.results69, go_sem, *]) rfl ⟨_, _, b1.eq fv.symm, by rw [fe], by go_grown⟩
  · obtain ⟨-, fv, fe⟩ := inW_no (z := -n) (by omega)
    have sz : sg (sgn N) = false := sg_pos (by have := hN.out; unfold sgn; rw [if_pos (by omega)]; omega)
    have hq := eqL_other b0 limb_0 (by have := hN.out; omega)
    clear g g0
    go_wp2_with fail
    refine bodyPost_ret (v := .tuple #[.agg #[.int .i64 0, .int .u64 0], .int .i64 2]) (by simp [results, Try.results69, go_sem, *]) rfl ⟨_, _, wide_0.eq fv.symm, by rw [fe], by go_grown⟩
end Go.Proofs.Ytlpenfganhaclaa
