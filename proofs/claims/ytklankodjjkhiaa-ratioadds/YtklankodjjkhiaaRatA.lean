/-
  The contracts of ratio.Floor and ratio.Ceil; those of Wides and reference numbers once more, as what is known of the value that is returned. No conditions.
-/
import Derived.Test.YtklankodjjkhiaaVcG
import Derived.Test.YtklankodjjkhiaaWideH
import Derived.Test.YtklankodjjkhiaaWideD
import Derived.Test.YtklankodjjkhiaaRefO
namespace Go.Proofs.Ytklankodjjkhiaa
open Go.RowKit

def IsW (z : Int) (v : Value) : Prop := ∃ h l : Int, v = .agg #[.int .i64 h, .int .u64 l] ∧ WideIs h l z
def IsBig (n : Nat) (z : Int) (v : Value) (w : World) : Prop := ∃ a l c, v = .agg #[.bool (sg z), .slice a l c] ∧ BigIs n w (.slice a l c) z
theorem IsBig.later {n : Nat} {z : Int} {v : Value} {w w' : World} (h : IsBig n z v w) (l : Later w w') : IsBig n z v w' := by
  obtain ⟨a, k, c, rfl, hb⟩ := h
  exact ⟨a, k, c, rfl, hb.later l⟩
theorem c_rof {z : Int} {v : Value} (h : IsW z v) (w : World) : Calls Try.prog 9 #[v] w fun e w' => ∃ u, e = .returned u ∧ IsBig 11 z u w' ∧ Below w.heap.size w w' := by
  obtain ⟨a, l, rfl, h⟩ := h
  refine (rof_any h w).mono ?_
  rintro e w' ⟨b, k, d, rfl, h1, h2⟩
  exact ⟨_, rfl, ⟨_, _, _, rfl, h1⟩, h2⟩
theorem c_rint (n : Int) (h0 : -9223372036854775808 ≤ n) (h1 : n ≤ 9223372036854775807) (w : World) : Calls Try.prog 10 #[.int .i64 n] w fun e w' => ∃ u, e = .returned u ∧ IsBig 5 n u w' ∧ Below w.heap.size w w' := by
  refine (rint_any n h0 h1 w).mono ?_
  rintro e w' ⟨b, k, d, rfl, h1, h2⟩
  exact ⟨_, rfl, ⟨_, _, _, rfl, h1⟩, h2⟩
theorem c_cmp {n m : Nat} {x y : Int} {u v : Value} {w : World} (hu : IsBig n x u w) (hv : IsBig m y v w) (hn : n ≤ 100000) (hm : m ≤ 100000) :
    Calls Try.prog 8 #[u, v] w fun e w' => ∃ r, e = .returned r ∧ r = .int .i64 (cmpI x y) ∧ Below w.heap.size w w' := by
  obtain ⟨_, _, _, rfl, hu⟩ := hu
  obtain ⟨_, _, _, rfl, hv⟩ := hv
  refine (bcmp_any hu hv (by omega) (by omega)).mono ?_
  rintro e w' ⟨rfl, h2⟩
  exact ⟨_, rfl, rfl, h2⟩
theorem c_same {n m : Nat} {x y : Int} {u v : Value} {w : World} (hu : IsBig n x u w) (hv : IsBig m y v w) (hn : n ≤ 100000) (hm : m ≤ 100000) :
    Calls Try.prog 21 #[u, v] w fun e w' => ∃ r, e = .returned r ∧ r = .bool (eqI x y) ∧ Below w.heap.size w w' := by
  obtain ⟨_, _, _, rfl, hu⟩ := hu
  obtain ⟨_, _, _, rfl, hv⟩ := hv
  refine (same_any hu hv (by omega) (by omega)).mono ?_
  rintro e w' ⟨rfl, h2⟩
  exact ⟨_, rfl, rfl, h2⟩
theorem c_add {n m : Nat} {x y : Int} {u v : Value} {w : World} (hu : IsBig n x u w) (hv : IsBig m y v w) (hn : n ≤ 100000) (hm : m ≤ 100000) :
    Calls Try.prog 17 #[u, v] w fun e w' => ∃ r, e = .returned r ∧ IsBig (max n m + 1) (x + y) r w' ∧ Below w.heap.size w w' := by
  obtain ⟨_, _, _, rfl, hu⟩ := hu
  obtain ⟨_, _, _, rfl, hv⟩ := hv
  refine (badd_any hu hv (by omega) (by omega)).mono ?_
  rintro e w' ⟨b, k, d, rfl, h1, h2⟩
  exact ⟨_, rfl, ⟨_, _, _, rfl, h1⟩, h2⟩
theorem c_mul {n m : Nat} {x y : Int} {u v : Value} {w : World} (hu : IsBig n x u w) (hv : IsBig m y v w) (hn : n ≤ 100000) (hm : m ≤ 100000) :
    Calls Try.prog 14 #[u, v] w fun e w' => ∃ r, e = .returned r ∧ IsBig (n + m) (x * y) r w' ∧ Below w.heap.size w w' := by
  obtain ⟨_, _, _, rfl, hu⟩ := hu
  obtain ⟨_, _, _, rfl, hv⟩ := hv
  refine (bmul_any hu hv (by omega) (by omega)).mono ?_
  rintro e w' ⟨b, k, d, rfl, h1, h2⟩
  exact ⟨_, rfl, ⟨_, _, _, rfl, h1⟩, h2⟩
theorem c_div {n m : Nat} {x y : Int} {u v : Value} {w : World} (hu : IsBig n x u w) (hv : IsBig m y v w) (hy : 0 < y) (hn : n ≤ 100000) (hm : m ≤ 100000) :
    Calls Try.prog 20 #[u, v] w fun e w' => ∃ r, e = .returned r ∧ (∃ q p, r = .tuple #[q, p] ∧ IsBig (max n 4 + 1) (x / y) q w' ∧ IsBig (m + 1) (x % y) p w') ∧ Below w.heap.size w w' := by
  obtain ⟨_, _, _, rfl, hu⟩ := hu
  obtain ⟨_, _, _, rfl, hv⟩ := hv
  refine (bdiv_any hu hv hy (by omega) (by omega)).mono ?_
  rintro e w' ⟨b, k, d, b', k', d', rfl, h1, h2, h3⟩
  exact ⟨_, rfl, ⟨_, _, rfl, ⟨_, _, _, rfl, h1⟩, ⟨_, _, _, rfl, h2⟩⟩, h3⟩
theorem c_wof (n : Int) (h0 : -9223372036854775808 ≤ n) (h1 : n ≤ 9223372036854775807) (w : World) : Calls Try.prog 31 #[.int .i64 n] w fun e w' => ∃ u, e = .returned u ∧ IsW n u ∧ Below w.heap.size w w' := by
  refine (wof_any n h0 h1 w).mono ?_
  rintro e w' ⟨h, l, i, rfl, hb⟩
  exact ⟨_, rfl, ⟨_, _, rfl, i⟩, hb⟩
theorem c_wadd {a b : Int} {u v : Value} (hu : IsW a u) (hv : IsW b v) (w : World) : Calls Try.prog 34 #[u, v] w fun e w' => ∃ r, e = .returned r ∧ (∃ s, r = .tuple #[s, .int .i64 (fitE (a + b))] ∧ IsW (fitV (a + b)) s) ∧ Below w.heap.size w w' := by
  obtain ⟨_, _, rfl, hu⟩ := hu
  obtain ⟨_, _, rfl, hv⟩ := hv
  refine (wadd_any hu hv w).mono ?_
  rintro e w' ⟨h, l, i, rfl, hb⟩
  exact ⟨_, rfl, ⟨_, rfl, ⟨_, _, rfl, i⟩⟩, hb⟩
theorem c_wmul {a b : Int} {u v : Value} (hu : IsW a u) (hv : IsW b v) (w : World) : Calls Try.prog 44 #[u, v] w fun e w' => ∃ r, e = .returned r ∧ (∃ s, r = .tuple #[s, .int .i64 (fitE (a * b))] ∧ IsW (fitV (a * b)) s) ∧ Below w.heap.size w w' := by
  obtain ⟨_, _, rfl, hu⟩ := hu
  obtain ⟨_, _, rfl, hv⟩ := hv
  refine (wmul_any hu hv w).mono ?_
  rintro e w' ⟨h, l, i, rfl, hb⟩
  exact ⟨_, rfl, ⟨_, rfl, ⟨_, _, rfl, i⟩⟩, hb⟩
theorem c_wdiv {a d : Int} {u v : Value} (hu : IsW a u) (hv : IsW d v) (h0 : 0 < d) (w : World) : Calls Try.prog 26 #[u, v] w fun e w' => ∃ r, e = .returned r ∧ (∃ q p, r = .tuple #[q, p, .int .i64 0] ∧ IsW (a / d) q ∧ IsW (a % d) p) ∧ Below w.heap.size w w' := by
  obtain ⟨_, _, rfl, hu⟩ := hu
  obtain ⟨_, _, rfl, hv⟩ := hv
  refine (wdiv_any hu hv h0 w).mono ?_
  rintro e w' ⟨_, _, _, _, i, j, rfl, hb⟩
  exact ⟨_, rfl, ⟨_, _, rfl, ⟨_, _, rfl, i⟩, ⟨_, _, rfl, j⟩⟩, hb⟩

theorem floor_any {nh nl dh dl N D : Int} (hn : WideIs nh nl N) (hd : WideIs dh dl D) (h0 : 0 < D) (w : World) :
    Calls Try.prog 22 #[.agg #[.int .i64 nh, .int .u64 nl, .int .i64 dh, .int .u64 dl]] w fun e w' => ∃ u, e = .returned u ∧ IsW (N / D) u ∧ Below w.heap.size w w' := by
  refine calls_Wp (args := [_]) (n := 16) Try.func22 rfl rfl (by simp) ?_
  refine Wp.seq (Wp.region [0, 1] (by kernel_rfl) (by kernel_rfl) ?_)
  repeat (first | refine s_load rfl rfl rfl rfl rfl rfl rfl ?_ | (first | refine s_field 0 rfl rfl rfl rfl rfl ?_ | refine s_field 1 rfl rfl rfl rfl rfl ?_ | refine s_field 2 rfl rfl rfl rfl rfl ?_ | refine s_field 3 rfl rfl rfl rfl rfl ?_ | refine s_field 4 rfl rfl rfl rfl rfl ?_ | refine s_field 5 rfl rfl rfl rfl rfl ?_) | refine s_move rfl rfl rfl rfl ?_ | refine s_assign rfl rfl rfl rfl ?_ | refine s_extract rfl rfl rfl rfl rfl ?_ | refine s_box rfl rfl rfl rfl rfl rfl (fun _ _ _ _ => ?_) | refine s_alloc rfl rfl rfl rfl rfl (fun _ _ _ _ => ?_) | refine s_store rfl rfl rfl rfl rfl rfl rfl (fun _ _ _ => ?_) | refine s_cmp rfl rfl rfl rfl rfl rfl ?_ | refine s_not rfl rfl rfl rfl ?_ | refine s_pick rfl rfl rfl rfl rfl ?_ | refine s_skip rfl rfl rfl ?_ | refine s_val rfl rfl rfl rfl (fun _ => rfl) ?_)
  refine vOrd_nil ?_
  refine Wp.seq (Wp.region [0, 1, 2, 3, 4, 5, 6, 7, 8, 9, 10, 11, 12, 13] (by kernel_rfl) (by kernel_rfl) ?_)
  repeat (first | refine s_load rfl rfl rfl rfl rfl rfl rfl ?_ | (first | refine s_field 0 rfl rfl rfl rfl rfl ?_ | refine s_field 1 rfl rfl rfl rfl rfl ?_ | refine s_field 2 rfl rfl rfl rfl rfl ?_ | refine s_field 3 rfl rfl rfl rfl rfl ?_ | refine s_field 4 rfl rfl rfl rfl rfl ?_ | refine s_field 5 rfl rfl rfl rfl rfl ?_) | refine s_move rfl rfl rfl rfl ?_ | refine s_assign rfl rfl rfl rfl ?_ | refine s_extract rfl rfl rfl rfl rfl ?_ | refine s_box rfl rfl rfl rfl rfl rfl (fun _ _ _ _ => ?_) | refine s_alloc rfl rfl rfl rfl rfl (fun _ _ _ _ => ?_) | refine s_store rfl rfl rfl rfl rfl rfl rfl (fun _ _ _ => ?_) | refine s_cmp rfl rfl rfl rfl rfl rfl ?_ | refine s_not rfl rfl rfl rfl ?_ | refine s_pick rfl rfl rfl rfl rfl ?_ | refine s_skip rfl rfl rfl ?_ | refine s_val rfl rfl rfl rfl (fun _ => rfl) ?_)
  refine s_call rfl rfl rfl (by kernel_rfl) rfl ?_
  refine (wdiv_any hn hd h0 _).mono ?_
  rintro e w' ⟨qh, ql, rh, rl, hq, hr, rfl, hb⟩
  refine ⟨_, rfl, hb, ?_⟩
  repeat (first | refine s_load rfl rfl rfl rfl rfl rfl rfl ?_ | (first | refine s_field 0 rfl rfl rfl rfl rfl ?_ | refine s_field 1 rfl rfl rfl rfl rfl ?_ | refine s_field 2 rfl rfl rfl rfl rfl ?_ | refine s_field 3 rfl rfl rfl rfl rfl ?_ | refine s_field 4 rfl rfl rfl rfl rfl ?_ | refine s_field 5 rfl rfl rfl rfl rfl ?_) | refine s_move rfl rfl rfl rfl ?_ | refine s_assign rfl rfl rfl rfl ?_ | refine s_extract rfl rfl rfl rfl rfl ?_ | refine s_box rfl rfl rfl rfl rfl rfl (fun _ _ _ _ => ?_) | refine s_alloc rfl rfl rfl rfl rfl (fun _ _ _ _ => ?_) | refine s_store rfl rfl rfl rfl rfl rfl rfl (fun _ _ _ => ?_) | refine s_cmp rfl rfl rfl rfl rfl rfl ?_ | refine s_not rfl rfl rfl rfl ?_ | refine s_pick rfl rfl rfl rfl rfl ?_ | refine s_skip rfl rfl rfl ?_ | refine s_val rfl rfl rfl rfl (fun _ => rfl) ?_)
  refine vOrd_nil ?_
  refine Wp.seq (Wp.region [0, 1] (by kernel_rfl) (by kernel_rfl) ?_)
  repeat (first | refine s_load rfl rfl rfl rfl rfl rfl rfl ?_ | (first | refine s_field 0 rfl rfl rfl rfl rfl ?_ | refine s_field 1 rfl rfl rfl rfl rfl ?_ | refine s_field 2 rfl rfl rfl rfl rfl ?_ | refine s_field 3 rfl rfl rfl rfl rfl ?_ | refine s_field 4 rfl rfl rfl rfl rfl ?_ | refine s_field 5 rfl rfl rfl rfl rfl ?_) | refine s_move rfl rfl rfl rfl ?_ | refine s_assign rfl rfl rfl rfl ?_ | refine s_extract rfl rfl rfl rfl rfl ?_ | refine s_box rfl rfl rfl rfl rfl rfl (fun _ _ _ _ => ?_) | refine s_alloc rfl rfl rfl rfl rfl (fun _ _ _ _ => ?_) | refine s_store rfl rfl rfl rfl rfl rfl rfl (fun _ _ _ => ?_) | refine s_cmp rfl rfl rfl rfl rfl rfl ?_ | refine s_not rfl rfl rfl rfl ?_ | refine s_pick rfl rfl rfl rfl rfl ?_ | refine s_skip rfl rfl rfl ?_ | refine s_val rfl rfl rfl rfl (fun _ => rfl) ?_)
  refine vOrd_nil ?_
  exact Wp.ret ⟨.inr rfl, fun l => ⟨_, res_cell rfl rfl rfl rfl, _, rfl, ⟨_, _, rfl, hq⟩, l⟩⟩

def ceilI (n d : Int) : Int := if n % d = 0 then n / d else n / d + 1
theorem ceil_fits {n d : Int} (h0 : -170141183460469231731687303715884105728 ≤ n) (h1 : n < 170141183460469231731687303715884105728) (hd : 0 < d) (hz : n % d ≠ 0) :
    fitV (n / d + 1) = n / d + 1 ∧ fitE (n / d + 1) = 0 := by
  have hd2 : 2 ≤ d := by
    by_cases g : 2 ≤ d
    · exact g
    · have : d = 1 := by omega
      subst this; omega
  have e1 := Int.emod_add_mul_ediv n d
  have e2 := Int.emod_nonneg n (by omega : d ≠ 0)
  have e3 := Int.emod_lt_of_pos n hd
  have k1 : -170141183460469231731687303715884105728 ≤ n / d := by
    by_cases g : 0 ≤ n / d
    · omega
    · have : d * (n / d + 1) ≤ 1 * (n / d + 1) := Int.mul_le_mul_of_nonpos_right (by omega) (by omega)
      rw [Int.mul_add, Int.one_mul, Int.mul_one] at this; omega
  have k2 : n / d + 1 < 170141183460469231731687303715884105728 := by
    by_cases g : 0 ≤ n / d
    · have : 2 * (n / d) ≤ d * (n / d) := Int.mul_le_mul_of_nonneg_right hd2 g
      omega
    · omega
  have := inW_yes (z := n / d + 1) (by omega) k2
  exact this.2
theorem ceil_any {nh nl dh dl N D : Int} (hn : WideIs nh nl N) (hd : WideIs dh dl D) (h0 : 0 < D) (w : World) :
    Calls Try.prog 23 #[.agg #[.int .i64 nh, .int .u64 nl, .int .i64 dh, .int .u64 dl]] w fun e w' => ∃ u, e = .returned u ∧ IsW (ceilI N D) u ∧ Below w.heap.size w w' := by
  refine calls_Wp (args := [_]) (n := 28) Try.func23 rfl rfl (by simp) ?_
  refine Wp.seq (Wp.region [0, 1] (by kernel_rfl) (by kernel_rfl) ?_)
  repeat (first | refine s_load rfl rfl rfl rfl rfl rfl rfl ?_ | (first | refine s_field 0 rfl rfl rfl rfl rfl ?_ | refine s_field 1 rfl rfl rfl rfl rfl ?_ | refine s_field 2 rfl rfl rfl rfl rfl ?_ | refine s_field 3 rfl rfl rfl rfl rfl ?_ | refine s_field 4 rfl rfl rfl rfl rfl ?_ | refine s_field 5 rfl rfl rfl rfl rfl ?_) | refine s_move rfl rfl rfl rfl ?_ | refine s_assign rfl rfl rfl rfl ?_ | refine s_extract rfl rfl rfl rfl rfl ?_ | refine s_box rfl rfl rfl rfl rfl rfl (fun _ _ _ _ => ?_) | refine s_alloc rfl rfl rfl rfl rfl (fun _ _ _ _ => ?_) | refine s_store rfl rfl rfl rfl rfl rfl rfl (fun _ _ _ => ?_) | refine s_cmp rfl rfl rfl rfl rfl rfl ?_ | refine s_not rfl rfl rfl rfl ?_ | refine s_pick rfl rfl rfl rfl rfl ?_ | refine s_skip rfl rfl rfl ?_ | refine s_val rfl rfl rfl rfl (fun _ => rfl) ?_)
  refine vOrd_nil ?_
  repeat refine Wp.seq ?_
  refine (Wp.region [0, 1, 2, 3, 4, 5, 6, 7, 8, 9, 10, 11, 12, 13] (by kernel_rfl) (by kernel_rfl) ?_)
  repeat (first | refine s_load rfl rfl rfl rfl rfl rfl rfl ?_ | (first | refine s_field 0 rfl rfl rfl rfl rfl ?_ | refine s_field 1 rfl rfl rfl rfl rfl ?_ | refine s_field 2 rfl rfl rfl rfl rfl ?_ | refine s_field 3 rfl rfl rfl rfl rfl ?_ | refine s_field 4 rfl rfl rfl rfl rfl ?_ | refine s_field 5 rfl rfl rfl rfl rfl ?_) | refine s_move rfl rfl rfl rfl ?_ | refine s_assign rfl rfl rfl rfl ?_ | refine s_extract rfl rfl rfl rfl rfl ?_ | refine s_box rfl rfl rfl rfl rfl rfl (fun _ _ _ _ => ?_) | refine s_alloc rfl rfl rfl rfl rfl (fun _ _ _ _ => ?_) | refine s_store rfl rfl rfl rfl rfl rfl rfl (fun _ _ _ => ?_) | refine s_cmp rfl rfl rfl rfl rfl rfl ?_ | refine s_not rfl rfl rfl rfl ?_ | refine s_pick rfl rfl rfl rfl rfl ?_ | refine s_skip rfl rfl rfl ?_ | refine s_val rfl rfl rfl rfl (fun _ => rfl) ?_)
  refine s_call rfl rfl rfl (by kernel_rfl) rfl ?_
  refine (wdiv_any hn hd h0 _).mono ?_
  rintro e w' ⟨qh, ql, rh, rl, hq, hr, rfl, hb⟩
  refine ⟨_, rfl, hb, ?_⟩
  repeat (first | refine s_load rfl rfl rfl rfl rfl rfl rfl ?_ | (first | refine s_field 0 rfl rfl rfl rfl rfl ?_ | refine s_field 1 rfl rfl rfl rfl rfl ?_ | refine s_field 2 rfl rfl rfl rfl rfl ?_ | refine s_field 3 rfl rfl rfl rfl rfl ?_ | refine s_field 4 rfl rfl rfl rfl rfl ?_ | refine s_field 5 rfl rfl rfl rfl rfl ?_) | refine s_move rfl rfl rfl rfl ?_ | refine s_assign rfl rfl rfl rfl ?_ | refine s_extract rfl rfl rfl rfl rfl ?_ | refine s_box rfl rfl rfl rfl rfl rfl (fun _ _ _ _ => ?_) | refine s_alloc rfl rfl rfl rfl rfl (fun _ _ _ _ => ?_) | refine s_store rfl rfl rfl rfl rfl rfl rfl (fun _ _ _ => ?_) | refine s_cmp rfl rfl rfl rfl rfl rfl ?_ | refine s_not rfl rfl rfl rfl ?_ | refine s_pick rfl rfl rfl rfl rfl ?_ | refine s_skip rfl rfl rfl ?_ | refine s_val rfl rfl rfl rfl (fun _ => rfl) ?_)
  refine vOrd_nil ?_
  repeat refine Wp.seq ?_
  refine (Wp.region [0, 1, 2] (by kernel_rfl) (by kernel_rfl) ?_)
  refine s_load rfl rfl rfl rfl rfl rfl rfl ?_
  refine s_val rfl rfl rfl rfl (v := .agg #[.int .i64 0, .int .u64 0]) (fun _ => by kernel_rfl) ?_
  by_cases g : N % D = 0
  · refine s_eqv (c := true) rfl rfl rfl rfl rfl (fun _ => by kernel_rfl) (fun w => by rw [run_eql_wide, eqW_same hr (wide_0.eq g.symm)]) ?_
    refine vOrd_nil ?_
    refine Wp.condT rfl rfl ?_
    repeat refine Wp.seq ?_
    refine (Wp.region [0, 1] (by kernel_rfl) (by kernel_rfl) ?_)
    repeat (first | refine s_load rfl rfl rfl rfl rfl rfl rfl ?_ | (first | refine s_field 0 rfl rfl rfl rfl rfl ?_ | refine s_field 1 rfl rfl rfl rfl rfl ?_ | refine s_field 2 rfl rfl rfl rfl rfl ?_ | refine s_field 3 rfl rfl rfl rfl rfl ?_ | refine s_field 4 rfl rfl rfl rfl rfl ?_ | refine s_field 5 rfl rfl rfl rfl rfl ?_) | refine s_move rfl rfl rfl rfl ?_ | refine s_assign rfl rfl rfl rfl ?_ | refine s_extract rfl rfl rfl rfl rfl ?_ | refine s_box rfl rfl rfl rfl rfl rfl (fun _ _ _ _ => ?_) | refine s_alloc rfl rfl rfl rfl rfl (fun _ _ _ _ => ?_) | refine s_store rfl rfl rfl rfl rfl rfl rfl (fun _ _ _ => ?_) | refine s_cmp rfl rfl rfl rfl rfl rfl ?_ | refine s_not rfl rfl rfl rfl ?_ | refine s_pick rfl rfl rfl rfl rfl ?_ | refine s_skip rfl rfl rfl ?_ | refine s_val rfl rfl rfl rfl (fun _ => rfl) ?_)
    refine vOrd_nil ?_
    exact Wp.ret ⟨.inr rfl, fun l => ⟨_, res_cell rfl rfl rfl rfl, _, rfl, ⟨_, _, rfl, hq.eq (by unfold ceilI; rw [if_pos g])⟩, l⟩⟩
  · refine s_eqv (c := false) rfl rfl rfl rfl rfl (fun _ => by kernel_rfl) (fun w => by rw [run_eql_wide, eqW_other hr wide_0 g]) ?_
    refine vOrd_nil ?_
    refine Wp.condF rfl rfl ?_
    refine Wp.skip ?_
    obtain ⟨f1, f2⟩ := ceil_fits hn.range.1 hn.range.2 h0 g
    repeat refine Wp.seq ?_
    refine (Wp.drawn (by kernel_rfl) (by kernel_rfl) [0, 6, 1, 2, 3, 4, 5, 7, 8] [66, 63, 0, 0, 0, 111, 223, 0, 0] (by kernel_rfl) (by kernel_rfl) (fun | 1 => fun v _ => IsW 1 v | 2 => fun v _ => ∃ s, v = .tuple #[s, .int .i64 0] ∧ IsW (N / D + 1) s | _ => fun _ _ => True) (fun _ _ => ?_))
    repeat (first | refine s_load rfl rfl rfl rfl rfl rfl rfl ?_ | (first | refine s_field 0 rfl rfl rfl rfl rfl ?_ | refine s_field 1 rfl rfl rfl rfl rfl ?_ | refine s_field 2 rfl rfl rfl rfl rfl ?_ | refine s_field 3 rfl rfl rfl rfl rfl ?_ | refine s_field 4 rfl rfl rfl rfl rfl ?_ | refine s_field 5 rfl rfl rfl rfl rfl ?_) | refine s_move rfl rfl rfl rfl ?_ | refine s_assign rfl rfl rfl rfl ?_ | refine s_extract rfl rfl rfl rfl rfl ?_ | refine s_box rfl rfl rfl rfl rfl rfl (fun _ _ _ _ => ?_) | refine s_alloc rfl rfl rfl rfl rfl (fun _ _ _ _ => ?_) | refine s_store rfl rfl rfl rfl rfl rfl rfl (fun _ _ _ => ?_) | refine s_cmp rfl rfl rfl rfl rfl rfl ?_ | refine s_not rfl rfl rfl rfl ?_ | refine s_pick rfl rfl rfl rfl rfl ?_ | refine s_skip rfl rfl rfl ?_ | refine s_val rfl rfl rfl rfl (fun _ => rfl) ?_)
    refine s_callD rfl rfl rfl (by kernel_rfl) rfl (fun wc _ => c_wof 1 (by decide) (by decide) wc) ?_
    rintro v w1 w2 hv - -
    refine s_callD rfl rfl rfl (by kernel_rfl) rfl (fun wc _ => (c_wadd ⟨_, _, rfl, hq⟩ hv wc).mono ?_) ?_
    · rw [f1, f2]
      exact fun e w' h => h
    rintro v w3 w4 ⟨s, rfl, h, l', rfl, hs⟩ - -
    repeat (first | refine s_load rfl rfl rfl rfl rfl rfl rfl ?_ | (first | refine s_field 0 rfl rfl rfl rfl rfl ?_ | refine s_field 1 rfl rfl rfl rfl rfl ?_ | refine s_field 2 rfl rfl rfl rfl rfl ?_ | refine s_field 3 rfl rfl rfl rfl rfl ?_ | refine s_field 4 rfl rfl rfl rfl rfl ?_ | refine s_field 5 rfl rfl rfl rfl rfl ?_) | refine s_move rfl rfl rfl rfl ?_ | refine s_assign rfl rfl rfl rfl ?_ | refine s_extract rfl rfl rfl rfl rfl ?_ | refine s_box rfl rfl rfl rfl rfl rfl (fun _ _ _ _ => ?_) | refine s_alloc rfl rfl rfl rfl rfl (fun _ _ _ _ => ?_) | refine s_store rfl rfl rfl rfl rfl rfl rfl (fun _ _ _ => ?_) | refine s_cmp rfl rfl rfl rfl rfl rfl ?_ | refine s_not rfl rfl rfl rfl ?_ | refine s_pick rfl rfl rfl rfl rfl ?_ | refine s_skip rfl rfl rfl ?_ | refine s_val rfl rfl rfl rfl (fun _ => rfl) ?_)
    refine vOrd_nil ?_
    repeat refine Wp.seq ?_
    refine (Wp.region [0, 1] (by kernel_rfl) (by kernel_rfl) ?_)
    repeat (first | refine s_load rfl rfl rfl rfl rfl rfl rfl ?_ | (first | refine s_field 0 rfl rfl rfl rfl rfl ?_ | refine s_field 1 rfl rfl rfl rfl rfl ?_ | refine s_field 2 rfl rfl rfl rfl rfl ?_ | refine s_field 3 rfl rfl rfl rfl rfl ?_ | refine s_field 4 rfl rfl rfl rfl rfl ?_ | refine s_field 5 rfl rfl rfl rfl rfl ?_) | refine s_move rfl rfl rfl rfl ?_ | refine s_assign rfl rfl rfl rfl ?_ | refine s_extract rfl rfl rfl rfl rfl ?_ | refine s_box rfl rfl rfl rfl rfl rfl (fun _ _ _ _ => ?_) | refine s_alloc rfl rfl rfl rfl rfl (fun _ _ _ _ => ?_) | refine s_store rfl rfl rfl rfl rfl rfl rfl (fun _ _ _ => ?_) | refine s_cmp rfl rfl rfl rfl rfl rfl ?_ | refine s_not rfl rfl rfl rfl ?_ | refine s_pick rfl rfl rfl rfl rfl ?_ | refine s_skip rfl rfl rfl ?_ | refine s_val rfl rfl rfl rfl (fun _ => rfl) ?_)
    refine vOrd_nil ?_
    exact Wp.ret ⟨.inr rfl, fun l => ⟨_, res_cell rfl rfl rfl rfl, _, rfl, ⟨_, _, rfl, hs.eq (by unfold ceilI; rw [if_neg g])⟩, l⟩⟩
end Go.Proofs.Ytklankodjjkhiaa
