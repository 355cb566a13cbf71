/-
  The contract of ratio.Cmp: which of two fractions is greater. No conditions.
-/
import Derived.Test.YtklankodjjkhiaaRatD
namespace Go.Proofs.Ytklankodjjkhiaa
open Go.RowKit

theorem bits_any {h l z : Int} (hz : WideIs h l z) (h0 : 0 ≤ z) (w : World) :
    Calls Try.prog 39 #[.agg #[.int .i64 h, .int .u64 l]] w fun e w' => ∃ u, e = .returned u ∧ IsLb z u ∧ Below w.heap.size w w' := by
  have hh : 0 ≤ h := by have := hz.sign; omega
  have hw : IntKind.u64.wrap h = h := IntWalk.u64_in _ ⟨hh, by have := hz.2.1; omega⟩
  refine calls_Wp (args := [_]) (n := 9) Try.func39 rfl rfl (by simp) ?_
  repeat refine Wp.seq ?_
  refine (Wp.region [0, 1] (by kernel_rfl) (by kernel_rfl) ?_)
  repeat (first | refine s_load rfl rfl rfl rfl rfl rfl rfl ?_ | (first | refine s_field 0 rfl rfl rfl rfl rfl ?_ | refine s_field 1 rfl rfl rfl rfl rfl ?_ | refine s_field 2 rfl rfl rfl rfl rfl ?_ | refine s_field 3 rfl rfl rfl rfl rfl ?_ | refine s_field 4 rfl rfl rfl rfl rfl ?_ | refine s_field 5 rfl rfl rfl rfl rfl ?_) | refine s_move rfl rfl rfl rfl ?_ | refine s_assign rfl rfl rfl rfl ?_ | refine s_extract rfl rfl rfl rfl rfl ?_ | refine s_box rfl rfl rfl rfl rfl rfl (fun _ _ _ _ => ?_) | refine s_alloc rfl rfl rfl rfl rfl (fun _ _ _ _ => ?_) | refine s_store rfl rfl rfl rfl rfl rfl rfl (fun _ _ _ => ?_) | refine s_cmp rfl rfl rfl rfl rfl rfl ?_ | refine s_not rfl rfl rfl rfl ?_ | refine s_pick rfl rfl rfl rfl rfl ?_ | refine s_skip rfl rfl rfl ?_ | refine s_val rfl rfl rfl rfl (fun _ => rfl) ?_)
  refine vOrd_nil ?_
  repeat refine Wp.seq ?_
  refine (Wp.region [0, 1, 2, 3, 4, 5, 6] (by kernel_rfl) (by kernel_rfl) ?_)
  repeat (first | refine s_load rfl rfl rfl rfl rfl rfl rfl ?_ | (first | refine s_field 0 rfl rfl rfl rfl rfl ?_ | refine s_field 1 rfl rfl rfl rfl rfl ?_ | refine s_field 2 rfl rfl rfl rfl rfl ?_ | refine s_field 3 rfl rfl rfl rfl rfl ?_ | refine s_field 4 rfl rfl rfl rfl rfl ?_ | refine s_field 5 rfl rfl rfl rfl rfl ?_) | refine s_move rfl rfl rfl rfl ?_ | refine s_assign rfl rfl rfl rfl ?_ | refine s_extract rfl rfl rfl rfl rfl ?_ | refine s_box rfl rfl rfl rfl rfl rfl (fun _ _ _ _ => ?_) | refine s_alloc rfl rfl rfl rfl rfl (fun _ _ _ _ => ?_) | refine s_store rfl rfl rfl rfl rfl rfl rfl (fun _ _ _ => ?_) | refine s_cmp rfl rfl rfl rfl rfl rfl ?_ | refine s_not rfl rfl rfl rfl ?_ | refine s_pick rfl rfl rfl rfl rfl ?_ | refine s_skip rfl rfl rfl ?_ | refine s_val rfl rfl rfl rfl (fun _ => rfl) ?_)
  refine s_val rfl rfl rfl rfl (v := .agg #[.int .u64 (IntKind.u64.wrap h), .int .u64 l]) (fun _ => by kernel_rfl) ?_
  rw [hw]
  repeat (first | refine s_load rfl rfl rfl rfl rfl rfl rfl ?_ | (first | refine s_field 0 rfl rfl rfl rfl rfl ?_ | refine s_field 1 rfl rfl rfl rfl rfl ?_ | refine s_field 2 rfl rfl rfl rfl rfl ?_ | refine s_field 3 rfl rfl rfl rfl rfl ?_ | refine s_field 4 rfl rfl rfl rfl rfl ?_ | refine s_field 5 rfl rfl rfl rfl rfl ?_) | refine s_move rfl rfl rfl rfl ?_ | refine s_assign rfl rfl rfl rfl ?_ | refine s_extract rfl rfl rfl rfl rfl ?_ | refine s_box rfl rfl rfl rfl rfl rfl (fun _ _ _ _ => ?_) | refine s_alloc rfl rfl rfl rfl rfl (fun _ _ _ _ => ?_) | refine s_store rfl rfl rfl rfl rfl rfl rfl (fun _ _ _ => ?_) | refine s_cmp rfl rfl rfl rfl rfl rfl ?_ | refine s_not rfl rfl rfl rfl ?_ | refine s_pick rfl rfl rfl rfl rfl ?_ | refine s_skip rfl rfl rfl ?_ | refine s_val rfl rfl rfl rfl (fun _ => rfl) ?_)
  refine vOrd_nil ?_
  refine Wp.ret ⟨.inr rfl, fun q => ⟨_, res_cell rfl rfl rfl rfl, _, rfl, ⟨_, _, rfl, ?_⟩, q⟩⟩
  obtain ⟨z1, z2, z3, z4, z5⟩ := hz
  exact ⟨hh, by omega, z3, z4, z5⟩
/-! ### Which of two fractions is greater -/
theorem cmp_lo {n d m k : Int} (hd : 0 < d) (hk : 0 < k) (h : n / d < m / k) : n * k < m * d := by
  have e1 := Int.emod_add_mul_ediv n d
  have e2 := Int.emod_add_mul_ediv m k
  have r1 := Int.emod_lt_of_pos n hd
  have r2 := Int.emod_nonneg m (by omega : k ≠ 0)
  have a1 : n < d * (n / d + 1) := by rw [Int.mul_add]; omega
  have a2 : k * (m / k) ≤ m := by omega
  have b1 : n * k < d * (n / d + 1) * k := Int.mul_lt_mul_of_pos_right a1 hk
  have b2 : d * (k * (n / d + 1)) ≤ d * (k * (m / k)) := Int.mul_le_mul_of_nonneg_left (Int.mul_le_mul_of_nonneg_left (by omega) (by omega)) (by omega)
  have b3 : d * (k * (m / k)) ≤ d * m := Int.mul_le_mul_of_nonneg_left a2 (by omega)
  have c1 : d * (n / d + 1) * k = d * (k * (n / d + 1)) := by rw [Int.mul_assoc, Int.mul_comm (n / d + 1) k]
  have c2 : d * m = m * d := Int.mul_comm _ _
  omega
theorem cmp_left {n d m k : Int} (h : n / d = m / k) : n * k - m * d = n % d * k - m % k * d := by
  have e1 := Int.emod_add_mul_ediv n d
  have e2 := Int.emod_add_mul_ediv m k
  have x1 : n * k = n % d * k + d * (n / d) * k := by rw [← Int.add_mul, e1]
  have x2 : m * d = m % k * d + k * (m / k) * d := by rw [← Int.add_mul, e2]
  have x3 : d * (n / d) * k = k * (m / k) * d := by rw [h, Int.mul_assoc, Int.mul_comm, Int.mul_comm (m / k) k]
  omega
theorem cmpI_sub {a b c d : Int} (h : a - b = c - d) : cmpI a b = cmpI c d := by
  unfold cmpI; split <;> split <;> (try split) <;> (try split) <;> omega
theorem cmpI_hi {x y : Int} (h : cmpI (x / 340282366920938463463374607431768211456) (y / 340282366920938463463374607431768211456) ≠ 0) : cmpI x y = cmpI (x / 340282366920938463463374607431768211456) (y / 340282366920938463463374607431768211456) := by
  unfold cmpI at *; split <;> split <;> (try split) <;> (try split) <;> simp_all <;> omega
theorem cmpI_lo {x y : Int} (h : cmpI (x / 340282366920938463463374607431768211456) (y / 340282366920938463463374607431768211456) = 0) : cmpI x y = cmpI (x % 340282366920938463463374607431768211456) (y % 340282366920938463463374607431768211456) := by
  unfold cmpI at *; split <;> split <;> (try split) <;> (try split) <;> simp_all <;> omega
theorem cmpI_nz {x y : Int} (h : cmpI x y ≠ 0) : x < y ∨ y < x := by
  unfold cmpI at h
  split at h
  · exact .inl ‹_›
  · split at h
    · exact .inr ‹_›
    · exact absurd rfl h
theorem cmpI_z {x y : Int} (h : cmpI x y = 0) : x = y := by
  unfold cmpI at h; split at h <;> (try split at h) <;> omega
theorem rcmp_any {n d m k : Int} {u v : Value} (hu : IsR n d u) (hv : IsR m k v) (hd : 0 < d) (hk : 0 < k) (w : World) :
    Calls Try.prog 19 #[u, v] w fun e w' => ∃ r, e = .returned r ∧ r = .int .i64 (cmpI (n * k) (m * d)) ∧ Below w.heap.size w w' := by
  obtain ⟨nh, nl, dh, dl, rfl, hn, hD⟩ := hu
  obtain ⟨mh, ml, kh, kl, rfl, hm, hK⟩ := hv
  have r0 := Int.emod_nonneg n (by omega : d ≠ 0)
  have s0 := Int.emod_nonneg m (by omega : k ≠ 0)
  refine calls_Wp (args := [_, _]) (n := 68) Try.func19 rfl rfl (by simp) ?_
  repeat refine Wp.seq ?_
  refine (Wp.region [0, 1, 2] (by kernel_rfl) (by kernel_rfl) ?_)
  repeat (first | refine s_load rfl rfl rfl rfl rfl rfl rfl ?_ | (first | refine s_field 0 rfl rfl rfl rfl rfl ?_ | refine s_field 1 rfl rfl rfl rfl rfl ?_ | refine s_field 2 rfl rfl rfl rfl rfl ?_ | refine s_field 3 rfl rfl rfl rfl rfl ?_ | refine s_field 4 rfl rfl rfl rfl rfl ?_ | refine s_field 5 rfl rfl rfl rfl rfl ?_) | refine s_move rfl rfl rfl rfl ?_ | refine s_assign rfl rfl rfl rfl ?_ | refine s_extract rfl rfl rfl rfl rfl ?_ | refine s_box rfl rfl rfl rfl rfl rfl (fun _ _ _ _ => ?_) | refine s_alloc rfl rfl rfl rfl rfl (fun _ _ _ _ => ?_) | refine s_store rfl rfl rfl rfl rfl rfl rfl (fun _ _ _ => ?_) | refine s_cmp rfl rfl rfl rfl rfl rfl ?_ | refine s_not rfl rfl rfl rfl ?_ | refine s_pick rfl rfl rfl rfl rfl ?_ | refine s_skip rfl rfl rfl ?_ | refine s_val rfl rfl rfl rfl (fun _ => rfl) ?_)
  refine vOrd_nil ?_
  repeat refine Wp.seq ?_
  refine (Wp.region [0, 1, 2, 3, 4, 5, 6, 7, 8, 9, 10, 11, 12, 13] (by kernel_rfl) (by kernel_rfl) ?_)
  repeat (first | refine s_load rfl rfl rfl rfl rfl rfl rfl ?_ | (first | refine s_field 0 rfl rfl rfl rfl rfl ?_ | refine s_field 1 rfl rfl rfl rfl rfl ?_ | refine s_field 2 rfl rfl rfl rfl rfl ?_ | refine s_field 3 rfl rfl rfl rfl rfl ?_ | refine s_field 4 rfl rfl rfl rfl rfl ?_ | refine s_field 5 rfl rfl rfl rfl rfl ?_) | refine s_move rfl rfl rfl rfl ?_ | refine s_assign rfl rfl rfl rfl ?_ | refine s_extract rfl rfl rfl rfl rfl ?_ | refine s_box rfl rfl rfl rfl rfl rfl (fun _ _ _ _ => ?_) | refine s_alloc rfl rfl rfl rfl rfl (fun _ _ _ _ => ?_) | refine s_store rfl rfl rfl rfl rfl rfl rfl (fun _ _ _ => ?_) | refine s_cmp rfl rfl rfl rfl rfl rfl ?_ | refine s_not rfl rfl rfl rfl ?_ | refine s_pick rfl rfl rfl rfl rfl ?_ | refine s_skip rfl rfl rfl ?_ | refine s_val rfl rfl rfl rfl (fun _ => rfl) ?_)
  refine s_call rfl rfl rfl (by kernel_rfl) rfl ?_
  refine (wdiv_any hn hD hd _).mono ?_
  rintro e w1 ⟨qh, ql, rh, rl, hq, hr, rfl, b1⟩
  refine ⟨_, rfl, b1, ?_⟩
  repeat (first | refine s_load rfl rfl rfl rfl rfl rfl rfl ?_ | (first | refine s_field 0 rfl rfl rfl rfl rfl ?_ | refine s_field 1 rfl rfl rfl rfl rfl ?_ | refine s_field 2 rfl rfl rfl rfl rfl ?_ | refine s_field 3 rfl rfl rfl rfl rfl ?_ | refine s_field 4 rfl rfl rfl rfl rfl ?_ | refine s_field 5 rfl rfl rfl rfl rfl ?_) | refine s_move rfl rfl rfl rfl ?_ | refine s_assign rfl rfl rfl rfl ?_ | refine s_extract rfl rfl rfl rfl rfl ?_ | refine s_box rfl rfl rfl rfl rfl rfl (fun _ _ _ _ => ?_) | refine s_alloc rfl rfl rfl rfl rfl (fun _ _ _ _ => ?_) | refine s_store rfl rfl rfl rfl rfl rfl rfl (fun _ _ _ => ?_) | refine s_cmp rfl rfl rfl rfl rfl rfl ?_ | refine s_not rfl rfl rfl rfl ?_ | refine s_pick rfl rfl rfl rfl rfl ?_ | refine s_skip rfl rfl rfl ?_ | refine s_val rfl rfl rfl rfl (fun _ => rfl) ?_)
  refine vOrd_nil ?_
  repeat refine Wp.seq ?_
  refine (Wp.region [0, 1, 2, 3, 4, 5, 6, 7, 8, 9, 10, 11, 12, 13] (by kernel_rfl) (by kernel_rfl) ?_)
  repeat (first | refine s_load rfl rfl rfl rfl rfl rfl rfl ?_ | (first | refine s_field 0 rfl rfl rfl rfl rfl ?_ | refine s_field 1 rfl rfl rfl rfl rfl ?_ | refine s_field 2 rfl rfl rfl rfl rfl ?_ | refine s_field 3 rfl rfl rfl rfl rfl ?_ | refine s_field 4 rfl rfl rfl rfl rfl ?_ | refine s_field 5 rfl rfl rfl rfl rfl ?_) | refine s_move rfl rfl rfl rfl ?_ | refine s_assign rfl rfl rfl rfl ?_ | refine s_extract rfl rfl rfl rfl rfl ?_ | refine s_box rfl rfl rfl rfl rfl rfl (fun _ _ _ _ => ?_) | refine s_alloc rfl rfl rfl rfl rfl (fun _ _ _ _ => ?_) | refine s_store rfl rfl rfl rfl rfl rfl rfl (fun _ _ _ => ?_) | refine s_cmp rfl rfl rfl rfl rfl rfl ?_ | refine s_not rfl rfl rfl rfl ?_ | refine s_pick rfl rfl rfl rfl rfl ?_ | refine s_skip rfl rfl rfl ?_ | refine s_val rfl rfl rfl rfl (fun _ => rfl) ?_)
  refine s_call rfl rfl rfl (by kernel_rfl) rfl ?_
  refine (wdiv_any hm hK hk _).mono ?_
  rintro e w2 ⟨ph, pl, sh, sl, hp, hs, rfl, b2⟩
  refine ⟨_, rfl, b2, ?_⟩
  repeat (first | refine s_load rfl rfl rfl rfl rfl rfl rfl ?_ | (first | refine s_field 0 rfl rfl rfl rfl rfl ?_ | refine s_field 1 rfl rfl rfl rfl rfl ?_ | refine s_field 2 rfl rfl rfl rfl rfl ?_ | refine s_field 3 rfl rfl rfl rfl rfl ?_ | refine s_field 4 rfl rfl rfl rfl rfl ?_ | refine s_field 5 rfl rfl rfl rfl rfl ?_) | refine s_move rfl rfl rfl rfl ?_ | refine s_assign rfl rfl rfl rfl ?_ | refine s_extract rfl rfl rfl rfl rfl ?_ | refine s_box rfl rfl rfl rfl rfl rfl (fun _ _ _ _ => ?_) | refine s_alloc rfl rfl rfl rfl rfl (fun _ _ _ _ => ?_) | refine s_store rfl rfl rfl rfl rfl rfl rfl (fun _ _ _ => ?_) | refine s_cmp rfl rfl rfl rfl rfl rfl ?_ | refine s_not rfl rfl rfl rfl ?_ | refine s_pick rfl rfl rfl rfl rfl ?_ | refine s_skip rfl rfl rfl ?_ | refine s_val rfl rfl rfl rfl (fun _ => rfl) ?_)
  refine vOrd_nil ?_
  repeat refine Wp.seq ?_
  refine (Wp.region [0, 1, 2, 3] (by kernel_rfl) (by kernel_rfl) ?_)
  repeat (first | refine s_load rfl rfl rfl rfl rfl rfl rfl ?_ | (first | refine s_field 0 rfl rfl rfl rfl rfl ?_ | refine s_field 1 rfl rfl rfl rfl rfl ?_ | refine s_field 2 rfl rfl rfl rfl rfl ?_ | refine s_field 3 rfl rfl rfl rfl rfl ?_ | refine s_field 4 rfl rfl rfl rfl rfl ?_ | refine s_field 5 rfl rfl rfl rfl rfl ?_) | refine s_move rfl rfl rfl rfl ?_ | refine s_assign rfl rfl rfl rfl ?_ | refine s_extract rfl rfl rfl rfl rfl ?_ | refine s_box rfl rfl rfl rfl rfl rfl (fun _ _ _ _ => ?_) | refine s_alloc rfl rfl rfl rfl rfl (fun _ _ _ _ => ?_) | refine s_store rfl rfl rfl rfl rfl rfl rfl (fun _ _ _ => ?_) | refine s_cmp rfl rfl rfl rfl rfl rfl ?_ | refine s_not rfl rfl rfl rfl ?_ | refine s_pick rfl rfl rfl rfl rfl ?_ | refine s_skip rfl rfl rfl ?_ | refine s_val rfl rfl rfl rfl (fun _ => rfl) ?_)
  refine s_call rfl rfl rfl (by kernel_rfl) rfl ?_
  refine (wcmp_any hq hp _).mono ?_
  rintro e w3 ⟨rfl, b3⟩
  refine ⟨_, rfl, b3, ?_⟩
  repeat (first | refine s_load rfl rfl rfl rfl rfl rfl rfl ?_ | (first | refine s_field 0 rfl rfl rfl rfl rfl ?_ | refine s_field 1 rfl rfl rfl rfl rfl ?_ | refine s_field 2 rfl rfl rfl rfl rfl ?_ | refine s_field 3 rfl rfl rfl rfl rfl ?_ | refine s_field 4 rfl rfl rfl rfl rfl ?_ | refine s_field 5 rfl rfl rfl rfl rfl ?_) | refine s_move rfl rfl rfl rfl ?_ | refine s_assign rfl rfl rfl rfl ?_ | refine s_extract rfl rfl rfl rfl rfl ?_ | refine s_box rfl rfl rfl rfl rfl rfl (fun _ _ _ _ => ?_) | refine s_alloc rfl rfl rfl rfl rfl (fun _ _ _ _ => ?_) | refine s_store rfl rfl rfl rfl rfl rfl rfl (fun _ _ _ => ?_) | refine s_cmp rfl rfl rfl rfl rfl rfl ?_ | refine s_not rfl rfl rfl rfl ?_ | refine s_pick rfl rfl rfl rfl rfl ?_ | refine s_skip rfl rfl rfl ?_ | refine s_val rfl rfl rfl rfl (fun _ => rfl) ?_)
  refine vOrd_nil ?_
  repeat refine Wp.seq ?_
  refine (Wp.region [0, 1] (by kernel_rfl) (by kernel_rfl) ?_)
  repeat (first | refine s_load rfl rfl rfl rfl rfl rfl rfl ?_ | (first | refine s_field 0 rfl rfl rfl rfl rfl ?_ | refine s_field 1 rfl rfl rfl rfl rfl ?_ | refine s_field 2 rfl rfl rfl rfl rfl ?_ | refine s_field 3 rfl rfl rfl rfl rfl ?_ | refine s_field 4 rfl rfl rfl rfl rfl ?_ | refine s_field 5 rfl rfl rfl rfl rfl ?_) | refine s_move rfl rfl rfl rfl ?_ | refine s_assign rfl rfl rfl rfl ?_ | refine s_extract rfl rfl rfl rfl rfl ?_ | refine s_box rfl rfl rfl rfl rfl rfl (fun _ _ _ _ => ?_) | refine s_alloc rfl rfl rfl rfl rfl (fun _ _ _ _ => ?_) | refine s_store rfl rfl rfl rfl rfl rfl rfl (fun _ _ _ => ?_) | refine s_cmp rfl rfl rfl rfl rfl rfl ?_ | refine s_not rfl rfl rfl rfl ?_ | refine s_pick rfl rfl rfl rfl rfl ?_ | refine s_skip rfl rfl rfl ?_ | refine s_val rfl rfl rfl rfl (fun _ => rfl) ?_)
  refine vOrd_nil ?_
  refine Wp.cond (t := cmpI (n / d) (m / k) != 0) rfl (okOpd_spec rfl) (fun g => ?_) (fun g => ?_)
  · have g : cmpI (n / d) (m / k) ≠ 0 := by simpa using g
    repeat refine Wp.seq ?_
    refine (Wp.region [0, 1] (by kernel_rfl) (by kernel_rfl) ?_)
    repeat (first | refine s_load rfl rfl rfl rfl rfl rfl rfl ?_ | (first | refine s_field 0 rfl rfl rfl rfl rfl ?_ | refine s_field 1 rfl rfl rfl rfl rfl ?_ | refine s_field 2 rfl rfl rfl rfl rfl ?_ | refine s_field 3 rfl rfl rfl rfl rfl ?_ | refine s_field 4 rfl rfl rfl rfl rfl ?_ | refine s_field 5 rfl rfl rfl rfl rfl ?_) | refine s_move rfl rfl rfl rfl ?_ | refine s_assign rfl rfl rfl rfl ?_ | refine s_extract rfl rfl rfl rfl rfl ?_ | refine s_box rfl rfl rfl rfl rfl rfl (fun _ _ _ _ => ?_) | refine s_alloc rfl rfl rfl rfl rfl (fun _ _ _ _ => ?_) | refine s_store rfl rfl rfl rfl rfl rfl rfl (fun _ _ _ => ?_) | refine s_cmp rfl rfl rfl rfl rfl rfl ?_ | refine s_not rfl rfl rfl rfl ?_ | refine s_pick rfl rfl rfl rfl rfl ?_ | refine s_skip rfl rfl rfl ?_ | refine s_val rfl rfl rfl rfl (fun _ => rfl) ?_)
    refine vOrd_nil ?_
    refine Wp.ret ⟨.inr rfl, fun l => ⟨_, res_tmp (P := Try.prog) rfl rfl, _, rfl, ?_, l⟩⟩
    rcases cmpI_nz g with g | g
    · rw [cmpI_lt g, cmpI_lt (cmp_lo hd hk g)]
    · rw [cmpI_gt g, cmpI_gt (cmp_lo hk hd g)]
  have g : n / d = m / k := cmpI_z (by simpa using g)
  refine Wp.skip ?_
  repeat refine Wp.seq ?_
  refine (Wp.drawn (by kernel_rfl) (by kernel_rfl) [0, 2, 3, 9, 10, 1, 4, 5, 6, 7, 8, 11, 12] [1548, 1539, 1543, 1535, 1023, 0, 0, 0, 0, 1919, 3839, 0, 0] (by kernel_rfl) (by kernel_rfl) (fun | 1 => fun v _ => IsLb (n % d) v | 4 => fun v _ => IsLb (k) v | 5 => fun v _ => ∃ hi lo, v = .tuple #[hi, lo] ∧ IsLb (n % d * k / 340282366920938463463374607431768211456) hi ∧ IsLb (n % d * k % 340282366920938463463374607431768211456) lo | _ => fun _ _ => True) (fun _ _ => ?_))
  repeat (first | refine s_load rfl rfl rfl rfl rfl rfl rfl ?_ | (first | refine s_field 0 rfl rfl rfl rfl rfl ?_ | refine s_field 1 rfl rfl rfl rfl rfl ?_ | refine s_field 2 rfl rfl rfl rfl rfl ?_ | refine s_field 3 rfl rfl rfl rfl rfl ?_ | refine s_field 4 rfl rfl rfl rfl rfl ?_ | refine s_field 5 rfl rfl rfl rfl rfl ?_) | refine s_move rfl rfl rfl rfl ?_ | refine s_assign rfl rfl rfl rfl ?_ | refine s_extract rfl rfl rfl rfl rfl ?_ | refine s_box rfl rfl rfl rfl rfl rfl (fun _ _ _ _ => ?_) | refine s_alloc rfl rfl rfl rfl rfl (fun _ _ _ _ => ?_) | refine s_store rfl rfl rfl rfl rfl rfl rfl (fun _ _ _ => ?_) | refine s_cmp rfl rfl rfl rfl rfl rfl ?_ | refine s_not rfl rfl rfl rfl ?_ | refine s_pick rfl rfl rfl rfl rfl ?_ | refine s_skip rfl rfl rfl ?_ | refine s_val rfl rfl rfl rfl (fun _ => rfl) ?_)
  refine s_callD rfl rfl rfl (by kernel_rfl) rfl (fun wc lc => bits_any  hr r0 wc) ?_
  rintro v u11 u12 i11 - -
  refine s_callD rfl rfl rfl (by kernel_rfl) rfl (fun wc lc => bits_any hK (by omega) wc) ?_
  rintro v u13 u14 i12 - -
  refine s_callD rfl rfl rfl (by kernel_rfl) rfl (fun wc lc => c_lmul i11 i12 wc) ?_
  rintro v u15 u16 ⟨_, _, rfl, ⟨h1h, h1l, rfl, i13⟩, ⟨l1h, l1l, rfl, i14⟩⟩ - -
  repeat (first | refine s_load rfl rfl rfl rfl rfl rfl rfl ?_ | (first | refine s_field 0 rfl rfl rfl rfl rfl ?_ | refine s_field 1 rfl rfl rfl rfl rfl ?_ | refine s_field 2 rfl rfl rfl rfl rfl ?_ | refine s_field 3 rfl rfl rfl rfl rfl ?_ | refine s_field 4 rfl rfl rfl rfl rfl ?_ | refine s_field 5 rfl rfl rfl rfl rfl ?_) | refine s_move rfl rfl rfl rfl ?_ | refine s_assign rfl rfl rfl rfl ?_ | refine s_extract rfl rfl rfl rfl rfl ?_ | refine s_box rfl rfl rfl rfl rfl rfl (fun _ _ _ _ => ?_) | refine s_alloc rfl rfl rfl rfl rfl (fun _ _ _ _ => ?_) | refine s_store rfl rfl rfl rfl rfl rfl rfl (fun _ _ _ => ?_) | refine s_cmp rfl rfl rfl rfl rfl rfl ?_ | refine s_not rfl rfl rfl rfl ?_ | refine s_pick rfl rfl rfl rfl rfl ?_ | refine s_skip rfl rfl rfl ?_ | refine s_val rfl rfl rfl rfl (fun _ => rfl) ?_)
  refine vOrd_nil ?_
  repeat refine Wp.seq ?_
  refine (Wp.drawn (by kernel_rfl) (by kernel_rfl) [0, 2, 3, 9, 10, 1, 4, 5, 6, 7, 8, 11, 12] [1548, 1539, 1543, 1535, 1023, 0, 0, 0, 0, 1919, 3839, 0, 0] (by kernel_rfl) (by kernel_rfl) (fun | 1 => fun v _ => IsLb (m % k) v | 4 => fun v _ => IsLb (d) v | 5 => fun v _ => ∃ hi lo, v = .tuple #[hi, lo] ∧ IsLb (m % k * d / 340282366920938463463374607431768211456) hi ∧ IsLb (m % k * d % 340282366920938463463374607431768211456) lo | _ => fun _ _ => True) (fun _ _ => ?_))
  repeat (first | refine s_load rfl rfl rfl rfl rfl rfl rfl ?_ | (first | refine s_field 0 rfl rfl rfl rfl rfl ?_ | refine s_field 1 rfl rfl rfl rfl rfl ?_ | refine s_field 2 rfl rfl rfl rfl rfl ?_ | refine s_field 3 rfl rfl rfl rfl rfl ?_ | refine s_field 4 rfl rfl rfl rfl rfl ?_ | refine s_field 5 rfl rfl rfl rfl rfl ?_) | refine s_move rfl rfl rfl rfl ?_ | refine s_assign rfl rfl rfl rfl ?_ | refine s_extract rfl rfl rfl rfl rfl ?_ | refine s_box rfl rfl rfl rfl rfl rfl (fun _ _ _ _ => ?_) | refine s_alloc rfl rfl rfl rfl rfl (fun _ _ _ _ => ?_) | refine s_store rfl rfl rfl rfl rfl rfl rfl (fun _ _ _ => ?_) | refine s_cmp rfl rfl rfl rfl rfl rfl ?_ | refine s_not rfl rfl rfl rfl ?_ | refine s_pick rfl rfl rfl rfl rfl ?_ | refine s_skip rfl rfl rfl ?_ | refine s_val rfl rfl rfl rfl (fun _ => rfl) ?_)
  refine s_callD rfl rfl rfl (by kernel_rfl) rfl (fun wc lc => bits_any hs s0 wc) ?_
  rintro v u21 u22 i21 - -
  refine s_callD rfl rfl rfl (by kernel_rfl) rfl (fun wc lc => bits_any hD (by omega) wc) ?_
  rintro v u23 u24 i22 - -
  refine s_callD rfl rfl rfl (by kernel_rfl) rfl (fun wc lc => c_lmul i21 i22 wc) ?_
  rintro v u25 u26 ⟨_, _, rfl, ⟨h2h, h2l, rfl, i23⟩, ⟨l2h, l2l, rfl, i24⟩⟩ - -
  repeat (first | refine s_load rfl rfl rfl rfl rfl rfl rfl ?_ | (first | refine s_field 0 rfl rfl rfl rfl rfl ?_ | refine s_field 1 rfl rfl rfl rfl rfl ?_ | refine s_field 2 rfl rfl rfl rfl rfl ?_ | refine s_field 3 rfl rfl rfl rfl rfl ?_ | refine s_field 4 rfl rfl rfl rfl rfl ?_ | refine s_field 5 rfl rfl rfl rfl rfl ?_) | refine s_move rfl rfl rfl rfl ?_ | refine s_assign rfl rfl rfl rfl ?_ | refine s_extract rfl rfl rfl rfl rfl ?_ | refine s_box rfl rfl rfl rfl rfl rfl (fun _ _ _ _ => ?_) | refine s_alloc rfl rfl rfl rfl rfl (fun _ _ _ _ => ?_) | refine s_store rfl rfl rfl rfl rfl rfl rfl (fun _ _ _ => ?_) | refine s_cmp rfl rfl rfl rfl rfl rfl ?_ | refine s_not rfl rfl rfl rfl ?_ | refine s_pick rfl rfl rfl rfl rfl ?_ | refine s_skip rfl rfl rfl ?_ | refine s_val rfl rfl rfl rfl (fun _ => rfl) ?_)
  refine vOrd_nil ?_
  repeat refine Wp.seq ?_
  refine (Wp.region [0, 1, 2, 3] (by kernel_rfl) (by kernel_rfl) ?_)
  repeat (first | refine s_load rfl rfl rfl rfl rfl rfl rfl ?_ | (first | refine s_field 0 rfl rfl rfl rfl rfl ?_ | refine s_field 1 rfl rfl rfl rfl rfl ?_ | refine s_field 2 rfl rfl rfl rfl rfl ?_ | refine s_field 3 rfl rfl rfl rfl rfl ?_ | refine s_field 4 rfl rfl rfl rfl rfl ?_ | refine s_field 5 rfl rfl rfl rfl rfl ?_) | refine s_move rfl rfl rfl rfl ?_ | refine s_assign rfl rfl rfl rfl ?_ | refine s_extract rfl rfl rfl rfl rfl ?_ | refine s_box rfl rfl rfl rfl rfl rfl (fun _ _ _ _ => ?_) | refine s_alloc rfl rfl rfl rfl rfl (fun _ _ _ _ => ?_) | refine s_store rfl rfl rfl rfl rfl rfl rfl (fun _ _ _ => ?_) | refine s_cmp rfl rfl rfl rfl rfl rfl ?_ | refine s_not rfl rfl rfl rfl ?_ | refine s_pick rfl rfl rfl rfl rfl ?_ | refine s_skip rfl rfl rfl ?_ | refine s_val rfl rfl rfl rfl (fun _ => rfl) ?_)
  refine s_call rfl rfl rfl (by kernel_rfl) rfl ?_
  refine (cmp_any i13 i23 _).mono ?_
  rintro e w4 ⟨rfl, b4⟩
  refine ⟨_, rfl, b4, ?_⟩
  repeat (first | refine s_load rfl rfl rfl rfl rfl rfl rfl ?_ | (first | refine s_field 0 rfl rfl rfl rfl rfl ?_ | refine s_field 1 rfl rfl rfl rfl rfl ?_ | refine s_field 2 rfl rfl rfl rfl rfl ?_ | refine s_field 3 rfl rfl rfl rfl rfl ?_ | refine s_field 4 rfl rfl rfl rfl rfl ?_ | refine s_field 5 rfl rfl rfl rfl rfl ?_) | refine s_move rfl rfl rfl rfl ?_ | refine s_assign rfl rfl rfl rfl ?_ | refine s_extract rfl rfl rfl rfl rfl ?_ | refine s_box rfl rfl rfl rfl rfl rfl (fun _ _ _ _ => ?_) | refine s_alloc rfl rfl rfl rfl rfl (fun _ _ _ _ => ?_) | refine s_store rfl rfl rfl rfl rfl rfl rfl (fun _ _ _ => ?_) | refine s_cmp rfl rfl rfl rfl rfl rfl ?_ | refine s_not rfl rfl rfl rfl ?_ | refine s_pick rfl rfl rfl rfl rfl ?_ | refine s_skip rfl rfl rfl ?_ | refine s_val rfl rfl rfl rfl (fun _ => rfl) ?_)
  refine vOrd_nil ?_
  repeat refine Wp.seq ?_
  refine (Wp.region [0, 1] (by kernel_rfl) (by kernel_rfl) ?_)
  repeat (first | refine s_load rfl rfl rfl rfl rfl rfl rfl ?_ | (first | refine s_field 0 rfl rfl rfl rfl rfl ?_ | refine s_field 1 rfl rfl rfl rfl rfl ?_ | refine s_field 2 rfl rfl rfl rfl rfl ?_ | refine s_field 3 rfl rfl rfl rfl rfl ?_ | refine s_field 4 rfl rfl rfl rfl rfl ?_ | refine s_field 5 rfl rfl rfl rfl rfl ?_) | refine s_move rfl rfl rfl rfl ?_ | refine s_assign rfl rfl rfl rfl ?_ | refine s_extract rfl rfl rfl rfl rfl ?_ | refine s_box rfl rfl rfl rfl rfl rfl (fun _ _ _ _ => ?_) | refine s_alloc rfl rfl rfl rfl rfl (fun _ _ _ _ => ?_) | refine s_store rfl rfl rfl rfl rfl rfl rfl (fun _ _ _ => ?_) | refine s_cmp rfl rfl rfl rfl rfl rfl ?_ | refine s_not rfl rfl rfl rfl ?_ | refine s_pick rfl rfl rfl rfl rfl ?_ | refine s_skip rfl rfl rfl ?_ | refine s_val rfl rfl rfl rfl (fun _ => rfl) ?_)
  refine vOrd_nil ?_
  have E := cmpI_sub (cmp_left g)
  refine Wp.cond (t := cmpI (n % d * k / 340282366920938463463374607431768211456) (m % k * d / 340282366920938463463374607431768211456) != 0) rfl (okOpd_spec rfl) (fun f => ?_) (fun f => ?_)
  · have f : cmpI (n % d * k / 340282366920938463463374607431768211456) (m % k * d / 340282366920938463463374607431768211456) ≠ 0 := by simpa using f
    repeat refine Wp.seq ?_
    refine (Wp.region [0, 1] (by kernel_rfl) (by kernel_rfl) ?_)
    repeat (first | refine s_load rfl rfl rfl rfl rfl rfl rfl ?_ | (first | refine s_field 0 rfl rfl rfl rfl rfl ?_ | refine s_field 1 rfl rfl rfl rfl rfl ?_ | refine s_field 2 rfl rfl rfl rfl rfl ?_ | refine s_field 3 rfl rfl rfl rfl rfl ?_ | refine s_field 4 rfl rfl rfl rfl rfl ?_ | refine s_field 5 rfl rfl rfl rfl rfl ?_) | refine s_move rfl rfl rfl rfl ?_ | refine s_assign rfl rfl rfl rfl ?_ | refine s_extract rfl rfl rfl rfl rfl ?_ | refine s_box rfl rfl rfl rfl rfl rfl (fun _ _ _ _ => ?_) | refine s_alloc rfl rfl rfl rfl rfl (fun _ _ _ _ => ?_) | refine s_store rfl rfl rfl rfl rfl rfl rfl (fun _ _ _ => ?_) | refine s_cmp rfl rfl rfl rfl rfl rfl ?_ | refine s_not rfl rfl rfl rfl ?_ | refine s_pick rfl rfl rfl rfl rfl ?_ | refine s_skip rfl rfl rfl ?_ | refine s_val rfl rfl rfl rfl (fun _ => rfl) ?_)
    refine vOrd_nil ?_
    exact Wp.ret ⟨.inr rfl, fun l => ⟨_, res_tmp (P := Try.prog) rfl rfl, _, rfl, by rw [E, cmpI_hi f], l⟩⟩
  have f : cmpI (n % d * k / 340282366920938463463374607431768211456) (m % k * d / 340282366920938463463374607431768211456) = 0 := by simpa using f
  refine Wp.skip ?_
  repeat refine Wp.seq ?_
  refine (Wp.region [0, 1, 2, 3] (by kernel_rfl) (by kernel_rfl) ?_)
  repeat (first | refine s_load rfl rfl rfl rfl rfl rfl rfl ?_ | (first | refine s_field 0 rfl rfl rfl rfl rfl ?_ | refine s_field 1 rfl rfl rfl rfl rfl ?_ | refine s_field 2 rfl rfl rfl rfl rfl ?_ | refine s_field 3 rfl rfl rfl rfl rfl ?_ | refine s_field 4 rfl rfl rfl rfl rfl ?_ | refine s_field 5 rfl rfl rfl rfl rfl ?_) | refine s_move rfl rfl rfl rfl ?_ | refine s_assign rfl rfl rfl rfl ?_ | refine s_extract rfl rfl rfl rfl rfl ?_ | refine s_box rfl rfl rfl rfl rfl rfl (fun _ _ _ _ => ?_) | refine s_alloc rfl rfl rfl rfl rfl (fun _ _ _ _ => ?_) | refine s_store rfl rfl rfl rfl rfl rfl rfl (fun _ _ _ => ?_) | refine s_cmp rfl rfl rfl rfl rfl rfl ?_ | refine s_not rfl rfl rfl rfl ?_ | refine s_pick rfl rfl rfl rfl rfl ?_ | refine s_skip rfl rfl rfl ?_ | refine s_val rfl rfl rfl rfl (fun _ => rfl) ?_)
  refine s_call rfl rfl rfl (by kernel_rfl) rfl ?_
  refine (cmp_any i14 i24 _).mono ?_
  rintro e w5 ⟨rfl, b5⟩
  refine ⟨_, rfl, b5, ?_⟩
  repeat (first | refine s_load rfl rfl rfl rfl rfl rfl rfl ?_ | (first | refine s_field 0 rfl rfl rfl rfl rfl ?_ | refine s_field 1 rfl rfl rfl rfl rfl ?_ | refine s_field 2 rfl rfl rfl rfl rfl ?_ | refine s_field 3 rfl rfl rfl rfl rfl ?_ | refine s_field 4 rfl rfl rfl rfl rfl ?_ | refine s_field 5 rfl rfl rfl rfl rfl ?_) | refine s_move rfl rfl rfl rfl ?_ | refine s_assign rfl rfl rfl rfl ?_ | refine s_extract rfl rfl rfl rfl rfl ?_ | refine s_box rfl rfl rfl rfl rfl rfl (fun _ _ _ _ => ?_) | refine s_alloc rfl rfl rfl rfl rfl (fun _ _ _ _ => ?_) | refine s_store rfl rfl rfl rfl rfl rfl rfl (fun _ _ _ => ?_) | refine s_cmp rfl rfl rfl rfl rfl rfl ?_ | refine s_not rfl rfl rfl rfl ?_ | refine s_pick rfl rfl rfl rfl rfl ?_ | refine s_skip rfl rfl rfl ?_ | refine s_val rfl rfl rfl rfl (fun _ => rfl) ?_)
  refine vOrd_nil ?_
  exact Wp.ret ⟨.inr rfl, fun l => ⟨_, res_tmp (P := Try.prog) rfl rfl, _, rfl, by rw [E, cmpI_lo f], l⟩⟩
end Go.Proofs.Ytklankodjjkhiaa
