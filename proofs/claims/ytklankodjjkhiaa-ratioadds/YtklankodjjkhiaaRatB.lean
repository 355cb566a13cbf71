/-
  The contracts of ratio.divisor (the greatest common divisor) and ratio.Make. No conditions.
-/
import Derived.Test.YtklankodjjkhiaaRatA
namespace Go.Proofs.Ytklankodjjkhiaa
open Go.RowKit

theorem gcd_round (n d : Int) : Int.gcd d (n % d) = Int.gcd n d := by
  have h := Int.gcd_add_mul_left_right d (n % d) (n / d)
  rw [Int.emod_add_mul_ediv] at h
  rw [← h, Int.gcd_comm]
theorem divisor_any {nh nl dh dl n d : Int} (hn : WideIs nh nl n) (hd : WideIs dh dl d) (h0 : 0 < d) (w : World) :
    Calls Try.prog 25 #[.agg #[.int .i64 nh, .int .u64 nl], .agg #[.int .i64 dh, .int .u64 dl]] w fun e w' => ∃ u, e = .returned u ∧ IsW (Int.gcd n d) u ∧ Below w.heap.size w w' := by
  refine calls_Wp (args := [_, _]) (n := 21) Try.func25 rfl rfl (by simp) ?_
  repeat refine Wp.seq ?_
  refine (Wp.region [0, 1, 2] (by kernel_rfl) (by kernel_rfl) ?_)
  repeat (first | refine s_load rfl rfl rfl rfl rfl rfl rfl ?_ | (first | refine s_field 0 rfl rfl rfl rfl rfl ?_ | refine s_field 1 rfl rfl rfl rfl rfl ?_ | refine s_field 2 rfl rfl rfl rfl rfl ?_ | refine s_field 3 rfl rfl rfl rfl rfl ?_ | refine s_field 4 rfl rfl rfl rfl rfl ?_ | refine s_field 5 rfl rfl rfl rfl rfl ?_) | refine s_move rfl rfl rfl rfl ?_ | refine s_assign rfl rfl rfl rfl ?_ | refine s_extract rfl rfl rfl rfl rfl ?_ | refine s_box rfl rfl rfl rfl rfl rfl (fun _ _ _ _ => ?_) | refine s_alloc rfl rfl rfl rfl rfl (fun _ _ _ _ => ?_) | refine s_store rfl rfl rfl rfl rfl rfl rfl (fun _ _ _ => ?_) | refine s_cmp rfl rfl rfl rfl rfl rfl ?_ | refine s_not rfl rfl rfl rfl ?_ | refine s_pick rfl rfl rfl rfl rfl ?_ | refine s_skip rfl rfl rfl ?_ | refine s_val rfl rfl rfl rfl (fun _ => rfl) ?_)
  refine vOrd_nil ?_
  refine Wp.seq (Wp.block (Wp.loop (fun k st _ => ∃ b2 b3 b4 xh xl yh yl x y, st = St.of [(2, .p 2 b2 0), (3, .p 3 b3 0), (4, .p 4 b4 0)] [(2, b2, [.int .i64 xh, .int .u64 xl]), (3, b3, [.int .i64 yh, .int .u64 yl]), (4, b4, [.int .i64 0, .int .u64 0])] ∧
    WideIs xh xl x ∧ WideIs yh yl y ∧ 0 ≤ y ∧ (y = 0 → 0 < x) ∧ Int.gcd x y = Int.gcd n d ∧ k = y.toNat) ?_ ?_))
  · exact ⟨_, _, St.of_le' (env := [(2, .p 2 _ 0), (3, .p 3 _ 0), (4, .p 4 _ 0)]) (mem := [(2, _, [_, _]), (3, _, [_, _]), (4, _, [_, _])]) ⟨rfl, rfl, rfl, trivial⟩ ⟨rfl, rfl, rfl, trivial⟩, _, _, _, _, _, _, _, n, d, rfl, hn, hd, by omega, by omega, rfl, rfl⟩
  · rintro k st w1 ⟨b2, b3, b4, xh, xl, yh, yl, x, y, rfl, hx, hy, y0, yx, hg, rfl⟩
    repeat refine Wp.seq ?_
    refine (Wp.region [0, 1, 2] (by kernel_rfl) (by kernel_rfl) ?_)
    refine s_load rfl rfl rfl rfl rfl rfl rfl ?_
    refine s_val rfl rfl rfl rfl (v := .agg #[.int .i64 0, .int .u64 0]) (fun _ => by kernel_rfl) ?_
    by_cases g : y = 0
    · refine s_eqv (c := false) rfl rfl rfl rfl rfl (fun _ => by kernel_rfl) (fun w => by rw [run_neq_wide, eqW_same hy (wide_0.eq g.symm)]; rfl) ?_
      refine vOrd_nil ?_
      refine Wp.condF rfl rfl ?_
      refine Wp.exit ?_
      have hx0 := yx g
      have e : (Int.gcd n d : Int) = x := by rw [← hg, g, Int.gcd_zero_right]; omega
      repeat refine Wp.seq ?_
      refine (Wp.region [0, 1] (by kernel_rfl) (by kernel_rfl) ?_)
      repeat (first | refine s_load rfl rfl rfl rfl rfl rfl rfl ?_ | (first | refine s_field 0 rfl rfl rfl rfl rfl ?_ | refine s_field 1 rfl rfl rfl rfl rfl ?_ | refine s_field 2 rfl rfl rfl rfl rfl ?_ | refine s_field 3 rfl rfl rfl rfl rfl ?_ | refine s_field 4 rfl rfl rfl rfl rfl ?_ | refine s_field 5 rfl rfl rfl rfl rfl ?_) | refine s_move rfl rfl rfl rfl ?_ | refine s_assign rfl rfl rfl rfl ?_ | refine s_extract rfl rfl rfl rfl rfl ?_ | refine s_box rfl rfl rfl rfl rfl rfl (fun _ _ _ _ => ?_) | refine s_alloc rfl rfl rfl rfl rfl (fun _ _ _ _ => ?_) | refine s_store rfl rfl rfl rfl rfl rfl rfl (fun _ _ _ => ?_) | refine s_cmp rfl rfl rfl rfl rfl rfl ?_ | refine s_not rfl rfl rfl rfl ?_ | refine s_pick rfl rfl rfl rfl rfl ?_ | refine s_skip rfl rfl rfl ?_ | refine s_val rfl rfl rfl rfl (fun _ => rfl) ?_)
      refine vOrd_nil ?_
      exact Wp.ret ⟨.inr rfl, fun l => ⟨_, res_cell rfl rfl rfl rfl, _, rfl, ⟨_, _, rfl, hx.eq e.symm⟩, l⟩⟩
    · refine s_eqv (c := true) rfl rfl rfl rfl rfl (fun _ => by kernel_rfl) (fun w => by rw [run_neq_wide, eqW_other hy wide_0 g]; rfl) ?_
      refine vOrd_nil ?_
      refine Wp.condT rfl rfl ?_
      refine Wp.skip ?_
      refine Wp.block ?_
      repeat refine Wp.seq ?_
      refine (Wp.region [0, 1, 2, 3, 4, 5, 6, 7, 8, 9, 10, 11] (by kernel_rfl) (by kernel_rfl) ?_)
      repeat (first | refine s_load rfl rfl rfl rfl rfl rfl rfl ?_ | (first | refine s_field 0 rfl rfl rfl rfl rfl ?_ | refine s_field 1 rfl rfl rfl rfl rfl ?_ | refine s_field 2 rfl rfl rfl rfl rfl ?_ | refine s_field 3 rfl rfl rfl rfl rfl ?_ | refine s_field 4 rfl rfl rfl rfl rfl ?_ | refine s_field 5 rfl rfl rfl rfl rfl ?_) | refine s_move rfl rfl rfl rfl ?_ | refine s_assign rfl rfl rfl rfl ?_ | refine s_extract rfl rfl rfl rfl rfl ?_ | refine s_box rfl rfl rfl rfl rfl rfl (fun _ _ _ _ => ?_) | refine s_alloc rfl rfl rfl rfl rfl (fun _ _ _ _ => ?_) | refine s_store rfl rfl rfl rfl rfl rfl rfl (fun _ _ _ => ?_) | refine s_cmp rfl rfl rfl rfl rfl rfl ?_ | refine s_not rfl rfl rfl rfl ?_ | refine s_pick rfl rfl rfl rfl rfl ?_ | refine s_skip rfl rfl rfl ?_ | refine s_val rfl rfl rfl rfl (fun _ => rfl) ?_)
      refine s_call rfl rfl rfl (by kernel_rfl) rfl ?_
      refine (wdiv_any hx hy (by omega) _).mono ?_
      rintro e w' ⟨qh, ql, rh, rl, hq, hr, rfl, hb⟩
      refine ⟨_, rfl, hb, ?_⟩
      repeat (first | refine s_load rfl rfl rfl rfl rfl rfl rfl ?_ | (first | refine s_field 0 rfl rfl rfl rfl rfl ?_ | refine s_field 1 rfl rfl rfl rfl rfl ?_ | refine s_field 2 rfl rfl rfl rfl rfl ?_ | refine s_field 3 rfl rfl rfl rfl rfl ?_ | refine s_field 4 rfl rfl rfl rfl rfl ?_ | refine s_field 5 rfl rfl rfl rfl rfl ?_) | refine s_move rfl rfl rfl rfl ?_ | refine s_assign rfl rfl rfl rfl ?_ | refine s_extract rfl rfl rfl rfl rfl ?_ | refine s_box rfl rfl rfl rfl rfl rfl (fun _ _ _ _ => ?_) | refine s_alloc rfl rfl rfl rfl rfl (fun _ _ _ _ => ?_) | refine s_store rfl rfl rfl rfl rfl rfl rfl (fun _ _ _ => ?_) | refine s_cmp rfl rfl rfl rfl rfl rfl ?_ | refine s_not rfl rfl rfl rfl ?_ | refine s_pick rfl rfl rfl rfl rfl ?_ | refine s_skip rfl rfl rfl ?_ | refine s_val rfl rfl rfl rfl (fun _ => rfl) ?_)
      refine vOrd_nil ?_
      have r0 := Int.emod_nonneg x (by omega : y ≠ 0)
      have r1 := Int.emod_lt_of_pos x (by omega : 0 < y)
      repeat refine Wp.seq ?_
      refine (Wp.drawn2 (by kernel_rfl) (by kernel_rfl) [0] [2] [1, 2, 3] [0, 0] [2, 1, 3] [0, 0] (by kernel_rfl) (by kernel_rfl) (fun _ _ _ => True) (fun _ _ => ?_))
      repeat (first | refine s_load rfl rfl rfl rfl rfl rfl rfl ?_ | (first | refine s_field 0 rfl rfl rfl rfl rfl ?_ | refine s_field 1 rfl rfl rfl rfl rfl ?_ | refine s_field 2 rfl rfl rfl rfl rfl ?_ | refine s_field 3 rfl rfl rfl rfl rfl ?_ | refine s_field 4 rfl rfl rfl rfl rfl ?_ | refine s_field 5 rfl rfl rfl rfl rfl ?_) | refine s_move rfl rfl rfl rfl ?_ | refine s_assign rfl rfl rfl rfl ?_ | refine s_extract rfl rfl rfl rfl rfl ?_ | refine s_box rfl rfl rfl rfl rfl rfl (fun _ _ _ _ => ?_) | refine s_alloc rfl rfl rfl rfl rfl (fun _ _ _ _ => ?_) | refine s_store rfl rfl rfl rfl rfl rfl rfl (fun _ _ _ => ?_) | refine s_cmp rfl rfl rfl rfl rfl rfl ?_ | refine s_not rfl rfl rfl rfl ?_ | refine s_pick rfl rfl rfl rfl rfl ?_ | refine s_skip rfl rfl rfl ?_ | refine s_val rfl rfl rfl rfl (fun _ => rfl) ?_)
      refine vOrd_nil ⟨?_, ?_⟩
      all_goals
        repeat (first | refine s_load rfl rfl rfl rfl rfl rfl rfl ?_ | (first | refine s_field 0 rfl rfl rfl rfl rfl ?_ | refine s_field 1 rfl rfl rfl rfl rfl ?_ | refine s_field 2 rfl rfl rfl rfl rfl ?_ | refine s_field 3 rfl rfl rfl rfl rfl ?_ | refine s_field 4 rfl rfl rfl rfl rfl ?_ | refine s_field 5 rfl rfl rfl rfl rfl ?_) | refine s_move rfl rfl rfl rfl ?_ | refine s_assign rfl rfl rfl rfl ?_ | refine s_extract rfl rfl rfl rfl rfl ?_ | refine s_box rfl rfl rfl rfl rfl rfl (fun _ _ _ _ => ?_) | refine s_alloc rfl rfl rfl rfl rfl (fun _ _ _ _ => ?_) | refine s_store rfl rfl rfl rfl rfl rfl rfl (fun _ _ _ => ?_) | refine s_cmp rfl rfl rfl rfl rfl rfl ?_ | refine s_not rfl rfl rfl rfl ?_ | refine s_pick rfl rfl rfl rfl rfl ?_ | refine s_skip rfl rfl rfl ?_ | refine s_val rfl rfl rfl rfl (fun _ => rfl) ?_)
        refine vOrd_nil ?_
        exact ⟨_, _, by omega, St.of_le' (env := [(2, .p 2 _ 0), (3, .p 3 _ 0), (4, .p 4 _ 0)]) (mem := [(2, _, [_, _]), (3, _, [_, _]), (4, _, [_, _])]) ⟨rfl, rfl, rfl, trivial⟩ ⟨rfl, rfl, rfl, trivial⟩, _, _, _, _, _, _, _, y, x % y, rfl, hy, hr, r0, by omega, by rw [gcd_round]; exact hg, rfl⟩
end Go.Proofs.Ytklankodjjkhiaa
