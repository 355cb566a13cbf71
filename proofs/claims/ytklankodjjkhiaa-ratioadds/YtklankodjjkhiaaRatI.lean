/-
  The walk of the law RatioMakes: any two numbers as a fraction, as simple as can be. No conditions.
-/
import Derived.Test.YtklankodjjkhiaaRatH
namespace Go.Proofs.Ytklankodjjkhiaa
open Go.RowKit

theorem made_eq {n d : Int} (h : 0 < d) : n / cgcd n d * d = n * (d / cgcd n d) := by
  unfold cgcd
  obtain ⟨a, ha⟩ := Int.gcd_dvd_left n d
  obtain ⟨b, hb⟩ := Int.gcd_dvd_right n d
  have hg : (Int.gcd n d : Int) ≠ 0 := by have := cgcd_pos (n := n) h; unfold cgcd at this; omega
  have e1 : n / Int.gcd n d = a := by
    conv => lhs; lhs; rw [ha]
    exact Int.mul_ediv_cancel_left a hg
  have e2 : d / Int.gcd n d = b := by
    conv => lhs; lhs; rw [hb]
    exact Int.mul_ediv_cancel_left b hg
  rw [e1, e2]
  conv => lhs; rhs; rw [hb]
  conv => rhs; lhs; rw [ha]
  rw [← Int.mul_assoc, Int.mul_comm a]
theorem made_gcd {n d : Int} (h : 0 < d) : Int.gcd (n / cgcd n d) (d / cgcd n d) = 1 := by
  unfold cgcd
  exact Int.gcd_ediv_gcd_ediv_gcd (by have := cgcd_pos (n := n) h; unfold cgcd at this; omega)
theorem made_pos {n d : Int} (h : 0 < d) : 0 < d / cgcd n d := by
  have hg := cgcd_pos (n := n) h
  have := Int.le_of_dvd h (Int.gcd_dvd_right n d)
  have : cgcd n d ≤ d := this
  have h1 := Int.emod_add_mul_ediv d (cgcd n d)
  have h2 := Int.emod_lt_of_pos d hg
  by_cases g : 0 < d / cgcd n d
  · exact g
  · exfalso
    have : cgcd n d * (d / cgcd n d) ≤ 0 := Int.mul_nonpos_of_nonneg_of_nonpos (by omega) (by omega)
    omega
theorem law_makes {n d : Int} {u v : Value} (hu : IsW n u) (hv : IsW d v) (w : World) :
    Calls Try.prog 3 #[u, v] w fun e w' => ∃ r, e = .returned r ∧ r = .bool true ∧ Below w.heap.size w w' := by
  obtain ⟨nh, nl, rfl, hn⟩ := hu
  obtain ⟨dh, dl, rfl, hD⟩ := hv
  refine calls_Wp (args := [_, _]) (n := 41) Try.func3 rfl rfl (by simp) ?_
  repeat refine Wp.seq ?_
  refine (Wp.region [0, 1, 2] (by kernel_rfl) (by kernel_rfl) ?_)
  repeat (first | refine s_load rfl rfl rfl rfl rfl rfl rfl ?_ | (first | refine s_field 0 rfl rfl rfl rfl rfl ?_ | refine s_field 1 rfl rfl rfl rfl rfl ?_ | refine s_field 2 rfl rfl rfl rfl rfl ?_ | refine s_field 3 rfl rfl rfl rfl rfl ?_ | refine s_field 4 rfl rfl rfl rfl rfl ?_ | refine s_field 5 rfl rfl rfl rfl rfl ?_) | refine s_move rfl rfl rfl rfl ?_ | refine s_assign rfl rfl rfl rfl ?_ | refine s_extract rfl rfl rfl rfl rfl ?_ | refine s_box rfl rfl rfl rfl rfl rfl (fun _ _ _ _ => ?_) | refine s_alloc rfl rfl rfl rfl rfl (fun _ _ _ _ => ?_) | refine s_store rfl rfl rfl rfl rfl rfl rfl (fun _ _ _ => ?_) | refine s_cmp rfl rfl rfl rfl rfl rfl ?_ | refine s_not rfl rfl rfl rfl ?_ | refine s_pick rfl rfl rfl rfl rfl ?_ | refine s_skip rfl rfl rfl ?_ | refine s_val rfl rfl rfl rfl (fun _ => rfl) ?_)
  refine vOrd_nil ?_
  by_cases hd : 0 < d
  case neg =>
    repeat refine Wp.seq ?_
    refine (Wp.region [0, 1, 2, 3, 4, 5, 6, 7, 8] (by kernel_rfl) (by kernel_rfl) ?_)
    repeat (first | refine s_load rfl rfl rfl rfl rfl rfl rfl ?_ | (first | refine s_field 0 rfl rfl rfl rfl rfl ?_ | refine s_field 1 rfl rfl rfl rfl rfl ?_ | refine s_field 2 rfl rfl rfl rfl rfl ?_ | refine s_field 3 rfl rfl rfl rfl rfl ?_ | refine s_field 4 rfl rfl rfl rfl rfl ?_ | refine s_field 5 rfl rfl rfl rfl rfl ?_) | refine s_move rfl rfl rfl rfl ?_ | refine s_assign rfl rfl rfl rfl ?_ | refine s_extract rfl rfl rfl rfl rfl ?_ | refine s_box rfl rfl rfl rfl rfl rfl (fun _ _ _ _ => ?_) | refine s_alloc rfl rfl rfl rfl rfl (fun _ _ _ _ => ?_) | refine s_store rfl rfl rfl rfl rfl rfl rfl (fun _ _ _ => ?_) | refine s_cmp rfl rfl rfl rfl rfl rfl ?_ | refine s_not rfl rfl rfl rfl ?_ | refine s_pick rfl rfl rfl rfl rfl ?_ | refine s_skip rfl rfl rfl ?_ | refine s_val rfl rfl rfl rfl (fun _ => rfl) ?_)
    refine s_call rfl rfl rfl (by kernel_rfl) rfl ?_
    refine (make_zero hD (by omega) _).mono ?_
    rintro e w1 ⟨r, rfl, ⟨s, rfl, rfl⟩, b1⟩
    refine ⟨_, rfl, b1, ?_⟩
    repeat (first | refine s_load rfl rfl rfl rfl rfl rfl rfl ?_ | (first | refine s_field 0 rfl rfl rfl rfl rfl ?_ | refine s_field 1 rfl rfl rfl rfl rfl ?_ | refine s_field 2 rfl rfl rfl rfl rfl ?_ | refine s_field 3 rfl rfl rfl rfl rfl ?_ | refine s_field 4 rfl rfl rfl rfl rfl ?_ | refine s_field 5 rfl rfl rfl rfl rfl ?_) | refine s_move rfl rfl rfl rfl ?_ | refine s_assign rfl rfl rfl rfl ?_ | refine s_extract rfl rfl rfl rfl rfl ?_ | refine s_box rfl rfl rfl rfl rfl rfl (fun _ _ _ _ => ?_) | refine s_alloc rfl rfl rfl rfl rfl (fun _ _ _ _ => ?_) | refine s_store rfl rfl rfl rfl rfl rfl rfl (fun _ _ _ => ?_) | refine s_cmp rfl rfl rfl rfl rfl rfl ?_ | refine s_not rfl rfl rfl rfl ?_ | refine s_pick rfl rfl rfl rfl rfl ?_ | refine s_skip rfl rfl rfl ?_ | refine s_val rfl rfl rfl rfl (fun _ => rfl) ?_)
    refine vOrd_nil ?_
    repeat refine Wp.seq ?_
    refine (Wp.region [0, 1, 2, 3, 4] (by kernel_rfl) (by kernel_rfl) ?_)
    repeat (first | refine s_load rfl rfl rfl rfl rfl rfl rfl ?_ | (first | refine s_field 0 rfl rfl rfl rfl rfl ?_ | refine s_field 1 rfl rfl rfl rfl rfl ?_ | refine s_field 2 rfl rfl rfl rfl rfl ?_ | refine s_field 3 rfl rfl rfl rfl rfl ?_ | refine s_field 4 rfl rfl rfl rfl rfl ?_ | refine s_field 5 rfl rfl rfl rfl rfl ?_) | refine s_move rfl rfl rfl rfl ?_ | refine s_assign rfl rfl rfl rfl ?_ | refine s_extract rfl rfl rfl rfl rfl ?_ | refine s_box rfl rfl rfl rfl rfl rfl (fun _ _ _ _ => ?_) | refine s_alloc rfl rfl rfl rfl rfl (fun _ _ _ _ => ?_) | refine s_store rfl rfl rfl rfl rfl rfl rfl (fun _ _ _ => ?_) | refine s_cmp rfl rfl rfl rfl rfl rfl ?_ | refine s_not rfl rfl rfl rfl ?_ | refine s_pick rfl rfl rfl rfl rfl ?_ | refine s_skip rfl rfl rfl ?_ | refine s_val rfl rfl rfl rfl (fun _ => rfl) ?_)
    refine s_call rfl rfl rfl (by kernel_rfl) rfl ?_
    refine (c_rof ⟨_, _, rfl, hD⟩ _).mono ?_
    rintro e w2 ⟨r, rfl, h2, b2⟩
    refine ⟨_, rfl, b2, ?_⟩
    refine s_call rfl rfl rfl (by kernel_rfl) rfl ?_
    refine (c_rint 0 (by decide) (by decide) _).mono ?_
    rintro e w3 ⟨r, rfl, h3, b3⟩
    refine ⟨_, rfl, b3, ?_⟩
    refine s_call rfl rfl rfl (by kernel_rfl) rfl ?_
    refine (c_cmp (h2.later b3) h3 (by decide) (by decide)).mono ?_
    rintro e w4 ⟨r, rfl, rfl, b4⟩
    refine ⟨_, rfl, b4, ?_⟩
    refine s_cmp (c := true) rfl rfl rfl rfl rfl (congrArg some (decide_eq_true ((cmpI_0 d).2 (by omega)))) ?_
    refine vOrd_nil ?_
    refine Wp.condT rfl rfl ?_
    repeat refine Wp.seq ?_
    refine (Wp.region [0, 1, 2, 3, 4, 5, 6, 7, 8, 9, 10] (by kernel_rfl) (by kernel_rfl) ?_)
    refine s_call rfl rfl rfl (by kernel_rfl) rfl ?_
    refine (answers_any _).mono ?_
    rintro e w5 ⟨r, rfl, rfl, b5⟩
    refine ⟨_, rfl, b5, ?_⟩
    refine s_move rfl rfl rfl rfl ?_
    refine s_move rfl rfl rfl rfl ?_
    refine s_cmp (c := true) rfl rfl rfl rfl rfl rfl ?_
    refine s_pick rfl rfl rfl rfl rfl ?_
    refine s_move rfl rfl rfl rfl ?_
    refine s_load rfl rfl rfl rfl rfl rfl rfl ?_
    refine s_val rfl rfl rfl rfl (v := .agg #[.int .i64 0, .int .u64 0, .int .i64 0, .int .u64 0]) (fun _ => by kernel_rfl) ?_
    refine s_eqv (c := true) rfl rfl rfl rfl rfl (fun _ => by kernel_rfl) (fun w => by rw [run_eql_ratio]; simp [eqR]) ?_
    repeat (first | refine s_load rfl rfl rfl rfl rfl rfl rfl ?_ | (first | refine s_field 0 rfl rfl rfl rfl rfl ?_ | refine s_field 1 rfl rfl rfl rfl rfl ?_ | refine s_field 2 rfl rfl rfl rfl rfl ?_ | refine s_field 3 rfl rfl rfl rfl rfl ?_ | refine s_field 4 rfl rfl rfl rfl rfl ?_ | refine s_field 5 rfl rfl rfl rfl rfl ?_) | refine s_move rfl rfl rfl rfl ?_ | refine s_assign rfl rfl rfl rfl ?_ | refine s_extract rfl rfl rfl rfl rfl ?_ | refine s_box rfl rfl rfl rfl rfl rfl (fun _ _ _ _ => ?_) | refine s_alloc rfl rfl rfl rfl rfl (fun _ _ _ _ => ?_) | refine s_store rfl rfl rfl rfl rfl rfl rfl (fun _ _ _ => ?_) | refine s_cmp rfl rfl rfl rfl rfl rfl ?_ | refine s_not rfl rfl rfl rfl ?_ | refine s_pick rfl rfl rfl rfl rfl ?_ | refine s_skip rfl rfl rfl ?_ | refine s_val rfl rfl rfl rfl (fun _ => rfl) ?_)
    refine vOrd_nil ?_
    exact Wp.ret ⟨.inr rfl, fun l => ⟨_, res_tmp (P := Try.prog) rfl rfl, _, rfl, rfl, l⟩⟩
  repeat refine Wp.seq ?_
  refine (Wp.region [0, 1, 2, 3, 4, 5, 6, 7, 8] (by kernel_rfl) (by kernel_rfl) ?_)
  repeat (first | refine s_load rfl rfl rfl rfl rfl rfl rfl ?_ | (first | refine s_field 0 rfl rfl rfl rfl rfl ?_ | refine s_field 1 rfl rfl rfl rfl rfl ?_ | refine s_field 2 rfl rfl rfl rfl rfl ?_ | refine s_field 3 rfl rfl rfl rfl rfl ?_ | refine s_field 4 rfl rfl rfl rfl rfl ?_ | refine s_field 5 rfl rfl rfl rfl rfl ?_) | refine s_move rfl rfl rfl rfl ?_ | refine s_assign rfl rfl rfl rfl ?_ | refine s_extract rfl rfl rfl rfl rfl ?_ | refine s_box rfl rfl rfl rfl rfl rfl (fun _ _ _ _ => ?_) | refine s_alloc rfl rfl rfl rfl rfl (fun _ _ _ _ => ?_) | refine s_store rfl rfl rfl rfl rfl rfl rfl (fun _ _ _ => ?_) | refine s_cmp rfl rfl rfl rfl rfl rfl ?_ | refine s_not rfl rfl rfl rfl ?_ | refine s_pick rfl rfl rfl rfl rfl ?_ | refine s_skip rfl rfl rfl ?_ | refine s_val rfl rfl rfl rfl (fun _ => rfl) ?_)
  refine s_call rfl rfl rfl (by kernel_rfl) rfl ?_
  refine (make_any hn hD hd _).mono ?_
  rintro e w1 ⟨r, rfl, ⟨s, rfl, hs⟩, b1⟩
  refine ⟨_, rfl, b1, ?_⟩
  obtain ⟨ah, al, bh, bl, rfl, -⟩ := id hs
  repeat (first | refine s_load rfl rfl rfl rfl rfl rfl rfl ?_ | (first | refine s_field 0 rfl rfl rfl rfl rfl ?_ | refine s_field 1 rfl rfl rfl rfl rfl ?_ | refine s_field 2 rfl rfl rfl rfl rfl ?_ | refine s_field 3 rfl rfl rfl rfl rfl ?_ | refine s_field 4 rfl rfl rfl rfl rfl ?_ | refine s_field 5 rfl rfl rfl rfl rfl ?_) | refine s_move rfl rfl rfl rfl ?_ | refine s_assign rfl rfl rfl rfl ?_ | refine s_extract rfl rfl rfl rfl rfl ?_ | refine s_box rfl rfl rfl rfl rfl rfl (fun _ _ _ _ => ?_) | refine s_alloc rfl rfl rfl rfl rfl (fun _ _ _ _ => ?_) | refine s_store rfl rfl rfl rfl rfl rfl rfl (fun _ _ _ => ?_) | refine s_cmp rfl rfl rfl rfl rfl rfl ?_ | refine s_not rfl rfl rfl rfl ?_ | refine s_pick rfl rfl rfl rfl rfl ?_ | refine s_skip rfl rfl rfl ?_ | refine s_val rfl rfl rfl rfl (fun _ => rfl) ?_)
  refine vOrd_nil ?_
  repeat refine Wp.seq ?_
  refine (Wp.region [0, 1, 2, 3, 4] (by kernel_rfl) (by kernel_rfl) ?_)
  repeat (first | refine s_load rfl rfl rfl rfl rfl rfl rfl ?_ | (first | refine s_field 0 rfl rfl rfl rfl rfl ?_ | refine s_field 1 rfl rfl rfl rfl rfl ?_ | refine s_field 2 rfl rfl rfl rfl rfl ?_ | refine s_field 3 rfl rfl rfl rfl rfl ?_ | refine s_field 4 rfl rfl rfl rfl rfl ?_ | refine s_field 5 rfl rfl rfl rfl rfl ?_) | refine s_move rfl rfl rfl rfl ?_ | refine s_assign rfl rfl rfl rfl ?_ | refine s_extract rfl rfl rfl rfl rfl ?_ | refine s_box rfl rfl rfl rfl rfl rfl (fun _ _ _ _ => ?_) | refine s_alloc rfl rfl rfl rfl rfl (fun _ _ _ _ => ?_) | refine s_store rfl rfl rfl rfl rfl rfl rfl (fun _ _ _ => ?_) | refine s_cmp rfl rfl rfl rfl rfl rfl ?_ | refine s_not rfl rfl rfl rfl ?_ | refine s_pick rfl rfl rfl rfl rfl ?_ | refine s_skip rfl rfl rfl ?_ | refine s_val rfl rfl rfl rfl (fun _ => rfl) ?_)
  refine s_call rfl rfl rfl (by kernel_rfl) rfl ?_
  refine (c_rof ⟨_, _, rfl, hD⟩ _).mono ?_
  rintro e w2 ⟨r, rfl, h2, b2⟩
  refine ⟨_, rfl, b2, ?_⟩
  refine s_call rfl rfl rfl (by kernel_rfl) rfl ?_
  refine (c_rint 0 (by decide) (by decide) _).mono ?_
  rintro e w3 ⟨r, rfl, h3, b3⟩
  refine ⟨_, rfl, b3, ?_⟩
  refine s_call rfl rfl rfl (by kernel_rfl) rfl ?_
  refine (c_cmp (h2.later b3) h3 (by decide) (by decide)).mono ?_
  rintro e w4 ⟨r, rfl, rfl, b4⟩
  refine ⟨_, rfl, b4, ?_⟩
  refine s_cmp (c := false) rfl rfl rfl rfl rfl (congrArg some (decide_eq_false (fun q => by have := (cmpI_0 d).1 q; omega))) ?_
  refine vOrd_nil ?_
  refine Wp.condF rfl rfl ?_
  refine Wp.skip ?_
  clear h2 h3
  repeat refine Wp.seq ?_
  refine (Wp.drawn (by kernel_rfl) (by kernel_rfl) [0, 1, 2, 3, 4, 5, 6, 7, 9, 8, 10, 11, 12, 13] [0, 0, 0, 0, 0, 0, 1983, 639, 511, 0, 0, 0, 0, 0] (by kernel_rfl) (by kernel_rfl) (fun | 0 => fun v _ => v = .bool true | 8 => IsBig 11 n | 10 => IsBig 11 d | 11 => fun v _ => v = .bool true | _ => fun _ _ => True) (fun _ _ => ?_))
  refine s_callD rfl rfl rfl (by kernel_rfl) rfl (fun wc lc => answers_any wc) ?_
  rintro v v1 v2 rfl l1 l2
  refine s_move rfl rfl rfl rfl ?_
  refine s_move rfl rfl rfl rfl ?_
  refine s_cmp (c := true) rfl rfl rfl rfl rfl rfl ?_
  repeat (first | refine s_load rfl rfl rfl rfl rfl rfl rfl ?_ | (first | refine s_field 0 rfl rfl rfl rfl rfl ?_ | refine s_field 1 rfl rfl rfl rfl rfl ?_ | refine s_field 2 rfl rfl rfl rfl rfl ?_ | refine s_field 3 rfl rfl rfl rfl rfl ?_ | refine s_field 4 rfl rfl rfl rfl rfl ?_ | refine s_field 5 rfl rfl rfl rfl rfl ?_) | refine s_move rfl rfl rfl rfl ?_ | refine s_assign rfl rfl rfl rfl ?_ | refine s_extract rfl rfl rfl rfl rfl ?_ | refine s_box rfl rfl rfl rfl rfl rfl (fun _ _ _ _ => ?_) | refine s_alloc rfl rfl rfl rfl rfl (fun _ _ _ _ => ?_) | refine s_store rfl rfl rfl rfl rfl rfl rfl (fun _ _ _ => ?_) | refine s_cmp rfl rfl rfl rfl rfl rfl ?_ | refine s_not rfl rfl rfl rfl ?_ | refine s_pick rfl rfl rfl rfl rfl ?_ | refine s_skip rfl rfl rfl ?_ | refine s_val rfl rfl rfl rfl (fun _ => rfl) ?_)
  refine s_callD rfl rfl rfl (by kernel_rfl) rfl (fun wc lc => c_rof ⟨_, _, rfl, hn⟩ wc) ?_
  rintro v v3 v4 h1 l3 l4
  refine s_callD rfl rfl rfl (by kernel_rfl) rfl (fun wc lc => c_rof ⟨_, _, rfl, hD⟩ wc) ?_
  rintro v v5 v6 h2 l5 l6
  refine s_callD rfl rfl rfl (by kernel_rfl) rfl (fun wc lc => is_yes hs (made_pos hd) (h1.keeps (by repeat (first | exact Keeps.refl _ | refine Keeps.trans ?_ (Keeps.later (by assumption)) | refine Keeps.trans ?_ (Keeps.stored (by assumption) (by assumption) rfl) | refine Keeps.trans ?_ (Keeps.fresh (by assumption) (by assumption) (by assumption))))) (h2.keeps (by repeat (first | exact Keeps.refl _ | refine Keeps.trans ?_ (Keeps.later (by assumption)) | refine Keeps.trans ?_ (Keeps.stored (by assumption) (by assumption) rfl) | refine Keeps.trans ?_ (Keeps.fresh (by assumption) (by assumption) (by assumption))))) (by decide) (by decide) (made_eq hd) (made_gcd hd)) ?_
  rintro v v7 v8 rfl l7 l8
  repeat (first | refine s_load rfl rfl rfl rfl rfl rfl rfl ?_ | (first | refine s_field 0 rfl rfl rfl rfl rfl ?_ | refine s_field 1 rfl rfl rfl rfl rfl ?_ | refine s_field 2 rfl rfl rfl rfl rfl ?_ | refine s_field 3 rfl rfl rfl rfl rfl ?_ | refine s_field 4 rfl rfl rfl rfl rfl ?_ | refine s_field 5 rfl rfl rfl rfl rfl ?_) | refine s_move rfl rfl rfl rfl ?_ | refine s_assign rfl rfl rfl rfl ?_ | refine s_extract rfl rfl rfl rfl rfl ?_ | refine s_box rfl rfl rfl rfl rfl rfl (fun _ _ _ _ => ?_) | refine s_alloc rfl rfl rfl rfl rfl (fun _ _ _ _ => ?_) | refine s_store rfl rfl rfl rfl rfl rfl rfl (fun _ _ _ => ?_) | refine s_cmp rfl rfl rfl rfl rfl rfl ?_ | refine s_not rfl rfl rfl rfl ?_ | refine s_pick rfl rfl rfl rfl rfl ?_ | refine s_skip rfl rfl rfl ?_ | refine s_val rfl rfl rfl rfl (fun _ => rfl) ?_)
  refine vOrd_nil ?_
  exact Wp.ret ⟨.inr rfl, fun l => ⟨_, res_tmp (P := Try.prog) rfl rfl, _, rfl, rfl, l⟩⟩
end Go.Proofs.Ytklankodjjkhiaa
