/-
  The walks of the laws DayJoins, DaySplits, DayJulian, DayCivil (P7.1, P7.2). Conditions: fields are ints.
-/
import Derived.Test.YthajjaiiganpkaaDayA
namespace Go.Proofs.Ythajjaiiganpkaa
open Go.RowKit
set_option maxRecDepth 100000

theorem want_any (d s a : Int) (w : World) : Calls Try.prog 8 #[.agg #[.int .i64 d, .int .i64 s, .int .i64 a]] w fun e w' => ∃ r, e = .returned r ∧ r = .int .i64 (labE d s a) ∧ Below w.heap.size w w' := by
  refine calls_Wp (args := [_]) (n := 10) Try.func8 rfl rfl (by simp) ?_
  refine Wp.seq ?_
  refine Wp.region [0, 1] (by kernel_rfl) (by kernel_rfl) ?_
  refine s_box rfl rfl rfl rfl rfl rfl (fun bk1 w1 kb1 lw1 => ?_)
  refine s_assign rfl rfl rfl rfl ?_
  refine vOrd_nil ?_
  refine Wp.seq ?_
  refine Wp.seq ?_
  refine Wp.region [0, 1, 2] (by kernel_rfl) (by kernel_rfl) ?_
  refine s_load rfl rfl rfl rfl rfl rfl rfl ?_
  refine s_callT rfl rfl rfl (by kernel_rfl) rfl (rplain_any d s a _) ?_
  rintro v w2 rfl lw2
  rcases Bool.eq_false_or_eq_true (isL s a) with h4 | h4
  · rw [h4]
    refine s_not rfl rfl rfl rfl ?_
    refine vOrd_nil ?_
    refine Wp.condF rfl rfl ?_
    refine Wp.skip ?_
    refine Wp.seq ?_
    refine Wp.seq ?_
    refine Wp.region [0, 1, 2, 3] (by kernel_rfl) (by kernel_rfl) ?_
    refine s_field 0 rfl rfl rfl rfl rfl ?_
    refine s_load rfl rfl rfl rfl rfl rfl rfl ?_
    refine s_callT rfl rfl rfl (by kernel_rfl) rfl (din_any d _) ?_
    rintro v w3 rfl lw3
    rcases Bool.eq_false_or_eq_true (inB d) with h8 | h8
    · rw [h8]
      refine s_not rfl rfl rfl rfl ?_
      refine vOrd_nil ?_
      refine Wp.condF rfl rfl ?_
      refine Wp.skip ?_
      refine Wp.seq ?_
      refine Wp.region [0] (by kernel_rfl) (by kernel_rfl) ?_
      refine s_assign rfl rfl rfl rfl ?_
      refine vOrd_nil ?_
      refine Wp.ret ⟨.inr rfl, fun lW => ⟨_, res_tmp (P := Try.prog) rfl rfl, _, rfl, ?_, lW⟩⟩
      clear lW
      rw [(lab_ok h4 h8).1]
    · rw [h8]
      refine s_not rfl rfl rfl rfl ?_
      refine vOrd_nil ?_
      refine Wp.condT rfl rfl ?_
      refine Wp.seq ?_
      refine Wp.region [0] (by kernel_rfl) (by kernel_rfl) ?_
      refine s_assign rfl rfl rfl rfl ?_
      refine vOrd_nil ?_
      refine Wp.ret ⟨.inr rfl, fun lW => ⟨_, res_tmp (P := Try.prog) rfl rfl, _, rfl, ?_, lW⟩⟩
      clear lW
      rw [(lab_far h4 h8).1]
  · rw [h4]
    refine s_not rfl rfl rfl rfl ?_
    refine vOrd_nil ?_
    refine Wp.condT rfl rfl ?_
    refine Wp.seq ?_
    refine Wp.region [0] (by kernel_rfl) (by kernel_rfl) ?_
    refine s_assign rfl rfl rfl rfl ?_
    refine vOrd_nil ?_
    refine Wp.ret ⟨.inr rfl, fun lW => ⟨_, res_tmp (P := Try.prog) rfl rfl, _, rfl, ?_, lW⟩⟩
    clear lW
    rw [(lab_bad h4).1]
theorem yanswers_any (w : World) : Calls Try.prog 9 #[] w fun e w' => ∃ r, e = .returned r ∧ r = .bool true ∧ Below w.heap.size w w' := by
  have b1 : inB (dayZ (-1)) = true := by decide
  obtain ⟨p1, p2, p3⟩ := spl_yes b1
  have p4 : splE (-1) = 0 := splE_yes b1
  have q1 : dayZ (-1) = -1 := by decide
  have q2 : secZ (-1) = 86399 := by decide
  have q3 : attZ (-1) = 999999999999999999 := by decide
  rw [q1] at p1
  rw [q2] at p2
  rw [q3] at p3
  obtain ⟨l1, l2⟩ := lab_ok (d := 0) (s := 2) (a := 3) (by decide) (by decide)
  have l3 : cnt 0 2 3 = 2000000000000000003 := by decide
  rw [l3] at l2
  obtain ⟨m1, -⟩ := lab_ok (d := 51544) (s := 43200) (a := 0) (by decide) (by decide)
  refine calls_Wp (args := []) (n := 47) Try.func9 rfl rfl (by simp) ?_
  refine Wp.seq ?_
  refine Wp.region [0] (by kernel_rfl) (by kernel_rfl) ?_
  refine s_assign rfl rfl rfl rfl ?_
  refine vOrd_nil ?_
  refine Wp.seq ?_
  refine Wp.region [0, 1, 2, 3, 4, 5, 6, 7] (by kernel_rfl) (by kernel_rfl) ?_
  refine s_build rfl rfl rfl rfl rfl (by kernel_rfl) ?_
  refine s_callT rfl rfl rfl (by kernel_rfl) rfl (dsplit_any (z := -1) ⟨_, _, rfl, (by unfold WideIs; omega)⟩ _) ?_
  rintro v w1 rfl lw1
  rw [p1, p2, p3, p4]
  refine s_move rfl rfl rfl rfl ?_
  refine s_extract rfl rfl rfl rfl rfl ?_
  refine s_extract rfl rfl rfl rfl rfl ?_
  refine s_alloc rfl rfl rfl rfl rfl (fun bk2 w2 kb2 lw2 => ?_)
  refine s_store rfl rfl rfl rfl rfl rfl rfl (fun w3 sw3 vw3 => ?_)
  refine s_assign rfl rfl rfl rfl ?_
  refine vOrd_nil ?_
  refine Wp.seq ?_
  refine Wp.region [0, 1, 2, 3, 4, 5, 6, 7] (by kernel_rfl) (by kernel_rfl) ?_
  refine s_build rfl rfl rfl rfl rfl (by kernel_rfl) ?_
  refine s_callT rfl rfl rfl (by kernel_rfl) rfl (djoin_any (d := 0) (s := 2) (a := 3) (by unfold I64; omega) (by unfold I64; omega) (by unfold I64; omega) _) ?_
  rintro v w4 ⟨u, rfl, uh, ul, rfl, hu⟩ lw4
  rw [l1]
  rw [l2] at hu
  refine s_move rfl rfl rfl rfl ?_
  refine s_extract rfl rfl rfl rfl rfl ?_
  refine s_extract rfl rfl rfl rfl rfl ?_
  refine s_alloc rfl rfl rfl rfl rfl (fun bk5 w5 kb5 lw5 => ?_)
  refine s_store rfl rfl rfl rfl rfl rfl rfl (fun w6 sw6 vw6 => ?_)
  refine s_assign rfl rfl rfl rfl ?_
  refine vOrd_nil ?_
  refine Wp.seq ?_
  refine Wp.region [0, 1, 2, 3, 4, 5, 6, 7] (by kernel_rfl) (by kernel_rfl) ?_
  refine s_build rfl rfl rfl rfl rfl (by kernel_rfl) ?_
  refine s_callT rfl rfl rfl (by kernel_rfl) rfl (djulian_any (d := 51544) (s := 43200) (a := 0) (by unfold I64; omega) (by unfold I64; omega) (by unfold I64; omega) _) ?_
  rintro v w7 ⟨x, y, z, rfl, -, hj⟩ lw7
  rw [m1]
  obtain ⟨rfl, rfl, rfl⟩ := hj m1
  refine s_move rfl rfl rfl rfl ?_
  refine s_extract rfl rfl rfl rfl rfl ?_
  refine s_extract rfl rfl rfl rfl rfl ?_
  refine s_alloc rfl rfl rfl rfl rfl (fun bk8 w8 kb8 lw8 => ?_)
  refine s_store rfl rfl rfl rfl rfl rfl rfl (fun w9 sw9 vw9 => ?_)
  refine s_assign rfl rfl rfl rfl ?_
  refine vOrd_nil ?_
  refine Wp.seq ?_
  refine Wp.region [0, 1, 2, 3, 4, 5, 6, 7, 8, 9, 10, 11, 12, 13, 14, 15, 16, 17, 18, 19, 20, 21, 22, 23, 24, 25] (by kernel_rfl) (by kernel_rfl) ?_
  refine s_move rfl rfl rfl rfl ?_
  refine t_eql rfl rfl rfl rfl rfl (by omega) ?_
  refine s_move rfl rfl rfl rfl ?_
  refine s_load rfl rfl rfl rfl rfl rfl rfl ?_
  refine s_build rfl rfl rfl rfl rfl (by kernel_rfl) ?_
  refine s_eqv (c := true) rfl rfl rfl rfl rfl (fun _ => by kernel_rfl) (fun w => by rw [run_eql_label, eqD_same]) ?_
  refine s_pick rfl rfl rfl rfl rfl ?_
  refine s_move rfl rfl rfl rfl ?_
  refine s_move rfl rfl rfl rfl ?_
  refine t_eql rfl rfl rfl rfl rfl (by omega) ?_
  refine s_pick rfl rfl rfl rfl rfl ?_
  refine s_move rfl rfl rfl rfl ?_
  refine s_load rfl rfl rfl rfl rfl rfl rfl ?_
  refine s_build rfl rfl rfl rfl rfl (by kernel_rfl) ?_
  refine s_eqv (c := true) rfl rfl rfl rfl rfl (fun _ => by kernel_rfl) (fun w => by rw [run_eql_wide, eqW_same hu (show WideIs 0 2000000000000000003 2000000000000000003 by unfold WideIs; omega)]) ?_
  refine s_pick rfl rfl rfl rfl rfl ?_
  refine s_move rfl rfl rfl rfl ?_
  refine s_move rfl rfl rfl rfl ?_
  refine t_eql rfl rfl rfl rfl rfl (by omega) ?_
  refine s_pick rfl rfl rfl rfl rfl ?_
  refine s_move rfl rfl rfl rfl ?_
  refine s_load rfl rfl rfl rfl rfl rfl rfl ?_
  refine s_build rfl rfl rfl rfl rfl (by kernel_rfl) ?_
  refine s_eqv (c := true) rfl rfl rfl rfl rfl (fun _ => by kernel_rfl) (fun w => by rw [run_eql_label, eqD_eq (by decide) (by decide) rfl]) ?_
  refine s_pick rfl rfl rfl rfl rfl ?_
  refine s_assign rfl rfl rfl rfl ?_
  refine vOrd_nil ?_
  refine Wp.ret ⟨.inr rfl, fun lW => ⟨_, res_tmp (P := Try.prog) rfl rfl, _, rfl, ?_, lW⟩⟩
  clear lW
  rfl
theorem cnt_fits {d s a : Int} (h : isL s a = true) (k : inB d = true) : I64 d ∧ I64 s ∧ I64 a := by
  rw [isL_iff] at h; rw [inB_iff] at k; unfold I64; omega
theorem law_joins {d s a : Int} (hd : I64 d) (hs : I64 s) (ha : I64 a) (w : World) : Calls Try.prog 3 #[.agg #[.int .i64 d, .int .i64 s, .int .i64 a]] w fun e w' => ∃ r, e = .returned r ∧ r = .bool true ∧ Below w.heap.size w w' := by
  by_cases hE : labE d s a = 0
  · have hL : isL s a = true := by
      cases h : isL s a with
      | true => rfl
      | false => rw [(lab_bad h).1] at hE; exact absurd hE (by decide)
    have hB : inB d = true := by
      cases h : inB d with
      | true => rfl
      | false => rw [(lab_far hL h).1] at hE; exact absurd hE (by decide)
    have hV := (lab_ok hL hB).2
    obtain ⟨z1, z2, z3⟩ := splitZ (d := d) hL
    have hB' : inB (dayZ (cnt d s a)) = true := by rw [z1]; exact hB
    obtain ⟨p1, p2, p3⟩ := spl_yes hB'
    rw [z1] at p1
    rw [z2] at p2
    rw [z3] at p3
    have p4 := splE_yes hB'
    obtain ⟨N, hN⟩ : ∃ N, cnt d s a = N := ⟨_, rfl⟩
    rw [hN] at p1 p2 p3 p4 hV
    have hj : ∀ w, Calls Try.prog 13 #[.agg #[.int .i64 d, .int .i64 s, .int .i64 a]] w fun e w' => ∃ r, e = .returned r ∧ IsBig 17 N r w' ∧ Below w.heap.size w w' := fun w => hN ▸ rjoin_any hd hs ha w
    refine calls_Wp (args := [_]) (n := 46) Try.func3 rfl rfl (by simp) ?_
    refine Wp.seq ?_
    refine Wp.region [0, 1] (by kernel_rfl) (by kernel_rfl) ?_
    refine s_box rfl rfl rfl rfl rfl rfl (fun bk1 w1 kb1 lw1 => ?_)
    refine s_assign rfl rfl rfl rfl ?_
    refine vOrd_nil ?_
    refine Wp.seq ?_
    refine Wp.region [0, 1, 2, 3, 4, 5, 6, 7] (by kernel_rfl) (by kernel_rfl) ?_
    refine s_load rfl rfl rfl rfl rfl rfl rfl ?_
    refine s_callT rfl rfl rfl (by kernel_rfl) rfl (djoin_any hd hs ha _) ?_
    rintro v w2 ⟨u, rfl, uh, ul, rfl, hu⟩ lw2
    rw [hE]
    rw [hV] at hu
    refine s_move rfl rfl rfl rfl ?_
    refine s_extract rfl rfl rfl rfl rfl ?_
    refine s_extract rfl rfl rfl rfl rfl ?_
    refine s_alloc rfl rfl rfl rfl rfl (fun bk3 w3 kb3 lw3 => ?_)
    refine s_store rfl rfl rfl rfl rfl rfl rfl (fun w4 sw4 vw4 => ?_)
    refine s_assign rfl rfl rfl rfl ?_
    refine vOrd_nil ?_
    refine Wp.seq ?_
    refine Wp.seq ?_
    refine Wp.region [0, 1, 2, 3] (by kernel_rfl) (by kernel_rfl) ?_
    refine s_move rfl rfl rfl rfl ?_
    refine s_load rfl rfl rfl rfl rfl rfl rfl ?_
    refine s_callT rfl rfl rfl (by kernel_rfl) rfl (want_any d s a _) ?_
    rintro v w5 rfl lw5
    rw [hE]
    refine f_neq rfl rfl rfl rfl rfl (by omega) ?_
    refine vOrd_nil ?_
    refine Wp.condF rfl rfl ?_
    refine Wp.skip ?_
    refine Wp.seq ?_
    refine Wp.seq ?_
    refine Wp.region [0, 1] (by kernel_rfl) (by kernel_rfl) ?_
    refine s_move rfl rfl rfl rfl ?_
    refine f_neq rfl rfl rfl rfl rfl (by omega) ?_
    refine vOrd_nil ?_
    refine Wp.condF rfl rfl ?_
    refine Wp.skip ?_
    refine Wp.seq ?_
    refine Wp.region [0, 1, 2, 3, 4, 5, 6, 7] (by kernel_rfl) (by kernel_rfl) ?_
    refine s_load rfl rfl rfl rfl rfl rfl rfl ?_
    refine s_callT rfl rfl rfl (by kernel_rfl) rfl (dsplit_any ⟨_, _, rfl, hu⟩ _) ?_
    rintro v w6 rfl lw6
    rw [p1, p2, p3, p4]
    refine s_move rfl rfl rfl rfl ?_
    refine s_extract rfl rfl rfl rfl rfl ?_
    refine s_extract rfl rfl rfl rfl rfl ?_
    refine s_alloc rfl rfl rfl rfl rfl (fun bk7 w7 kb7 lw7 => ?_)
    refine s_store rfl rfl rfl rfl rfl rfl rfl (fun w8 sw8 vw8 => ?_)
    refine s_assign rfl rfl rfl rfl ?_
    refine vOrd_nil ?_
    refine Wp.seq ?_
    refine (Wp.drawn (by kernel_rfl) (by kernel_rfl) [0, 1, 2, 4, 3, 5, 6, 7, 8, 9, 10, 11, 12, 13, 14, 15, 16, 17] [0, 0, 19, 15, 0, 0, 0, 0, 0, 0, 0, 0, 0, 24575, 0, 0, 0, 0] (by kernel_rfl) (by kernel_rfl) (fun | 0 => fun v _ => v = .bool true | 3 => IsBig 11 N | 5 => IsBig 17 N | 6 => fun v _ => v = .bool true | _ => fun _ _ => True) (fun _ _ => ?_))
    refine s_callD rfl rfl rfl (by kernel_rfl) rfl (fun wc lc => yanswers_any wc) ?_
    rintro v w9 u9 rfl lw9 mw9
    refine s_move rfl rfl rfl rfl ?_
    refine s_load rfl rfl rfl rfl rfl rfl rfl ?_
    refine s_load rfl rfl rfl rfl rfl rfl rfl ?_
    refine s_callD rfl rfl rfl (by kernel_rfl) rfl (fun wc lc => c_rof ⟨_, _, rfl, hu⟩ wc) ?_
    rintro v w10 u10 hr lw10 mw10
    refine s_callD rfl rfl rfl (by kernel_rfl) rfl (fun wc lc => hj wc) ?_
    rintro v w11 u11 hg lw11 mw11
    refine s_callD rfl rfl rfl (by kernel_rfl) rfl (fun wc lc => c_same_yes (hr.keeps (by repeat (first | exact Keeps.refl _ | refine Keeps.trans ?_ (Keeps.later (by assumption)) | refine Keeps.trans ?_ (Keeps.stored (by assumption) (by assumption) rfl) | refine Keeps.trans ?_ (Keeps.fresh (by assumption) (by assumption) (by assumption))))) (hg.keeps (by repeat (first | exact Keeps.refl _ | refine Keeps.trans ?_ (Keeps.later (by assumption)) | refine Keeps.trans ?_ (Keeps.stored (by assumption) (by assumption) rfl) | refine Keeps.trans ?_ (Keeps.fresh (by assumption) (by assumption) (by assumption))))) (by decide) (by decide)) ?_
    rintro v w12 u12 rfl lw12 mw12
    refine s_pick rfl rfl rfl rfl rfl ?_
    refine s_move rfl rfl rfl rfl ?_
    refine s_move rfl rfl rfl rfl ?_
    refine t_eql rfl rfl rfl rfl rfl (by omega) ?_
    refine s_pick rfl rfl rfl rfl rfl ?_
    refine s_move rfl rfl rfl rfl ?_
    refine s_load rfl rfl rfl rfl rfl rfl rfl ?_
    refine s_load rfl rfl rfl rfl rfl rfl rfl ?_
    refine s_eqv (c := true) rfl rfl rfl rfl rfl (fun _ => by kernel_rfl) (fun w => by rw [run_eql_label, eqD_same]) ?_
    refine s_pick rfl rfl rfl rfl rfl ?_
    refine s_assign rfl rfl rfl rfl ?_
    refine vOrd_nil ?_
    refine Wp.ret ⟨.inr rfl, fun lW => ⟨_, res_tmp (P := Try.prog) rfl rfl, _, rfl, ?_, lW⟩⟩
    clear lW
    rfl
  · have hV : labV d s a = 0 := by
      cases h : isL s a with
      | false => exact (lab_bad h).2
      | true =>
        cases k : inB d with
        | false => exact (lab_far h k).2
        | true => exact absurd (lab_ok h k).1 hE
    obtain ⟨E, hQ⟩ : ∃ E, labE d s a = E := ⟨_, rfl⟩
    rw [hQ] at hE
    refine calls_Wp (args := [_]) (n := 46) Try.func3 rfl rfl (by simp) ?_
    refine Wp.seq ?_
    refine Wp.region [0, 1] (by kernel_rfl) (by kernel_rfl) ?_
    refine s_box rfl rfl rfl rfl rfl rfl (fun bk1 w1 kb1 lw1 => ?_)
    refine s_assign rfl rfl rfl rfl ?_
    refine vOrd_nil ?_
    refine Wp.seq ?_
    refine Wp.region [0, 1, 2, 3, 4, 5, 6, 7] (by kernel_rfl) (by kernel_rfl) ?_
    refine s_load rfl rfl rfl rfl rfl rfl rfl ?_
    refine s_callT rfl rfl rfl (by kernel_rfl) rfl (djoin_any hd hs ha _) ?_
    rintro v w2 ⟨u, rfl, uh, ul, rfl, hu⟩ lw2
    rw [hQ]
    rw [hV] at hu
    refine s_move rfl rfl rfl rfl ?_
    refine s_extract rfl rfl rfl rfl rfl ?_
    refine s_extract rfl rfl rfl rfl rfl ?_
    refine s_alloc rfl rfl rfl rfl rfl (fun bk3 w3 kb3 lw3 => ?_)
    refine s_store rfl rfl rfl rfl rfl rfl rfl (fun w4 sw4 vw4 => ?_)
    refine s_assign rfl rfl rfl rfl ?_
    refine vOrd_nil ?_
    refine Wp.seq ?_
    refine Wp.seq ?_
    refine Wp.region [0, 1, 2, 3] (by kernel_rfl) (by kernel_rfl) ?_
    refine s_move rfl rfl rfl rfl ?_
    refine s_load rfl rfl rfl rfl rfl rfl rfl ?_
    refine s_callT rfl rfl rfl (by kernel_rfl) rfl (want_any d s a _) ?_
    rintro v w5 rfl lw5
    rw [hQ]
    refine f_neq rfl rfl rfl rfl rfl (by omega) ?_
    refine vOrd_nil ?_
    refine Wp.condF rfl rfl ?_
    refine Wp.skip ?_
    refine Wp.seq ?_
    refine Wp.seq ?_
    refine Wp.region [0, 1] (by kernel_rfl) (by kernel_rfl) ?_
    refine s_move rfl rfl rfl rfl ?_
    refine t_neq rfl rfl rfl rfl rfl (by omega) ?_
    refine vOrd_nil ?_
    refine Wp.condT rfl rfl ?_
    refine Wp.seq ?_
    refine Wp.region [0, 1, 2, 3, 4, 5, 6] (by kernel_rfl) (by kernel_rfl) ?_
    refine s_callT rfl rfl rfl (by kernel_rfl) rfl (yanswers_any _) ?_
    rintro v w6 rfl lw6
    refine s_move rfl rfl rfl rfl ?_
    refine s_load rfl rfl rfl rfl rfl rfl rfl ?_
    refine s_build rfl rfl rfl rfl rfl (by kernel_rfl) ?_
    refine s_eqv (c := true) rfl rfl rfl rfl rfl (fun _ => by kernel_rfl) (fun w => by rw [run_eql_wide, eqW_same hu wide_0]) ?_
    refine s_pick rfl rfl rfl rfl rfl ?_
    refine s_assign rfl rfl rfl rfl ?_
    refine vOrd_nil ?_
    refine Wp.ret ⟨.inr rfl, fun lW => ⟨_, res_tmp (P := Try.prog) rfl rfl, _, rfl, ?_, lW⟩⟩
    clear lW
    rfl
theorem law_splits {z : Int} {u : Value} (hu : IsW z u) (w : World) : Calls Try.prog 4 #[u] w fun e w' => ∃ r, e = .returned r ∧ r = .bool true ∧ Below w.heap.size w w' := by
  obtain ⟨zh, zl, rfl, hz⟩ := hu
  cases hB : inB (dayZ z) with
  | false =>
    obtain ⟨p1, p2, p3⟩ := spl_no hB
    have p4 := splE_no hB
    refine calls_Wp (args := [_]) (n := 56) Try.func4 rfl rfl (by simp) ?_
    refine Wp.seq ?_
    refine Wp.region [0, 1] (by kernel_rfl) (by kernel_rfl) ?_
    refine s_box rfl rfl rfl rfl rfl rfl (fun bk1 w1 kb1 lw1 => ?_)
    refine s_assign rfl rfl rfl rfl ?_
    refine vOrd_nil ?_
    refine Wp.seq ?_
    refine Wp.region [0, 1, 2, 3, 4, 5, 6, 7] (by kernel_rfl) (by kernel_rfl) ?_
    refine s_load rfl rfl rfl rfl rfl rfl rfl ?_
    refine s_callT rfl rfl rfl (by kernel_rfl) rfl (dsplit_any ⟨_, _, rfl, hz⟩ _) ?_
    rintro v w2 rfl lw2
    rw [p1, p2, p3, p4]
    refine s_move rfl rfl rfl rfl ?_
    refine s_extract rfl rfl rfl rfl rfl ?_
    refine s_extract rfl rfl rfl rfl rfl ?_
    refine s_alloc rfl rfl rfl rfl rfl (fun bk3 w3 kb3 lw3 => ?_)
    refine s_store rfl rfl rfl rfl rfl rfl rfl (fun w4 sw4 vw4 => ?_)
    refine s_assign rfl rfl rfl rfl ?_
    refine vOrd_nil ?_
    refine Wp.seq ?_
    refine Wp.region [0, 1, 2, 3, 4, 5, 6, 7, 8] (by kernel_rfl) (by kernel_rfl) ?_
    refine s_load rfl rfl rfl rfl rfl rfl rfl ?_
    refine s_callT rfl rfl rfl (by kernel_rfl) rfl (c_rof ⟨_, _, rfl, hz⟩ _) ?_
    rintro v w5 hr lw5
    refine s_callT rfl rfl rfl (by kernel_rfl) rfl (rsplit_any (hr.keeps (by repeat (first | exact Keeps.refl _ | refine Keeps.trans ?_ (Keeps.later (by assumption)) | refine Keeps.trans ?_ (Keeps.stored (by assumption) (by assumption) rfl) | refine Keeps.trans ?_ (Keeps.fresh (by assumption) (by assumption) (by assumption))))) (by decide)) ?_
    rintro v w6 rfl lw6
    rw [p1, p2, p3, hB]
    refine s_move rfl rfl rfl rfl ?_
    refine s_extract rfl rfl rfl rfl rfl ?_
    refine s_extract rfl rfl rfl rfl rfl ?_
    refine s_alloc rfl rfl rfl rfl rfl (fun bk7 w7 kb7 lw7 => ?_)
    refine s_store rfl rfl rfl rfl rfl rfl rfl (fun w8 sw8 vw8 => ?_)
    refine s_assign rfl rfl rfl rfl ?_
    refine vOrd_nil ?_
    refine Wp.seq ?_
    refine Wp.seq ?_
    refine Wp.region [0, 1] (by kernel_rfl) (by kernel_rfl) ?_
    refine s_move rfl rfl rfl rfl ?_
    refine s_not rfl rfl rfl rfl ?_
    refine vOrd_nil ?_
    refine Wp.condT rfl rfl ?_
    refine Wp.seq ?_
    refine Wp.region [0, 1, 2, 3, 4, 5, 6, 7, 8, 9, 10] (by kernel_rfl) (by kernel_rfl) ?_
    refine s_callT rfl rfl rfl (by kernel_rfl) rfl (yanswers_any _) ?_
    rintro v w9 rfl lw9
    refine s_move rfl rfl rfl rfl ?_
    refine s_move rfl rfl rfl rfl ?_
    refine t_eql rfl rfl rfl rfl rfl (by omega) ?_
    refine s_pick rfl rfl rfl rfl rfl ?_
    refine s_move rfl rfl rfl rfl ?_
    refine s_load rfl rfl rfl rfl rfl rfl rfl ?_
    refine s_build rfl rfl rfl rfl rfl (by kernel_rfl) ?_
    refine s_eqv (c := true) rfl rfl rfl rfl rfl (fun _ => by kernel_rfl) (fun w => by rw [run_eql_label, eqD_same]) ?_
    refine s_pick rfl rfl rfl rfl rfl ?_
    refine s_assign rfl rfl rfl rfl ?_
    refine vOrd_nil ?_
    refine Wp.ret ⟨.inr rfl, fun lW => ⟨_, res_tmp (P := Try.prog) rfl rfl, _, rfl, ?_, lW⟩⟩
    clear lW
    rfl
  | true =>
    obtain ⟨p1, p2, p3⟩ := spl_yes hB
    have p4 := splE_yes hB
    obtain ⟨j1, j2⟩ := joinZ z
    obtain ⟨i1, i2, i3⟩ := cnt_fits j1 hB
    obtain ⟨k1, k2⟩ := lab_ok j1 hB
    rw [j2] at k2
    obtain ⟨D, hD⟩ : ∃ D, dayZ z = D := ⟨_, rfl⟩
    obtain ⟨Q, hQ⟩ : ∃ Q, secZ z = Q := ⟨_, rfl⟩
    obtain ⟨A, hA⟩ : ∃ A, attZ z = A := ⟨_, rfl⟩
    rw [hD] at p1
    rw [hQ] at p2
    rw [hA] at p3
    rw [hD] at i1
    rw [hQ] at i2
    rw [hA] at i3
    rw [hD, hQ, hA] at k1 k2
    refine calls_Wp (args := [_]) (n := 56) Try.func4 rfl rfl (by simp) ?_
    refine Wp.seq ?_
    refine Wp.region [0, 1] (by kernel_rfl) (by kernel_rfl) ?_
    refine s_box rfl rfl rfl rfl rfl rfl (fun bk1 w1 kb1 lw1 => ?_)
    refine s_assign rfl rfl rfl rfl ?_
    refine vOrd_nil ?_
    refine Wp.seq ?_
    refine Wp.region [0, 1, 2, 3, 4, 5, 6, 7] (by kernel_rfl) (by kernel_rfl) ?_
    refine s_load rfl rfl rfl rfl rfl rfl rfl ?_
    refine s_callT rfl rfl rfl (by kernel_rfl) rfl (dsplit_any ⟨_, _, rfl, hz⟩ _) ?_
    rintro v w2 rfl lw2
    rw [p1, p2, p3, p4]
    refine s_move rfl rfl rfl rfl ?_
    refine s_extract rfl rfl rfl rfl rfl ?_
    refine s_extract rfl rfl rfl rfl rfl ?_
    refine s_alloc rfl rfl rfl rfl rfl (fun bk3 w3 kb3 lw3 => ?_)
    refine s_store rfl rfl rfl rfl rfl rfl rfl (fun w4 sw4 vw4 => ?_)
    refine s_assign rfl rfl rfl rfl ?_
    refine vOrd_nil ?_
    refine Wp.seq ?_
    refine Wp.region [0, 1, 2, 3, 4, 5, 6, 7, 8] (by kernel_rfl) (by kernel_rfl) ?_
    refine s_load rfl rfl rfl rfl rfl rfl rfl ?_
    refine s_callT rfl rfl rfl (by kernel_rfl) rfl (c_rof ⟨_, _, rfl, hz⟩ _) ?_
    rintro v w5 hr lw5
    refine s_callT rfl rfl rfl (by kernel_rfl) rfl (rsplit_any (hr.keeps (by repeat (first | exact Keeps.refl _ | refine Keeps.trans ?_ (Keeps.later (by assumption)) | refine Keeps.trans ?_ (Keeps.stored (by assumption) (by assumption) rfl) | refine Keeps.trans ?_ (Keeps.fresh (by assumption) (by assumption) (by assumption))))) (by decide)) ?_
    rintro v w6 rfl lw6
    rw [p1, p2, p3, hB]
    refine s_move rfl rfl rfl rfl ?_
    refine s_extract rfl rfl rfl rfl rfl ?_
    refine s_extract rfl rfl rfl rfl rfl ?_
    refine s_alloc rfl rfl rfl rfl rfl (fun bk7 w7 kb7 lw7 => ?_)
    refine s_store rfl rfl rfl rfl rfl rfl rfl (fun w8 sw8 vw8 => ?_)
    refine s_assign rfl rfl rfl rfl ?_
    refine vOrd_nil ?_
    refine Wp.seq ?_
    refine Wp.seq ?_
    refine Wp.region [0, 1] (by kernel_rfl) (by kernel_rfl) ?_
    refine s_move rfl rfl rfl rfl ?_
    refine s_not rfl rfl rfl rfl ?_
    refine vOrd_nil ?_
    refine Wp.condF rfl rfl ?_
    refine Wp.skip ?_
    refine Wp.seq ?_
    refine Wp.region [0, 1, 2, 3, 4, 5, 6, 7] (by kernel_rfl) (by kernel_rfl) ?_
    refine s_load rfl rfl rfl rfl rfl rfl rfl ?_
    refine s_callT rfl rfl rfl (by kernel_rfl) rfl (djoin_any i1 i2 i3 _) ?_
    rintro v w9 ⟨u, rfl, uh, ul, rfl, hu⟩ lw9
    rw [k1]
    rw [k2] at hu
    refine s_move rfl rfl rfl rfl ?_
    refine s_extract rfl rfl rfl rfl rfl ?_
    refine s_extract rfl rfl rfl rfl rfl ?_
    refine s_alloc rfl rfl rfl rfl rfl (fun bk10 w10 kb10 lw10 => ?_)
    refine s_store rfl rfl rfl rfl rfl rfl rfl (fun w11 sw11 vw11 => ?_)
    refine s_assign rfl rfl rfl rfl ?_
    refine vOrd_nil ?_
    refine Wp.seq ?_
    refine Wp.region [0, 1, 2, 3, 4, 5, 6, 7, 8, 9, 10, 11, 12, 13, 14, 15, 16, 17, 18, 19] (by kernel_rfl) (by kernel_rfl) ?_
    refine s_callT rfl rfl rfl (by kernel_rfl) rfl (yanswers_any _) ?_
    rintro v w12 rfl lw12
    refine s_move rfl rfl rfl rfl ?_
    refine s_move rfl rfl rfl rfl ?_
    refine t_eql rfl rfl rfl rfl rfl (by omega) ?_
    refine s_pick rfl rfl rfl rfl rfl ?_
    refine s_move rfl rfl rfl rfl ?_
    refine s_load rfl rfl rfl rfl rfl rfl rfl ?_
    refine s_load rfl rfl rfl rfl rfl rfl rfl ?_
    refine s_eqv (c := true) rfl rfl rfl rfl rfl (fun _ => by kernel_rfl) (fun w => by rw [run_eql_label, eqD_same]) ?_
    refine s_pick rfl rfl rfl rfl rfl ?_
    refine s_move rfl rfl rfl rfl ?_
    refine s_move rfl rfl rfl rfl ?_
    refine t_eql rfl rfl rfl rfl rfl (by omega) ?_
    refine s_pick rfl rfl rfl rfl rfl ?_
    refine s_move rfl rfl rfl rfl ?_
    refine s_load rfl rfl rfl rfl rfl rfl rfl ?_
    refine s_load rfl rfl rfl rfl rfl rfl rfl ?_
    refine s_eqv (c := true) rfl rfl rfl rfl rfl (fun _ => by kernel_rfl) (fun w => by rw [run_eql_wide, eqW_same hu hz]) ?_
    refine s_pick rfl rfl rfl rfl rfl ?_
    refine s_assign rfl rfl rfl rfl ?_
    refine vOrd_nil ?_
    refine Wp.ret ⟨.inr rfl, fun lW => ⟨_, res_tmp (P := Try.prog) rfl rfl, _, rfl, ?_, lW⟩⟩
    clear lW
    rfl
theorem law_julian {d s a : Int} (hd : I64 d) (hs : I64 s) (ha : I64 a) (w : World) : Calls Try.prog 5 #[.agg #[.int .i64 d, .int .i64 s, .int .i64 a]] w fun e w' => ∃ r, e = .returned r ∧ r = .bool true ∧ Below w.heap.size w w' := by
  by_cases hE : labE d s a = 0
  · have hL : isL s a = true := by
      cases h : isL s a with
      | true => rfl
      | false => rw [(lab_bad h).1] at hE; exact absurd hE (by decide)
    have hB : inB d = true := by
      cases h : inB d with
      | true => rfl
      | false => rw [(lab_far hL h).1] at hE; exact absurd hE (by decide)
    have hL' := isL_iff.1 hL
    have hB' := inB_iff.1 hB
    have hJ : isL (jS s) a = true := by rw [isL_iff]; unfold jS; omega
    have hC : cD (jD d s) (jS s) = d ∧ cS (jS s) = s := by unfold cD cS jD jS; omega
    have hI : I64 (jD d s) ∧ I64 (jS s) := by unfold I64 jD jS; omega
    have hS : cnt (jD d s) (jS s) a - cnt d s a = 207360043200000000000000000000 := by unfold cnt jD jS; omega
    have hT : cnt 2400000 43200 0 = 207360043200000000000000000000 := by decide
    have hg : ∀ w, Calls Try.prog 13 #[.agg #[.int .i64 2400000, .int .i64 43200, .int .i64 0]] w fun e w' => ∃ r, e = .returned r ∧ IsBig 17 207360043200000000000000000000 r w' ∧ Below w.heap.size w w' := fun w => hT ▸ rjoin_any (by unfold I64; omega) (by unfold I64; omega) (by unfold I64; omega) w
    obtain ⟨X, hX⟩ : ∃ X, jD d s = X := ⟨_, rfl⟩
    obtain ⟨Y, hY⟩ : ∃ Y, jS s = Y := ⟨_, rfl⟩
    rw [hX, hY] at hC hI hS
    rw [hY] at hJ
    have hCB : inB (cD X Y) = true := by rw [hC.1]; exact hB
    obtain ⟨M, hM⟩ : ∃ M, cnt X Y a = M := ⟨_, rfl⟩
    obtain ⟨N, hN⟩ : ∃ N, cnt d s a = N := ⟨_, rfl⟩
    rw [hM, hN] at hS
    have hj : ∀ w, Calls Try.prog 13 #[.agg #[.int .i64 d, .int .i64 s, .int .i64 a]] w fun e w' => ∃ r, e = .returned r ∧ IsBig 17 N r w' ∧ Below w.heap.size w w' := fun w => hN ▸ rjoin_any hd hs ha w
    have hk : ∀ w, Calls Try.prog 13 #[.agg #[.int .i64 X, .int .i64 Y, .int .i64 a]] w fun e w' => ∃ r, e = .returned r ∧ IsBig 17 M r w' ∧ Below w.heap.size w w' := fun w => hM ▸ rjoin_any hI.1 hI.2 ha w
    have hc : ∀ w, Calls Try.prog 16 #[.agg #[.int .i64 X, .int .i64 Y, .int .i64 a]] w fun e w' => ∃ r, e = .returned r ∧ r = .tuple #[.agg #[.int .i64 d, .int .i64 s, .int .i64 a], .int .i64 0] ∧ Below w.heap.size w w' := fun w => by
      refine (dcivil_any hI.1 hI.2 ha w).mono ?_
      rintro e w' ⟨r, rfl, ⟨x, y, z, e, rfl, -, -, h⟩, b⟩
      obtain ⟨q1, q2, q3, q4⟩ := h hJ hCB
      exact ⟨_, rfl, by rw [q1, q2, q3, q4, hC.1, hC.2], b⟩
    refine calls_Wp (args := [_]) (n := 55) Try.func5 rfl rfl (by simp) ?_
    refine Wp.seq ?_
    refine Wp.region [0, 1] (by kernel_rfl) (by kernel_rfl) ?_
    refine s_box rfl rfl rfl rfl rfl rfl (fun bk1 w1 kb1 lw1 => ?_)
    refine s_assign rfl rfl rfl rfl ?_
    refine vOrd_nil ?_
    refine Wp.seq ?_
    refine Wp.region [0, 1, 2, 3, 4, 5, 6, 7] (by kernel_rfl) (by kernel_rfl) ?_
    refine s_load rfl rfl rfl rfl rfl rfl rfl ?_
    refine s_callT rfl rfl rfl (by kernel_rfl) rfl (djulian_any hd hs ha _) ?_
    rintro v w2 ⟨x, y, z, rfl, -, hz⟩ lw2
    rw [hE]
    obtain ⟨q1, q2, q3⟩ := hz hE
    rw [q1, q2, q3, hX, hY]
    refine s_move rfl rfl rfl rfl ?_
    refine s_extract rfl rfl rfl rfl rfl ?_
    refine s_extract rfl rfl rfl rfl rfl ?_
    refine s_alloc rfl rfl rfl rfl rfl (fun bk3 w3 kb3 lw3 => ?_)
    refine s_store rfl rfl rfl rfl rfl rfl rfl (fun w4 sw4 vw4 => ?_)
    refine s_assign rfl rfl rfl rfl ?_
    refine vOrd_nil ?_
    refine Wp.seq ?_
    refine Wp.seq ?_
    refine Wp.region [0, 1, 2, 3] (by kernel_rfl) (by kernel_rfl) ?_
    refine s_move rfl rfl rfl rfl ?_
    refine s_load rfl rfl rfl rfl rfl rfl rfl ?_
    refine s_callT rfl rfl rfl (by kernel_rfl) rfl (want_any d s a _) ?_
    rintro v w5 rfl lw5
    rw [hE]
    refine f_neq rfl rfl rfl rfl rfl (by omega) ?_
    refine vOrd_nil ?_
    refine Wp.condF rfl rfl ?_
    refine Wp.skip ?_
    refine Wp.seq ?_
    refine Wp.seq ?_
    refine Wp.region [0, 1] (by kernel_rfl) (by kernel_rfl) ?_
    refine s_move rfl rfl rfl rfl ?_
    refine f_neq rfl rfl rfl rfl rfl (by omega) ?_
    refine vOrd_nil ?_
    refine Wp.condF rfl rfl ?_
    refine Wp.skip ?_
    refine Wp.seq ?_
    refine Wp.region [0, 1, 2, 3, 4, 5, 6, 7] (by kernel_rfl) (by kernel_rfl) ?_
    refine s_load rfl rfl rfl rfl rfl rfl rfl ?_
    refine s_callT rfl rfl rfl (by kernel_rfl) rfl (hc _) ?_
    rintro v w6 rfl lw6
    refine s_move rfl rfl rfl rfl ?_
    refine s_extract rfl rfl rfl rfl rfl ?_
    refine s_extract rfl rfl rfl rfl rfl ?_
    refine s_alloc rfl rfl rfl rfl rfl (fun bk7 w7 kb7 lw7 => ?_)
    refine s_store rfl rfl rfl rfl rfl rfl rfl (fun w8 sw8 vw8 => ?_)
    refine s_assign rfl rfl rfl rfl ?_
    refine vOrd_nil ?_
    refine Wp.seq ?_
    refine (Wp.drawn (by kernel_rfl) (by kernel_rfl) [0, 2, 5, 1, 3, 4, 6] [36, 35, 31, 0, 0, 0, 0] (by kernel_rfl) (by kernel_rfl) (fun | 1 => IsBig 17 M | 3 => IsBig 17 N | 4 => IsBig 18 (M - N) | _ => fun _ _ => True) (fun _ _ => ?_))
    refine s_load rfl rfl rfl rfl rfl rfl rfl ?_
    refine s_load rfl rfl rfl rfl rfl rfl rfl ?_
    refine s_alloc rfl rfl rfl rfl rfl (fun bk9 w9 kb9 lw9 => ?_)
    refine s_callD rfl rfl rfl (by kernel_rfl) rfl (fun wc lc => hk wc) ?_
    rintro v w10 u10 h1 lw10 mw10
    refine s_callD rfl rfl rfl (by kernel_rfl) rfl (fun wc lc => hj wc) ?_
    rintro v w11 u11 h2 lw11 mw11
    refine s_callD rfl rfl rfl (by kernel_rfl) rfl (fun wc lc => c_rsub (h1.keeps (by repeat (first | exact Keeps.refl _ | refine Keeps.trans ?_ (Keeps.later (by assumption)) | refine Keeps.trans ?_ (Keeps.stored (by assumption) (by assumption) rfl) | refine Keeps.trans ?_ (Keeps.fresh (by assumption) (by assumption) (by assumption))))) (h2.keeps (by repeat (first | exact Keeps.refl _ | refine Keeps.trans ?_ (Keeps.later (by assumption)) | refine Keeps.trans ?_ (Keeps.stored (by assumption) (by assumption) rfl) | refine Keeps.trans ?_ (Keeps.fresh (by assumption) (by assumption) (by assumption))))) (by decide) (by decide)) ?_
    rintro v w12 u12 h3 lw12 mw12
    rw [hS] at h3
    obtain ⟨xa, xl, xc, rfl, -⟩ := id h3
    refine s_store rfl rfl rfl rfl rfl rfl rfl (fun w13 sw13 vw13 => ?_)
    refine vOrd_nil ?_
    refine Wp.seq ?_
    refine (Wp.drawn (by kernel_rfl) (by kernel_rfl) [0, 1, 2, 3, 4, 5, 6, 7, 8, 9, 10, 11, 12, 13, 14, 15, 16, 17, 18, 19, 20] [0, 0, 0, 0, 0, 0, 447, 0, 0, 0, 0, 0, 0, 0, 0, 0, 196607, 0, 0, 0, 0] (by kernel_rfl) (by kernel_rfl) (fun | 0 => fun v _ => v = .bool true | 3 => fun v _ => v = .bool (isL Y a) | 8 => IsBig 17 207360043200000000000000000000 | 9 => fun v _ => v = .bool true | _ => fun _ _ => True) (fun _ _ => ?_))
    refine s_callD rfl rfl rfl (by kernel_rfl) rfl (fun wc lc => yanswers_any wc) ?_
    rintro v w14 u14 rfl lw14 mw14
    refine s_move rfl rfl rfl rfl ?_
    refine s_load rfl rfl rfl rfl rfl rfl rfl ?_
    refine s_callD rfl rfl rfl (by kernel_rfl) rfl (fun wc lc => rplain_any X Y a wc) ?_
    rintro v w15 u15 rfl lw15 mw15
    rw [hJ]
    refine s_pick rfl rfl rfl rfl rfl ?_
    refine s_move rfl rfl rfl rfl ?_
    refine s_load rfl rfl rfl rfl rfl rfl rfl ?_
    refine s_build rfl rfl rfl rfl rfl (by kernel_rfl) ?_
    refine s_callD rfl rfl rfl (by kernel_rfl) rfl (fun wc lc => hg wc) ?_
    rintro v w16 u16 h4 lw16 mw16
    refine s_callD rfl rfl rfl (by kernel_rfl) rfl (fun wc lc => c_same_yes (h3.keeps (by repeat (first | exact Keeps.refl _ | refine Keeps.trans ?_ (Keeps.later (by assumption)) | refine Keeps.trans ?_ (Keeps.stored (by assumption) (by assumption) rfl) | refine Keeps.trans ?_ (Keeps.fresh (by assumption) (by assumption) (by assumption))))) (h4.keeps (by repeat (first | exact Keeps.refl _ | refine Keeps.trans ?_ (Keeps.later (by assumption)) | refine Keeps.trans ?_ (Keeps.stored (by assumption) (by assumption) rfl) | refine Keeps.trans ?_ (Keeps.fresh (by assumption) (by assumption) (by assumption))))) (by decide) (by decide)) ?_
    rintro v w17 u17 rfl lw17 mw17
    refine s_pick rfl rfl rfl rfl rfl ?_
    refine s_move rfl rfl rfl rfl ?_
    refine s_move rfl rfl rfl rfl ?_
    refine t_eql rfl rfl rfl rfl rfl (by omega) ?_
    refine s_pick rfl rfl rfl rfl rfl ?_
    refine s_move rfl rfl rfl rfl ?_
    refine s_load rfl rfl rfl rfl rfl rfl rfl ?_
    refine s_load rfl rfl rfl rfl rfl rfl rfl ?_
    refine s_eqv (c := true) rfl rfl rfl rfl rfl (fun _ => by kernel_rfl) (fun w => by rw [run_eql_label, eqD_same]) ?_
    refine s_pick rfl rfl rfl rfl rfl ?_
    refine s_assign rfl rfl rfl rfl ?_
    refine vOrd_nil ?_
    refine Wp.ret ⟨.inr rfl, fun lW => ⟨_, res_tmp (P := Try.prog) rfl rfl, _, rfl, ?_, lW⟩⟩
    clear lW
    rfl
  · obtain ⟨E, hQ⟩ : ∃ E, labE d s a = E := ⟨_, rfl⟩
    have hE' := hE
    rw [hQ] at hE
    refine calls_Wp (args := [_]) (n := 55) Try.func5 rfl rfl (by simp) ?_
    refine Wp.seq ?_
    refine Wp.region [0, 1] (by kernel_rfl) (by kernel_rfl) ?_
    refine s_box rfl rfl rfl rfl rfl rfl (fun bk1 w1 kb1 lw1 => ?_)
    refine s_assign rfl rfl rfl rfl ?_
    refine vOrd_nil ?_
    refine Wp.seq ?_
    refine Wp.region [0, 1, 2, 3, 4, 5, 6, 7] (by kernel_rfl) (by kernel_rfl) ?_
    refine s_load rfl rfl rfl rfl rfl rfl rfl ?_
    refine s_callT rfl rfl rfl (by kernel_rfl) rfl (djulian_any hd hs ha _) ?_
    rintro v w2 ⟨x, y, z, rfl, hz, -⟩ lw2
    rw [hQ]
    obtain ⟨rfl, rfl, rfl⟩ := hz hE'
    refine s_move rfl rfl rfl rfl ?_
    refine s_extract rfl rfl rfl rfl rfl ?_
    refine s_extract rfl rfl rfl rfl rfl ?_
    refine s_alloc rfl rfl rfl rfl rfl (fun bk3 w3 kb3 lw3 => ?_)
    refine s_store rfl rfl rfl rfl rfl rfl rfl (fun w4 sw4 vw4 => ?_)
    refine s_assign rfl rfl rfl rfl ?_
    refine vOrd_nil ?_
    refine Wp.seq ?_
    refine Wp.seq ?_
    refine Wp.region [0, 1, 2, 3] (by kernel_rfl) (by kernel_rfl) ?_
    refine s_move rfl rfl rfl rfl ?_
    refine s_load rfl rfl rfl rfl rfl rfl rfl ?_
    refine s_callT rfl rfl rfl (by kernel_rfl) rfl (want_any d s a _) ?_
    rintro v w5 rfl lw5
    rw [hQ]
    refine f_neq rfl rfl rfl rfl rfl (by omega) ?_
    refine vOrd_nil ?_
    refine Wp.condF rfl rfl ?_
    refine Wp.skip ?_
    refine Wp.seq ?_
    refine Wp.seq ?_
    refine Wp.region [0, 1] (by kernel_rfl) (by kernel_rfl) ?_
    refine s_move rfl rfl rfl rfl ?_
    refine t_neq rfl rfl rfl rfl rfl (by omega) ?_
    refine vOrd_nil ?_
    refine Wp.condT rfl rfl ?_
    refine Wp.seq ?_
    refine Wp.region [0, 1, 2, 3, 4, 5, 6] (by kernel_rfl) (by kernel_rfl) ?_
    refine s_callT rfl rfl rfl (by kernel_rfl) rfl (yanswers_any _) ?_
    rintro v w6 rfl lw6
    refine s_move rfl rfl rfl rfl ?_
    refine s_load rfl rfl rfl rfl rfl rfl rfl ?_
    refine s_build rfl rfl rfl rfl rfl (by kernel_rfl) ?_
    refine s_eqv (c := true) rfl rfl rfl rfl rfl (fun _ => by kernel_rfl) (fun w => by rw [run_eql_label, eqD_same]) ?_
    refine s_pick rfl rfl rfl rfl rfl ?_
    refine s_assign rfl rfl rfl rfl ?_
    refine vOrd_nil ?_
    refine Wp.ret ⟨.inr rfl, fun lW => ⟨_, res_tmp (P := Try.prog) rfl rfl, _, rfl, ?_, lW⟩⟩
    clear lW
    rfl
theorem law_civil {d s a : Int} (hd : I64 d) (hs : I64 s) (ha : I64 a) (w : World) : Calls Try.prog 6 #[.agg #[.int .i64 d, .int .i64 s, .int .i64 a]] w fun e w' => ∃ r, e = .returned r ∧ r = .bool true ∧ Below w.heap.size w w' := by
  cases hL : isL s a with
  | false =>
    refine calls_Wp (args := [_]) (n := 56) Try.func6 rfl rfl (by simp) ?_
    refine Wp.seq ?_
    refine Wp.region [0, 1] (by kernel_rfl) (by kernel_rfl) ?_
    refine s_box rfl rfl rfl rfl rfl rfl (fun bk1 w1 kb1 lw1 => ?_)
    refine s_assign rfl rfl rfl rfl ?_
    refine vOrd_nil ?_
    refine Wp.seq ?_
    refine Wp.region [0, 1, 2, 3, 4, 5, 6, 7] (by kernel_rfl) (by kernel_rfl) ?_
    refine s_load rfl rfl rfl rfl rfl rfl rfl ?_
    refine s_callT rfl rfl rfl (by kernel_rfl) rfl (dcivil_any hd hs ha _) ?_
    rintro v w2 ⟨x, y, z, e, rfl, hz, -, -⟩ lw2
    obtain ⟨rfl, rfl, rfl, rfl⟩ := hz hL
    refine s_move rfl rfl rfl rfl ?_
    refine s_extract rfl rfl rfl rfl rfl ?_
    refine s_extract rfl rfl rfl rfl rfl ?_
    refine s_alloc rfl rfl rfl rfl rfl (fun bk3 w3 kb3 lw3 => ?_)
    refine s_store rfl rfl rfl rfl rfl rfl rfl (fun w4 sw4 vw4 => ?_)
    refine s_assign rfl rfl rfl rfl ?_
    refine vOrd_nil ?_
    refine Wp.seq ?_
    refine Wp.seq ?_
    refine Wp.region [0, 1, 2] (by kernel_rfl) (by kernel_rfl) ?_
    refine s_load rfl rfl rfl rfl rfl rfl rfl ?_
    refine s_callT rfl rfl rfl (by kernel_rfl) rfl (rplain_any d s a _) ?_
    rintro v w5 rfl lw5
    rw [hL]
    refine s_not rfl rfl rfl rfl ?_
    refine vOrd_nil ?_
    refine Wp.condT rfl rfl ?_
    refine Wp.seq ?_
    refine Wp.region [0, 1, 2, 3, 4, 5, 6, 7, 8, 9, 10] (by kernel_rfl) (by kernel_rfl) ?_
    refine s_callT rfl rfl rfl (by kernel_rfl) rfl (yanswers_any _) ?_
    rintro v w6 rfl lw6
    refine s_move rfl rfl rfl rfl ?_
    refine s_move rfl rfl rfl rfl ?_
    refine t_eql rfl rfl rfl rfl rfl (by omega) ?_
    refine s_pick rfl rfl rfl rfl rfl ?_
    refine s_move rfl rfl rfl rfl ?_
    refine s_load rfl rfl rfl rfl rfl rfl rfl ?_
    refine s_build rfl rfl rfl rfl rfl (by kernel_rfl) ?_
    refine s_eqv (c := true) rfl rfl rfl rfl rfl (fun _ => by kernel_rfl) (fun w => by rw [run_eql_label, eqD_same]) ?_
    refine s_pick rfl rfl rfl rfl rfl ?_
    refine s_assign rfl rfl rfl rfl ?_
    refine vOrd_nil ?_
    refine Wp.ret ⟨.inr rfl, fun lW => ⟨_, res_tmp (P := Try.prog) rfl rfl, _, rfl, ?_, lW⟩⟩
    clear lW
    rfl
  | true =>
    have hL' := isL_iff.1 hL
    have hT : cnt 2400000 43200 0 = 207360043200000000000000000000 := by decide
    have hg : ∀ w, Calls Try.prog 13 #[.agg #[.int .i64 2400000, .int .i64 43200, .int .i64 0]] w fun e w' => ∃ r, e = .returned r ∧ IsBig 17 207360043200000000000000000000 r w' ∧ Below w.heap.size w w' := fun w => hT ▸ rjoin_any (by unfold I64; omega) (by unfold I64; omega) (by unfold I64; omega) w
    have hS : dayZ (cnt d s a - 207360043200000000000000000000) = cD d s ∧ secZ (cnt d s a - 207360043200000000000000000000) = cS s ∧ attZ (cnt d s a - 207360043200000000000000000000) = a := by unfold dayZ secZ attZ cnt cD cS; omega
    obtain ⟨N, hN⟩ : ∃ N, cnt d s a = N := ⟨_, rfl⟩
    rw [hN] at hS
    have hj : ∀ w, Calls Try.prog 13 #[.agg #[.int .i64 d, .int .i64 s, .int .i64 a]] w fun e w' => ∃ r, e = .returned r ∧ IsBig 17 N r w' ∧ Below w.heap.size w w' := fun w => hN ▸ rjoin_any hd hs ha w
    cases hB : inB (cD d s) with
    | false =>
      have hB' : inB (dayZ (N - 207360043200000000000000000000)) = false := by rw [hS.1]; exact hB
      obtain ⟨p1, p2, p3⟩ := spl_no hB'
      refine calls_Wp (args := [_]) (n := 56) Try.func6 rfl rfl (by simp) ?_
      refine Wp.seq ?_
      refine Wp.region [0, 1] (by kernel_rfl) (by kernel_rfl) ?_
      refine s_box rfl rfl rfl rfl rfl rfl (fun bk1 w1 kb1 lw1 => ?_)
      refine s_assign rfl rfl rfl rfl ?_
      refine vOrd_nil ?_
      refine Wp.seq ?_
      refine Wp.region [0, 1, 2, 3, 4, 5, 6, 7] (by kernel_rfl) (by kernel_rfl) ?_
      refine s_load rfl rfl rfl rfl rfl rfl rfl ?_
      refine s_callT rfl rfl rfl (by kernel_rfl) rfl (dcivil_any hd hs ha _) ?_
      rintro v w2 ⟨x, y, z, e, rfl, -, hz, -⟩ lw2
      obtain ⟨rfl, rfl, rfl, rfl⟩ := hz hL hB
      refine s_move rfl rfl rfl rfl ?_
      refine s_extract rfl rfl rfl rfl rfl ?_
      refine s_extract rfl rfl rfl rfl rfl ?_
      refine s_alloc rfl rfl rfl rfl rfl (fun bk3 w3 kb3 lw3 => ?_)
      refine s_store rfl rfl rfl rfl rfl rfl rfl (fun w4 sw4 vw4 => ?_)
      refine s_assign rfl rfl rfl rfl ?_
      refine vOrd_nil ?_
      refine Wp.seq ?_
      refine Wp.seq ?_
      refine Wp.region [0, 1, 2] (by kernel_rfl) (by kernel_rfl) ?_
      refine s_load rfl rfl rfl rfl rfl rfl rfl ?_
      refine s_callT rfl rfl rfl (by kernel_rfl) rfl (rplain_any d s a _) ?_
      rintro v w5 rfl lw5
      rw [hL]
      refine s_not rfl rfl rfl rfl ?_
      refine vOrd_nil ?_
      refine Wp.condF rfl rfl ?_
      refine Wp.skip ?_
      refine Wp.seq ?_
      refine Wp.region [0, 1, 2, 3, 4, 5, 6, 7, 8, 9, 10, 11] (by kernel_rfl) (by kernel_rfl) ?_
      refine s_load rfl rfl rfl rfl rfl rfl rfl ?_
      refine s_callT rfl rfl rfl (by kernel_rfl) rfl (hj _) ?_
      rintro v w6 h1 lw6
      refine s_build rfl rfl rfl rfl rfl (by kernel_rfl) ?_
      refine s_callT rfl rfl rfl (by kernel_rfl) rfl (hg _) ?_
      rintro v w7 h2 lw7
      refine s_callT rfl rfl rfl (by kernel_rfl) rfl (c_rsub (h1.keeps (by repeat (first | exact Keeps.refl _ | refine Keeps.trans ?_ (Keeps.later (by assumption)) | refine Keeps.trans ?_ (Keeps.stored (by assumption) (by assumption) rfl) | refine Keeps.trans ?_ (Keeps.fresh (by assumption) (by assumption) (by assumption))))) (h2.keeps (by repeat (first | exact Keeps.refl _ | refine Keeps.trans ?_ (Keeps.later (by assumption)) | refine Keeps.trans ?_ (Keeps.stored (by assumption) (by assumption) rfl) | refine Keeps.trans ?_ (Keeps.fresh (by assumption) (by assumption) (by assumption))))) (by decide) (by decide)) ?_
      rintro v w8 h3 lw8
      refine s_callT rfl rfl rfl (by kernel_rfl) rfl (rsplit_any (h3.keeps (by repeat (first | exact Keeps.refl _ | refine Keeps.trans ?_ (Keeps.later (by assumption)) | refine Keeps.trans ?_ (Keeps.stored (by assumption) (by assumption) rfl) | refine Keeps.trans ?_ (Keeps.fresh (by assumption) (by assumption) (by assumption))))) (by decide)) ?_
      rintro v w9 rfl lw9
      rw [p1, p2, p3, hB']
      refine s_move rfl rfl rfl rfl ?_
      refine s_extract rfl rfl rfl rfl rfl ?_
      refine s_extract rfl rfl rfl rfl rfl ?_
      refine s_alloc rfl rfl rfl rfl rfl (fun bk10 w10 kb10 lw10 => ?_)
      refine s_store rfl rfl rfl rfl rfl rfl rfl (fun w11 sw11 vw11 => ?_)
      refine s_assign rfl rfl rfl rfl ?_
      refine vOrd_nil ?_
      refine Wp.seq ?_
      refine Wp.seq ?_
      refine Wp.region [0, 1] (by kernel_rfl) (by kernel_rfl) ?_
      refine s_move rfl rfl rfl rfl ?_
      refine s_not rfl rfl rfl rfl ?_
      refine vOrd_nil ?_
      refine Wp.condT rfl rfl ?_
      refine Wp.seq ?_
      refine Wp.region [0, 1, 2, 3, 4, 5, 6, 7, 8, 9, 10] (by kernel_rfl) (by kernel_rfl) ?_
      refine s_callT rfl rfl rfl (by kernel_rfl) rfl (yanswers_any _) ?_
      rintro v w12 rfl lw12
      refine s_move rfl rfl rfl rfl ?_
      refine s_move rfl rfl rfl rfl ?_
      refine t_eql rfl rfl rfl rfl rfl (by omega) ?_
      refine s_pick rfl rfl rfl rfl rfl ?_
      refine s_move rfl rfl rfl rfl ?_
      refine s_load rfl rfl rfl rfl rfl rfl rfl ?_
      refine s_build rfl rfl rfl rfl rfl (by kernel_rfl) ?_
      refine s_eqv (c := true) rfl rfl rfl rfl rfl (fun _ => by kernel_rfl) (fun w => by rw [run_eql_label, eqD_same]) ?_
      refine s_pick rfl rfl rfl rfl rfl ?_
      refine s_assign rfl rfl rfl rfl ?_
      refine vOrd_nil ?_
      refine Wp.ret ⟨.inr rfl, fun lW => ⟨_, res_tmp (P := Try.prog) rfl rfl, _, rfl, ?_, lW⟩⟩
      clear lW
      rfl
    | true =>
      have hB' : inB (dayZ (N - 207360043200000000000000000000)) = true := by rw [hS.1]; exact hB
      obtain ⟨p1, p2, p3⟩ := spl_yes hB'
      rw [hS.1] at p1
      rw [hS.2.1] at p2
      rw [hS.2.2] at p3
      refine calls_Wp (args := [_]) (n := 56) Try.func6 rfl rfl (by simp) ?_
      refine Wp.seq ?_
      refine Wp.region [0, 1] (by kernel_rfl) (by kernel_rfl) ?_
      refine s_box rfl rfl rfl rfl rfl rfl (fun bk1 w1 kb1 lw1 => ?_)
      refine s_assign rfl rfl rfl rfl ?_
      refine vOrd_nil ?_
      refine Wp.seq ?_
      refine Wp.region [0, 1, 2, 3, 4, 5, 6, 7] (by kernel_rfl) (by kernel_rfl) ?_
      refine s_load rfl rfl rfl rfl rfl rfl rfl ?_
      refine s_callT rfl rfl rfl (by kernel_rfl) rfl (dcivil_any hd hs ha _) ?_
      rintro v w2 ⟨x, y, z, e, rfl, -, -, hz⟩ lw2
      obtain ⟨q1, q2, q3, q4⟩ := hz hL hB
      rw [q1, q2, q3, q4]
      refine s_move rfl rfl rfl rfl ?_
      refine s_extract rfl rfl rfl rfl rfl ?_
      refine s_extract rfl rfl rfl rfl rfl ?_
      refine s_alloc rfl rfl rfl rfl rfl (fun bk3 w3 kb3 lw3 => ?_)
      refine s_store rfl rfl rfl rfl rfl rfl rfl (fun w4 sw4 vw4 => ?_)
      refine s_assign rfl rfl rfl rfl ?_
      refine vOrd_nil ?_
      refine Wp.seq ?_
      refine Wp.seq ?_
      refine Wp.region [0, 1, 2] (by kernel_rfl) (by kernel_rfl) ?_
      refine s_load rfl rfl rfl rfl rfl rfl rfl ?_
      refine s_callT rfl rfl rfl (by kernel_rfl) rfl (rplain_any d s a _) ?_
      rintro v w5 rfl lw5
      rw [hL]
      refine s_not rfl rfl rfl rfl ?_
      refine vOrd_nil ?_
      refine Wp.condF rfl rfl ?_
      refine Wp.skip ?_
      refine Wp.seq ?_
      refine Wp.region [0, 1, 2, 3, 4, 5, 6, 7, 8, 9, 10, 11] (by kernel_rfl) (by kernel_rfl) ?_
      refine s_load rfl rfl rfl rfl rfl rfl rfl ?_
      refine s_callT rfl rfl rfl (by kernel_rfl) rfl (hj _) ?_
      rintro v w6 h1 lw6
      refine s_build rfl rfl rfl rfl rfl (by kernel_rfl) ?_
      refine s_callT rfl rfl rfl (by kernel_rfl) rfl (hg _) ?_
      rintro v w7 h2 lw7
      refine s_callT rfl rfl rfl (by kernel_rfl) rfl (c_rsub (h1.keeps (by repeat (first | exact Keeps.refl _ | refine Keeps.trans ?_ (Keeps.later (by assumption)) | refine Keeps.trans ?_ (Keeps.stored (by assumption) (by assumption) rfl) | refine Keeps.trans ?_ (Keeps.fresh (by assumption) (by assumption) (by assumption))))) (h2.keeps (by repeat (first | exact Keeps.refl _ | refine Keeps.trans ?_ (Keeps.later (by assumption)) | refine Keeps.trans ?_ (Keeps.stored (by assumption) (by assumption) rfl) | refine Keeps.trans ?_ (Keeps.fresh (by assumption) (by assumption) (by assumption))))) (by decide) (by decide)) ?_
      rintro v w8 h3 lw8
      refine s_callT rfl rfl rfl (by kernel_rfl) rfl (rsplit_any (h3.keeps (by repeat (first | exact Keeps.refl _ | refine Keeps.trans ?_ (Keeps.later (by assumption)) | refine Keeps.trans ?_ (Keeps.stored (by assumption) (by assumption) rfl) | refine Keeps.trans ?_ (Keeps.fresh (by assumption) (by assumption) (by assumption))))) (by decide)) ?_
      rintro v w9 rfl lw9
      rw [p1, p2, p3, hB']
      refine s_move rfl rfl rfl rfl ?_
      refine s_extract rfl rfl rfl rfl rfl ?_
      refine s_extract rfl rfl rfl rfl rfl ?_
      refine s_alloc rfl rfl rfl rfl rfl (fun bk10 w10 kb10 lw10 => ?_)
      refine s_store rfl rfl rfl rfl rfl rfl rfl (fun w11 sw11 vw11 => ?_)
      refine s_assign rfl rfl rfl rfl ?_
      refine vOrd_nil ?_
      refine Wp.seq ?_
      refine Wp.seq ?_
      refine Wp.region [0, 1] (by kernel_rfl) (by kernel_rfl) ?_
      refine s_move rfl rfl rfl rfl ?_
      refine s_not rfl rfl rfl rfl ?_
      refine vOrd_nil ?_
      refine Wp.condF rfl rfl ?_
      refine Wp.skip ?_
      refine Wp.seq ?_
      refine Wp.region [0, 1, 2, 3, 4, 5, 6, 7, 8, 9, 10] (by kernel_rfl) (by kernel_rfl) ?_
      refine s_callT rfl rfl rfl (by kernel_rfl) rfl (yanswers_any _) ?_
      rintro v w12 rfl lw12
      refine s_move rfl rfl rfl rfl ?_
      refine s_move rfl rfl rfl rfl ?_
      refine t_eql rfl rfl rfl rfl rfl (by omega) ?_
      refine s_pick rfl rfl rfl rfl rfl ?_
      refine s_move rfl rfl rfl rfl ?_
      refine s_load rfl rfl rfl rfl rfl rfl rfl ?_
      refine s_load rfl rfl rfl rfl rfl rfl rfl ?_
      refine s_eqv (c := true) rfl rfl rfl rfl rfl (fun _ => by kernel_rfl) (fun w => by rw [run_eql_label, eqD_same]) ?_
      refine s_pick rfl rfl rfl rfl rfl ?_
      refine s_assign rfl rfl rfl rfl ?_
      refine vOrd_nil ?_
      refine Wp.ret ⟨.inr rfl, fun lW => ⟨_, res_tmp (P := Try.prog) rfl rfl, _, rfl, ?_, lW⟩⟩
      clear lW
      rfl
end Go.Proofs.Ythajjaiiganpkaa
