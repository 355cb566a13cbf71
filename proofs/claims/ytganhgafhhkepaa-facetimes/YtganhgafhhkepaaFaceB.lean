/-
  The walks of the laws FaceValid, FaceSecs, FaceTimes (P6.1, P6.2). No conditions.
-/
import Derived.Test.YtganhgafhhkepaaFaceA
namespace Go.Proofs.Ytganhgafhhkepaa
open Go.RowKit
set_option maxRecDepth 100000

theorem fanswers_any (w : World) : Calls Try.prog 6 #[] w fun e w' => ∃ r, e = .returned r ∧ r = .bool true ∧ Below w.heap.size w w' := by
  have a1 : isT 23 59 60 7 = true := by decide
  have a2 : isT 12 0 60 0 = false := by decide
  obtain ⟨e1, e2, e3⟩ := sec_ok a1
  refine calls_Wp (args := []) (n := 46) Try.func6 rfl rfl (by simp) ?_
  refine Wp.seq ?_
  refine Wp.region [0] (by kernel_rfl) (by kernel_rfl) ?_
  refine s_assign rfl rfl rfl rfl ?_
  refine vOrd_nil ?_
  refine Wp.seq ?_
  refine Wp.region [0, 1, 2] (by kernel_rfl) (by kernel_rfl) ?_
  refine s_build rfl rfl rfl rfl rfl (by kernel_rfl) ?_
  refine s_alloc rfl rfl rfl rfl rfl (fun bk1 w1 kb1 lw1 => ?_)
  refine s_store rfl rfl rfl rfl rfl rfl rfl (fun w2 sw2 vw2 => ?_)
  refine vOrd_nil ?_
  refine Wp.seq ?_
  refine Wp.region [0, 1, 2, 3, 4, 5, 6, 7, 8] (by kernel_rfl) (by kernel_rfl) ?_
  refine s_load rfl rfl rfl rfl rfl rfl rfl ?_
  refine s_callT rfl rfl rfl (by kernel_rfl) rfl (fsec_any 23 59 60 7 _) ?_
  rintro v w3 rfl lw3
  rw [e1, e2, e3]
  refine s_move rfl rfl rfl rfl ?_
  refine s_extract rfl rfl rfl rfl rfl ?_
  refine s_extract rfl rfl rfl rfl rfl ?_
  refine s_extract rfl rfl rfl rfl rfl ?_
  refine s_assign rfl rfl rfl rfl ?_
  refine s_assign rfl rfl rfl rfl ?_
  refine s_assign rfl rfl rfl rfl ?_
  refine vOrd_nil ?_
  refine Wp.seq ?_
  refine Wp.region [0, 1, 2, 3, 4, 5, 6] (by kernel_rfl) (by kernel_rfl) ?_
  refine s_callT rfl rfl rfl (by kernel_rfl) rfl (ftime_any 86400 7 _) ?_
  rintro v w4 ⟨x, y, z, u, e, rfl, -, hd⟩ lw4
  obtain ⟨d1, d2, rfl, rfl, -⟩ := hd (by decide)
  obtain ⟨rfl, rfl, rfl⟩ := one_time d1 a1 (by rw [d2]; decide)
  refine s_move rfl rfl rfl rfl ?_
  refine s_extract rfl rfl rfl rfl rfl ?_
  refine s_extract rfl rfl rfl rfl rfl ?_
  refine s_alloc rfl rfl rfl rfl rfl (fun bk5 w5 kb5 lw5 => ?_)
  refine s_store rfl rfl rfl rfl rfl rfl rfl (fun w6 sw6 vw6 => ?_)
  refine s_assign rfl rfl rfl rfl ?_
  refine vOrd_nil ?_
  refine Wp.seq ?_
  refine Wp.region [0, 1, 2, 3, 4, 5, 6, 7, 8, 9, 10, 11, 12, 13, 14, 15, 16, 17, 18, 19, 20, 21, 22, 23, 24, 25, 26, 27, 28] (by kernel_rfl) (by kernel_rfl) ?_
  refine s_move rfl rfl rfl rfl ?_
  refine t_eql rfl rfl rfl rfl rfl (by omega) ?_
  refine s_move rfl rfl rfl rfl ?_
  refine s_move rfl rfl rfl rfl ?_
  refine t_eql rfl rfl rfl rfl rfl (by decide) ?_
  refine s_pick rfl rfl rfl rfl rfl ?_
  refine s_move rfl rfl rfl rfl ?_
  refine s_move rfl rfl rfl rfl ?_
  refine t_eql rfl rfl rfl rfl rfl (by omega) ?_
  refine s_pick rfl rfl rfl rfl rfl ?_
  refine s_move rfl rfl rfl rfl ?_
  refine s_move rfl rfl rfl rfl ?_
  refine t_eql rfl rfl rfl rfl rfl (by omega) ?_
  refine s_pick rfl rfl rfl rfl rfl ?_
  refine s_move rfl rfl rfl rfl ?_
  refine s_load rfl rfl rfl rfl rfl rfl rfl ?_
  refine s_load rfl rfl rfl rfl rfl rfl rfl ?_
  refine s_eqv (c := true) rfl rfl rfl rfl rfl (fun _ => by kernel_rfl) (fun w => by rw [run_eql_time, eqT_same]) ?_
  refine s_pick rfl rfl rfl rfl rfl ?_
  refine s_move rfl rfl rfl rfl ?_
  refine s_load rfl rfl rfl rfl rfl rfl rfl ?_
  refine s_callT rfl rfl rfl (by kernel_rfl) rfl (fvalid_any 23 59 60 7 _) ?_
  rintro v w8 rfl lw8
  rw [a1]
  refine s_pick rfl rfl rfl rfl rfl ?_
  refine s_move rfl rfl rfl rfl ?_
  refine s_build rfl rfl rfl rfl rfl (by kernel_rfl) ?_
  refine s_callT rfl rfl rfl (by kernel_rfl) rfl (fvalid_any 12 0 60 0 _) ?_
  rintro v w9 rfl lw9
  rw [a2]
  refine s_not rfl rfl rfl rfl ?_
  refine s_pick rfl rfl rfl rfl rfl ?_
  refine s_assign rfl rfl rfl rfl ?_
  refine vOrd_nil ?_
  refine Wp.ret ⟨.inr rfl, fun lW => ⟨_, res_tmp (P := Try.prog) rfl rfl, _, rfl, ?_, lW⟩⟩
  clear lW
  rfl
theorem law_valid (h m s a : Int) (w : World) : Calls Try.prog 3 #[.agg #[.int .i64 h, .int .i64 m, .int .i64 s, .int .i64 a]] w fun e w' => ∃ r, e = .returned r ∧ r = .bool true ∧ Below w.heap.size w w' := by
  refine calls_Wp (args := [_]) (n := 11) Try.func3 rfl rfl (by simp) ?_
  refine Wp.seq ?_
  refine Wp.region [0, 1] (by kernel_rfl) (by kernel_rfl) ?_
  refine s_box rfl rfl rfl rfl rfl rfl (fun bk1 w1 kb1 lw1 => ?_)
  refine s_assign rfl rfl rfl rfl ?_
  refine vOrd_nil ?_
  refine Wp.seq ?_
  refine (Wp.drawn (by kernel_rfl) (by kernel_rfl) [0, 1, 2, 4, 3, 5, 6, 7, 8] [0, 0, 19, 15, 0, 0, 0, 0, 0] (by kernel_rfl) (by kernel_rfl) (fun | 0 => fun v _ => v = .bool true | 3 => fun v _ => v = .bool (isT h m s a) | 5 => fun v _ => v = .bool (isT h m s a) | _ => fun _ _ => True) (fun _ _ => ?_))
  refine s_callD rfl rfl rfl (by kernel_rfl) rfl (fun wc lc => fanswers_any wc) ?_
  rintro v w2 u2 rfl lw2 mw2
  refine s_move rfl rfl rfl rfl ?_
  refine s_load rfl rfl rfl rfl rfl rfl rfl ?_
  refine s_load rfl rfl rfl rfl rfl rfl rfl ?_
  refine s_callD rfl rfl rfl (by kernel_rfl) rfl (fun wc lc => fvalid_any h m s a wc) ?_
  rintro v w3 u3 rfl lw3 mw3
  refine s_callD rfl rfl rfl (by kernel_rfl) rfl (fun wc lc => rtime_any h m s a wc) ?_
  rintro v w4 u4 rfl lw4 mw4
  refine s_eqv (c := true) rfl rfl rfl rfl rfl (fun _ => by kernel_rfl) (fun w => by rw [run_eqlB, beq_self_eq_true]) ?_
  refine s_pick rfl rfl rfl rfl rfl ?_
  refine s_assign rfl rfl rfl rfl ?_
  refine vOrd_nil ?_
  refine Wp.ret ⟨.inr rfl, fun lW => ⟨_, res_tmp (P := Try.prog) rfl rfl, _, rfl, ?_, lW⟩⟩
  clear lW
  rfl
theorem law_secs (h m s a : Int) (w : World) : Calls Try.prog 4 #[.agg #[.int .i64 h, .int .i64 m, .int .i64 s, .int .i64 a]] w fun e w' => ∃ r, e = .returned r ∧ r = .bool true ∧ Below w.heap.size w w' := by
  cases hI : isT h m s a with
  | false =>
    obtain ⟨e1, e2, e3⟩ := sec_bad hI
    refine calls_Wp (args := [_]) (n := 70) Try.func4 rfl rfl (by simp) ?_
    refine Wp.seq ?_
    refine Wp.region [0, 1] (by kernel_rfl) (by kernel_rfl) ?_
    refine s_box rfl rfl rfl rfl rfl rfl (fun bk1 w1 kb1 lw1 => ?_)
    refine s_assign rfl rfl rfl rfl ?_
    refine vOrd_nil ?_
    refine Wp.seq ?_
    refine Wp.region [0, 1, 2, 3, 4, 5, 6, 7, 8] (by kernel_rfl) (by kernel_rfl) ?_
    refine s_load rfl rfl rfl rfl rfl rfl rfl ?_
    refine s_callT rfl rfl rfl (by kernel_rfl) rfl (fsec_any h m s a _) ?_
    rintro v w2 rfl lw2
    rw [e1, e2, e3]
    refine s_move rfl rfl rfl rfl ?_
    refine s_extract rfl rfl rfl rfl rfl ?_
    refine s_extract rfl rfl rfl rfl rfl ?_
    refine s_extract rfl rfl rfl rfl rfl ?_
    refine s_assign rfl rfl rfl rfl ?_
    refine s_assign rfl rfl rfl rfl ?_
    refine s_assign rfl rfl rfl rfl ?_
    refine vOrd_nil ?_
    refine Wp.seq ?_
    refine Wp.seq ?_
    refine Wp.region [0, 1, 2] (by kernel_rfl) (by kernel_rfl) ?_
    refine s_load rfl rfl rfl rfl rfl rfl rfl ?_
    refine s_callT rfl rfl rfl (by kernel_rfl) rfl (rtime_any h m s a _) ?_
    rintro v w3 rfl lw3
    rw [hI]
    refine s_not rfl rfl rfl rfl ?_
    refine vOrd_nil ?_
    refine Wp.condT rfl rfl ?_
    refine Wp.seq ?_
    refine Wp.region [0, 1, 2, 3, 4, 5, 6, 7, 8, 9, 10, 11, 12, 13] (by kernel_rfl) (by kernel_rfl) ?_
    refine s_callT rfl rfl rfl (by kernel_rfl) rfl (fanswers_any _) ?_
    rintro v w4 rfl lw4
    refine s_move rfl rfl rfl rfl ?_
    refine s_move rfl rfl rfl rfl ?_
    refine t_eql rfl rfl rfl rfl rfl (by omega) ?_
    refine s_pick rfl rfl rfl rfl rfl ?_
    refine s_move rfl rfl rfl rfl ?_
    refine s_move rfl rfl rfl rfl ?_
    refine t_eql rfl rfl rfl rfl rfl (by omega) ?_
    refine s_pick rfl rfl rfl rfl rfl ?_
    refine s_move rfl rfl rfl rfl ?_
    refine s_move rfl rfl rfl rfl ?_
    refine t_eql rfl rfl rfl rfl rfl (by omega) ?_
    refine s_pick rfl rfl rfl rfl rfl ?_
    refine s_assign rfl rfl rfl rfl ?_
    refine vOrd_nil ?_
    refine Wp.ret ⟨.inr rfl, fun lW => ⟨_, res_tmp (P := Try.prog) rfl rfl, _, rfl, ?_, lW⟩⟩
    clear lW
    rfl
  | true =>
    obtain ⟨e1, e2, e3⟩ := sec_ok hI
    have q := isT_iff.1 hI
    have hl := lastS_or h m
    refine calls_Wp (args := [_]) (n := 70) Try.func4 rfl rfl (by simp) ?_
    refine Wp.seq ?_
    refine Wp.region [0, 1] (by kernel_rfl) (by kernel_rfl) ?_
    refine s_box rfl rfl rfl rfl rfl rfl (fun bk1 w1 kb1 lw1 => ?_)
    refine s_assign rfl rfl rfl rfl ?_
    refine vOrd_nil ?_
    refine Wp.seq ?_
    refine Wp.region [0, 1, 2, 3, 4, 5, 6, 7, 8] (by kernel_rfl) (by kernel_rfl) ?_
    refine s_load rfl rfl rfl rfl rfl rfl rfl ?_
    refine s_callT rfl rfl rfl (by kernel_rfl) rfl (fsec_any h m s a _) ?_
    rintro v w2 rfl lw2
    rw [e1, e2, e3]
    refine s_move rfl rfl rfl rfl ?_
    refine s_extract rfl rfl rfl rfl rfl ?_
    refine s_extract rfl rfl rfl rfl rfl ?_
    refine s_extract rfl rfl rfl rfl rfl ?_
    refine s_assign rfl rfl rfl rfl ?_
    refine s_assign rfl rfl rfl rfl ?_
    refine s_assign rfl rfl rfl rfl ?_
    refine vOrd_nil ?_
    refine Wp.seq ?_
    refine Wp.seq ?_
    refine Wp.region [0, 1, 2] (by kernel_rfl) (by kernel_rfl) ?_
    refine s_load rfl rfl rfl rfl rfl rfl rfl ?_
    refine s_callT rfl rfl rfl (by kernel_rfl) rfl (rtime_any h m s a _) ?_
    rintro v w3 rfl lw3
    rw [hI]
    refine s_not rfl rfl rfl rfl ?_
    refine vOrd_nil ?_
    refine Wp.condF rfl rfl ?_
    refine Wp.skip ?_
    refine Wp.seq ?_
    refine Wp.region [0, 1, 2, 3, 4, 5, 6, 7, 8] (by kernel_rfl) (by kernel_rfl) ?_
    refine s_move rfl rfl rfl rfl ?_
    refine s_move rfl rfl rfl rfl ?_
    refine s_callT rfl rfl rfl (by kernel_rfl) rfl (ftime_any (h * 3600 + m * 60 + s) a _) ?_
    rintro v w4 ⟨x, y, z, u, e, rfl, -, hd⟩ lw4
    obtain ⟨d1, d2, rfl, rfl, -⟩ := hd (okS_iff.2 (by omega))
    obtain ⟨rfl, rfl, rfl⟩ := one_time d1 hI d2
    refine s_move rfl rfl rfl rfl ?_
    refine s_extract rfl rfl rfl rfl rfl ?_
    refine s_extract rfl rfl rfl rfl rfl ?_
    refine s_alloc rfl rfl rfl rfl rfl (fun bk5 w5 kb5 lw5 => ?_)
    refine s_store rfl rfl rfl rfl rfl rfl rfl (fun w6 sw6 vw6 => ?_)
    refine s_assign rfl rfl rfl rfl ?_
    refine vOrd_nil ?_
    refine Wp.seq ?_
    refine Wp.region [0, 1, 2, 3, 4, 5, 6, 7, 8, 9, 10, 11, 12, 13, 14, 15, 16, 17, 18, 19, 20, 21, 22, 23, 24, 25, 26, 27, 28, 29, 30, 31, 32, 33, 34] (by kernel_rfl) (by kernel_rfl) ?_
    refine s_callT rfl rfl rfl (by kernel_rfl) rfl (fanswers_any _) ?_
    rintro v w7 rfl lw7
    refine s_move rfl rfl rfl rfl ?_
    refine s_move rfl rfl rfl rfl ?_
    refine t_eql rfl rfl rfl rfl rfl (by omega) ?_
    refine s_pick rfl rfl rfl rfl rfl ?_
    refine s_move rfl rfl rfl rfl ?_
    refine s_move rfl rfl rfl rfl ?_
    refine s_field 0 rfl rfl rfl rfl rfl ?_
    refine s_load rfl rfl rfl rfl rfl rfl rfl ?_
    refine a_mul (-9223372036854775808) 9223372036854775807 (by decide) rfl rfl rfl rfl rfl (by omega) (by omega) ?_
    refine s_field 1 rfl rfl rfl rfl rfl ?_
    refine s_load rfl rfl rfl rfl rfl rfl rfl ?_
    refine a_mul (-9223372036854775808) 9223372036854775807 (by decide) rfl rfl rfl rfl rfl (by omega) (by omega) ?_
    refine a_add (-9223372036854775808) 9223372036854775807 (by decide) rfl rfl rfl rfl rfl (by omega) (by omega) ?_
    refine s_field 2 rfl rfl rfl rfl rfl ?_
    refine s_load rfl rfl rfl rfl rfl rfl rfl ?_
    refine a_add (-9223372036854775808) 9223372036854775807 (by decide) rfl rfl rfl rfl rfl (by omega) (by omega) ?_
    refine t_eql rfl rfl rfl rfl rfl (by rfl) ?_
    refine s_pick rfl rfl rfl rfl rfl ?_
    refine s_move rfl rfl rfl rfl ?_
    refine s_move rfl rfl rfl rfl ?_
    refine s_field 3 rfl rfl rfl rfl rfl ?_
    refine s_load rfl rfl rfl rfl rfl rfl rfl ?_
    refine t_eql rfl rfl rfl rfl rfl (by rfl) ?_
    refine s_pick rfl rfl rfl rfl rfl ?_
    refine s_move rfl rfl rfl rfl ?_
    refine s_move rfl rfl rfl rfl ?_
    refine t_eql rfl rfl rfl rfl rfl (by omega) ?_
    refine s_pick rfl rfl rfl rfl rfl ?_
    refine s_move rfl rfl rfl rfl ?_
    refine s_load rfl rfl rfl rfl rfl rfl rfl ?_
    refine s_load rfl rfl rfl rfl rfl rfl rfl ?_
    refine s_eqv (c := true) rfl rfl rfl rfl rfl (fun _ => by kernel_rfl) (fun w => by rw [run_eql_time, eqT_same]) ?_
    refine s_pick rfl rfl rfl rfl rfl ?_
    refine s_assign rfl rfl rfl rfl ?_
    refine vOrd_nil ?_
    refine Wp.ret ⟨.inr rfl, fun lW => ⟨_, res_tmp (P := Try.prog) rfl rfl, _, rfl, ?_, lW⟩⟩
    clear lW
    rfl
theorem law_times (n b : Int) (w : World) : Calls Try.prog 5 #[.int .i64 n, .int .i64 b] w fun e w' => ∃ r, e = .returned r ∧ r = .bool true ∧ Below w.heap.size w w' := by
  refine calls_Wp (args := [_, _]) (n := 77) Try.func5 rfl rfl (by simp) ?_
  refine Wp.seq ?_
  refine Wp.region [0] (by kernel_rfl) (by kernel_rfl) ?_
  refine s_assign rfl rfl rfl rfl ?_
  refine vOrd_nil ?_
  refine Wp.seq ?_
  refine Wp.region [0, 1, 2, 3, 4, 5, 6, 7, 8] (by kernel_rfl) (by kernel_rfl) ?_
  refine s_move rfl rfl rfl rfl ?_
  refine s_move rfl rfl rfl rfl ?_
  refine s_callT rfl rfl rfl (by kernel_rfl) rfl (ftime_any n b _) ?_
  rintro v w1 ⟨x, y, z, u, e, rfl, hb, hd⟩ lw1
  refine s_move rfl rfl rfl rfl ?_
  refine s_extract rfl rfl rfl rfl rfl ?_
  refine s_extract rfl rfl rfl rfl rfl ?_
  refine s_alloc rfl rfl rfl rfl rfl (fun bk2 w2 kb2 lw2 => ?_)
  refine s_store rfl rfl rfl rfl rfl rfl rfl (fun w3 sw3 vw3 => ?_)
  refine s_assign rfl rfl rfl rfl ?_
  refine vOrd_nil ?_
  refine Wp.seq ?_
  refine Wp.seq ?_
  refine Wp.region [0, 1, 2, 3, 4, 5, 6, 7, 8, 9, 10, 11, 12, 13] (by kernel_rfl) (by kernel_rfl) ?_
  refine s_move rfl rfl rfl rfl ?_
  refine p_lss rfl rfl rfl rfl rfl (fun h17 => ?_) (fun h17 => ?_)
  · refine s_move rfl rfl rfl rfl ?_
    refine s_skip rfl rfl rfl ?_
    refine s_skip rfl rfl rfl ?_
    refine s_pick rfl rfl rfl rfl rfl ?_
    refine s_move rfl rfl rfl rfl ?_
    refine s_skip rfl rfl rfl ?_
    refine s_skip rfl rfl rfl ?_
    refine s_pick rfl rfl rfl rfl rfl ?_
    refine s_move rfl rfl rfl rfl ?_
    refine s_skip rfl rfl rfl ?_
    refine s_skip rfl rfl rfl ?_
    refine s_pick rfl rfl rfl rfl rfl ?_
    refine vOrd_nil ?_
    refine Wp.condT rfl rfl ?_
    refine Wp.seq ?_
    obtain ⟨rfl, rfl, rfl, rfl, rfl⟩ := hb (okS_no.2 (by omega))
    refine Wp.region [0, 1, 2, 3, 4, 5, 6, 7, 8, 9, 10] (by kernel_rfl) (by kernel_rfl) ?_
    refine s_callT rfl rfl rfl (by kernel_rfl) rfl (fanswers_any _) ?_
    rintro v w4 rfl lw4
    refine s_move rfl rfl rfl rfl ?_
    refine s_move rfl rfl rfl rfl ?_
    refine t_eql rfl rfl rfl rfl rfl (by omega) ?_
    refine s_pick rfl rfl rfl rfl rfl ?_
    refine s_move rfl rfl rfl rfl ?_
    refine s_load rfl rfl rfl rfl rfl rfl rfl ?_
    refine s_build rfl rfl rfl rfl rfl (by kernel_rfl) ?_
    refine s_eqv (c := true) rfl rfl rfl rfl rfl (fun _ => by kernel_rfl) (fun w => by rw [run_eql_time, eqT_same]) ?_
    refine s_pick rfl rfl rfl rfl rfl ?_
    refine s_assign rfl rfl rfl rfl ?_
    refine vOrd_nil ?_
    refine Wp.ret ⟨.inr rfl, fun lW => ⟨_, res_tmp (P := Try.prog) rfl rfl, _, rfl, ?_, lW⟩⟩
    clear lW
    rfl
  · refine s_move rfl rfl rfl rfl ?_
    refine s_move rfl rfl rfl rfl ?_
    refine p_gtr rfl rfl rfl rfl rfl (fun h20 => ?_) (fun h20 => ?_)
    · refine s_pick rfl rfl rfl rfl rfl ?_
      refine s_move rfl rfl rfl rfl ?_
      refine s_skip rfl rfl rfl ?_
      refine s_skip rfl rfl rfl ?_
      refine s_pick rfl rfl rfl rfl rfl ?_
      refine s_move rfl rfl rfl rfl ?_
      refine s_skip rfl rfl rfl ?_
      refine s_skip rfl rfl rfl ?_
      refine s_pick rfl rfl rfl rfl rfl ?_
      refine vOrd_nil ?_
      refine Wp.condT rfl rfl ?_
      refine Wp.seq ?_
      obtain ⟨rfl, rfl, rfl, rfl, rfl⟩ := hb (okS_no.2 (by omega))
      refine Wp.region [0, 1, 2, 3, 4, 5, 6, 7, 8, 9, 10] (by kernel_rfl) (by kernel_rfl) ?_
      refine s_callT rfl rfl rfl (by kernel_rfl) rfl (fanswers_any _) ?_
      rintro v w6 rfl lw6
      refine s_move rfl rfl rfl rfl ?_
      refine s_move rfl rfl rfl rfl ?_
      refine t_eql rfl rfl rfl rfl rfl (by omega) ?_
      refine s_pick rfl rfl rfl rfl rfl ?_
      refine s_move rfl rfl rfl rfl ?_
      refine s_load rfl rfl rfl rfl rfl rfl rfl ?_
      refine s_build rfl rfl rfl rfl rfl (by kernel_rfl) ?_
      refine s_eqv (c := true) rfl rfl rfl rfl rfl (fun _ => by kernel_rfl) (fun w => by rw [run_eql_time, eqT_same]) ?_
      refine s_pick rfl rfl rfl rfl rfl ?_
      refine s_assign rfl rfl rfl rfl ?_
      refine vOrd_nil ?_
      refine Wp.ret ⟨.inr rfl, fun lW => ⟨_, res_tmp (P := Try.prog) rfl rfl, _, rfl, ?_, lW⟩⟩
      clear lW
      rfl
    · refine s_pick rfl rfl rfl rfl rfl ?_
      refine s_move rfl rfl rfl rfl ?_
      refine s_move rfl rfl rfl rfl ?_
      refine p_lss rfl rfl rfl rfl rfl (fun h24 => ?_) (fun h24 => ?_)
      · refine s_pick rfl rfl rfl rfl rfl ?_
        refine s_move rfl rfl rfl rfl ?_
        refine s_skip rfl rfl rfl ?_
        refine s_skip rfl rfl rfl ?_
        refine s_pick rfl rfl rfl rfl rfl ?_
        refine vOrd_nil ?_
        refine Wp.condT rfl rfl ?_
        refine Wp.seq ?_
        obtain ⟨rfl, rfl, rfl, rfl, rfl⟩ := hb (okS_no.2 (by omega))
        refine Wp.region [0, 1, 2, 3, 4, 5, 6, 7, 8, 9, 10] (by kernel_rfl) (by kernel_rfl) ?_
        refine s_callT rfl rfl rfl (by kernel_rfl) rfl (fanswers_any _) ?_
        rintro v w8 rfl lw8
        refine s_move rfl rfl rfl rfl ?_
        refine s_move rfl rfl rfl rfl ?_
        refine t_eql rfl rfl rfl rfl rfl (by omega) ?_
        refine s_pick rfl rfl rfl rfl rfl ?_
        refine s_move rfl rfl rfl rfl ?_
        refine s_load rfl rfl rfl rfl rfl rfl rfl ?_
        refine s_build rfl rfl rfl rfl rfl (by kernel_rfl) ?_
        refine s_eqv (c := true) rfl rfl rfl rfl rfl (fun _ => by kernel_rfl) (fun w => by rw [run_eql_time, eqT_same]) ?_
        refine s_pick rfl rfl rfl rfl rfl ?_
        refine s_assign rfl rfl rfl rfl ?_
        refine vOrd_nil ?_
        refine Wp.ret ⟨.inr rfl, fun lW => ⟨_, res_tmp (P := Try.prog) rfl rfl, _, rfl, ?_, lW⟩⟩
        clear lW
        rfl
      · refine s_pick rfl rfl rfl rfl rfl ?_
        refine s_move rfl rfl rfl rfl ?_
        refine s_move rfl rfl rfl rfl ?_
        refine p_geq rfl rfl rfl rfl rfl (fun h28 => ?_) (fun h28 => ?_)
        · refine s_pick rfl rfl rfl rfl rfl ?_
          refine vOrd_nil ?_
          refine Wp.condT rfl rfl ?_
          refine Wp.seq ?_
          obtain ⟨rfl, rfl, rfl, rfl, rfl⟩ := hb (okS_no.2 (by omega))
          refine Wp.region [0, 1, 2, 3, 4, 5, 6, 7, 8, 9, 10] (by kernel_rfl) (by kernel_rfl) ?_
          refine s_callT rfl rfl rfl (by kernel_rfl) rfl (fanswers_any _) ?_
          rintro v w10 rfl lw10
          refine s_move rfl rfl rfl rfl ?_
          refine s_move rfl rfl rfl rfl ?_
          refine t_eql rfl rfl rfl rfl rfl (by omega) ?_
          refine s_pick rfl rfl rfl rfl rfl ?_
          refine s_move rfl rfl rfl rfl ?_
          refine s_load rfl rfl rfl rfl rfl rfl rfl ?_
          refine s_build rfl rfl rfl rfl rfl (by kernel_rfl) ?_
          refine s_eqv (c := true) rfl rfl rfl rfl rfl (fun _ => by kernel_rfl) (fun w => by rw [run_eql_time, eqT_same]) ?_
          refine s_pick rfl rfl rfl rfl rfl ?_
          refine s_assign rfl rfl rfl rfl ?_
          refine vOrd_nil ?_
          refine Wp.ret ⟨.inr rfl, fun lW => ⟨_, res_tmp (P := Try.prog) rfl rfl, _, rfl, ?_, lW⟩⟩
          clear lW
          rfl
        · refine s_pick rfl rfl rfl rfl rfl ?_
          refine vOrd_nil ?_
          refine Wp.condF rfl rfl ?_
          refine Wp.skip ?_
          refine Wp.seq ?_
          obtain ⟨d1, d2, rfl, rfl, d5⟩ := hd (okS_iff.2 (by omega))
          obtain ⟨e1, e2, e3⟩ := sec_ok d1
          refine Wp.region [0, 1, 2, 3, 4, 5, 6, 7, 8] (by kernel_rfl) (by kernel_rfl) ?_
          refine s_load rfl rfl rfl rfl rfl rfl rfl ?_
          refine s_callT rfl rfl rfl (by kernel_rfl) rfl (fsec_any x y z u _) ?_
          rintro v w12 rfl lw12
          rw [e1, e2, e3, d2]
          refine s_move rfl rfl rfl rfl ?_
          refine s_extract rfl rfl rfl rfl rfl ?_
          refine s_extract rfl rfl rfl rfl rfl ?_
          refine s_extract rfl rfl rfl rfl rfl ?_
          refine s_assign rfl rfl rfl rfl ?_
          refine s_assign rfl rfl rfl rfl ?_
          refine s_assign rfl rfl rfl rfl ?_
          refine vOrd_nil ?_
          refine Wp.seq ?_
          refine Wp.region [0, 1, 2, 3, 4, 5, 6, 7, 8, 9, 10, 11, 12, 13, 14, 15, 16, 17, 18, 19, 20, 21, 22, 23, 24, 25, 26, 27, 28, 29, 30, 31] (by kernel_rfl) (by kernel_rfl) ?_
          refine s_callT rfl rfl rfl (by kernel_rfl) rfl (fanswers_any _) ?_
          rintro v w13 rfl lw13
          refine s_move rfl rfl rfl rfl ?_
          refine s_move rfl rfl rfl rfl ?_
          refine t_eql rfl rfl rfl rfl rfl (by omega) ?_
          refine s_pick rfl rfl rfl rfl rfl ?_
          refine s_move rfl rfl rfl rfl ?_
          refine s_load rfl rfl rfl rfl rfl rfl rfl ?_
          refine s_callT rfl rfl rfl (by kernel_rfl) rfl (rtime_any x y z u _) ?_
          rintro v w14 rfl lw14
          rw [d1]
          refine s_pick rfl rfl rfl rfl rfl ?_
          refine s_move rfl rfl rfl rfl ?_
          refine s_move rfl rfl rfl rfl ?_
          refine t_eql rfl rfl rfl rfl rfl (by omega) ?_
          refine s_pick rfl rfl rfl rfl rfl ?_
          refine s_move rfl rfl rfl rfl ?_
          refine s_move rfl rfl rfl rfl ?_
          refine s_move rfl rfl rfl rfl ?_
          refine t_eql rfl rfl rfl rfl rfl (by rfl) ?_
          refine s_pick rfl rfl rfl rfl rfl ?_
          refine s_move rfl rfl rfl rfl ?_
          refine s_move rfl rfl rfl rfl ?_
          refine s_move rfl rfl rfl rfl ?_
          refine t_eql rfl rfl rfl rfl rfl (by rfl) ?_
          refine s_pick rfl rfl rfl rfl rfl ?_
          refine s_move rfl rfl rfl rfl ?_
          refine s_field 2 rfl rfl rfl rfl rfl ?_
          refine s_load rfl rfl rfl rfl rfl rfl rfl ?_
          refine p_eql rfl rfl rfl rfl rfl (fun h72 => ?_) (fun h72 => ?_)
          · refine s_move rfl rfl rfl rfl ?_
            refine t_eql rfl rfl rfl rfl rfl (by exact d5.1 h72) ?_
            refine s_eqv (c := true) rfl rfl rfl rfl rfl (fun _ => by kernel_rfl) (fun w => by rw [run_eqlB, beq_self_eq_true]) ?_
            refine s_pick rfl rfl rfl rfl rfl ?_
            refine s_assign rfl rfl rfl rfl ?_
            refine vOrd_nil ?_
            refine Wp.ret ⟨.inr rfl, fun lW => ⟨_, res_tmp (P := Try.prog) rfl rfl, _, rfl, ?_, lW⟩⟩
            clear lW
            rfl
          · refine s_move rfl rfl rfl rfl ?_
            refine f_eql rfl rfl rfl rfl rfl (by exact fun q => h72 (d5.2 q)) ?_
            refine s_eqv (c := true) rfl rfl rfl rfl rfl (fun _ => by kernel_rfl) (fun w => by rw [run_eqlB, beq_self_eq_true]) ?_
            refine s_pick rfl rfl rfl rfl rfl ?_
            refine s_assign rfl rfl rfl rfl ?_
            refine vOrd_nil ?_
            refine Wp.ret ⟨.inr rfl, fun lW => ⟨_, res_tmp (P := Try.prog) rfl rfl, _, rfl, ?_, lW⟩⟩
            clear lW
            rfl
end Go.Proofs.Ytganhgafhhkepaa
