/-
  The contracts of greg's functions (P5.1, P5.2): Leap, Length, Valid, Day, Date, and the inner ones. The table of lengths is as the program lays it (Tab).
-/
import Derived.Test.YtephjnnhfelkkaaDoorGregA
namespace Go.Proofs.YtephjnnhfelkkaaDoor
open Go.RowKit
set_option maxRecDepth 100000

theorem leap_any (y : Int) (w : World) : Calls Tryd.prog 33 #[.int .i64 y] w fun e w' => ∃ r, e = .returned r ∧ r = .bool (lpB y) ∧ Below w.heap.size w w' := by
  have t4 := tmod_zero y 4
  have t100 := tmod_zero y 100
  have t400 := tmod_zero y 400
  refine calls_Wp (args := [_]) (n := 16) Tryd.func33 rfl rfl (by simp) ?_
  refine Wp.seq ?_
  refine Wp.region [0] (by kernel_rfl) (by kernel_rfl) ?_
  refine s_assign rfl rfl rfl rfl ?_
  refine vOrd_nil ?_
  refine Wp.seq ?_
  refine Wp.region [0, 1, 2, 3, 4, 5, 6, 7, 8, 9, 10, 11, 12, 13] (by kernel_rfl) (by kernel_rfl) ?_
  refine s_move rfl rfl rfl rfl ?_
  refine a_tmod rfl rfl rfl rfl rfl (by omega) ?_
  refine p_eql rfl rfl rfl rfl rfl (fun h5 => ?_) (fun h5 => ?_)
  · refine s_move rfl rfl rfl rfl ?_
    refine s_move rfl rfl rfl rfl ?_
    refine a_tmod rfl rfl rfl rfl rfl (by omega) ?_
    refine p_neq rfl rfl rfl rfl rfl (fun h9 => ?_) (fun h9 => ?_)
    · refine s_pick rfl rfl rfl rfl rfl ?_
      refine s_move rfl rfl rfl rfl ?_
      refine s_skip rfl rfl rfl ?_
      refine s_skip rfl rfl rfl ?_
      refine s_skip rfl rfl rfl ?_
      refine s_pick rfl rfl rfl rfl rfl ?_
      refine s_assign rfl rfl rfl rfl ?_
      refine vOrd_nil ?_
      refine Wp.ret ⟨.inr rfl, fun lW => ⟨_, res_tmp (P := Tryd.prog) rfl rfl, _, rfl, ?_, lW⟩⟩
      clear lW
      rw [lpB_iff.2 (by omega)]
    · refine s_pick rfl rfl rfl rfl rfl ?_
      refine s_move rfl rfl rfl rfl ?_
      refine s_move rfl rfl rfl rfl ?_
      refine a_tmod rfl rfl rfl rfl rfl (by omega) ?_
      refine p_eql rfl rfl rfl rfl rfl (fun h14 => ?_) (fun h14 => ?_)
      · refine s_pick rfl rfl rfl rfl rfl ?_
        refine s_assign rfl rfl rfl rfl ?_
        refine vOrd_nil ?_
        refine Wp.ret ⟨.inr rfl, fun lW => ⟨_, res_tmp (P := Tryd.prog) rfl rfl, _, rfl, ?_, lW⟩⟩
        clear lW
        rw [lpB_iff.2 (by omega)]
      · refine s_pick rfl rfl rfl rfl rfl ?_
        refine s_assign rfl rfl rfl rfl ?_
        refine vOrd_nil ?_
        refine Wp.ret ⟨.inr rfl, fun lW => ⟨_, res_tmp (P := Tryd.prog) rfl rfl, _, rfl, ?_, lW⟩⟩
        clear lW
        rw [lpB_no.2 (by omega)]
  · refine s_move rfl rfl rfl rfl ?_
    refine s_skip rfl rfl rfl ?_
    refine s_skip rfl rfl rfl ?_
    refine s_skip rfl rfl rfl ?_
    refine s_pick rfl rfl rfl rfl rfl ?_
    refine s_move rfl rfl rfl rfl ?_
    refine s_move rfl rfl rfl rfl ?_
    refine a_tmod rfl rfl rfl rfl rfl (by omega) ?_
    refine p_eql rfl rfl rfl rfl rfl (fun h14 => ?_) (fun h14 => ?_)
    · refine s_pick rfl rfl rfl rfl rfl ?_
      refine s_assign rfl rfl rfl rfl ?_
      refine vOrd_nil ?_
      refine Wp.ret ⟨.inr rfl, fun lW => ⟨_, res_tmp (P := Tryd.prog) rfl rfl, _, rfl, ?_, lW⟩⟩
      clear lW
      rw [lpB_iff.2 (by omega)]
    · refine s_pick rfl rfl rfl rfl rfl ?_
      refine s_assign rfl rfl rfl rfl ?_
      refine vOrd_nil ?_
      refine Wp.ret ⟨.inr rfl, fun lW => ⟨_, res_tmp (P := Tryd.prog) rfl rfl, _, rfl, ?_, lW⟩⟩
      clear lW
      rw [lpB_no.2 (by omega)]
theorem length_any (y m : Int) {w : World} (hT : Tab w) : Calls Tryd.prog 22 #[.int .i64 y, .int .i64 m] w fun e w' => ∃ r, e = .returned r ∧ r = .int .i64 (mlen y m) ∧ Below w.heap.size w w' := by
  refine calls_Wp (args := [_, _]) (n := 26) Tryd.func22 rfl rfl (by simp) ?_
  refine Wp.seq ?_
  refine Wp.region [0] (by kernel_rfl) (by kernel_rfl) ?_
  refine s_assign rfl rfl rfl rfl ?_
  refine vOrd_nil ?_
  refine Wp.seq ?_
  refine Wp.seq ?_
  refine Wp.region [0, 1, 2, 3, 4, 5] (by kernel_rfl) (by kernel_rfl) ?_
  refine s_move rfl rfl rfl rfl ?_
  refine p_lss rfl rfl rfl rfl rfl (fun h6 => ?_) (fun h6 => ?_)
  · refine s_move rfl rfl rfl rfl ?_
    refine s_skip rfl rfl rfl ?_
    refine s_skip rfl rfl rfl ?_
    refine s_pick rfl rfl rfl rfl rfl ?_
    refine vOrd_nil ?_
    refine Wp.condT rfl rfl ?_
    refine Wp.seq ?_
    refine Wp.region [0] (by kernel_rfl) (by kernel_rfl) ?_
    refine s_assign rfl rfl rfl rfl ?_
    refine vOrd_nil ?_
    refine Wp.ret ⟨.inr rfl, fun lW => ⟨_, res_tmp (P := Tryd.prog) rfl rfl, _, rfl, ?_, lW⟩⟩
    clear lW
    rw [mlen_out (by omega)]
  · refine s_move rfl rfl rfl rfl ?_
    refine s_move rfl rfl rfl rfl ?_
    refine p_gtr rfl rfl rfl rfl rfl (fun h9 => ?_) (fun h9 => ?_)
    · refine s_pick rfl rfl rfl rfl rfl ?_
      refine vOrd_nil ?_
      refine Wp.condT rfl rfl ?_
      refine Wp.seq ?_
      refine Wp.region [0] (by kernel_rfl) (by kernel_rfl) ?_
      refine s_assign rfl rfl rfl rfl ?_
      refine vOrd_nil ?_
      refine Wp.ret ⟨.inr rfl, fun lW => ⟨_, res_tmp (P := Tryd.prog) rfl rfl, _, rfl, ?_, lW⟩⟩
      clear lW
      rw [mlen_out (by omega)]
    · refine s_pick rfl rfl rfl rfl rfl ?_
      refine vOrd_nil ?_
      refine Wp.condF rfl rfl ?_
      refine Wp.skip ?_
      refine Wp.seq ?_
      refine Wp.seq ?_
      refine Wp.old (fun lo => ?_)
      have tb := hT.later lo
      clear lo
      refine Wp.region [0, 1, 2, 3, 4, 5] (by kernel_rfl) (by kernel_rfl) ?_
      refine s_move rfl rfl rfl rfl ?_
      refine p_eql rfl rfl rfl rfl rfl (fun h12 => ?_) (fun h12 => ?_)
      · refine s_move rfl rfl rfl rfl ?_
        refine s_move rfl rfl rfl rfl ?_
        refine s_callT rfl rfl rfl (by kernel_rfl) rfl (leap_any y _) ?_
        rintro v w1 rfl lw1
        replace tb := tb.later lw1
        refine s_pick rfl rfl rfl rfl rfl ?_
        refine vOrd_nil ?_
        refine Wp.cond rfl (okOpd_spec rfl) (fun c16 => ?_) (fun c16 => ?_)
        · refine Wp.seq ?_
          refine Wp.old (fun lo => ?_)
          have tb := hT.later lo
          clear lo
          refine Wp.region [0, 1, 2, 3, 4, 5] (by kernel_rfl) (by kernel_rfl) ?_
          refine s_move rfl rfl rfl rfl ?_
          refine a_sub (-9223372036854775808) 9223372036854775807 (by decide) rfl rfl rfl rfl rfl (by omega) (by omega) ?_
          refine s_idxA (sz := 1) (m - 1).toNat rfl rfl rfl rfl rfl rfl rfl (by omega) (by show (m - 1 : Int) < ((12 : Nat) : Int); omega) (by omega) ?_
          refine x_ldc rfl rfl rfl rfl rfl (tb.at (by omega) (by omega)) ?_
          refine a_add (-9223372036854775808) 9223372036854775807 (by decide) rfl rfl rfl rfl rfl (by rw [h12]; decide) (by rw [h12]; decide) ?_
          refine s_assign rfl rfl rfl rfl ?_
          refine vOrd_nil ?_
          refine Wp.ret ⟨.inr rfl, fun lW => ⟨_, res_tmp (P := Tryd.prog) rfl rfl, _, rfl, ?_, lW⟩⟩
          clear lW
          rw [h12, mlen_two, lp_yes c16]; rfl
        · refine Wp.skip ?_
          refine Wp.seq ?_
          refine Wp.old (fun lo => ?_)
          have tb := hT.later lo
          clear lo
          refine Wp.region [0, 1, 2, 3, 4] (by kernel_rfl) (by kernel_rfl) ?_
          refine s_move rfl rfl rfl rfl ?_
          refine a_sub (-9223372036854775808) 9223372036854775807 (by decide) rfl rfl rfl rfl rfl (by omega) (by omega) ?_
          refine s_idxA (sz := 1) (m - 1).toNat rfl rfl rfl rfl rfl rfl rfl (by omega) (by show (m - 1 : Int) < ((12 : Nat) : Int); omega) (by omega) ?_
          refine x_ldc rfl rfl rfl rfl rfl (tb.at (by omega) (by omega)) ?_
          refine s_assign rfl rfl rfl rfl ?_
          refine vOrd_nil ?_
          refine Wp.ret ⟨.inr rfl, fun lW => ⟨_, res_tmp (P := Tryd.prog) rfl rfl, _, rfl, ?_, lW⟩⟩
          clear lW
          rw [h12, mlen_two, lp_no c16]; rfl
      · refine s_move rfl rfl rfl rfl ?_
        refine s_skip rfl rfl rfl ?_
        refine s_skip rfl rfl rfl ?_
        refine s_pick rfl rfl rfl rfl rfl ?_
        refine vOrd_nil ?_
        refine Wp.condF rfl rfl ?_
        refine Wp.skip ?_
        refine Wp.seq ?_
        refine Wp.old (fun lo => ?_)
        have tb := hT.later lo
        clear lo
        refine Wp.region [0, 1, 2, 3, 4] (by kernel_rfl) (by kernel_rfl) ?_
        refine s_move rfl rfl rfl rfl ?_
        refine a_sub (-9223372036854775808) 9223372036854775807 (by decide) rfl rfl rfl rfl rfl (by omega) (by omega) ?_
        refine s_idxA (sz := 1) (m - 1).toNat rfl rfl rfl rfl rfl rfl rfl (by omega) (by show (m - 1 : Int) < ((12 : Nat) : Int); omega) (by omega) ?_
        refine x_ldc rfl rfl rfl rfl rfl (tb.at (by omega) (by omega)) ?_
        refine s_assign rfl rfl rfl rfl ?_
        refine vOrd_nil ?_
        refine Wp.ret ⟨.inr rfl, fun lW => ⟨_, res_tmp (P := Tryd.prog) rfl rfl, _, rfl, ?_, lW⟩⟩
        clear lW
        rw [mlen_tab (by omega) (by omega) h12]
theorem gvalid_any (y m d : Int) {w : World} (hT : Tab w) : Calls Tryd.prog 35 #[.agg #[.int .i64 y, .int .i64 m, .int .i64 d]] w fun e w' => ∃ r, e = .returned r ∧ r = .bool (isD y m d) ∧ Below w.heap.size w w' := by
  refine calls_Wp (args := [_]) (n := 16) Tryd.func35 rfl rfl (by simp) ?_
  refine Wp.seq ?_
  refine Wp.region [0, 1] (by kernel_rfl) (by kernel_rfl) ?_
  refine s_box rfl rfl rfl rfl rfl rfl (fun bk1 w1 kb1 lw1 => ?_)
  refine s_assign rfl rfl rfl rfl ?_
  refine vOrd_nil ?_
  refine Wp.seq ?_
  refine Wp.old (fun lo => ?_)
  have tb := hT.later lo
  clear lo
  refine (Wp.drawn (by kernel_rfl) (by kernel_rfl) [0, 1, 2, 3, 4, 5, 6, 7, 8, 9, 10, 11, 12, 13] [0, 0, 0, 0, 1999, 2015, 831, 895, 0, 0, 0, 0, 0, 0] (by kernel_rfl) (by kernel_rfl) (fun | 10 => fun v _ => v = .int .i64 (mlen y m) | _ => fun _ _ => True) (fun wd ld => ?_))
  replace tb := tb.later ld
  clear ld
  refine s_field 2 rfl rfl rfl rfl rfl ?_
  refine s_load rfl rfl rfl rfl rfl rfl rfl ?_
  refine p_geq rfl rfl rfl rfl rfl (fun h5 => ?_) (fun h5 => ?_)
  · refine s_move rfl rfl rfl rfl ?_
    refine s_field 2 rfl rfl rfl rfl rfl ?_
    refine s_load rfl rfl rfl rfl rfl rfl rfl ?_
    refine s_field 0 rfl rfl rfl rfl rfl ?_
    refine s_load rfl rfl rfl rfl rfl rfl rfl ?_
    refine s_field 1 rfl rfl rfl rfl rfl ?_
    refine s_load rfl rfl rfl rfl rfl rfl rfl ?_
    refine s_callD rfl rfl rfl (by kernel_rfl) rfl (fun wc lc => length_any y m (tb.later lc)) ?_
    rintro v w2 u2 rfl lw2 mw2
    replace tb := (tb.later lw2).later mw2
    refine p_leq rfl rfl rfl rfl rfl (fun h14 => ?_) (fun h14 => ?_)
    · refine s_pick rfl rfl rfl rfl rfl ?_
      refine s_assign rfl rfl rfl rfl ?_
      refine vOrd_nil ?_
      refine Wp.ret ⟨.inr rfl, fun lW => ⟨_, res_tmp (P := Tryd.prog) rfl rfl, _, rfl, ?_, lW⟩⟩
      clear lW
      rw [isD_iff.2 ⟨by omega, h14⟩]
    · refine s_pick rfl rfl rfl rfl rfl ?_
      refine s_assign rfl rfl rfl rfl ?_
      refine vOrd_nil ?_
      refine Wp.ret ⟨.inr rfl, fun lW => ⟨_, res_tmp (P := Tryd.prog) rfl rfl, _, rfl, ?_, lW⟩⟩
      clear lW
      rw [isD_no.2 (by omega)]
  · refine s_move rfl rfl rfl rfl ?_
    refine s_skip rfl rfl rfl ?_
    refine s_skip rfl rfl rfl ?_
    refine s_skip rfl rfl rfl ?_
    refine s_skip rfl rfl rfl ?_
    refine s_skip rfl rfl rfl ?_
    refine s_skip rfl rfl rfl ?_
    refine s_skip rfl rfl rfl ?_
    refine s_skip rfl rfl rfl ?_
    refine s_pick rfl rfl rfl rfl rfl ?_
    refine s_assign rfl rfl rfl rfl ?_
    refine vOrd_nil ?_
    refine Wp.ret ⟨.inr rfl, fun lW => ⟨_, res_tmp (P := Tryd.prog) rfl rfl, _, rfl, ?_, lW⟩⟩
    clear lW
    rw [isD_no.2 (by omega)]
theorem inr_any (n : Int) (w : World) : Calls Tryd.prog 29 #[.int .i64 n] w fun e w' => ∃ r, e = .returned r ∧ r = .bool (inB n) ∧ Below w.heap.size w w' := by
  refine calls_Wp (args := [_]) (n := 9) Tryd.func29 rfl rfl (by simp) ?_
  refine Wp.seq ?_
  refine Wp.region [0] (by kernel_rfl) (by kernel_rfl) ?_
  refine s_assign rfl rfl rfl rfl ?_
  refine vOrd_nil ?_
  refine Wp.seq ?_
  refine Wp.region [0, 1, 2, 3, 4, 5, 6] (by kernel_rfl) (by kernel_rfl) ?_
  refine s_move rfl rfl rfl rfl ?_
  refine p_geq rfl rfl rfl rfl rfl (fun h4 => ?_) (fun h4 => ?_)
  · refine s_move rfl rfl rfl rfl ?_
    refine s_move rfl rfl rfl rfl ?_
    refine p_leq rfl rfl rfl rfl rfl (fun h7 => ?_) (fun h7 => ?_)
    · refine s_pick rfl rfl rfl rfl rfl ?_
      refine s_assign rfl rfl rfl rfl ?_
      refine vOrd_nil ?_
      refine Wp.ret ⟨.inr rfl, fun lW => ⟨_, res_tmp (P := Tryd.prog) rfl rfl, _, rfl, ?_, lW⟩⟩
      clear lW
      rw [inB_iff.2 (by omega)]
    · refine s_pick rfl rfl rfl rfl rfl ?_
      refine s_assign rfl rfl rfl rfl ?_
      refine vOrd_nil ?_
      refine Wp.ret ⟨.inr rfl, fun lW => ⟨_, res_tmp (P := Tryd.prog) rfl rfl, _, rfl, ?_, lW⟩⟩
      clear lW
      rw [inB_no.2 (by omega)]
  · refine s_move rfl rfl rfl rfl ?_
    refine s_skip rfl rfl rfl ?_
    refine s_skip rfl rfl rfl ?_
    refine s_pick rfl rfl rfl rfl rfl ?_
    refine s_assign rfl rfl rfl rfl ?_
    refine vOrd_nil ?_
    refine Wp.ret ⟨.inr rfl, fun lW => ⟨_, res_tmp (P := Tryd.prog) rfl rfl, _, rfl, ?_, lW⟩⟩
    clear lW
    rw [inB_no.2 (by omega)]
theorem ahead_any (y : Int) (h0 : 0 ≤ y) (h1 : y ≤ 400) (w : World) : Calls Tryd.prog 32 #[.int .i64 y] w fun e w' => ∃ r, e = .returned r ∧ r = .int .i64 (ahead y) ∧ Below w.heap.size w w' := by
  refine calls_Wp (args := [_]) (n := 17) Tryd.func32 rfl rfl (by simp) ?_
  refine Wp.seq ?_
  refine Wp.region [0] (by kernel_rfl) (by kernel_rfl) ?_
  refine s_assign rfl rfl rfl rfl ?_
  refine vOrd_nil ?_
  refine Wp.seq ?_
  refine Wp.region [0, 1, 2, 3, 4, 5, 6, 7, 8, 9, 10, 11, 12, 13, 14] (by kernel_rfl) (by kernel_rfl) ?_
  refine s_move rfl rfl rfl rfl ?_
  refine a_mul (-9223372036854775808) 9223372036854775807 (by decide) rfl rfl rfl rfl rfl (by omega) (by omega) ?_
  refine s_move rfl rfl rfl rfl ?_
  refine a_add (-9223372036854775808) 9223372036854775807 (by decide) rfl rfl rfl rfl rfl (by omega) (by omega) ?_
  refine a_quo rfl rfl rfl rfl rfl (by omega) (by omega) (by show _ ≤ (9223372036854775807 : Int); omega) ?_
  refine a_add (-9223372036854775808) 9223372036854775807 (by decide) rfl rfl rfl rfl rfl (by omega) (by omega) ?_
  refine s_move rfl rfl rfl rfl ?_
  refine a_add (-9223372036854775808) 9223372036854775807 (by decide) rfl rfl rfl rfl rfl (by omega) (by omega) ?_
  refine a_quo rfl rfl rfl rfl rfl (by omega) (by omega) (by show _ ≤ (9223372036854775807 : Int); omega) ?_
  refine a_sub (-9223372036854775808) 9223372036854775807 (by decide) rfl rfl rfl rfl rfl (by omega) (by omega) ?_
  refine s_move rfl rfl rfl rfl ?_
  refine a_add (-9223372036854775808) 9223372036854775807 (by decide) rfl rfl rfl rfl rfl (by omega) (by omega) ?_
  refine a_quo rfl rfl rfl rfl rfl (by omega) (by omega) (by show _ ≤ (9223372036854775807 : Int); omega) ?_
  refine a_add (-9223372036854775808) 9223372036854775807 (by decide) rfl rfl rfl rfl rfl (by omega) (by omega) ?_
  refine s_assign rfl rfl rfl rfl ?_
  refine vOrd_nil ?_
  refine Wp.ret ⟨.inr rfl, fun lW => ⟨_, res_tmp (P := Tryd.prog) rfl rfl, _, rfl, ?_, lW⟩⟩
  clear lW
  rfl
theorem yearOf_any (n : Int) (h0 : 0 ≤ n) (h1 : n ≤ 146096) (w : World) : Calls Tryd.prog 31 #[.int .i64 n] w fun e w' => ∃ r, e = .returned r ∧ (∃ y, r = .int .i64 y ∧ 0 ≤ y ∧ y < 400 ∧ ahead y ≤ n ∧ n < ahead (y + 1)) ∧ Below w.heap.size w w' := by
  have g := year_guess h0 h1
  refine calls_Wp (args := [_]) (n := 14) Tryd.func31 rfl rfl (by simp) ?_
  refine Wp.seq ?_
  refine Wp.region [0] (by kernel_rfl) (by kernel_rfl) ?_
  refine s_assign rfl rfl rfl rfl ?_
  refine vOrd_nil ?_
  refine Wp.seq ?_
  refine Wp.region [0, 1, 2] (by kernel_rfl) (by kernel_rfl) ?_
  refine s_move rfl rfl rfl rfl ?_
  refine a_quo rfl rfl rfl rfl rfl (by omega) (by omega) (by show _ ≤ (9223372036854775807 : Int); omega) ?_
  refine s_assign rfl rfl rfl rfl ?_
  refine vOrd_nil ?_
  refine Wp.seq ?_
  refine Wp.seq ?_
  refine Wp.region [0, 1, 2, 3, 4] (by kernel_rfl) (by kernel_rfl) ?_
  refine s_move rfl rfl rfl rfl ?_
  refine a_add (-9223372036854775808) 9223372036854775807 (by decide) rfl rfl rfl rfl rfl (by omega) (by omega) ?_
  refine s_callT rfl rfl rfl (by kernel_rfl) rfl (ahead_any (n / 366 + 1) (by omega) (by omega) _) ?_
  rintro v w1 rfl lw1
  refine s_move rfl rfl rfl rfl ?_
  refine p_leq rfl rfl rfl rfl rfl (fun h10 => ?_) (fun h10 => ?_)
  · refine vOrd_nil ?_
    refine Wp.condT rfl rfl ?_
    refine Wp.region [0, 1, 2] (by kernel_rfl) (by kernel_rfl) ?_
    refine s_move rfl rfl rfl rfl ?_
    refine a_add (-9223372036854775808) 9223372036854775807 (by decide) rfl rfl rfl rfl rfl (by omega) (by omega) ?_
    refine s_assign rfl rfl rfl rfl ?_
    refine vOrd_nil ?_
    refine Wp.seq ?_
    refine Wp.region [0, 1] (by kernel_rfl) (by kernel_rfl) ?_
    refine s_move rfl rfl rfl rfl ?_
    refine s_assign rfl rfl rfl rfl ?_
    refine vOrd_nil ?_
    refine Wp.ret ⟨.inr rfl, fun lW => ⟨_, res_tmp (P := Tryd.prog) rfl rfl, _, rfl, ?_, lW⟩⟩
    clear lW
    have hne : n / 366 + 1 ≠ 400 := fun e => by rw [e, ahead_400] at h10; omega
    exact ⟨_, rfl, by omega, by omega, h10, by rw [show n / 366 + 1 + 1 = n / 366 + 2 by omega]; exact g.2⟩
  · refine vOrd_nil ?_
    refine Wp.condF rfl rfl ?_
    refine Wp.skip ?_
    refine Wp.seq ?_
    refine Wp.region [0, 1] (by kernel_rfl) (by kernel_rfl) ?_
    refine s_move rfl rfl rfl rfl ?_
    refine s_assign rfl rfl rfl rfl ?_
    refine vOrd_nil ?_
    refine Wp.ret ⟨.inr rfl, fun lW => ⟨_, res_tmp (P := Tryd.prog) rfl rfl, _, rfl, ?_, lW⟩⟩
    clear lW
    exact ⟨_, rfl, by omega, by omega, g.1, by omega⟩
theorem divide_any (n d : Int) (hd : 0 < d) (hd1 : d ≤ 2147483648) (h0 : -4611686018427387904 ≤ n) (h1 : n ≤ 4611686018427387904) (w : World) : Calls Tryd.prog 30 #[.int .i64 n, .int .i64 d] w fun e w' => ∃ r, e = .returned r ∧ r = .tuple #[.int .i64 (n / d), .int .i64 (n % d)] ∧ Below w.heap.size w w' := by
  have hq := tdiv_le (n := n) hd
  have hm := tmod_in (n := n) hd
  refine calls_Wp (args := [_, _]) (n := 21) Tryd.func30 rfl rfl (by simp) ?_
  refine Wp.seq ?_
  refine Wp.region [0, 1] (by kernel_rfl) (by kernel_rfl) ?_
  refine s_assign rfl rfl rfl rfl ?_
  refine s_assign rfl rfl rfl rfl ?_
  refine vOrd_nil ?_
  refine Wp.seq ?_
  refine (Wp.drawn (by kernel_rfl) (by kernel_rfl) [0, 1, 2, 3, 4, 5, 6, 7] [58, 57, 59, 87, 79, 95, 0, 0] (by kernel_rfl) (by kernel_rfl) (fun _ _ _ => True) (fun _ _ => ?_))
  refine s_move rfl rfl rfl rfl ?_
  refine s_move rfl rfl rfl rfl ?_
  refine a_tquo rfl rfl rfl rfl rfl (by omega) (by show (-9223372036854775808 : Int) ≤ _; omega) (by show _ ≤ (9223372036854775807 : Int); omega) ?_
  refine s_move rfl rfl rfl rfl ?_
  refine s_move rfl rfl rfl rfl ?_
  refine a_tmod rfl rfl rfl rfl rfl (by omega) ?_
  refine s_assign rfl rfl rfl rfl ?_
  refine s_assign rfl rfl rfl rfl ?_
  refine vOrd_nil ?_
  refine Wp.seq ?_
  refine Wp.seq ?_
  refine Wp.region [0, 1] (by kernel_rfl) (by kernel_rfl) ?_
  refine s_move rfl rfl rfl rfl ?_
  refine p_lss rfl rfl rfl rfl rfl (fun h13 => ?_) (fun h13 => ?_)
  · refine vOrd_nil ?_
    refine Wp.condT rfl rfl ?_
    refine Wp.region [0, 1, 2, 3, 4, 5, 6] (by kernel_rfl) (by kernel_rfl) ?_
    refine s_move rfl rfl rfl rfl ?_
    refine a_sub (-9223372036854775808) 9223372036854775807 (by decide) rfl rfl rfl rfl rfl (by omega) (by omega) ?_
    refine s_move rfl rfl rfl rfl ?_
    refine s_move rfl rfl rfl rfl ?_
    refine a_add (-9223372036854775808) 9223372036854775807 (by decide) rfl rfl rfl rfl rfl (by omega) (by omega) ?_
    refine s_assign rfl rfl rfl rfl ?_
    refine s_assign rfl rfl rfl rfl ?_
    refine vOrd_nil ?_
    refine Wp.seq ?_
    refine Wp.region [0, 1, 2, 3] (by kernel_rfl) (by kernel_rfl) ?_
    refine s_move rfl rfl rfl rfl ?_
    refine s_move rfl rfl rfl rfl ?_
    refine s_assign rfl rfl rfl rfl ?_
    refine s_assign rfl rfl rfl rfl ?_
    refine vOrd_nil ?_
    refine Wp.ret ⟨.inr rfl, fun lW => ⟨_, ⟨_, _, res_tmp (P := Tryd.prog) rfl rfl, res_tmp (P := Tryd.prog) rfl rfl, rfl⟩, _, rfl, ?_, lW⟩⟩
    clear lW
    have e := tdiv_low hd h13
    rw [e.1, e.2]
  · refine vOrd_nil ?_
    refine Wp.condF rfl rfl ?_
    refine Wp.skip ?_
    refine Wp.seq ?_
    refine Wp.region [0, 1, 2, 3] (by kernel_rfl) (by kernel_rfl) ?_
    refine s_move rfl rfl rfl rfl ?_
    refine s_move rfl rfl rfl rfl ?_
    refine s_assign rfl rfl rfl rfl ?_
    refine s_assign rfl rfl rfl rfl ?_
    refine vOrd_nil ?_
    refine Wp.ret ⟨.inr rfl, fun lW => ⟨_, ⟨_, _, res_tmp (P := Tryd.prog) rfl rfl, res_tmp (P := Tryd.prog) rfl rfl, rfl⟩, _, rfl, ?_, lW⟩⟩
    clear lW
    have e := tdiv_high hd (by omega : 0 ≤ n.tmod d)
    rw [e.1, e.2]
theorem gday_any (y m d : Int) (y0 : -9223372036854775808 ≤ y) (y1 : y ≤ 9223372036854775807) {w : World} (hT : Tab w) : Calls Tryd.prog 25 #[.agg #[.int .i64 y, .int .i64 m, .int .i64 d]] w fun e w' => ∃ r, e = .returned r ∧ r = .tuple #[.int .i64 (dayV y m d), .int .i64 (dayE y m d)] ∧ Below w.heap.size w w' := by
  refine calls_Wp (args := [_]) (n := 50) Tryd.func25 rfl rfl (by simp) ?_
  refine Wp.seq ?_
  refine Wp.region [0, 1, 2] (by kernel_rfl) (by kernel_rfl) ?_
  refine s_box rfl rfl rfl rfl rfl rfl (fun bk1 w1 kb1 lw1 => ?_)
  refine s_assign rfl rfl rfl rfl ?_
  refine s_assign rfl rfl rfl rfl ?_
  refine vOrd_nil ?_
  refine Wp.seq ?_
  refine Wp.seq ?_
  refine Wp.old (fun lo => ?_)
  have tb := hT.later lo
  clear lo
  refine Wp.region [0, 1, 2] (by kernel_rfl) (by kernel_rfl) ?_
  refine s_load rfl rfl rfl rfl rfl rfl rfl ?_
  refine s_callT rfl rfl rfl (by kernel_rfl) rfl (gvalid_any y m d tb) ?_
  rintro v w2 rfl lw2
  replace tb := tb.later lw2
  refine s_not rfl rfl rfl rfl ?_
  refine vOrd_nil ?_
  refine Wp.cond rfl (okOpd_spec rfl) (fun c10 => ?_) (fun c10 => ?_)
  · have hD : isD y m d = false := by simpa using c10
    refine Wp.seq ?_
    refine Wp.region [0, 1] (by kernel_rfl) (by kernel_rfl) ?_
    refine s_assign rfl rfl rfl rfl ?_
    refine s_assign rfl rfl rfl rfl ?_
    refine vOrd_nil ?_
    refine Wp.ret ⟨.inr rfl, fun lW => ⟨_, ⟨_, _, res_tmp (P := Tryd.prog) rfl rfl, res_tmp (P := Tryd.prog) rfl rfl, rfl⟩, _, rfl, ?_, lW⟩⟩
    clear lW
    rw [(dayE_bad hD).1, (dayE_bad hD).2]
  · have hD : isD y m d = true := by simpa using c10
    obtain ⟨d1, d2⟩ := isD_iff.1 hD
    obtain ⟨m1, m2⟩ := mlen_month d1 d2
    have hml := mlen_le y m
    refine Wp.skip ?_
    refine Wp.seq ?_
    refine Wp.seq ?_
    refine Wp.region [0, 1, 2, 3, 4, 5, 6, 7] (by kernel_rfl) (by kernel_rfl) ?_
    refine s_field 0 rfl rfl rfl rfl rfl ?_
    refine s_load rfl rfl rfl rfl rfl rfl rfl ?_
    refine p_lss rfl rfl rfl rfl rfl (fun h13 => ?_) (fun h13 => ?_)
    · refine s_move rfl rfl rfl rfl ?_
      refine s_skip rfl rfl rfl ?_
      refine s_skip rfl rfl rfl ?_
      refine s_skip rfl rfl rfl ?_
      refine s_pick rfl rfl rfl rfl rfl ?_
      refine vOrd_nil ?_
      refine Wp.condT rfl rfl ?_
      refine Wp.seq ?_
      refine Wp.region [0, 1] (by kernel_rfl) (by kernel_rfl) ?_
      refine s_assign rfl rfl rfl rfl ?_
      refine s_assign rfl rfl rfl rfl ?_
      refine vOrd_nil ?_
      refine Wp.ret ⟨.inr rfl, fun lW => ⟨_, ⟨_, _, res_tmp (P := Tryd.prog) rfl rfl, res_tmp (P := Tryd.prog) rfl rfl, rfl⟩, _, rfl, ?_, lW⟩⟩
      clear lW
      have hf := dayE_far hD (year_far hD (by omega))
      rw [hf.1, hf.2]
    · refine s_move rfl rfl rfl rfl ?_
      refine s_field 0 rfl rfl rfl rfl rfl ?_
      refine s_load rfl rfl rfl rfl rfl rfl rfl ?_
      refine p_gtr rfl rfl rfl rfl rfl (fun h17 => ?_) (fun h17 => ?_)
      · refine s_pick rfl rfl rfl rfl rfl ?_
        refine vOrd_nil ?_
        refine Wp.condT rfl rfl ?_
        refine Wp.seq ?_
        refine Wp.region [0, 1] (by kernel_rfl) (by kernel_rfl) ?_
        refine s_assign rfl rfl rfl rfl ?_
        refine s_assign rfl rfl rfl rfl ?_
        refine vOrd_nil ?_
        refine Wp.ret ⟨.inr rfl, fun lW => ⟨_, ⟨_, _, res_tmp (P := Tryd.prog) rfl rfl, res_tmp (P := Tryd.prog) rfl rfl, rfl⟩, _, rfl, ?_, lW⟩⟩
        clear lW
        have hf := dayE_far hD (year_far hD (by omega))
        rw [hf.1, hf.2]
      · refine s_pick rfl rfl rfl rfl rfl ?_
        refine vOrd_nil ?_
        refine Wp.condF rfl rfl ?_
        refine Wp.skip ?_
        refine Wp.seq ?_
        refine Wp.old (fun lo => ?_)
        have tb := hT.later lo
        clear lo
        refine Wp.region [0, 1, 2, 3, 4, 5, 6, 7] (by kernel_rfl) (by kernel_rfl) ?_
        refine s_field 0 rfl rfl rfl rfl rfl ?_
        refine s_load rfl rfl rfl rfl rfl rfl rfl ?_
        refine s_callT rfl rfl rfl (by kernel_rfl) rfl (divide_any y 400 (by omega) (by omega) (by omega) (by omega) _) ?_
        rintro v w3 rfl lw3
        replace tb := tb.later lw3
        refine s_move rfl rfl rfl rfl ?_
        refine s_extract rfl rfl rfl rfl rfl ?_
        refine s_extract rfl rfl rfl rfl rfl ?_
        refine s_assign rfl rfl rfl rfl ?_
        refine s_assign rfl rfl rfl rfl ?_
        refine vOrd_nil ?_
        refine Wp.seq ?_
        have ha := ahead_in (y := y % 400) (by omega) (by omega)
        have hF := first_in (y := y) (by omega) (by omega)
        refine Wp.old (fun lo => ?_)
        have tb := hT.later lo
        clear lo
        refine (Wp.drawn (by kernel_rfl) (by kernel_rfl) [0, 1, 2, 3, 6, 7, 4, 5, 8, 9, 10] [216, 217, 219, 199, 63, 127, 0, 0, 0, 0, 0] (by kernel_rfl) (by kernel_rfl) (fun | 4 => fun v _ => v = .int .i64 (ahead (y % 400)) | _ => fun _ _ => True) (fun wd ld => ?_))
        replace tb := tb.later ld
        clear ld
        refine s_move rfl rfl rfl rfl ?_
        refine a_mul (-9223372036854775808) 9223372036854775807 (by decide) rfl rfl rfl rfl rfl (by omega) (by omega) ?_
        refine a_add (-9223372036854775808) 9223372036854775807 (by decide) rfl rfl rfl rfl rfl (by omega) (by omega) ?_
        refine s_move rfl rfl rfl rfl ?_
        refine s_field 2 rfl rfl rfl rfl rfl ?_
        refine s_load rfl rfl rfl rfl rfl rfl rfl ?_
        refine s_callD rfl rfl rfl (by kernel_rfl) rfl (fun wc lc => ahead_any (y % 400) (by omega) (by omega) wc) ?_
        rintro v w4 u4 rfl lw4 mw4
        replace tb := (tb.later lw4).later mw4
        refine a_add (-9223372036854775808) 9223372036854775807 (by decide) rfl rfl rfl rfl rfl (by omega) (by omega) ?_
        refine a_add (-9223372036854775808) 9223372036854775807 (by decide) rfl rfl rfl rfl rfl (by omega) (by omega) ?_
        refine a_sub (-9223372036854775808) 9223372036854775807 (by decide) rfl rfl rfl rfl rfl (by omega) (by omega) ?_
        refine s_assign rfl rfl rfl rfl ?_
        refine vOrd_nil ?_
        refine Wp.seq ?_
        refine Wp.seq ?_
        refine Wp.region [0] (by kernel_rfl) (by kernel_rfl) ?_
        refine s_assign rfl rfl rfl rfl ?_
        refine vOrd_nil ?_
        refine Wp.block ?_
        refine Wp.loop (fun k st _ => ∃ (j N : Int) (b1 : Nat), st = St.of [(1, .p 1 b1 0), (5, .v (.int .i64 (y % 400))), (6, .v (.int .i64 N)), (7, .v (.int .i64 j))] [(1, b1, [.int .i64 y, .int .i64 m, .int .i64 d])] ∧ N = firstD y + d - 1 + cum y j ∧ 1 ≤ j ∧ j ≤ m ∧ k = (m - j).toNat) ?_ ?_
        · exact ⟨_, _, (St.of_le' (env := [(1, .p 1 _ 0), (5, .v _), (6, .v _), (7, .v _)]) (mem := [(1, _, [_, _, _])]) ⟨rfl, rfl, rfl, rfl, trivial⟩ ⟨rfl, trivial⟩), 1, _, _, rfl, by have := first_cycle y; have := cum_one y; omega, by omega, by omega, rfl⟩
        · rintro k st w5 ⟨j, N, b1, rfl, hN, j1, j2, rfl⟩
          refine Wp.seq ?_
          refine Wp.seq ?_
          refine Wp.region [0, 1, 2, 3] (by kernel_rfl) (by kernel_rfl) ?_
          refine s_move rfl rfl rfl rfl ?_
          refine s_field 1 rfl rfl rfl rfl rfl ?_
          refine s_load rfl rfl rfl rfl rfl rfl rfl ?_
          refine p_lss rfl rfl rfl rfl rfl (fun h38 => ?_) (fun h38 => ?_)
          · refine vOrd_nil ?_
            refine Wp.condT rfl rfl ?_
            refine Wp.skip ?_
            refine Wp.seq ?_
            refine Wp.block ?_
            have hcj := cum_le (y := y) (m := j) (by omega) (by omega)
            have hlj := mlen_le (y % 400) j
            refine Wp.old (fun lo => ?_)
            have tb := hT.later lo
            clear lo
            refine Wp.region [0, 1, 2, 3, 4, 5] (by kernel_rfl) (by kernel_rfl) ?_
            refine s_move rfl rfl rfl rfl ?_
            refine s_move rfl rfl rfl rfl ?_
            refine s_move rfl rfl rfl rfl ?_
            refine s_callT rfl rfl rfl (by kernel_rfl) rfl (length_any (y % 400) j tb) ?_
            rintro v w6 rfl lw6
            replace tb := tb.later lw6
            refine a_add (-9223372036854775808) 9223372036854775807 (by decide) rfl rfl rfl rfl rfl (by omega) (by omega) ?_
            refine s_assign rfl rfl rfl rfl ?_
            refine vOrd_nil ?_
            refine Wp.region [0, 1, 2] (by kernel_rfl) (by kernel_rfl) ?_
            refine s_move rfl rfl rfl rfl ?_
            refine a_add (-9223372036854775808) 9223372036854775807 (by decide) rfl rfl rfl rfl rfl (by omega) (by omega) ?_
            refine s_assign rfl rfl rfl rfl ?_
            refine vOrd_nil ?_
            have hn := cum_next (y := y) (m := j) (by omega) (by omega)
            have hmm := mlen_mod y j
            exact ⟨_, _, by omega, (St.of_le' (env := [(1, .p 1 _ 0), (5, .v _), (6, .v _), (7, .v _)]) (mem := [(1, _, [_, _, _])]) ⟨rfl, rfl, rfl, rfl, trivial⟩ ⟨rfl, trivial⟩), j + 1, _, _, rfl, by omega, by omega, by omega, rfl⟩
          · refine vOrd_nil ?_
            refine Wp.condF rfl rfl ?_
            refine Wp.exit ?_
            refine Wp.seq ?_
            refine Wp.seq ?_
            have hj : j = m := by omega
            rw [hj] at hN
            have hN2 : N = dayOf y m d := by unfold dayOf; omega
            rw [hN2]
            refine Wp.old (fun lo => ?_)
            have tb := hT.later lo
            clear lo
            refine Wp.region [0, 1, 2] (by kernel_rfl) (by kernel_rfl) ?_
            refine s_move rfl rfl rfl rfl ?_
            refine s_callT rfl rfl rfl (by kernel_rfl) rfl (inr_any (dayOf y m d) _) ?_
            rintro v w7 rfl lw7
            replace tb := tb.later lw7
            refine s_not rfl rfl rfl rfl ?_
            refine vOrd_nil ?_
            refine Wp.cond rfl (okOpd_spec rfl) (fun c48 => ?_) (fun c48 => ?_)
            · have hI : inB (dayOf y m d) = false := by simpa using c48
              refine Wp.seq ?_
              refine Wp.region [0, 1] (by kernel_rfl) (by kernel_rfl) ?_
              refine s_assign rfl rfl rfl rfl ?_
              refine s_assign rfl rfl rfl rfl ?_
              refine vOrd_nil ?_
              refine Wp.ret ⟨.inr rfl, fun lW => ⟨_, ⟨_, _, res_tmp (P := Tryd.prog) rfl rfl, res_tmp (P := Tryd.prog) rfl rfl, rfl⟩, _, rfl, ?_, lW⟩⟩
              clear lW
              rw [(dayE_far hD hI).1, (dayE_far hD hI).2]
            · have hI : inB (dayOf y m d) = true := by simpa using c48
              refine Wp.skip ?_
              refine Wp.seq ?_
              refine Wp.region [0, 1, 2] (by kernel_rfl) (by kernel_rfl) ?_
              refine s_move rfl rfl rfl rfl ?_
              refine s_assign rfl rfl rfl rfl ?_
              refine s_assign rfl rfl rfl rfl ?_
              refine vOrd_nil ?_
              refine Wp.ret ⟨.inr rfl, fun lW => ⟨_, ⟨_, _, res_tmp (P := Tryd.prog) rfl rfl, res_tmp (P := Tryd.prog) rfl rfl, rfl⟩, _, rfl, ?_, lW⟩⟩
              clear lW
              rw [(dayE_ok hD hI).1, (dayE_ok hD hI).2]
theorem gdate_any (n : Int) {w : World} (hT : Tab w) : Calls Tryd.prog 21 #[.int .i64 n] w fun e w' => ∃ r, e = .returned r ∧ (∃ y m d e, r = .tuple #[.agg #[.int .i64 y, .int .i64 m, .int .i64 d], .int .i64 e] ∧ (inB n = true → e = 0 ∧ isD y m d = true ∧ dayOf y m d = n) ∧ (inB n = false → e = 2 ∧ y = 0 ∧ m = 0 ∧ d = 0)) ∧ Below w.heap.size w w' := by
  refine calls_Wp (args := [_]) (n := 44) Tryd.func21 rfl rfl (by simp) ?_
  refine Wp.seq ?_
  refine Wp.region [0, 1] (by kernel_rfl) (by kernel_rfl) ?_
  refine s_alloc rfl rfl rfl rfl rfl (fun bk1 w1 kb1 lw1 => ?_)
  refine s_assign rfl rfl rfl rfl ?_
  refine vOrd_nil ?_
  refine Wp.seq ?_
  refine Wp.seq ?_
  refine Wp.old (fun lo => ?_)
  have tb := hT.later lo
  clear lo
  refine Wp.region [0, 1, 2] (by kernel_rfl) (by kernel_rfl) ?_
  refine s_move rfl rfl rfl rfl ?_
  refine s_callT rfl rfl rfl (by kernel_rfl) rfl (inr_any n _) ?_
  rintro v w2 rfl lw2
  replace tb := tb.later lw2
  refine s_not rfl rfl rfl rfl ?_
  refine vOrd_nil ?_
  refine Wp.cond rfl (okOpd_spec rfl) (fun c10 => ?_) (fun c10 => ?_)
  · have hI : inB n = false := by simpa using c10
    refine Wp.seq ?_
    refine Wp.region [0, 1, 2] (by kernel_rfl) (by kernel_rfl) ?_
    refine s_build rfl rfl rfl rfl rfl (by kernel_rfl) ?_
    refine s_store rfl rfl rfl rfl rfl rfl rfl (fun w3 sw3 vw3 => ?_)
    refine s_assign rfl rfl rfl rfl ?_
    refine vOrd_nil ?_
    refine Wp.ret ⟨.inr rfl, fun lW => ⟨_, ⟨_, _, res_cell rfl rfl rfl rfl, res_tmp (P := Tryd.prog) rfl rfl, rfl⟩, _, rfl, ?_, lW⟩⟩
    clear lW
    exact ⟨_, _, _, _, rfl, fun h => (by rw [hI] at h; cases h), fun _ => ⟨rfl, rfl, rfl, rfl⟩⟩
  · have hI : inB n = true := by simpa using c10
    have hi := inB_iff.1 hI
    refine Wp.skip ?_
    refine Wp.seq ?_
    refine Wp.old (fun lo => ?_)
    have tb := hT.later lo
    clear lo
    refine Wp.region [0, 1, 2, 3, 4, 5, 6, 7] (by kernel_rfl) (by kernel_rfl) ?_
    refine s_move rfl rfl rfl rfl ?_
    refine a_sub (-9223372036854775808) 9223372036854775807 (by decide) rfl rfl rfl rfl rfl (by omega) (by omega) ?_
    refine s_callT rfl rfl rfl (by kernel_rfl) rfl (divide_any (n - -678941) 146097 (by omega) (by omega) (by omega) (by omega) _) ?_
    rintro v w4 rfl lw4
    replace tb := tb.later lw4
    refine s_move rfl rfl rfl rfl ?_
    refine s_extract rfl rfl rfl rfl rfl ?_
    refine s_extract rfl rfl rfl rfl rfl ?_
    refine s_assign rfl rfl rfl rfl ?_
    refine s_assign rfl rfl rfl rfl ?_
    refine vOrd_nil ?_
    refine Wp.seq ?_
    refine Wp.old (fun lo => ?_)
    have tb := hT.later lo
    clear lo
    refine Wp.region [0, 1, 2] (by kernel_rfl) (by kernel_rfl) ?_
    refine s_move rfl rfl rfl rfl ?_
    refine s_callT rfl rfl rfl (by kernel_rfl) rfl (yearOf_any ((n - -678941) % 146097) (by omega) (by omega) _) ?_
    rintro v w5 ⟨yy, rfl, g0, g1, g2, g3⟩ lw5
    replace tb := tb.later lw5
    refine s_assign rfl rfl rfl rfl ?_
    refine vOrd_nil ?_
    refine Wp.seq ?_
    have ha := ahead_in (y := yy) (by omega) (by omega)
    have hnx := ahead_next yy
    have hlp := lp_or yy
    refine Wp.old (fun lo => ?_)
    have tb := hT.later lo
    clear lo
    refine Wp.region [0, 1, 2, 3, 4] (by kernel_rfl) (by kernel_rfl) ?_
    refine s_move rfl rfl rfl rfl ?_
    refine s_move rfl rfl rfl rfl ?_
    refine s_callT rfl rfl rfl (by kernel_rfl) rfl (ahead_any yy (by omega) (by omega) _) ?_
    rintro v w6 rfl lw6
    replace tb := tb.later lw6
    refine a_sub (-9223372036854775808) 9223372036854775807 (by decide) rfl rfl rfl rfl rfl (by omega) (by omega) ?_
    refine s_assign rfl rfl rfl rfl ?_
    refine vOrd_nil ?_
    refine Wp.seq ?_
    refine Wp.region [0] (by kernel_rfl) (by kernel_rfl) ?_
    refine s_assign rfl rfl rfl rfl ?_
    refine vOrd_nil ?_
    refine Wp.seq ?_
    refine Wp.block ?_
    refine Wp.loop (fun k st _ => ∃ (j N : Int) (b2 : Nat), st = St.of [(2, .p 2 b2 0), (4, .v (.int .i64 ((n - -678941) / 146097))), (5, .v (.int .i64 N)), (6, .v (.int .i64 yy)), (7, .v (.int .i64 j))] [(2, b2, [.int .i64 0, .int .i64 0, .int .i64 0])] ∧ (n - -678941) % 146097 = ahead yy + cum yy j + N ∧ 0 ≤ N ∧ 1 ≤ j ∧ j ≤ 12 ∧ k = (12 - j).toNat) ?_ ?_
    · exact ⟨_, _, (St.of_le' (env := [(2, .p 2 _ 0), (4, .v _), (5, .v _), (6, .v _), (7, .v _)]) (mem := [(2, _, [_, _, _])]) ⟨rfl, rfl, rfl, rfl, rfl, trivial⟩ ⟨rfl, trivial⟩), 1, _, _, rfl, by have := cum_one yy; omega, by omega, by omega, by omega, rfl⟩
    · rintro k st w7 ⟨j, N, b2, rfl, hN, N0, j1, j2, rfl⟩
      refine Wp.seq ?_
      refine Wp.seq ?_
      have hcj := cum_le (y := yy) (m := j) (by omega) (by omega)
      have hlj := mlen_le yy j
      refine Wp.old (fun lo => ?_)
      have tb := hT.later lo
      clear lo
      refine Wp.region [0, 1, 2, 3, 4] (by kernel_rfl) (by kernel_rfl) ?_
      refine s_move rfl rfl rfl rfl ?_
      refine s_move rfl rfl rfl rfl ?_
      refine s_move rfl rfl rfl rfl ?_
      refine s_callT rfl rfl rfl (by kernel_rfl) rfl (length_any yy j tb) ?_
      rintro v w8 rfl lw8
      replace tb := tb.later lw8
      refine p_geq rfl rfl rfl rfl rfl (fun h28 => ?_) (fun h28 => ?_)
      · refine vOrd_nil ?_
        refine Wp.condT rfl rfl ?_
        refine Wp.skip ?_
        refine Wp.block ?_
        refine Wp.seq ?_
        refine Wp.old (fun lo => ?_)
        have tb := hT.later lo
        clear lo
        refine Wp.region [0, 1, 2, 3, 4, 5] (by kernel_rfl) (by kernel_rfl) ?_
        refine s_move rfl rfl rfl rfl ?_
        refine s_move rfl rfl rfl rfl ?_
        refine s_move rfl rfl rfl rfl ?_
        refine s_callT rfl rfl rfl (by kernel_rfl) rfl (length_any yy j tb) ?_
        rintro v w9 rfl lw9
        replace tb := tb.later lw9
        refine a_sub (-9223372036854775808) 9223372036854775807 (by decide) rfl rfl rfl rfl rfl (by omega) (by omega) ?_
        refine s_assign rfl rfl rfl rfl ?_
        refine vOrd_nil ?_
        refine Wp.region [0, 1, 2] (by kernel_rfl) (by kernel_rfl) ?_
        refine s_move rfl rfl rfl rfl ?_
        refine a_add (-9223372036854775808) 9223372036854775807 (by decide) rfl rfl rfl rfl rfl (by omega) (by omega) ?_
        refine s_assign rfl rfl rfl rfl ?_
        refine vOrd_nil ?_
        have hn := cum_next (y := yy) (m := j) (by omega) (by omega)
        have hj12 : j ≠ 12 := fun e => by subst e; have h13 := cum_13 yy; rw [show (12 : Int) + 1 = 13 from rfl] at hn; omega
        exact ⟨_, _, by omega, (St.of_le' (env := [(2, .p 2 _ 0), (4, .v _), (5, .v _), (6, .v _), (7, .v _)]) (mem := [(2, _, [_, _, _])]) ⟨rfl, rfl, rfl, rfl, rfl, trivial⟩ ⟨rfl, trivial⟩), j + 1, _, _, rfl, by omega, by omega, by omega, by omega, rfl⟩
      · refine vOrd_nil ?_
        refine Wp.condF rfl rfl ?_
        refine Wp.exit ?_
        refine Wp.seq ?_
        refine Wp.region [0, 1, 2, 3, 4, 5, 6, 7, 8, 9] (by kernel_rfl) (by kernel_rfl) ?_
        refine s_move rfl rfl rfl rfl ?_
        refine a_mul (-9223372036854775808) 9223372036854775807 (by decide) rfl rfl rfl rfl rfl (by omega) (by omega) ?_
        refine s_move rfl rfl rfl rfl ?_
        refine a_add (-9223372036854775808) 9223372036854775807 (by decide) rfl rfl rfl rfl rfl (by omega) (by omega) ?_
        refine s_move rfl rfl rfl rfl ?_
        refine s_move rfl rfl rfl rfl ?_
        refine a_add (-9223372036854775808) 9223372036854775807 (by decide) rfl rfl rfl rfl rfl (by omega) (by omega) ?_
        refine s_build rfl rfl rfl rfl rfl (by kernel_rfl) ?_
        refine s_store rfl rfl rfl rfl rfl rfl rfl (fun w10 sw10 vw10 => ?_)
        refine s_assign rfl rfl rfl rfl ?_
        refine vOrd_nil ?_
        refine Wp.ret ⟨.inr rfl, fun lW => ⟨_, ⟨_, _, res_cell rfl rfl rfl rfl, res_tmp (P := Tryd.prog) rfl rfl, rfl⟩, _, rfl, ?_, lW⟩⟩
        clear lW
        have hc := cycle_is ((n - -678941) / 146097) j g0 g1
        refine ⟨_, _, _, _, rfl, fun _ => ⟨rfl, isD_iff.2 ⟨by omega, by rw [hc.1]; omega⟩, ?_⟩, fun h => (by rw [hI] at h; cases h)⟩
        unfold dayOf; rw [hc.2.1, hc.2.2]; omega
end Go.Proofs.YtephjnnhfelkkaaDoor
