/-
 Scales: the walks of the laws of layer 16.
-/
import Derived.Test.YtjhapfogfhmniaaScB
namespace Go.Proofs.Ytjhapfogfhmniaa
open Go.RowKit
set_option maxRecDepth 100000

theorem sc_f5 : frE 3 5 = 0 ∧ frZ 3 5 = cnt 44244 19 0 + 5 ∧ toE 3 (cnt 44244 19 0 + 5) = 0 ∧ toZ 3 (cnt 44244 19 0 + 5) = 5 ∧ toE 9 (cnt 44244 19 0 + 5) = 1 := by decide +kernel
theorem scanswers_any {w : World} : Calls Try.prog 8 #[] w fun e w' => ∃ r, e = .returned r ∧ r = .bool true ∧ Below w.heap.size w w' := by
 obtain ⟨f1, f2, f3, f4, f5⟩ := sc_f5
 refine calls_Wp (args := []) (n := 42) Try.func8 rfl rfl (by simp) ?_
 refine qZ ?_
 refine Wp.seq ?_
 refine wR [0, 1, 2, 3, 4, 5, 6, 7] ?_
 refine sB ?_
 refine sT (sfrom_any (n := 3) ⟨_, _, rfl, (show WideIs 0 5 5 by unfold WideIs; omega)⟩) ?_
 rintro v w1 ⟨au, rfl, ah, al, rfl, ha⟩ lw1
 rw [f1]
 rw [f2] at ha
 refine sQ 3 ?_
 refine sO (fun bk2 w2 kb2 lw2 => ?_)
 refine sS (fun w3 sw3 vw3 => ?_)
 refine sZ 1 ?_
 refine qQ 1 ?_
 refine sT (sto_any (n := 3) ⟨_, _, rfl, ha⟩) ?_
 rintro v w4 ⟨bu, rfl, bh, bl, rfl, hb⟩ lw4
 rw [f3]
 rw [f4] at hb
 refine sQ 3 ?_
 refine sO (fun bk5 w5 kb5 lw5 => ?_)
 refine sS (fun w6 sw6 vw6 => ?_)
 refine sZ 1 ?_
 refine qQ 1 ?_
 refine sT (sto_any (n := 9) ⟨_, _, rfl, ha⟩) ?_
 rintro v w7 ⟨cu, rfl, ch, cl, rfl, hc⟩ lw7
 rw [f5]
 refine sQ 3 ?_
 refine sO (fun bk8 w8 kb8 lw8 => ?_)
 refine sS (fun w9 sw9 vw9 => ?_)
 refine sZ 1 ?_
 refine qQ 1 ?_
 refine t_eql rfl rfl rfl rfl rfl (by omega) ?_
 refine sQ 2 ?_
 refine t_eql rfl rfl rfl rfl rfl (by omega) ?_
 refine sQ 3 ?_
 refine sB ?_
 refine s_eqv (c := true) rfl rfl rfl rfl rfl (fun _ => by kernel_rfl) (fun w => by rw [run_eql_wide, eqW_same hb (show WideIs 0 5 5 by unfold WideIs; omega)]) ?_
 refine sQ 4 ?_
 refine t_gtr rfl rfl rfl rfl rfl (by unfold WideIs cnt at ha; omega) ?_
 refine sQ 3 ?_
 refine t_eql rfl rfl rfl rfl rfl (by omega) ?_
 refine sZ 2 ?_
 refine Wp.ret ⟨.inr rfl, fun lW => ⟨_, res_tmp (P := Try.prog) rfl rfl, _, rfl, ?_, lW⟩⟩
 clear lW
 rfl
set_option maxHeartbeats 1000000 in
theorem law_scto {n th tl z : Int} (hz : WideIs th tl z) {w : World} : Calls Try.prog 3 #[.int .i64 n, .agg #[.int .i64 th, .int .u64 tl]] w fun e w' => ∃ r, e = .returned r ∧ r = .bool true ∧ Below w.heap.size w w' := by
 cases hs : isSc n with
 | false =>
  obtain ⟨e1, e2⟩ := to_none (z := z) hs
  refine calls_Wp (args := [_, _]) (n := 60) Try.func3 rfl rfl (by simp) ?_
  refine Wp.seq ?_
  refine wR [0, 1] ?_
  refine sE (fun bk1 w1 kb1 lw1 => ?_)
  refine sZ 1 ?_
  refine qQ 2 ?_
  refine sT (sto_any ⟨_, _, rfl, hz⟩) ?_
  rintro v w2 ⟨au, rfl, ah, al, rfl, ha⟩ lw2
  rw [e1]
  rw [e2] at ha
  refine sQ 3 ?_
  refine sO (fun bk3 w3 kb3 lw3 => ?_)
  refine sS (fun w4 sw4 vw4 => ?_)
  refine sZ 1 ?_
  refine qQ 1 ?_
  refine sT (rzero_no hs) ?_
  rintro v w5 rfl lw5
  refine sQ 3 ?_
  refine sO (fun bk6 w6 kb6 lw6 => ?_)
  refine sS (fun w7 sw7 vw7 => ?_)
  refine sZ 1 ?_
  refine Wp.seq ?_
  refine qZ ?_
  refine Wp.condT rfl rfl ?_
  refine Wp.seq ?_
  refine wR [0, 1, 2, 3, 4, 5, 6, 7, 8, 9, 10] ?_
  refine sT (scanswers_any) ?_
  rintro v w8 rfl lw8
  refine sQ 2 ?_
  refine t_eql rfl rfl rfl rfl rfl (by omega) ?_
  refine sQ 3 ?_
  refine sB ?_
  refine s_eqv (c := true) rfl rfl rfl rfl rfl (fun _ => by kernel_rfl) (fun w => by rw [run_eql_wide, eqW_same ha (show WideIs 0 0 0 by unfold WideIs; omega)]) ?_
  refine sZ 2 ?_
  refine Wp.ret ⟨.inr rfl, fun lW => ⟨_, res_tmp (P := Try.prog) rfl rfl, _, rfl, ?_, lW⟩⟩
  clear lW
  rfl
 | true =>
  cases hi : inB (dayZ z) with
  | false =>
   obtain ⟨e1, e2⟩ := to_out hs hi
   refine calls_Wp (args := [_, _]) (n := 60) Try.func3 rfl rfl (by simp) ?_
   refine Wp.seq ?_
   refine wR [0, 1] ?_
   refine sE (fun bk1 w1 kb1 lw1 => ?_)
   refine sZ 1 ?_
   refine qQ 2 ?_
   refine sT (sto_any ⟨_, _, rfl, hz⟩) ?_
   rintro v w2 ⟨au, rfl, ah, al, rfl, ha⟩ lw2
   rw [e1]
   rw [e2] at ha
   refine sQ 3 ?_
   refine sO (fun bk3 w3 kb3 lw3 => ?_)
   refine sS (fun w4 sw4 vw4 => ?_)
   refine sZ 1 ?_
   refine qQ 1 ?_
   refine sT (rzero_yes hs) ?_
   rintro v w5 ⟨zu, rfl, hzr⟩ lw5
   obtain ⟨hzra, hzrl, hzrc, rfl, -⟩ := id hzr
   refine sQ 3 ?_
   refine sO (fun bk6 w6 kb6 lw6 => ?_)
   refine sS (fun w7 sw7 vw7 => ?_)
   refine sZ 1 ?_
   refine Wp.seq ?_
   refine qZ ?_
   refine Wp.condF rfl rfl ?_
   refine Wp.skip ?_
   refine Wp.seq ?_
   refine qQ 1 ?_
   refine sT (c_rof ⟨_, _, rfl, hz⟩ _) ?_
   rintro v w8 hr lw8
   refine s_callT rfl rfl rfl (by kernel_rfl) rfl (lin_any (hr.kp) (by decide)) ?_
   rintro v w9 rfl lw9
   rw [hi]
   refine sZ 1 ?_
   refine Wp.condT rfl rfl ?_
   refine Wp.seq ?_
   refine wR [0, 1, 2, 3, 4, 5, 6, 7, 8, 9, 10] ?_
   refine sT (scanswers_any) ?_
   rintro v w10 rfl lw10
   refine sQ 2 ?_
   refine t_eql rfl rfl rfl rfl rfl (by omega) ?_
   refine sQ 3 ?_
   refine sB ?_
   refine s_eqv (c := true) rfl rfl rfl rfl rfl (fun _ => by kernel_rfl) (fun w => by rw [run_eql_wide, eqW_same ha (show WideIs 0 0 0 by unfold WideIs; omega)]) ?_
   refine sZ 2 ?_
   refine Wp.ret ⟨.inr rfl, fun lW => ⟨_, res_tmp (P := Try.prog) rfl rfl, _, rfl, ?_, lW⟩⟩
   clear lW
   rfl
  | true =>
   obtain ⟨e1, e2⟩ := to_ok hs hi
   refine calls_Wp (args := [_, _]) (n := 60) Try.func3 rfl rfl (by simp) ?_
   refine Wp.seq ?_
   refine wR [0, 1] ?_
   refine sE (fun bk1 w1 kb1 lw1 => ?_)
   refine sZ 1 ?_
   refine qQ 2 ?_
   refine sT (sto_any ⟨_, _, rfl, hz⟩) ?_
   rintro v w2 ⟨au, rfl, ah, al, rfl, ha⟩ lw2
   rw [e1]
   rw [e2] at ha
   refine sQ 3 ?_
   refine sO (fun bk3 w3 kb3 lw3 => ?_)
   refine sS (fun w4 sw4 vw4 => ?_)
   refine sZ 1 ?_
   refine qQ 1 ?_
   refine sT (rzero_yes hs) ?_
   rintro v w5 ⟨zu, rfl, hzr⟩ lw5
   obtain ⟨hzra, hzrl, hzrc, rfl, -⟩ := id hzr
   refine sQ 3 ?_
   refine sO (fun bk6 w6 kb6 lw6 => ?_)
   refine sS (fun w7 sw7 vw7 => ?_)
   refine sZ 1 ?_
   refine Wp.seq ?_
   refine qZ ?_
   refine Wp.condF rfl rfl ?_
   refine Wp.skip ?_
   refine Wp.seq ?_
   refine qQ 1 ?_
   refine sT (c_rof ⟨_, _, rfl, hz⟩ _) ?_
   rintro v w8 hr lw8
   refine s_callT rfl rfl rfl (by kernel_rfl) rfl (lin_any (hr.kp) (by decide)) ?_
   rintro v w9 rfl lw9
   rw [hi]
   refine sZ 1 ?_
   refine Wp.condF rfl rfl ?_
   refine Wp.skip ?_
   refine Wp.seq ?_
   refine wD [0, 1, 2, 3, 4, 5, 6, 8, 10, 7, 9, 11, 12, 13, 14] [0, 0, 0, 0, 0, 0, 1343, 1279, 1023, 0, 0, 0, 0, 0, 0] (fun | 0 => fun v _ => v = .bool true | 7 => IsBig 11 (z - zerZ n) | 9 => IsBig 11 (z) | 11 => IsBig 18 (z - zerZ n) | 12 => fun v _ => v = .bool true | _ => fun _ _ => True) (fun _ _ => ?_)
   refine sD (fun wc lc => scanswers_any) ?_
   rintro v w10 u10 rfl lw10 mw10
   refine sQ 2 ?_
   refine t_eql rfl rfl rfl rfl rfl (by omega) ?_
   refine sQ 5 ?_
   refine sD (fun wc lc => c_rof ⟨_, _, rfl, ha⟩ wc) ?_
   rintro v w11 u11 h1 lw11 mw11
   refine sD (fun wc lc => c_rof ⟨_, _, rfl, hz⟩ wc) ?_
   rintro v w12 u12 h2 lw12 mw12
   refine s_callD rfl rfl rfl (by kernel_rfl) rfl (fun wc lc => c_rsub (h2.kp) (hzr.kp) (by decide) (by decide)) ?_
   rintro v w13 u13 h3 lw13 mw13
   obtain ⟨h3a, h3l, h3c, rfl, -⟩ := id h3
   refine s_callD rfl rfl rfl (by kernel_rfl) rfl (fun wc lc => c_same_yes (h1.kp) (h3.kp) (by decide) (by decide)) ?_
   rintro v w14 u14 rfl lw14 mw14
   refine sZ 2 ?_
   refine Wp.ret ⟨.inr rfl, fun lW => ⟨_, res_tmp (P := Try.prog) rfl rfl, _, rfl, ?_, lW⟩⟩
   clear lW
   rfl
set_option maxHeartbeats 1000000 in
theorem law_scfrom {n th tl z : Int} (hz : WideIs th tl z) {w : World} : Calls Try.prog 4 #[.int .i64 n, .agg #[.int .i64 th, .int .u64 tl]] w fun e w' => ∃ r, e = .returned r ∧ r = .bool true ∧ Below w.heap.size w w' := by
 cases hs : isSc n with
 | false =>
  obtain ⟨e1, e2⟩ := fr_none (a := z) hs
  refine calls_Wp (args := [_, _]) (n := 61) Try.func4 rfl rfl (by simp) ?_
  refine Wp.seq ?_
  refine wR [0, 1] ?_
  refine sE (fun bk1 w1 kb1 lw1 => ?_)
  refine sZ 1 ?_
  refine qQ 2 ?_
  refine sT (sfrom_any ⟨_, _, rfl, hz⟩) ?_
  rintro v w2 ⟨au, rfl, ah, al, rfl, ha⟩ lw2
  rw [e1]
  rw [e2] at ha
  refine sQ 3 ?_
  refine sO (fun bk3 w3 kb3 lw3 => ?_)
  refine sS (fun w4 sw4 vw4 => ?_)
  refine sZ 1 ?_
  refine qQ 1 ?_
  refine sT (rzero_no hs) ?_
  rintro v w5 rfl lw5
  refine sQ 3 ?_
  refine sO (fun bk6 w6 kb6 lw6 => ?_)
  refine sS (fun w7 sw7 vw7 => ?_)
  refine sZ 1 ?_
  refine Wp.seq ?_
  refine qZ ?_
  refine Wp.condT rfl rfl ?_
  refine Wp.seq ?_
  refine wR [0, 1, 2, 3, 4, 5, 6, 7, 8, 9, 10] ?_
  refine sT (scanswers_any) ?_
  rintro v w8 rfl lw8
  refine sQ 2 ?_
  refine t_eql rfl rfl rfl rfl rfl (by omega) ?_
  refine sQ 3 ?_
  refine sB ?_
  refine s_eqv (c := true) rfl rfl rfl rfl rfl (fun _ => by kernel_rfl) (fun w => by rw [run_eql_wide, eqW_same ha (show WideIs 0 0 0 by unfold WideIs; omega)]) ?_
  refine sZ 2 ?_
  refine Wp.ret ⟨.inr rfl, fun lW => ⟨_, res_tmp (P := Try.prog) rfl rfl, _, rfl, ?_, lW⟩⟩
  clear lW
  rfl
 | true =>
  cases hi : inB (dayZ (z + zerZ n)) with
  | false =>
   obtain ⟨e1, e2⟩ := fr_out hs hi
   refine calls_Wp (args := [_, _]) (n := 61) Try.func4 rfl rfl (by simp) ?_
   refine Wp.seq ?_
   refine wR [0, 1] ?_
   refine sE (fun bk1 w1 kb1 lw1 => ?_)
   refine sZ 1 ?_
   refine qQ 2 ?_
   refine sT (sfrom_any ⟨_, _, rfl, hz⟩) ?_
   rintro v w2 ⟨au, rfl, ah, al, rfl, ha⟩ lw2
   rw [e1]
   rw [e2] at ha
   refine sQ 3 ?_
   refine sO (fun bk3 w3 kb3 lw3 => ?_)
   refine sS (fun w4 sw4 vw4 => ?_)
   refine sZ 1 ?_
   refine qQ 1 ?_
   refine sT (rzero_yes hs) ?_
   rintro v w5 ⟨zu, rfl, hzr⟩ lw5
   obtain ⟨hzra, hzrl, hzrc, rfl, -⟩ := id hzr
   refine sQ 3 ?_
   refine sO (fun bk6 w6 kb6 lw6 => ?_)
   refine sS (fun w7 sw7 vw7 => ?_)
   refine sZ 1 ?_
   refine Wp.seq ?_
   refine qZ ?_
   refine Wp.condF rfl rfl ?_
   refine Wp.skip ?_
   refine Wp.seq ?_
   refine wD [0, 2, 4, 1, 3, 5] [20, 19, 15, 0, 0, 0] (fun | 1 => IsBig 11 (z) | 3 => IsBig 18 (z + zerZ n) | _ => fun _ _ => True) (fun _ _ => ?_)
   refine sQ 2 ?_
   refine sO (fun bk8 w8 kb8 lw8 => ?_)
   refine sD (fun wc lc => c_rof ⟨_, _, rfl, hz⟩ wc) ?_
   rintro v w9 u9 h1 lw9 mw9
   refine s_callD rfl rfl rfl (by kernel_rfl) rfl (fun wc lc => c_add (h1.kp) (hzr.kp) (by decide) (by decide)) ?_
   rintro v w10 u10 h2 lw10 mw10
   obtain ⟨h2a, h2l, h2c, rfl, -⟩ := id h2
   refine sS (fun w11 sw11 vw11 => ?_)
   refine vOrd_nil ?_
   refine Wp.seq ?_
   refine qQ 1 ?_
   refine s_callT rfl rfl rfl (by kernel_rfl) rfl (lin_any (h2.kp) (by decide)) ?_
   rintro v w12 rfl lw12
   rw [hi]
   refine sZ 1 ?_
   refine Wp.condT rfl rfl ?_
   refine Wp.seq ?_
   refine wR [0, 1, 2, 3, 4, 5, 6, 7, 8, 9, 10] ?_
   refine sT (scanswers_any) ?_
   rintro v w13 rfl lw13
   refine sQ 2 ?_
   refine t_eql rfl rfl rfl rfl rfl (by omega) ?_
   refine sQ 3 ?_
   refine sB ?_
   refine s_eqv (c := true) rfl rfl rfl rfl rfl (fun _ => by kernel_rfl) (fun w => by rw [run_eql_wide, eqW_same ha (show WideIs 0 0 0 by unfold WideIs; omega)]) ?_
   refine sZ 2 ?_
   refine Wp.ret ⟨.inr rfl, fun lW => ⟨_, res_tmp (P := Try.prog) rfl rfl, _, rfl, ?_, lW⟩⟩
   clear lW
   rfl
  | true =>
   obtain ⟨e1, e2⟩ := fr_ok hs hi
   refine calls_Wp (args := [_, _]) (n := 61) Try.func4 rfl rfl (by simp) ?_
   refine Wp.seq ?_
   refine wR [0, 1] ?_
   refine sE (fun bk1 w1 kb1 lw1 => ?_)
   refine sZ 1 ?_
   refine qQ 2 ?_
   refine sT (sfrom_any ⟨_, _, rfl, hz⟩) ?_
   rintro v w2 ⟨au, rfl, ah, al, rfl, ha⟩ lw2
   rw [e1]
   rw [e2] at ha
   refine sQ 3 ?_
   refine sO (fun bk3 w3 kb3 lw3 => ?_)
   refine sS (fun w4 sw4 vw4 => ?_)
   refine sZ 1 ?_
   refine qQ 1 ?_
   refine sT (rzero_yes hs) ?_
   rintro v w5 ⟨zu, rfl, hzr⟩ lw5
   obtain ⟨hzra, hzrl, hzrc, rfl, -⟩ := id hzr
   refine sQ 3 ?_
   refine sO (fun bk6 w6 kb6 lw6 => ?_)
   refine sS (fun w7 sw7 vw7 => ?_)
   refine sZ 1 ?_
   refine Wp.seq ?_
   refine qZ ?_
   refine Wp.condF rfl rfl ?_
   refine Wp.skip ?_
   refine Wp.seq ?_
   refine wD [0, 2, 4, 1, 3, 5] [20, 19, 15, 0, 0, 0] (fun | 1 => IsBig 11 (z) | 3 => IsBig 18 (z + zerZ n) | _ => fun _ _ => True) (fun _ _ => ?_)
   refine sQ 2 ?_
   refine sO (fun bk8 w8 kb8 lw8 => ?_)
   refine sD (fun wc lc => c_rof ⟨_, _, rfl, hz⟩ wc) ?_
   rintro v w9 u9 h1 lw9 mw9
   refine s_callD rfl rfl rfl (by kernel_rfl) rfl (fun wc lc => c_add (h1.kp) (hzr.kp) (by decide) (by decide)) ?_
   rintro v w10 u10 h2 lw10 mw10
   obtain ⟨h2a, h2l, h2c, rfl, -⟩ := id h2
   refine sS (fun w11 sw11 vw11 => ?_)
   refine vOrd_nil ?_
   refine Wp.seq ?_
   refine qQ 1 ?_
   refine s_callT rfl rfl rfl (by kernel_rfl) rfl (lin_any (h2.kp) (by decide)) ?_
   rintro v w12 rfl lw12
   rw [hi]
   refine sZ 1 ?_
   refine Wp.condF rfl rfl ?_
   refine Wp.skip ?_
   refine Wp.seq ?_
   refine wD [0, 1, 2, 3, 4, 5, 6, 8, 7, 9, 10, 11] [0, 0, 0, 0, 0, 0, 319, 255, 0, 0, 0, 0] (fun | 0 => fun v _ => v = .bool true | 7 => IsBig 11 (z + zerZ n) | 9 => fun v _ => v = .bool true | _ => fun _ _ => True) (fun _ _ => ?_)
   refine sD (fun wc lc => scanswers_any) ?_
   rintro v w13 u13 rfl lw13 mw13
   refine sQ 2 ?_
   refine t_eql rfl rfl rfl rfl rfl (by omega) ?_
   refine sQ 4 ?_
   refine sD (fun wc lc => c_rof ⟨_, _, rfl, ha⟩ wc) ?_
   rintro v w14 u14 h4 lw14 mw14
   refine s_callD rfl rfl rfl (by kernel_rfl) rfl (fun wc lc => c_same_yes (h4.kp) (h2.kp) (by decide) (by decide)) ?_
   rintro v w15 u15 rfl lw15 mw15
   refine sZ 2 ?_
   refine Wp.ret ⟨.inr rfl, fun lW => ⟨_, res_tmp (P := Try.prog) rfl rfl, _, rfl, ?_, lW⟩⟩
   clear lW
   rfl
set_option maxHeartbeats 1000000 in
theorem law_scback {n th tl z : Int} (hz : WideIs th tl z) {w : World} : Calls Try.prog 5 #[.int .i64 n, .agg #[.int .i64 th, .int .u64 tl]] w fun e w' => ∃ r, e = .returned r ∧ r = .bool true ∧ Below w.heap.size w w' := by
 by_cases h0 : toE n z = 0
 ·obtain ⟨hs, hi⟩ := to_zero h0
  obtain ⟨e1, e2⟩ := to_ok hs hi
  obtain ⟨g1, g2⟩ := fr_ok (n := n) (a := z - zerZ n) hs (by rw [show z - zerZ n + zerZ n = z by omega]; exact hi)
  rw [show z - zerZ n + zerZ n = z by omega] at g2
  obtain ⟨p1, p2⟩ := to_ok (n := 1) (z := z) (by decide) hi
  obtain ⟨q1, q2⟩ := to_ok (n := 2) (z := z) (by decide) hi
  obtain ⟨r1, r2⟩ := to_ok (n := 3) (z := z) (by decide) hi
  have t1 : z - zerZ 1 + cnt 36204 0 0 = z := by rw [zer_1]; omega
  have t2 : z - zerZ 2 + cnt 51544 43200 0 - z = cnt 0 32 184000000000000000 := by rw [zer_2]; unfold cnt; omega
  have t3 : z - (z - zerZ 3 + cnt 44244 0 0) = cnt 0 19 0 := by rw [zer_3]; unfold cnt; omega
  refine calls_Wp (args := [_, _]) (n := 91) Try.func5 rfl rfl (by simp) ?_
  refine Wp.seq ?_
  refine wR [0, 1] ?_
  refine sE (fun bk1 w1 kb1 lw1 => ?_)
  refine sZ 1 ?_
  refine qQ 2 ?_
  refine sT (sto_any ⟨_, _, rfl, hz⟩) ?_
  rintro v w2 ⟨au, rfl, ah, al, rfl, ha⟩ lw2
  rw [e1]
  rw [e2] at ha
  refine sQ 3 ?_
  refine sO (fun bk3 w3 kb3 lw3 => ?_)
  refine sS (fun w4 sw4 vw4 => ?_)
  refine sZ 1 ?_
  refine Wp.seq ?_
  refine qQ 1 ?_
  refine f_neq rfl rfl rfl rfl rfl (by omega) ?_
  refine vOrd_nil ?_
  refine Wp.condF rfl rfl ?_
  refine Wp.skip ?_
  refine qQ 2 ?_
  refine sT (sfrom_any ⟨_, _, rfl, ha⟩) ?_
  rintro v w5 ⟨bu, rfl, bh, bl, rfl, hb⟩ lw5
  rw [g1]
  rw [g2] at hb
  refine sQ 3 ?_
  refine sO (fun bk6 w6 kb6 lw6 => ?_)
  refine sS (fun w7 sw7 vw7 => ?_)
  refine sZ 1 ?_
  refine qQ 1 ?_
  refine sT (sto_any (n := 1) ⟨_, _, rfl, hz⟩) ?_
  rintro v w8 ⟨xu, rfl, xh, xl, rfl, hx⟩ lw8
  rw [p1]
  rw [p2] at hx
  refine sQ 3 ?_
  refine sO (fun bk9 w9 kb9 lw9 => ?_)
  refine sS (fun w10 sw10 vw10 => ?_)
  refine sZ 1 ?_
  refine qQ 1 ?_
  refine sT (sto_any (n := 2) ⟨_, _, rfl, hz⟩) ?_
  rintro v w11 ⟨yu, rfl, yh, yl, rfl, hy⟩ lw11
  rw [q1]
  rw [q2] at hy
  refine sQ 3 ?_
  refine sO (fun bk12 w12 kb12 lw12 => ?_)
  refine sS (fun w13 sw13 vw13 => ?_)
  refine sZ 1 ?_
  refine qQ 1 ?_
  refine sT (sto_any (n := 3) ⟨_, _, rfl, hz⟩) ?_
  rintro v w14 ⟨ku, rfl, kh, kl, rfl, hk⟩ lw14
  rw [r1]
  rw [r2] at hk
  refine sQ 3 ?_
  refine sO (fun bk15 w15 kb15 lw15 => ?_)
  refine sS (fun w16 sw16 vw16 => ?_)
  refine sZ 1 ?_
  refine qQ 1 ?_
  refine sT (c_rof ⟨_, _, rfl, hx⟩ _) ?_
  rintro v w17 h1 lw17
  refine sB ?_
  refine sT (rjoin_any (d := 36204) (s := 0) (a := 0) ⟨by decide, by decide⟩ ⟨by decide, by decide⟩ ⟨by decide, by decide⟩ _) ?_
  rintro v w18 h2 lw18
  refine s_callT rfl rfl rfl (by kernel_rfl) rfl (c_add (h1.kp) (h2.kp) (by decide) (by decide)) ?_
  rintro v w19 h3 lw19
  replace h3 := h3.eq t1
  obtain ⟨h3a, h3l, h3c, rfl, -⟩ := id h3
  refine sB ?_
  refine sT (rjoin_any (d := 44244) (s := 0) (a := 0) ⟨by decide, by decide⟩ ⟨by decide, by decide⟩ ⟨by decide, by decide⟩ _) ?_
  rintro v w20 h4 lw20
  obtain ⟨h4a, h4l, h4c, rfl, -⟩ := id h4
  refine sO (fun bk21 w21 kb21 lw21 => ?_)
  refine sO (fun bk22 w22 kb22 lw22 => ?_)
  refine sS (fun w23 sw23 vw23 => ?_)
  refine sS (fun w24 sw24 vw24 => ?_)
  refine vOrd_nil ?_
  refine Wp.seq ?_
  refine wD [0, 2, 5, 7, 1, 3, 4, 6, 8] [164, 163, 159, 127, 0, 0, 0, 0, 0] (fun | 1 => IsBig 11 (z - zerZ 2) | 3 => IsBig 17 (cnt 51544 43200 0) | 4 => IsBig 18 (z - zerZ 2 + cnt 51544 43200 0) | 6 => IsBig 19 (z - zerZ 2 + cnt 51544 43200 0 - z) | _ => fun _ _ => True) (fun _ _ => ?_)
  refine sL ?_
  refine sB ?_
  refine sL ?_
  refine sO (fun bk25 w25 kb25 lw25 => ?_)
  refine sD (fun wc lc => c_rof ⟨_, _, rfl, hy⟩ wc) ?_
  rintro v w26 u26 i1 lw26 mw26
  refine sD (fun wc lc => rjoin_any (d := 51544) (s := 43200) (a := 0) ⟨by decide, by decide⟩ ⟨by decide, by decide⟩ ⟨by decide, by decide⟩ wc) ?_
  rintro v w27 u27 i2 lw27 mw27
  refine s_callD rfl rfl rfl (by kernel_rfl) rfl (fun wc lc => c_add (i1.kp) (i2.kp) (by decide) (by decide)) ?_
  rintro v w28 u28 i3 lw28 mw28
  refine s_callD rfl rfl rfl (by kernel_rfl) rfl (fun wc lc => c_rsub (i3.kp) (h3.kp) (by decide) (by decide)) ?_
  rintro v w29 u29 i4 lw29 mw29
  obtain ⟨i4a, i4l, i4c, rfl, -⟩ := id i4
  replace i4 := i4.eq t2
  refine sS (fun w30 sw30 vw30 => ?_)
  refine vOrd_nil ?_
  refine Wp.seq ?_
  refine wD [0, 1, 3, 6, 2, 4, 5, 7] [94, 73, 71, 63, 0, 0, 0, 0] (fun | 2 => IsBig 11 (z - zerZ 3) | 4 => IsBig 18 (z - zerZ 3 + cnt 44244 0 0) | 5 => IsBig 19 (z - (z - zerZ 3 + cnt 44244 0 0)) | _ => fun _ _ => True) (fun _ _ => ?_)
  refine sQ 3 ?_
  refine sO (fun bk31 w31 kb31 lw31 => ?_)
  refine sD (fun wc lc => c_rof ⟨_, _, rfl, hk⟩ wc) ?_
  rintro v w32 u32 j1 lw32 mw32
  refine s_callD rfl rfl rfl (by kernel_rfl) rfl (fun wc lc => c_add (j1.kp) (h4.kp) (by decide) (by decide)) ?_
  rintro v w33 u33 j2 lw33 mw33
  refine s_callD rfl rfl rfl (by kernel_rfl) rfl (fun wc lc => c_rsub (h3.kp) (j2.kp) (by decide) (by decide)) ?_
  rintro v w34 u34 j3 lw34 mw34
  obtain ⟨j3a, j3l, j3c, rfl, -⟩ := id j3
  replace j3 := j3.eq t3
  refine sS (fun w35 sw35 vw35 => ?_)
  refine vOrd_nil ?_
  refine Wp.seq ?_
  refine wD [0, 1, 2, 3, 4, 5, 6, 7, 8, 9, 10, 11, 12, 13, 14, 15, 16, 17, 18, 19, 20, 21, 22] [0, 0, 0, 0, 0, 0, 191, 0, 0, 0, 0, 14335, 0, 0, 0, 0, 0, 917503, 0, 0, 0, 0, 0] (fun | 0 => fun v _ => v = .bool true | 13 => IsBig 17 (cnt 0 32 184000000000000000) | 14 => fun v _ => v = .bool true | 19 => IsBig 17 (cnt 0 19 0) | 20 => fun v _ => v = .bool true | _ => fun _ _ => True) (fun _ _ => ?_)
  refine sD (fun wc lc => scanswers_any) ?_
  rintro v w36 u36 rfl lw36 mw36
  refine sQ 2 ?_
  refine t_eql rfl rfl rfl rfl rfl (by omega) ?_
  refine sQ 4 ?_
  refine s_eqv (c := true) rfl rfl rfl rfl rfl (fun _ => by kernel_rfl) (fun w => by rw [run_eql_wide, eqW_same hb hz]) ?_
  refine sQ 3 ?_
  refine sB ?_
  refine sD (fun wc lc => rjoin_any (d := 0) (s := 32) (a := 184000000000000000) ⟨by decide, by decide⟩ ⟨by decide, by decide⟩ ⟨by decide, by decide⟩ wc) ?_
  rintro v w38 u38 m1 lw38 mw38
  refine s_callD rfl rfl rfl (by kernel_rfl) rfl (fun wc lc => c_same_yes (i4.kp) (m1.kp) (by decide) (by decide)) ?_
  rintro v w39 u39 rfl lw39 mw39
  refine sQ 3 ?_
  refine sB ?_
  refine sD (fun wc lc => rjoin_any (d := 0) (s := 19) (a := 0) ⟨by decide, by decide⟩ ⟨by decide, by decide⟩ ⟨by decide, by decide⟩ wc) ?_
  rintro v w40 u40 m2 lw40 mw40
  refine s_callD rfl rfl rfl (by kernel_rfl) rfl (fun wc lc => c_same_yes (j3.kp) (m2.kp) (by decide) (by decide)) ?_
  rintro v w41 u41 rfl lw41 mw41
  refine sZ 2 ?_
  refine Wp.ret ⟨.inr rfl, fun lW => ⟨_, res_tmp (P := Try.prog) rfl rfl, _, rfl, ?_, lW⟩⟩
  clear lW
  rfl
 ·refine calls_Wp (args := [_, _]) (n := 91) Try.func5 rfl rfl (by simp) ?_
  refine Wp.seq ?_
  refine wR [0, 1] ?_
  refine sE (fun bk1 w1 kb1 lw1 => ?_)
  refine sZ 1 ?_
  refine qQ 2 ?_
  refine sT (sto_any ⟨_, _, rfl, hz⟩) ?_
  rintro v w2 ⟨au, rfl, ah, al, rfl, ha⟩ lw2
  refine sQ 3 ?_
  refine sO (fun bk3 w3 kb3 lw3 => ?_)
  refine sS (fun w4 sw4 vw4 => ?_)
  refine sZ 1 ?_
  refine Wp.seq ?_
  refine qQ 1 ?_
  refine t_neq rfl rfl rfl rfl rfl (by omega) ?_
  refine vOrd_nil ?_
  refine Wp.condT rfl rfl ?_
  refine Wp.seq ?_
  refine wR [0, 1] ?_
  refine sT (scanswers_any) ?_
  rintro v w5 rfl lw5
  refine sZ 1 ?_
  refine Wp.ret ⟨.inr rfl, fun lW => ⟨_, res_tmp (P := Try.prog) rfl rfl, _, rfl, ?_, lW⟩⟩
  clear lW
  rfl
end Go.Proofs.Ytjhapfogfhmniaa
