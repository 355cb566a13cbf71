/-
  Fractions and octets: the walks of the laws of layer 19.
-/
import Derived.Test.YtjhopmnmlenenaaFrB
namespace Go.Proofs.Ytjhopmnmlenenaa
open Go.RowKit
set_option maxRecDepth 100000

theorem fr_c1 : fcE 500000000000000000 1 = 0 ∧ fcZ 500000000000000000 1 = 128 ∧ fdZ 1 4 = 232830644 ∧ fdE 1 4 = 0 ∧ fdE 1 10 = 13 := by decide +kernel
theorem fr_c2 : fpE 258 3 = 0 ∧ fpL 258 3 = [0, 1, 2] ∧ fgE [1, 2] = 0 ∧ fgZ [1, 2] = 258 := by decide +kernel
theorem franswers_any {w : World} : Calls Try.prog 9 #[] w fun e w' => ∃ r, e = .returned r ∧ r = .bool true ∧ Below w.heap.size w w' := by
  obtain ⟨f1, f2, f3, f4, f5⟩ := fr_c1
  obtain ⟨f6, f7, f8, f9⟩ := fr_c2
  refine calls_Wp (args := []) (n := 78) Try.func9 rfl rfl (by simp) ?_
  refine qZ ?_
  refine Wp.seq ?_
  refine wR [0, 1, 2, 3, 4, 5, 6] ?_
  refine sT (fenc_any (a := 500000000000000000) (o := 1) ⟨by decide, by decide⟩ ⟨by decide, by decide⟩) ?_
  rintro v w1 ⟨xu, rfl, xh, xl, rfl, x⟩ lw1
  try replace pz := And.intro (pz.1.trans lw1) trivial
  rw [f1]
  rw [f2] at x
  refine sQ 3 ?_
  refine sO (fun bk2 w2 kb2 lw2 => ?_)
  try have kpz1 := Nat.le_trans pz.1.size kb2
  try replace pz := And.intro (pz.1.trans lw2) trivial
  refine sS (fun w3 sw3 vw3 => ?_)
  try replace pz := And.intro (pz.1.sto sw3 kpz1) trivial
  refine sZ 1 ?_
  refine Wp.seq ?_
  refine wR [0, 1, 2, 3, 4, 5, 6] ?_
  refine s_callT rfl rfl rfl (by kernel_rfl) rfl (c_wof 1 (by decide) (by decide) _) ?_
  rintro v w4 ⟨a1h, a1l, rfl, a1⟩ lw4
  try replace pz := And.intro (pz.1.trans lw4) trivial
  refine sT (fdec_any (o := 4) ⟨_, _, rfl, a1⟩ ⟨by decide, by decide⟩) ?_
  rintro v w5 rfl lw5
  try replace pz := And.intro (pz.1.trans lw5) trivial
  rw [f3, f4]
  refine sZ 5 ?_
  refine Wp.seq ?_
  refine wR [0, 1, 2, 3, 4, 5, 6] ?_
  refine s_callT rfl rfl rfl (by kernel_rfl) rfl (c_wof 1 (by decide) (by decide) _) ?_
  rintro v w6 ⟨a2h, a2l, rfl, a2⟩ lw6
  try replace pz := And.intro (pz.1.trans lw6) trivial
  refine sT (fdec_any (o := 10) ⟨_, _, rfl, a2⟩ ⟨by decide, by decide⟩) ?_
  rintro v w7 rfl lw7
  try replace pz := And.intro (pz.1.trans lw7) trivial
  rw [f5]
  refine sZ 5 ?_
  refine Wp.seq ?_
  refine wR [0, 1, 2, 3, 4, 5, 6] ?_
  refine s_callT rfl rfl rfl (by kernel_rfl) rfl (c_wof 258 (by decide) (by decide) _) ?_
  rintro v w8 ⟨a3h, a3l, rfl, a3⟩ lw8
  try replace pz := And.intro (pz.1.trans lw8) trivial
  refine sT (fput_any (o := 3) ⟨_, _, rfl, a3⟩ ⟨by decide, by decide⟩) ?_
  rintro v w9 ⟨sl, rfl, hb⟩ lw9
  try replace pz := And.intro (pz.1.trans lw9) trivial
  rw [f6]
  rw [f7] at hb
  obtain ⟨bb, bo, bc, rfl, hbc, hcell⟩ := hb.row (by decide)
  rw [show ([0, 1, 2] : List UInt8).length = 3 from rfl] at hbc hcell ⊢
  have pz : Later w9 w9 ∧ True := ⟨Later.refl _, trivial⟩
  refine sZ 5 ?_
  refine Wp.seq ?_
  refine wR [0, 1, 2, 3, 4, 5, 6, 7] ?_
  refine s_bs (e := 5) (cs := [.int .u8 1, .int .u8 2]) rfl rfl rfl (fun _ => by kernel_rfl) ?_
  intro c1 w4 hc1 l4 hrow1
  replace pz := And.intro (pz.1.trans l4) trivial
  have hg := row_octs (l := [1, 2]) (w := w4) (c := c1) hrow1.var
  refine s_callT rfl rfl rfl (by kernel_rfl) rfl (fget_any hg (by decide)) ?_
  rintro v w14 ⟨nu, rfl, nh, nl, rfl, n⟩ lw14
  try replace pz := And.intro (pz.1.trans lw14) trivial
  rw [f8]
  rw [f9] at n
  refine sQ 3 ?_
  refine sO (fun bk15 w15 kb15 lw15 => ?_)
  try have kpz9 := Nat.le_trans pz.1.size kb15
  try replace pz := And.intro (pz.1.trans lw15) trivial
  refine sS (fun w16 sw16 vw16 => ?_)
  try replace pz := And.intro (pz.1.sto sw16 kpz9) trivial
  refine sZ 1 ?_
  refine Wp.seq ?_
  refine wD [0, 1, 2, 3, 4, 5, 6, 7, 8, 9, 10, 11, 12, 13, 14, 15, 16, 17, 18, 19, 20, 21, 22, 23, 24, 25, 26, 27, 28, 29, 30, 31, 32, 33, 34, 35, 36, 37, 38, 39, 40, 41, 42, 43] [0, 0, 0, 23, 0, 0, 0, 0, 0, 0, 0, 0, 0, 0, 0, 0, 0, 0, 0, 0, 0, 0, 0, 0, 0, 0, 0, 0, 0, 0, 0, 0, 0, 0, 0, 0, 0, 0, 0, 1649267441663, 0, 0, 0, 0] (fun | 4 => fun v _ => IsW 128 v | 25 => fun v _ => v = .int .i64 (3 : Nat) | 40 => fun v _ => IsW 258 v | _ => fun _ _ => True) (fun wd ld => ?_)
  try replace pz := And.intro (pz.1.trans ld) trivial
  refine sM ?_
  refine t_eql rfl rfl rfl rfl rfl (by omega) ?_
  refine sQ 2 ?_
  refine s_callD rfl rfl rfl (by kernel_rfl) rfl (fun wc lc => c_wof 128 (by decide) (by decide) wc) ?_
  rintro v w17 u17 ⟨d1h, d1l, rfl, d1⟩ lw17 mw17
  try replace pz := And.intro (pz.1.trans lw17) trivial
  try replace pz := And.intro (pz.1.trans mw17) trivial
  refine s_eqv (c := true) rfl rfl rfl rfl rfl (fun _ => by kernel_rfl) (fun w => by rw [run_eql_wide, eqW_same x d1]) ?_
  refine sQ 3 ?_
  refine t_eql rfl rfl rfl rfl rfl (by omega) ?_
  refine sQ 3 ?_
  refine t_eql rfl rfl rfl rfl rfl (by omega) ?_
  refine sQ 3 ?_
  refine t_eql rfl rfl rfl rfl rfl (by omega) ?_
  refine sQ 3 ?_
  refine t_eql rfl rfl rfl rfl rfl (by omega) ?_
  refine sQ 3 ?_
  refine x_lenD rfl rfl rfl rfl rfl (fun _ => rfl) (fun _ _ h => h) (fun wL lwL => ?_)
  replace pz := And.intro (pz.1.trans lwL) trivial
  refine t_eql rfl rfl rfl rfl rfl (by omega) ?_
  refine sQ 3 ?_
  refine sI (sz := 1) (bo + 2) ?_
  refine xC (cell_later pz.1 (hcell 2 (by omega))) ?_
  refine t_eql rfl rfl rfl rfl rfl (by rfl) ?_
  refine sQ 3 ?_
  refine t_eql rfl rfl rfl rfl rfl (by omega) ?_
  refine sQ 3 ?_
  refine s_callD rfl rfl rfl (by kernel_rfl) rfl (fun wc lc => c_wof 258 (by decide) (by decide) wc) ?_
  rintro v w23 u23 ⟨d2h, d2l, rfl, d2⟩ lw23 mw23
  try replace pz := And.intro (pz.1.trans lw23) trivial
  try replace pz := And.intro (pz.1.trans mw23) trivial
  refine s_eqv (c := true) rfl rfl rfl rfl rfl (fun _ => by kernel_rfl) (fun w => by rw [run_eql_wide, eqW_same n d2]) ?_
  refine sZ 2 ?_
  refine Wp.ret ⟨.inr rfl, fun lW => ⟨_, res_tmp (P := Try.prog) rfl rfl, _, rfl, ?_, lW⟩⟩
  clear lW
  rfl
set_option maxHeartbeats 1000000 in
theorem law_frenc {a o : Int} (ha : I64 a) (ho : I64 o) {w : World} : Calls Try.prog 3 #[.int .i64 a, .int .i64 o] w fun e w' => ∃ r, e = .returned r ∧ r = .bool true ∧ Below w.heap.size w w' := by
  refine calls_Wp (args := [_, _]) (n := 50) Try.func3 rfl rfl (by simp) ?_
  refine qZ ?_
  refine qQ 2 ?_
  refine sT (fenc_any ha ho) ?_
  rintro v w1 ⟨xu, rfl, xh, xl, rfl, x⟩ lw1
  refine sQ 3 ?_
  refine sO (fun bk2 w2 kb2 lw2 => ?_)
  refine sS (fun w3 sw3 vw3 => ?_)
  refine sZ 1 ?_
  refine Wp.seq ?_
  refine qQ 1 ?_
  refine p_lss rfl rfl rfl rfl rfl (fun h14 => ?_) (fun h14 => ?_)
  · refine sZ 12 ?_
    refine Wp.condT rfl rfl ?_
    refine Wp.seq ?_
    obtain ⟨e1, e2⟩ := fc_bad (a := a) (o := o) (by omega)
    rw [e1]
    rw [e2] at x
    refine wR [0, 1, 2, 3, 4, 5, 6, 7, 8, 9, 10] ?_
    refine sT (franswers_any) ?_
    rintro v w4 rfl lw4
    refine sQ 2 ?_
    refine t_eql rfl rfl rfl rfl rfl (by omega) ?_
    refine sQ 3 ?_
    refine sB ?_
    refine s_eqv (c := true) rfl rfl rfl rfl rfl (fun _ => by kernel_rfl) (fun w => by rw [run_eql_wide, eqW_same x (show WideIs 0 0 0 by unfold WideIs; omega)]) ?_
    refine sZ 2 ?_
    refine Wp.ret ⟨.inr rfl, fun lW => ⟨_, res_tmp (P := Try.prog) rfl rfl, _, rfl, ?_, lW⟩⟩
    clear lW
    rfl
  · refine sQ 2 ?_
    refine p_geq rfl rfl rfl rfl rfl (fun h17 => ?_) (fun h17 => ?_)
    · refine sZ 9 ?_
      refine Wp.condT rfl rfl ?_
      refine Wp.seq ?_
      obtain ⟨e1, e2⟩ := fc_bad (a := a) (o := o) (by omega)
      rw [e1]
      rw [e2] at x
      refine wR [0, 1, 2, 3, 4, 5, 6, 7, 8, 9, 10] ?_
      refine sT (franswers_any) ?_
      rintro v w6 rfl lw6
      refine sQ 2 ?_
      refine t_eql rfl rfl rfl rfl rfl (by omega) ?_
      refine sQ 3 ?_
      refine sB ?_
      refine s_eqv (c := true) rfl rfl rfl rfl rfl (fun _ => by kernel_rfl) (fun w => by rw [run_eql_wide, eqW_same x (show WideIs 0 0 0 by unfold WideIs; omega)]) ?_
      refine sZ 2 ?_
      refine Wp.ret ⟨.inr rfl, fun lW => ⟨_, res_tmp (P := Try.prog) rfl rfl, _, rfl, ?_, lW⟩⟩
      clear lW
      rfl
    · refine sQ 3 ?_
      refine p_lss rfl rfl rfl rfl rfl (fun h21 => ?_) (fun h21 => ?_)
      · refine sZ 5 ?_
        refine Wp.condT rfl rfl ?_
        refine Wp.seq ?_
        obtain ⟨e1, e2⟩ := fc_bad (a := a) (o := o) (by omega)
        rw [e1]
        rw [e2] at x
        refine wR [0, 1, 2, 3, 4, 5, 6, 7, 8, 9, 10] ?_
        refine sT (franswers_any) ?_
        rintro v w8 rfl lw8
        refine sQ 2 ?_
        refine t_eql rfl rfl rfl rfl rfl (by omega) ?_
        refine sQ 3 ?_
        refine sB ?_
        refine s_eqv (c := true) rfl rfl rfl rfl rfl (fun _ => by kernel_rfl) (fun w => by rw [run_eql_wide, eqW_same x (show WideIs 0 0 0 by unfold WideIs; omega)]) ?_
        refine sZ 2 ?_
        refine Wp.ret ⟨.inr rfl, fun lW => ⟨_, res_tmp (P := Try.prog) rfl rfl, _, rfl, ?_, lW⟩⟩
        clear lW
        rfl
      · refine sQ 3 ?_
        refine p_gtr rfl rfl rfl rfl rfl (fun h25 => ?_) (fun h25 => ?_)
        · refine sZ 1 ?_
          refine Wp.condT rfl rfl ?_
          refine Wp.seq ?_
          obtain ⟨e1, e2⟩ := fc_bad (a := a) (o := o) (by omega)
          rw [e1]
          rw [e2] at x
          refine wR [0, 1, 2, 3, 4, 5, 6, 7, 8, 9, 10] ?_
          refine sT (franswers_any) ?_
          rintro v w10 rfl lw10
          refine sQ 2 ?_
          refine t_eql rfl rfl rfl rfl rfl (by omega) ?_
          refine sQ 3 ?_
          refine sB ?_
          refine s_eqv (c := true) rfl rfl rfl rfl rfl (fun _ => by kernel_rfl) (fun w => by rw [run_eql_wide, eqW_same x (show WideIs 0 0 0 by unfold WideIs; omega)]) ?_
          refine sZ 2 ?_
          refine Wp.ret ⟨.inr rfl, fun lW => ⟨_, res_tmp (P := Try.prog) rfl rfl, _, rfl, ?_, lW⟩⟩
          clear lW
          rfl
        · refine sZ 1 ?_
          refine Wp.condF rfl rfl ?_
          refine Wp.skip ?_
          refine Wp.seq ?_
          obtain ⟨e1, e2⟩ := fc_ok (a := a) (o := o) (by omega)
          rw [e1]
          rw [e2] at x
          refine wR [0, 1, 2, 3, 4, 5, 6, 7, 8, 9, 10, 11, 12, 13] ?_
          refine sT (franswers_any) ?_
          rintro v w12 rfl lw12
          refine sQ 2 ?_
          refine t_eql rfl rfl rfl rfl rfl (by omega) ?_
          refine sQ 3 ?_
          refine sT (c_rof ⟨_, _, rfl, x⟩ _) ?_
          rintro v w13 h1 lw13
          refine sQ 2 ?_
          refine s_callT rfl rfl rfl (by kernel_rfl) rfl (rcode_any ha o.toNat (by omega) (by omega)) ?_
          rintro v w14 h2 lw14
          refine s_callT rfl rfl rfl (by kernel_rfl) rfl (c_same_yes (h1.kp) (h2.kp) (by decide) (by decide)) ?_
          rintro v w15 rfl lw15
          refine sZ 2 ?_
          refine Wp.ret ⟨.inr rfl, fun lW => ⟨_, res_tmp (P := Try.prog) rfl rfl, _, rfl, ?_, lW⟩⟩
          clear lW
          rfl
set_option maxHeartbeats 1000000 in
theorem law_frdec {fh fl f o : Int} (hf : WideIs fh fl f) (ho : I64 o) {w : World} : Calls Try.prog 4 #[.agg #[.int .i64 fh, .int .u64 fl], .int .i64 o] w fun e w' => ∃ r, e = .returned r ∧ r = .bool true ∧ Below w.heap.size w w' := by
  refine calls_Wp (args := [_, _]) (n := 64) Try.func4 rfl rfl (by simp) ?_
  refine Wp.seq ?_
  refine wR [0, 1] ?_
  refine sE (fun bk1 w1 kb1 lw1 => ?_)
  refine sZ 1 ?_
  refine qQ 2 ?_
  refine sT (fdec_any ⟨_, _, rfl, hf⟩ ho) ?_
  rintro v w2 rfl lw2
  refine sZ 5 ?_
  refine Wp.seq ?_
  refine qQ 1 ?_
  refine p_lss rfl rfl rfl rfl rfl (fun h16 => ?_) (fun h16 => ?_)
  · refine sZ 12 ?_
    refine Wp.condT rfl rfl ?_
    refine Wp.seq ?_
    obtain ⟨e1, e2⟩ := fd_bad (f := f) (o := o) (by omega)
    rw [e1, e2]
    refine wR [0, 1, 2, 3, 4, 5, 6, 7, 8, 9] ?_
    refine sT (franswers_any) ?_
    rintro v w3 rfl lw3
    refine sQ 2 ?_
    refine t_eql rfl rfl rfl rfl rfl (by omega) ?_
    refine sQ 3 ?_
    refine t_eql rfl rfl rfl rfl rfl (by omega) ?_
    refine sZ 2 ?_
    refine Wp.ret ⟨.inr rfl, fun lW => ⟨_, res_tmp (P := Try.prog) rfl rfl, _, rfl, ?_, lW⟩⟩
    clear lW
    rfl
  · refine sQ 2 ?_
    refine p_gtr rfl rfl rfl rfl rfl (fun h19 => ?_) (fun h19 => ?_)
    · refine sZ 9 ?_
      refine Wp.condT rfl rfl ?_
      refine Wp.seq ?_
      obtain ⟨e1, e2⟩ := fd_bad (f := f) (o := o) (by omega)
      rw [e1, e2]
      refine wR [0, 1, 2, 3, 4, 5, 6, 7, 8, 9] ?_
      refine sT (franswers_any) ?_
      rintro v w4 rfl lw4
      refine sQ 2 ?_
      refine t_eql rfl rfl rfl rfl rfl (by omega) ?_
      refine sQ 3 ?_
      refine t_eql rfl rfl rfl rfl rfl (by omega) ?_
      refine sZ 2 ?_
      refine Wp.ret ⟨.inr rfl, fun lW => ⟨_, res_tmp (P := Try.prog) rfl rfl, _, rfl, ?_, lW⟩⟩
      clear lW
      rfl
    · refine sQ 3 ?_
      refine sT (c_rof ⟨_, _, rfl, hf⟩ _) ?_
      rintro v w5 h1 lw5
      refine sM ?_
      refine s_callT rfl rfl rfl (by kernel_rfl) rfl (rpow_any o.toNat (by omega) (by omega)) ?_
      rintro v w6 h2 lw6
      refine s_callT rfl rfl rfl (by kernel_rfl) rfl (rbelow_any (h1.kp) (h2.kp) (by decide) (by decide)) ?_
      rintro v w7 rfl lw7
      rcases Bool.eq_false_or_eq_true (decide (0 ≤ f ∧ f < oP o.toNat)) with h26 | h26
      · rw [h26]
        have hb := of_decide_eq_true h26
        refine sZ 2 ?_
        refine Wp.condF rfl rfl ?_
        refine Wp.skip ?_
        refine qQ 1 ?_
        refine sT (c_rof ⟨_, _, rfl, hf⟩ _) ?_
        rintro v w8 h3 lw8
        refine sM ?_
        refine s_callT rfl rfl rfl (by kernel_rfl) rfl (rleast_any (h3.kp) (by decide) o.toNat (by omega) (by omega) hb) ?_
        rintro v w9 rfl lw9
        rcases Bool.eq_false_or_eq_true (lsB f o.toNat) with h42 | h42
        · rw [h42]
          obtain ⟨e1, e2⟩ := fd_ok (f := f) (o := o) ⟨by omega, hb⟩ h42
          rw [e1, e2, ls_t h42]
          refine sZ 5 ?_
          refine Wp.seq ?_
          refine wR [0, 1, 2, 3, 4, 5, 6, 7, 8, 9, 10, 11, 12, 13, 14, 15, 16, 17, 18, 19] ?_
          refine sT (franswers_any) ?_
          rintro v w10 rfl lw10
          refine sQ 3 ?_
          refine t_eql rfl rfl rfl rfl rfl (by omega) ?_
          refine sQ 3 ?_
          refine t_eql rfl rfl rfl rfl rfl (by omega) ?_
          refine sM ?_
          refine s_eqv (c := true) rfl rfl rfl rfl rfl (fun _ => by kernel_rfl) (fun w => by rw [run_eql_bool, beq_self_eq_true]) ?_
          refine sZ 9 ?_
          refine Wp.ret ⟨.inr rfl, fun lW => ⟨_, res_tmp (P := Try.prog) rfl rfl, _, rfl, ?_, lW⟩⟩
          clear lW
          rfl
        · rw [h42]
          obtain ⟨e1, e2⟩ := fd_fine (f := f) (o := o) ⟨by omega, hb⟩ h42
          rw [e1, e2, ls_f h42]
          refine sZ 5 ?_
          refine Wp.seq ?_
          refine wR [0, 1, 2, 3, 4, 5, 6, 7, 8, 9, 10, 11, 12, 13, 14, 15, 16, 17, 18, 19] ?_
          refine sT (franswers_any) ?_
          rintro v w12 rfl lw12
          refine sQ 3 ?_
          refine t_eql rfl rfl rfl rfl rfl (by omega) ?_
          refine sQ 3 ?_
          refine f_eql rfl rfl rfl rfl rfl (by omega) ?_
          refine sM ?_
          refine s_eqv (c := true) rfl rfl rfl rfl rfl (fun _ => by kernel_rfl) (fun w => by rw [run_eql_bool, beq_self_eq_true]) ?_
          refine sQ 5 ?_
          refine t_eql rfl rfl rfl rfl rfl (by omega) ?_
          refine sZ 3 ?_
          refine Wp.ret ⟨.inr rfl, fun lW => ⟨_, res_tmp (P := Try.prog) rfl rfl, _, rfl, ?_, lW⟩⟩
          clear lW
          rfl
      · rw [h26]
        have hb := of_decide_eq_false h26
        refine sZ 2 ?_
        refine Wp.condT rfl rfl ?_
        refine Wp.seq ?_
        obtain ⟨e1, e2⟩ := fd_bad (f := f) (o := o) (by omega)
        rw [e1, e2]
        refine wR [0, 1, 2, 3, 4, 5, 6, 7, 8, 9] ?_
        refine sT (franswers_any) ?_
        rintro v w14 rfl lw14
        refine sQ 2 ?_
        refine t_eql rfl rfl rfl rfl rfl (by omega) ?_
        refine sQ 3 ?_
        refine t_eql rfl rfl rfl rfl rfl (by omega) ?_
        refine sZ 2 ?_
        refine Wp.ret ⟨.inr rfl, fun lW => ⟨_, res_tmp (P := Try.prog) rfl rfl, _, rfl, ?_, lW⟩⟩
        clear lW
        rfl
set_option maxHeartbeats 1000000 in
theorem law_frflo {a o f : Int} (ha : I64 a) (ho : I64 o) (hf : 0 ≤ f ∧ f < 18446744073709551616) {w : World} : Calls Try.prog 5 #[.int .i64 a, .int .i64 o, .int .u64 f] w fun e w' => ∃ r, e = .returned r ∧ r = .bool true ∧ Below w.heap.size w w' := by
  refine calls_Wp (args := [_, _, _]) (n := 81) Try.func5 rfl rfl (by simp) ?_
  refine qZ ?_
  refine qQ 2 ?_
  refine sT (fenc_any ha ho) ?_
  rintro v w1 ⟨xu, rfl, xh, xl, rfl, x⟩ lw1
  refine sQ 3 ?_
  refine sO (fun bk2 w2 kb2 lw2 => ?_)
  refine sS (fun w3 sw3 vw3 => ?_)
  refine sZ 1 ?_
  refine Wp.seq ?_
  refine qQ 1 ?_
  refine p_neq rfl rfl rfl rfl rfl (fun h22 => ?_) (fun h22 => ?_)
  · refine vOrd_nil ?_
    refine Wp.condT rfl rfl ?_
    refine Wp.seq ?_
    refine wR [0, 1] ?_
    refine sT (franswers_any) ?_
    rintro v w4 rfl lw4
    refine sZ 1 ?_
    refine Wp.ret ⟨.inr rfl, fun lW => ⟨_, res_tmp (P := Try.prog) rfl rfl, _, rfl, ?_, lW⟩⟩
    clear lW
    rfl
  · refine vOrd_nil ?_
    refine Wp.condF rfl rfl ?_
    refine Wp.skip ?_
    refine Wp.seq ?_
    obtain ⟨ga, go⟩ := fc_zero (by omega)
    obtain ⟨e1, e2⟩ := fc_ok (a := a) (o := o) ⟨ga, go⟩
    rw [e1]
    rw [e2] at x
    obtain ⟨k, hk⟩ : ∃ k, o.toNat = k := ⟨_, rfl⟩
    rw [hk] at x
    obtain ⟨c1, c2⟩ := fl_code a k
    have c3 := fc_low (k := k) ga.1
    have c4 := fc_top (k := k) ga.2
    have c5 := fl_low (k := k) c3
    have hls := ls_of c2 (by omega)
    obtain ⟨e3, e4⟩ := fd_ok (f := fcI a k) (o := o) ⟨go, by rw [hk]; exact ⟨c3, c4⟩⟩ (by rw [hk]; exact hls)
    rw [hk] at e4
    obtain ⟨e5, e6⟩ := fc_ok (a := flI (fcI a k) k) (o := o) ⟨by omega, go⟩
    rw [hk, c2] at e6
    refine wQ 2 ?_
    refine sT (fdec_any ⟨_, _, rfl, x⟩ ho) ?_
    rintro v w5 rfl lw5
    rw [e3, e4]
    refine sZ 5 ?_
    refine qQ 2 ?_
    refine sT (fenc_any (a := flI (fcI a k) k) ⟨by omega, by omega⟩ ho) ?_
    rintro v w6 ⟨yu, rfl, yh, yl, rfl, y⟩ lw6
    rw [e5]
    rw [e6] at y
    refine sQ 3 ?_
    refine sO (fun bk7 w7 kb7 lw7 => ?_)
    refine sS (fun w8 sw8 vw8 => ?_)
    refine sZ 1 ?_
    refine Wp.seq ?_
    refine qQ 1 ?_
    refine f_neq rfl rfl rfl rfl rfl (by omega) ?_
    refine sQ 2 ?_
    refine f_neq rfl rfl rfl rfl rfl (by omega) ?_
    refine sQ 4 ?_
    refine f_gtr rfl rfl rfl rfl rfl (by omega) ?_
    refine sQ 4 ?_
    refine s_eqv (c := false) rfl rfl rfl rfl rfl (fun _ => by kernel_rfl) (fun w => by rw [run_neq_wide, eqW_same y x]; rfl) ?_
    refine sQ 3 ?_
    refine p_geq rfl rfl rfl rfl rfl (fun h54 => ?_) (fun h54 => ?_)
    · have ceq := fc_eight (k := k) (by omega) c2
      refine sQ 3 ?_
      refine f_neq rfl rfl rfl rfl rfl (by omega) ?_
      refine sZ 2 ?_
      refine Wp.condF rfl rfl ?_
      refine Wp.skip ?_
      refine Wp.seq ?_
      refine qQ 1 ?_
      refine t_gtr rfl rfl rfl rfl rfl (by omega) ?_
      refine vOrd_nil ?_
      refine Wp.condT rfl rfl ?_
      refine Wp.seq ?_
      refine wR [0, 1] ?_
      refine sT (franswers_any) ?_
      rintro v w10 rfl lw10
      refine sZ 1 ?_
      refine Wp.ret ⟨.inr rfl, fun lW => ⟨_, res_tmp (P := Try.prog) rfl rfl, _, rfl, ?_, lW⟩⟩
      clear lW
      rfl
    · refine sZ 6 ?_
      refine Wp.condF rfl rfl ?_
      refine Wp.skip ?_
      refine Wp.seq ?_
      refine qQ 1 ?_
      refine f_gtr rfl rfl rfl rfl rfl (by omega) ?_
      refine vOrd_nil ?_
      refine Wp.condF rfl rfl ?_
      refine Wp.skip ?_
      refine Wp.seq ?_
      obtain ⟨s1, s2⟩ := shift_in (k := k) hf (by omega)
      have s3 := oP_mono (show k ≤ 7 by omega)
      have s4 : oP 7 = 72057594037927936 := by decide
      obtain ⟨t1, t2⟩ := fc_seven (k := k) (by omega) ⟨s1, s2⟩
      obtain ⟨e7, e8⟩ := fd_ok (f := f / p2 (64 - 8 * k)) (o := o) ⟨go, by rw [hk]; exact ⟨s1, s2⟩⟩ (by rw [hk]; exact ls_of t1 t2)
      have hsh : WideIs 0 (f / p2 (64 - 8 * k)) (f / p2 (64 - 8 * k)) := by unfold WideIs; omega
      refine wQ 2 ?_
      refine a_mul (-9223372036854775808) 9223372036854775807 (by decide) rfl rfl rfl rfl rfl (by omega) (by omega) ?_
      refine aM (-9223372036854775808) 9223372036854775807 ?_
      refine a_conv (0) 18446744073709551615 (by decide) rfl rfl rfl rfl rfl rfl (by omega) (by omega) ?_
      refine a_shr (p2 (64 - 8 * k)) rfl rfl rfl rfl rfl (by omega) (by show (2 : Int) ^ min (64 - 8 * o).toNat 64 = 2 ^ (64 - 8 * k); congr 1; omega) ?_
      refine sB ?_
      refine sM ?_
      refine sT (fdec_any (f := f / p2 (64 - 8 * k)) ⟨_, _, rfl, hsh⟩ ho) ?_
      rintro v w11 rfl lw11
      rw [e7]
      refine sZ 5 ?_
      refine Wp.seq ?_
      refine wR [0, 1, 2, 3, 4, 5] ?_
      refine sT (franswers_any) ?_
      rintro v w12 rfl lw12
      refine sQ 2 ?_
      refine t_eql rfl rfl rfl rfl rfl (by omega) ?_
      refine sZ 2 ?_
      refine Wp.ret ⟨.inr rfl, fun lW => ⟨_, res_tmp (P := Try.prog) rfl rfl, _, rfl, ?_, lW⟩⟩
      clear lW
      rfl
set_option maxHeartbeats 1000000 in
theorem law_frput {nh nl n o : Int} (hn : WideIs nh nl n) (ho : I64 o) {w : World} : Calls Try.prog 6 #[.agg #[.int .i64 nh, .int .u64 nl], .int .i64 o] w fun e w' => ∃ r, e = .returned r ∧ r = .bool true ∧ Below w.heap.size w w' := by
  refine calls_Wp (args := [_, _]) (n := 74) Try.func6 rfl rfl (by simp) ?_
  refine Wp.seq ?_
  refine wR [0, 1] ?_
  refine sE (fun bk1 w1 kb1 lw1 => ?_)
  try have kpz2 := Nat.le_trans pz.1.size kb1
  try replace pz := And.intro (pz.1.trans lw1) trivial
  refine sZ 1 ?_
  refine qQ 2 ?_
  refine sT (fput_any ⟨_, _, rfl, hn⟩ ho) ?_
  rintro v w2 ⟨sl, rfl, hb⟩ lw2
  try replace pz := And.intro (pz.1.trans lw2) trivial
  have pz : Later w2 w2 ∧ True := ⟨Later.refl _, trivial⟩
  obtain ⟨ba, bc, rfl⟩ := hb.slice
  refine sZ 5 ?_
  refine Wp.seq ?_
  refine qQ 1 ?_
  refine p_lss rfl rfl rfl rfl rfl (fun h16 => ?_) (fun h16 => ?_)
  · refine sZ 4 ?_
    refine Wp.condT rfl rfl ?_
    refine Wp.seq ?_
    obtain ⟨e1, e2⟩ := fp_bad (n := n) (o := o) (by omega)
    rw [e1, e2]
    refine wR [0, 1, 2, 3, 4, 5, 6, 7, 8, 9, 10] ?_
    refine sT (franswers_any) ?_
    rintro v w3 rfl lw3
    try replace pz := And.intro (pz.1.trans lw3) trivial
    refine sQ 2 ?_
    refine t_eql rfl rfl rfl rfl rfl (by omega) ?_
    refine sQ 3 ?_
    refine x_len rfl rfl rfl rfl rfl ?_
    refine t_eql rfl rfl rfl rfl rfl (by rfl) ?_
    refine sZ 2 ?_
    refine Wp.ret ⟨.inr rfl, fun lW => ⟨_, res_tmp (P := Try.prog) rfl rfl, _, rfl, ?_, lW⟩⟩
    clear lW
    rfl
  · refine sQ 2 ?_
    refine p_gtr rfl rfl rfl rfl rfl (fun h19 => ?_) (fun h19 => ?_)
    · refine sZ 1 ?_
      refine Wp.condT rfl rfl ?_
      refine Wp.seq ?_
      obtain ⟨e1, e2⟩ := fp_bad (n := n) (o := o) (by omega)
      rw [e1, e2]
      refine wR [0, 1, 2, 3, 4, 5, 6, 7, 8, 9, 10] ?_
      refine sT (franswers_any) ?_
      rintro v w4 rfl lw4
      try replace pz := And.intro (pz.1.trans lw4) trivial
      refine sQ 2 ?_
      refine t_eql rfl rfl rfl rfl rfl (by omega) ?_
      refine sQ 3 ?_
      refine x_len rfl rfl rfl rfl rfl ?_
      refine t_eql rfl rfl rfl rfl rfl (by rfl) ?_
      refine sZ 2 ?_
      refine Wp.ret ⟨.inr rfl, fun lW => ⟨_, res_tmp (P := Try.prog) rfl rfl, _, rfl, ?_, lW⟩⟩
      clear lW
      rfl
    · refine sZ 1 ?_
      refine Wp.condF rfl rfl ?_
      refine Wp.skip ?_
      refine Wp.seq ?_
      refine qQ 1 ?_
      refine sT (c_rof ⟨_, _, rfl, hn⟩ _) ?_
      rintro v w5 h1 lw5
      try replace pz := And.intro (pz.1.trans lw5) trivial
      refine sM ?_
      refine s_callT rfl rfl rfl (by kernel_rfl) rfl (rpow_any o.toNat (by omega) (by omega)) ?_
      rintro v w6 h2 lw6
      try replace pz := And.intro (pz.1.trans lw6) trivial
      refine s_callT rfl rfl rfl (by kernel_rfl) rfl (rbelow_any (h1.kp) (h2.kp) (by decide) (by decide)) ?_
      rintro v w7 rfl lw7
      try replace pz := And.intro (pz.1.trans lw7) trivial
      rcases Bool.eq_false_or_eq_true (decide (0 ≤ n ∧ n < oP o.toNat)) with h35 | h35
      · rw [h35]
        have hk := of_decide_eq_true h35
        refine sZ 1 ?_
        refine Wp.condF rfl rfl ?_
        refine Wp.skip ?_
        refine Wp.seq ?_
        obtain ⟨e1, e2⟩ := fp_ok (n := n) (o := o) (by omega) hk
        rw [e1, e2]
        rw [e2] at hb
        obtain ⟨g1, g2⟩ := fg_ok (l := octL n o.toNat) (by rw [octL_len]; omega)
        rw [num_oct_of hk] at g2
        refine wQ 1 ?_
        refine s_callT rfl rfl rfl (by kernel_rfl) rfl (fget_any (hb.later pz.1) (by rw [octL_len]; omega)) ?_
        rintro v w8 ⟨mu, rfl, mh, ml, rfl, hm⟩ lw8
        try replace pz := And.intro (pz.1.trans lw8) trivial
        rw [g1]
        rw [g2] at hm
        refine sQ 3 ?_
        refine sO (fun bk9 w9 kb9 lw9 => ?_)
        try have kpz7 := Nat.le_trans pz.1.size kb9
        try replace pz := And.intro (pz.1.trans lw9) trivial
        refine sS (fun w10 sw10 vw10 => ?_)
        try replace pz := And.intro (pz.1.sto sw10 kpz7) trivial
        refine sZ 1 ?_
        refine Wp.seq ?_
        refine wR [0, 1, 2, 3, 4, 5, 6, 7, 8, 9, 10, 11, 12, 13, 14, 15, 16, 17, 18, 19, 20, 21, 22] ?_
        refine sT (franswers_any) ?_
        rintro v w11 rfl lw11
        try replace pz := And.intro (pz.1.trans lw11) trivial
        refine sQ 2 ?_
        refine t_eql rfl rfl rfl rfl rfl (by omega) ?_
        refine sQ 4 ?_
        refine sT (c_rof ⟨_, _, rfl, hn⟩ _) ?_
        rintro v w12 h3 lw12
        try replace pz := And.intro (pz.1.trans lw12) trivial
        refine sM ?_
        refine s_callT rfl rfl rfl (by kernel_rfl) rfl (rocts_any (h3.kp) (by decide) o.toNat (by omega) (by omega)) ?_
        rintro v w13 ⟨oc, rfl, hoc, hov⟩ lw13
        try replace pz := And.intro (pz.1.trans lw13) trivial
        replace hov := row_octs hov
        rw [octL_len] at hov
        refine sT (rsame_yes (hb.later pz.1) hov) ?_
        rintro v w14 rfl lw14
        try replace pz := And.intro (pz.1.trans lw14) trivial
        refine sQ 3 ?_
        refine t_eql rfl rfl rfl rfl rfl (by omega) ?_
        refine sQ 4 ?_
        refine s_eqv (c := true) rfl rfl rfl rfl rfl (fun _ => by kernel_rfl) (fun w => by rw [run_eql_wide, eqW_same hm hn]) ?_
        refine sZ 2 ?_
        refine Wp.ret ⟨.inr rfl, fun lW => ⟨_, res_tmp (P := Try.prog) rfl rfl, _, rfl, ?_, lW⟩⟩
        clear lW
        rfl
      · rw [h35]
        have hk := of_decide_eq_false h35
        refine sZ 1 ?_
        refine Wp.condT rfl rfl ?_
        refine Wp.seq ?_
        obtain ⟨e1, e2⟩ := fp_over (n := n) (o := o) (by omega) hk
        rw [e1, e2]
        refine wR [0, 1, 2, 3, 4, 5, 6, 7, 8, 9, 10] ?_
        refine sT (franswers_any) ?_
        rintro v w16 rfl lw16
        try replace pz := And.intro (pz.1.trans lw16) trivial
        refine sQ 2 ?_
        refine t_eql rfl rfl rfl rfl rfl (by omega) ?_
        refine sQ 3 ?_
        refine x_len rfl rfl rfl rfl rfl ?_
        refine t_eql rfl rfl rfl rfl rfl (by rfl) ?_
        refine sZ 2 ?_
        refine Wp.ret ⟨.inr rfl, fun lW => ⟨_, res_tmp (P := Try.prog) rfl rfl, _, rfl, ?_, lW⟩⟩
        clear lW
        rfl
set_option maxHeartbeats 1000000 in
theorem law_frget {l : List UInt8} {u : Value} (hl : l.length ≤ 9223372036854775807) {w : World} (hu : BytesAt w u l) : Calls Try.prog 7 #[u] w fun e w' => ∃ r, e = .returned r ∧ r = .bool true ∧ Below w.heap.size w w' := by
  obtain ⟨ua, uc, rfl⟩ := hu.slice
  have pz : Later w w ∧ True := ⟨Later.refl w, trivial⟩
  refine calls_Wp (args := [_]) (n := 53) Try.func7 rfl rfl (by simp) ?_
  refine qZ ?_
  refine qQ 1 ?_
  refine sT (fget_any (hu.later pz.1) hl) ?_
  rintro v w1 ⟨au, rfl, ah, al, rfl, ha⟩ lw1
  try replace pz := And.intro (pz.1.trans lw1) trivial
  try replace qz := And.intro (qz.1.trans lw1) trivial
  refine sQ 3 ?_
  refine sO (fun bk2 w2 kb2 lw2 => ?_)
  try have kpz3 := Nat.le_trans pz.1.size kb2
  try replace pz := And.intro (pz.1.trans lw2) trivial
  try have kqz3 := Nat.le_trans qz.1.size kb2
  try replace qz := And.intro (qz.1.trans lw2) trivial
  refine sS (fun w3 sw3 vw3 => ?_)
  try replace pz := And.intro (pz.1.sto sw3 kpz3) trivial
  try replace qz := And.intro (qz.1.sto sw3 kqz3) trivial
  refine sZ 1 ?_
  refine Wp.seq ?_
  refine qQ 1 ?_
  refine x_len rfl rfl rfl rfl rfl ?_
  refine p_gtr rfl rfl rfl rfl rfl (fun h14 => ?_) (fun h14 => ?_)
  · refine vOrd_nil ?_
    refine Wp.condT rfl rfl ?_
    refine Wp.seq ?_
    obtain ⟨e1, e2⟩ := fg_bad (l := l) (by omega)
    rw [e1]
    rw [e2] at ha
    refine wR [0, 1, 2, 3, 4, 5, 6, 7, 8, 9, 10] ?_
    refine sT (franswers_any) ?_
    rintro v w4 rfl lw4
    try replace pz := And.intro (pz.1.trans lw4) trivial
    try replace qz := And.intro (qz.1.trans lw4) trivial
    refine sQ 2 ?_
    refine t_eql rfl rfl rfl rfl rfl (by omega) ?_
    refine sQ 3 ?_
    refine sB ?_
    refine s_eqv (c := true) rfl rfl rfl rfl rfl (fun _ => by kernel_rfl) (fun w => by rw [run_eql_wide, eqW_same ha (show WideIs 0 0 0 by unfold WideIs; omega)]) ?_
    refine sZ 2 ?_
    refine Wp.ret ⟨.inr rfl, fun lW => ⟨_, res_tmp (P := Try.prog) rfl rfl, _, rfl, ?_, lW⟩⟩
    clear lW
    rfl
  · refine vOrd_nil ?_
    refine Wp.condF rfl rfl ?_
    refine Wp.skip ?_
    refine Wp.seq ?_
    obtain ⟨e1, e2⟩ := fg_ok (l := l) (by omega)
    rw [e1]
    rw [e2] at ha
    obtain ⟨p1, p2⟩ := fp_ok (n := numL l) (o := (l.length : Int)) (by omega) (by rw [Int.toNat_natCast]; exact numL_in l)
    rw [Int.toNat_natCast, oct_num] at p2
    refine wQ 2 ?_
    refine x_len rfl rfl rfl rfl rfl ?_
    refine sT (fput_any (o := (l.length : Int)) ⟨_, _, rfl, ha⟩ ⟨by omega, by omega⟩) ?_
    rintro v w6 ⟨sl, rfl, hb⟩ lw6
    try replace pz := And.intro (pz.1.trans lw6) trivial
    try replace qz := And.intro (qz.1.trans lw6) trivial
    rw [p1]
    rw [p2] at hb
    have qz : Later w6 w6 ∧ True := ⟨Later.refl _, trivial⟩
    refine sZ 5 ?_
    refine Wp.seq ?_
    refine wR [0, 1, 2, 3, 4, 5, 6, 7, 8, 9, 10, 11, 12, 13, 14, 15, 16, 17, 18, 19, 20, 21] ?_
    refine sT (franswers_any) ?_
    rintro v w7 rfl lw7
    try replace pz := And.intro (pz.1.trans lw7) trivial
    try replace qz := And.intro (qz.1.trans lw7) trivial
    refine sQ 2 ?_
    refine t_eql rfl rfl rfl rfl rfl (by omega) ?_
    refine sQ 3 ?_
    refine sT (c_rof ⟨_, _, rfl, ha⟩ _) ?_
    rintro v w8 h1 lw8
    try replace pz := And.intro (pz.1.trans lw8) trivial
    try replace qz := And.intro (qz.1.trans lw8) trivial
    refine sM ?_
    refine s_callT rfl rfl rfl (by kernel_rfl) rfl (rnumber_any (hu.later pz.1) (by omega)) ?_
    rintro v w9 h2 lw9
    try replace pz := And.intro (pz.1.trans lw9) trivial
    try replace qz := And.intro (qz.1.trans lw9) trivial
    refine s_callT rfl rfl rfl (by kernel_rfl) rfl (c_same_yes (h1.kp) (h2.kp) (by decide) (by decide)) ?_
    rintro v w10 rfl lw10
    try replace pz := And.intro (pz.1.trans lw10) trivial
    try replace qz := And.intro (qz.1.trans lw10) trivial
    refine sQ 3 ?_
    refine t_eql rfl rfl rfl rfl rfl (by omega) ?_
    refine sQ 4 ?_
    refine sT (rsame_yes (hu.later pz.1) (hb.later qz.1)) ?_
    rintro v w11 rfl lw11
    try replace pz := And.intro (pz.1.trans lw11) trivial
    try replace qz := And.intro (qz.1.trans lw11) trivial
    refine sZ 2 ?_
    refine Wp.ret ⟨.inr rfl, fun lW => ⟨_, res_tmp (P := Try.prog) rfl rfl, _, rfl, ?_, lW⟩⟩
    clear lW
    rfl
end Go.Proofs.Ytjhopmnmlenenaa
