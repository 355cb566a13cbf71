/-
 The contracts of day's functions: plain, inRange, check, ranged, halfDayOn, small, Join, Split, Julian, Civil (P7.1, P7.2). Conditions: fields are ints.
-/
import Derived.Test.YthihioakjpmnbaaGreatDayR
namespace Go.Proofs.YthihioakjpmnbaaGreat
open Go.RowKit
set_option maxRecDepth 100000

theorem dplain_any (d s a : Int) (w : World) : Calls Tryz.prog 78 #[.agg #[.int .i64 d, .int .i64 s, .int .i64 a]] w fun e w' => ∃ r, e = .returned r ∧ r = .bool (isL s a) ∧ Below w.heap.size w w' := by
 refine calls_Wp (args := [_]) (n := 21) Tryz.func78 rfl rfl (by simp) ?_
 refine Wp.seq ?_
 refine wR [0, 1] ?_
 refine sE (fun bk1 w1 kb1 lw1 => ?_)
 refine sZ 1 ?_
 refine qQ 2 ?_
 refine p_geq rfl rfl rfl rfl rfl (fun h5 => ?_) (fun h5 => ?_)
 ·refine sQ 3 ?_
  refine p_lss rfl rfl rfl rfl rfl (fun h9 => ?_) (fun h9 => ?_)
  ·refine sQ 4 ?_
   refine p_geq rfl rfl rfl rfl rfl (fun h14 => ?_) (fun h14 => ?_)
   ·refine sQ 4 ?_
    refine p_lss rfl rfl rfl rfl rfl (fun h19 => ?_) (fun h19 => ?_)
    ·refine sZ 2 ?_
     refine Wp.ret ⟨.inr rfl, fun lW => ⟨_, res_tmp (P := Tryz.prog) rfl rfl, _, rfl, ?_, lW⟩⟩
     clear lW
     rw [isL_iff.2 (by omega)]
    ·refine sZ 2 ?_
     refine Wp.ret ⟨.inr rfl, fun lW => ⟨_, res_tmp (P := Tryz.prog) rfl rfl, _, rfl, ?_, lW⟩⟩
     clear lW
     rw [isL_no.2 (by omega)]
   ·refine sZ 7 ?_
    refine Wp.ret ⟨.inr rfl, fun lW => ⟨_, res_tmp (P := Tryz.prog) rfl rfl, _, rfl, ?_, lW⟩⟩
    clear lW
    rw [isL_no.2 (by omega)]
  ·refine sZ 12 ?_
   refine Wp.ret ⟨.inr rfl, fun lW => ⟨_, res_tmp (P := Tryz.prog) rfl rfl, _, rfl, ?_, lW⟩⟩
   clear lW
   rw [isL_no.2 (by omega)]
 ·refine sZ 16 ?_
  refine Wp.ret ⟨.inr rfl, fun lW => ⟨_, res_tmp (P := Tryz.prog) rfl rfl, _, rfl, ?_, lW⟩⟩
  clear lW
  rw [isL_no.2 (by omega)]
theorem dinr_any (n : Int) (w : World) : Calls Tryz.prog 79 #[.int .i64 n] w fun e w' => ∃ r, e = .returned r ∧ r = .bool (inB n) ∧ Below w.heap.size w w' := by
 refine calls_Wp (args := [_]) (n := 9) Tryz.func79 rfl rfl (by simp) ?_
 refine qZ ?_
 refine qQ 1 ?_
 refine p_geq rfl rfl rfl rfl rfl (fun h4 => ?_) (fun h4 => ?_)
 ·refine sQ 2 ?_
  refine p_leq rfl rfl rfl rfl rfl (fun h7 => ?_) (fun h7 => ?_)
  ·refine sZ 2 ?_
   refine Wp.ret ⟨.inr rfl, fun lW => ⟨_, res_tmp (P := Tryz.prog) rfl rfl, _, rfl, ?_, lW⟩⟩
   clear lW
   rw [inB_iff.2 (by omega)]
  ·refine sZ 2 ?_
   refine Wp.ret ⟨.inr rfl, fun lW => ⟨_, res_tmp (P := Tryz.prog) rfl rfl, _, rfl, ?_, lW⟩⟩
   clear lW
   rw [inB_no.2 (by omega)]
 ·refine sZ 5 ?_
  refine Wp.ret ⟨.inr rfl, fun lW => ⟨_, res_tmp (P := Tryz.prog) rfl rfl, _, rfl, ?_, lW⟩⟩
  clear lW
  rw [inB_no.2 (by omega)]
theorem dcheck_any (d s a : Int) (w : World) : Calls Tryz.prog 51 #[.agg #[.int .i64 d, .int .i64 s, .int .i64 a]] w fun e w' => ∃ r, e = .returned r ∧ r = .int .i64 (labE d s a) ∧ Below w.heap.size w w' := by
 refine calls_Wp (args := [_]) (n := 10) Tryz.func51 rfl rfl (by simp) ?_
 refine Wp.seq ?_
 refine wR [0, 1] ?_
 refine sE (fun bk1 w1 kb1 lw1 => ?_)
 refine sZ 1 ?_
 refine Wp.seq ?_
 refine qQ 1 ?_
 refine sT (dplain_any d s a _) ?_
 rintro v w2 rfl lw2
 rcases Bool.eq_false_or_eq_true (isL s a) with h4 | h4
 ·rw [h4]
  refine sZ 1 ?_
  refine Wp.condF rfl rfl ?_
  refine Wp.skip ?_
  refine Wp.seq ?_
  refine qQ 2 ?_
  refine sT (dinr_any d _) ?_
  rintro v w3 rfl lw3
  rcases Bool.eq_false_or_eq_true (inB d) with h8 | h8
  ·rw [h8]
   refine sZ 1 ?_
   refine Wp.condF rfl rfl ?_
   refine Wp.skip ?_
   refine qZ ?_
   refine Wp.ret ⟨.inr rfl, fun lW => ⟨_, res_tmp (P := Tryz.prog) rfl rfl, _, rfl, ?_, lW⟩⟩
   clear lW
   rw [(lab_ok h4 h8).1]
  ·rw [h8]
   refine sZ 1 ?_
   refine Wp.condT rfl rfl ?_
   refine qZ ?_
   refine Wp.ret ⟨.inr rfl, fun lW => ⟨_, res_tmp (P := Tryz.prog) rfl rfl, _, rfl, ?_, lW⟩⟩
   clear lW
   rw [(lab_far h4 h8).1]
 ·rw [h4]
  refine sZ 1 ?_
  refine Wp.condT rfl rfl ?_
  refine qZ ?_
  refine Wp.ret ⟨.inr rfl, fun lW => ⟨_, res_tmp (P := Tryz.prog) rfl rfl, _, rfl, ?_, lW⟩⟩
  clear lW
  rw [(lab_bad h4).1]
def rngV (d x : Int) : Int := if inB d = true then x else 0
def rngE (d : Int) : Int := if inB d = true then 0 else 2
theorem rng_yes {d : Int} (h : inB d = true) (x : Int) : rngV d x = x := by unfold rngV; exact if_pos h
theorem rng_no {d : Int} (h : inB d = false) (x : Int) : rngV d x = 0 := by unfold rngV; rw [h]; rfl
theorem rngE_yes {d : Int} (h : inB d = true) : rngE d = 0 := by unfold rngE; exact if_pos h
theorem rngE_no {d : Int} (h : inB d = false) : rngE d = 2 := by unfold rngE; rw [h]; rfl
theorem dranged_any (d s a : Int) (w : World) : Calls Tryz.prog 99 #[.agg #[.int .i64 d, .int .i64 s, .int .i64 a]] w fun e w' => ∃ r, e = .returned r ∧ r = .tuple #[.agg #[.int .i64 (rngV d d), .int .i64 (rngV d s), .int .i64 (rngV d a)], .int .i64 (rngE d)] ∧ Below w.heap.size w w' := by
 refine calls_Wp (args := [_]) (n := 10) Tryz.func99 rfl rfl (by simp) ?_
 refine Wp.seq ?_
 refine wR [0, 1, 2] ?_
 refine sE (fun bk1 w1 kb1 lw1 => ?_)
 refine sO (fun bk2 w2 kb2 lw2 => ?_)
 refine sZ 1 ?_
 refine Wp.seq ?_
 refine qQ 2 ?_
 refine sT (dinr_any d _) ?_
 rintro v w3 rfl lw3
 rcases Bool.eq_false_or_eq_true (inB d) with h6 | h6
 ·rw [h6]
  refine sZ 1 ?_
  refine Wp.condF rfl rfl ?_
  refine Wp.skip ?_
  refine qQ 1 ?_
  refine sS (fun w4 sw4 vw4 => ?_)
  refine sZ 1 ?_
  refine Wp.ret ⟨.inr rfl, fun lW => ⟨_, ⟨_, _, res_cell rfl rfl rfl rfl, res_tmp (P := Tryz.prog) rfl rfl, rfl⟩, _, rfl, ?_, lW⟩⟩
  clear lW
  rw [rng_yes h6, rng_yes h6, rng_yes h6, rngE_yes h6]
 ·rw [h6]
  refine sZ 1 ?_
  refine Wp.condT rfl rfl ?_
  refine Wp.seq ?_
  refine wR [0, 1, 2] ?_
  refine sB ?_
  refine sS (fun w5 sw5 vw5 => ?_)
  refine sZ 1 ?_
  refine Wp.ret ⟨.inr rfl, fun lW => ⟨_, ⟨_, _, res_cell rfl rfl rfl rfl, res_tmp (P := Tryz.prog) rfl rfl, rfl⟩, _, rfl, ?_, lW⟩⟩
  clear lW
  rw [rng_no h6, rng_no h6, rng_no h6, rngE_no h6]
theorem dsmall_any {z : Int} {u : Value} (hu : IsW z u) (w : World) : Calls Tryz.prog 100 #[u] w fun e w' => ∃ r, e = .returned r ∧ r = .int .i64 (intV z) ∧ Below w.heap.size w w' := by
 obtain ⟨uh, ul, rfl, hu⟩ := hu
 refine calls_Wp (args := [_]) (n := 11) Tryz.func100 rfl rfl (by simp) ?_
 refine Wp.seq ?_
 refine wR [0, 1] ?_
 refine sE (fun bk1 w1 kb1 lw1 => ?_)
 refine sZ 1 ?_
 refine qQ 1 ?_
 refine sT (c_wint ⟨_, _, rfl, hu⟩ _) ?_
 rintro v w2 rfl lw2
 refine sZ 5 ?_
 refine qZ ?_
 refine Wp.ret ⟨.inr rfl, fun lW => ⟨_, res_tmp (P := Tryz.prog) rfl rfl, _, rfl, ?_, lW⟩⟩
 clear lW
 rfl
theorem fit_ok {z : Int} (h0 : -170141183460469231731687303715884105728 ≤ z) (h1 : z < 170141183460469231731687303715884105728) : fitV z = z ∧ fitE z = 0 := by
 have h : inW z = true := by unfold inW; rw [decide_eq_true_iff]; exact ⟨h0, h1⟩
 unfold fitV fitE; rw [if_pos h, if_pos h]; exact ⟨rfl, rfl⟩
theorem djoin_any {d s a : Int} (_hd : I64 d) (_hs : I64 s) (_ha : I64 a) (w : World) : Calls Tryz.prog 29 #[.agg #[.int .i64 d, .int .i64 s, .int .i64 a]] w fun e w' => ∃ r, e = .returned r ∧ (∃ u, r = .tuple #[u, .int .i64 (labE d s a)] ∧ IsW (labV d s a) u) ∧ Below w.heap.size w w' := by
 cases hL : isL s a with
 | false =>
  obtain ⟨e1, e2⟩ := lab_bad (d := d) hL
  rw [e1, e2]
  refine calls_Wp (args := [_]) (n := 34) Tryz.func29 rfl rfl (by simp) ?_
  refine Wp.seq ?_
  refine wR [0, 1, 2] ?_
  refine sE (fun bk1 w1 kb1 lw1 => ?_)
  refine sO (fun bk2 w2 kb2 lw2 => ?_)
  refine sZ 1 ?_
  refine Wp.seq ?_
  refine qQ 1 ?_
  refine sT (dcheck_any d s a _) ?_
  rintro v w3 rfl lw3
  rw [e1]
  refine sZ 1 ?_
  refine qQ 1 ?_
  refine t_neq rfl rfl rfl rfl rfl (by omega) ?_
  refine vOrd_nil ?_
  refine Wp.condT rfl rfl ?_
  refine Wp.seq ?_
  refine wR [0, 1, 2, 3] ?_
  refine sB ?_
  refine sM ?_
  refine sS (fun w4 sw4 vw4 => ?_)
  refine sZ 1 ?_
  refine Wp.ret ⟨.inr rfl, fun lW => ⟨_, ⟨_, _, res_cell rfl rfl rfl rfl, res_tmp (P := Tryz.prog) rfl rfl, rfl⟩, _, rfl, ?_, lW⟩⟩
  clear lW
  exact ⟨_, rfl, _, _, rfl, (by unfold WideIs; omega)⟩
 | true =>
  cases hB : inB d with
  | false =>
   obtain ⟨e1, e2⟩ := lab_far hL hB
   rw [e1, e2]
   refine calls_Wp (args := [_]) (n := 34) Tryz.func29 rfl rfl (by simp) ?_
   refine Wp.seq ?_
   refine wR [0, 1, 2] ?_
   refine sE (fun bk1 w1 kb1 lw1 => ?_)
   refine sO (fun bk2 w2 kb2 lw2 => ?_)
   refine sZ 1 ?_
   refine Wp.seq ?_
   refine qQ 1 ?_
   refine sT (dcheck_any d s a _) ?_
   rintro v w3 rfl lw3
   rw [e1]
   refine sZ 1 ?_
   refine qQ 1 ?_
   refine t_neq rfl rfl rfl rfl rfl (by omega) ?_
   refine vOrd_nil ?_
   refine Wp.condT rfl rfl ?_
   refine Wp.seq ?_
   refine wR [0, 1, 2, 3] ?_
   refine sB ?_
   refine sM ?_
   refine sS (fun w4 sw4 vw4 => ?_)
   refine sZ 1 ?_
   refine Wp.ret ⟨.inr rfl, fun lW => ⟨_, ⟨_, _, res_cell rfl rfl rfl rfl, res_tmp (P := Tryz.prog) rfl rfl, rfl⟩, _, rfl, ?_, lW⟩⟩
   clear lW
   exact ⟨_, rfl, _, _, rfl, (by unfold WideIs; omega)⟩
  | true =>
   obtain ⟨e1, e2⟩ := lab_ok hL hB
   rw [e1, e2]
   have hL' := isL_iff.1 hL
   have hB' := inB_iff.1 hB
   obtain ⟨f1, f2⟩ := fit_ok (z := (d * 86400 + s) * 1000000000000000000) (by omega) (by omega)
   obtain ⟨g1, g2⟩ := fit_ok (z := (d * 86400 + s) * 1000000000000000000 + a) (by omega) (by omega)
   refine calls_Wp (args := [_]) (n := 34) Tryz.func29 rfl rfl (by simp) ?_
   refine Wp.seq ?_
   refine wR [0, 1, 2] ?_
   refine sE (fun bk1 w1 kb1 lw1 => ?_)
   refine sO (fun bk2 w2 kb2 lw2 => ?_)
   refine sZ 1 ?_
   refine Wp.seq ?_
   refine qQ 1 ?_
   refine sT (dcheck_any d s a _) ?_
   rintro v w3 rfl lw3
   rw [e1]
   refine sZ 1 ?_
   refine qQ 1 ?_
   refine f_neq rfl rfl rfl rfl rfl (by omega) ?_
   refine vOrd_nil ?_
   refine Wp.condF rfl rfl ?_
   refine Wp.skip ?_
   refine qQ 2 ?_
   refine a_mul (-9223372036854775808) 9223372036854775807 (by decide) rfl rfl rfl rfl rfl (by omega) (by omega) ?_
   refine sQ 2 ?_
   refine aP (-9223372036854775808) 9223372036854775807 ?_
   refine s_callT rfl rfl rfl (by kernel_rfl) rfl (c_wof (d * 86400 + s) (by omega) (by omega) _) ?_
   rintro v w4 k1 lw4
   refine s_callT rfl rfl rfl (by kernel_rfl) rfl (c_wof 1000000000000000000 (by omega) (by omega) _) ?_
   rintro v w5 k2 lw5
   refine sT (c_wmul k1 k2 _) ?_
   rintro v w6 ⟨u, rfl, uh, ul, rfl, k3⟩ lw6
   rw [f2]
   rw [f1] at k3
   refine sQ 3 ?_
   refine sO (fun bk7 w7 kb7 lw7 => ?_)
   refine sS (fun w8 sw8 vw8 => ?_)
   refine sZ 1 ?_
   refine Wp.seq ?_
   refine wD [0, 1, 2, 3, 4, 5, 6, 7, 8] [14, 0, 0, 0, 0, 0, 191, 383, 0] (fun | 3 => fun v _ => IsW a v | 4 => fun v _ => ∃ x, v = .tuple #[x, .int .i64 (fitE ((d * 86400 + s) * 1000000000000000000 + a))] ∧ IsW (fitV ((d * 86400 + s) * 1000000000000000000 + a)) x | _ => fun _ _ => True) (fun _ _ => ?_)
   refine sQ 3 ?_
   refine s_callD rfl rfl rfl (by kernel_rfl) rfl (fun wc lc => c_wof a (by omega) (by omega) wc) ?_
   rintro v w9 u9 k4 lw9 mw9
   refine sD (fun wc lc => c_wadd ⟨_, _, rfl, k3⟩ k4 wc) ?_
   rintro v w10 u10 ⟨v, rfl, vh, vl, rfl, k5⟩ lw10 mw10
   rw [g2]
   rw [g1] at k5
   refine sQ 3 ?_
   refine sS (fun w11 sw11 vw11 => ?_)
   refine vOrd_nil ?_
   refine qQ 1 ?_
   refine sS (fun w12 sw12 vw12 => ?_)
   refine sZ 1 ?_
   refine Wp.ret ⟨.inr rfl, fun lW => ⟨_, ⟨_, _, res_cell rfl rfl rfl rfl, res_tmp (P := Tryz.prog) rfl rfl, rfl⟩, _, rfl, ?_, lW⟩⟩
   clear lW
   exact ⟨_, rfl, _, _, rfl, k5⟩
theorem dsplit_any {z : Int} {u : Value} (hu : IsW z u) (w : World) : Calls Tryz.prog 64 #[u] w fun e w' => ∃ r, e = .returned r ∧ r = .tuple #[.agg #[.int .i64 (splD z), .int .i64 (splS z), .int .i64 (splA z)], .int .i64 (splE z)] ∧ Below w.heap.size w w' := by
 obtain ⟨uh, ul, rfl, hu⟩ := hu
 obtain ⟨D, hD⟩ : ∃ D, dayZ z = D := ⟨_, rfl⟩
 obtain ⟨Q, hQ⟩ : ∃ Q, secZ z = Q := ⟨_, rfl⟩
 obtain ⟨A, hA⟩ : ∃ A, attZ z = A := ⟨_, rfl⟩
 have bD : inI D = true := by rw [inI_iff, ← hD]; unfold dayZ; obtain ⟨_, _, _, _, _⟩ := hu; omega
 have bQ : inI Q = true := by rw [inI_iff, ← hQ]; unfold secZ; omega
 have bA : inI A = true := by rw [inI_iff, ← hA]; unfold attZ; omega
 have fD : splD z = rngV D D := by unfold splD rngV; rw [hD]
 have fQ : splS z = rngV D Q := by unfold splS rngV; rw [hD, hQ]
 have fA : splA z = rngV D A := by unfold splA rngV; rw [hD, hA]
 have fE : splE z = rngE D := by unfold splE rngE; rw [hD]
 rw [fD, fQ, fA, fE]
 refine calls_Wp (args := [_]) (n := 34) Tryz.func64 rfl rfl (by simp) ?_
 refine Wp.seq ?_
 refine wR [0, 1, 2] ?_
 refine sE (fun bk1 w1 kb1 lw1 => ?_)
 refine sO (fun bk2 w2 kb2 lw2 => ?_)
 refine sZ 1 ?_
 refine Wp.seq ?_
 refine wD [0, 7, 8, 1, 2, 3, 4, 5, 6, 9, 10, 11] [386, 383, 255, 0, 0, 0, 495, 991, 1983, 0, 0, 0] (fun | 1 => fun v _ => IsW 1000000000000000000 v | 2 => fun v _ => ∃ q p, v = .tuple #[q, p, .int .i64 0] ∧ IsW (z / 1000000000000000000) q ∧ IsW (z % 1000000000000000000) p | _ => fun _ _ => True) (fun _ _ => ?_)
 refine sL ?_
 refine sO (fun bk3 w3 kb3 lw3 => ?_)
 refine sO (fun bk4 w4 kb4 lw4 => ?_)
 refine s_callD rfl rfl rfl (by kernel_rfl) rfl (fun wc lc => c_wof 1000000000000000000 (by omega) (by omega) wc) ?_
 rintro v w5 u5 k1 lw5 mw5
 refine s_callD rfl rfl rfl (by kernel_rfl) rfl (fun wc lc => c_wdiv ⟨_, _, rfl, hu⟩ k1 (by decide) wc) ?_
 rintro v w6 u6 ⟨q, p, rfl, ⟨qh, ql, rfl, hq⟩, ⟨ph, pl, rfl, hp⟩⟩ lw6 mw6
 rw [show z % 1000000000000000000 = A from hA] at hp
 refine sQ 4 ?_
 refine sS (fun w7 sw7 vw7 => ?_)
 refine sS (fun w8 sw8 vw8 => ?_)
 refine sZ 1 ?_
 refine Wp.seq ?_
 refine wD [0, 7, 8, 1, 2, 3, 4, 5, 6, 9, 10, 11] [386, 383, 255, 0, 0, 0, 495, 991, 1983, 0, 0, 0] (fun | 1 => fun v _ => IsW 86400 v | 2 => fun v _ => ∃ q p, v = .tuple #[q, p, .int .i64 0] ∧ IsW (z / 1000000000000000000 / 86400) q ∧ IsW (z / 1000000000000000000 % 86400) p | _ => fun _ _ => True) (fun _ _ => ?_)
 refine sL ?_
 refine sO (fun bk9 w9 kb9 lw9 => ?_)
 refine sO (fun bk10 w10 kb10 lw10 => ?_)
 refine s_callD rfl rfl rfl (by kernel_rfl) rfl (fun wc lc => c_wof 86400 (by omega) (by omega) wc) ?_
 rintro v w11 u11 k2 lw11 mw11
 refine s_callD rfl rfl rfl (by kernel_rfl) rfl (fun wc lc => c_wdiv ⟨_, _, rfl, hq⟩ k2 (by decide) wc) ?_
 rintro v w12 u12 ⟨q2, p2, rfl, ⟨q2h, q2l, rfl, hq2⟩, ⟨p2h, p2l, rfl, hp2⟩⟩ lw12 mw12
 rw [show z / 1000000000000000000 / 86400 = D from hD] at hq2
 rw [show z / 1000000000000000000 % 86400 = Q from hQ] at hp2
 refine sQ 4 ?_
 refine sS (fun w13 sw13 vw13 => ?_)
 refine sS (fun w14 sw14 vw14 => ?_)
 refine sZ 1 ?_
 refine Wp.seq ?_
 refine wD [0, 2, 4, 1, 3, 5, 6, 7, 8, 9, 10, 11] [20, 19, 15, 0, 0, 0, 0, 0, 767, 0, 0, 0] (fun | 1 => fun v _ => v = .int .i64 (intV D) | 3 => fun v _ => v = .int .i64 (intV Q) | 5 => fun v _ => v = .int .i64 (intV A) | 7 => fun r _ => r = .tuple #[.agg #[.int .i64 (rngV D D), .int .i64 (rngV D Q), .int .i64 (rngV D A)], .int .i64 (rngE D)] | _ => fun _ _ => True) (fun _ _ => ?_)
 refine sQ 3 ?_
 refine sD (fun wc lc => dsmall_any ⟨_, _, rfl, hq2⟩ wc) ?_
 rintro v w15 u15 rfl lw15 mw15
 rw [(int_yes bD).1]
 refine sD (fun wc lc => dsmall_any ⟨_, _, rfl, hp2⟩ wc) ?_
 rintro v w16 u16 rfl lw16 mw16
 rw [(int_yes bQ).1]
 refine sD (fun wc lc => dsmall_any ⟨_, _, rfl, hp⟩ wc) ?_
 rintro v w17 u17 rfl lw17 mw17
 rw [(int_yes bA).1]
 refine sB ?_
 refine sD (fun wc lc => dranged_any D Q A wc) ?_
 rintro v w18 u18 rfl lw18 mw18
 refine sQ 2 ?_
 refine sS (fun w19 sw19 vw19 => ?_)
 refine sZ 1 ?_
 refine Wp.ret ⟨.inr rfl, fun lW => ⟨_, ⟨_, _, res_cell rfl rfl rfl rfl, res_tmp (P := Tryz.prog) rfl rfl, rfl⟩, _, rfl, ?_, lW⟩⟩
 clear lW
 rfl
end Go.Proofs.YthihioakjpmnbaaGreat
