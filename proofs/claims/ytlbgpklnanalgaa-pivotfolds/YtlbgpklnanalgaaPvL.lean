/-
  Fields that wrap: the reference's Near, and the walks of the laws of layer 18.
-/
import Derived.Test.YtlbgpklnanalgaaPvB
namespace Go.Proofs.Ytlbgpklnanalgaa
open Go.RowKit
set_option maxRecDepth 100000

theorem rnear_any {f n p : Int} {u v x : Value} {w : World} (hf : IsBig 11 f u w) (hn : IsBig 11 n v w) (hp : IsBig 11 p x w) (h0 : 0 < n) : Calls Try.prog 16 #[u, v, x] w fun e w' => ∃ r, e = .returned r ∧ IsBig 14 (pnI f n p) r w' ∧ Below w.heap.size w w' := by
  obtain ⟨hfa, hfl, hfc, rfl, -⟩ := id hf
  obtain ⟨hna, hnl, hnc, rfl, -⟩ := id hn
  obtain ⟨hpa, hpl, hpc, rfl, -⟩ := id hp
  refine calls_Wp (args := [_, _, _]) (n := 32) Try.func16 rfl rfl (by simp) ?_
  refine Wp.seq ?_
  refine wR [0, 1, 2, 3] ?_
  refine sE (fun bk1 w1 kb1 lw1 => ?_)
  refine sE (fun bk2 w2 kb2 lw2 => ?_)
  refine sE (fun bk3 w3 kb3 lw3 => ?_)
  refine sO (fun bk4 w4 kb4 lw4 => ?_)
  refine vOrd_nil ?_
  refine Wp.seq ?_
  refine wD [0, 6, 7, 1, 2, 3, 4, 5, 8, 9] [194, 191, 127, 0, 0, 0, 239, 479, 0, 0] (fun | 1 => IsBig 5 2 | 2 => fun v w => ∃ x y, v = .tuple #[x, y] ∧ IsBig 12 (n / 2) x w ∧ IsBig 6 (n % 2) y w | _ => fun _ _ => True) (fun _ _ => ?_)
  refine sL ?_
  refine sO (fun bk5 w5 kb5 lw5 => ?_)
  refine sO (fun bk6 w6 kb6 lw6 => ?_)
  refine s_callD rfl rfl rfl (by kernel_rfl) rfl (fun wc lc => c_rint 2 (by decide) (by decide) wc) ?_
  rintro v w7 u7 h2 lw7 mw7
  refine s_callD rfl rfl rfl (by kernel_rfl) rfl (fun wc lc => c_div (hn.kp) (h2.kp) (by decide) (by decide) (by decide)) ?_
  rintro v w8 u8 ⟨hhv, hqv, rfl, hh, hq⟩ lw8 mw8
  obtain ⟨hha, hhl, hhc, rfl, -⟩ := id hh
  obtain ⟨hqa, hql, hqc, rfl, -⟩ := id hq
  refine sQ 3 ?_
  refine sS (fun w9 sw9 vw9 => ?_)
  refine sS (fun w10 sw10 vw10 => ?_)
  refine vOrd_nil ?_
  refine qQ 2 ?_
  refine s_callT rfl rfl rfl (by kernel_rfl) rfl (c_rsub (hp.kp) (hh.kp) (by decide) (by decide)) ?_
  rintro v w11 hl lw11
  obtain ⟨hla, hll, hlc, rfl, -⟩ := id hl
  refine sO (fun bk12 w12 kb12 lw12 => ?_)
  refine sS (fun w13 sw13 vw13 => ?_)
  refine vOrd_nil ?_
  refine Wp.seq ?_
  refine wD [0, 1, 3, 8, 9, 2, 4, 5, 6, 7, 10, 11] [778, 777, 775, 767, 511, 0, 0, 0, 959, 1919, 0, 0] (fun | 2 => IsBig 14 (f - (p - n / 2)) | 4 => fun v w => ∃ x y, v = .tuple #[x, y] ∧ IsBig 15 ((f - (p - n / 2)) / n) x w ∧ IsBig 12 ((f - (p - n / 2)) % n) y w | _ => fun _ _ => True) (fun _ _ => ?_)
  refine sQ 3 ?_
  refine sO (fun bk14 w14 kb14 lw14 => ?_)
  refine sO (fun bk15 w15 kb15 lw15 => ?_)
  refine s_callD rfl rfl rfl (by kernel_rfl) rfl (fun wc lc => c_rsub (hf.kp) (hl.kp) (by decide) (by decide)) ?_
  rintro v w16 u16 hd lw16 mw16
  obtain ⟨hda, hdl, hdc, rfl, -⟩ := id hd
  refine s_callD rfl rfl rfl (by kernel_rfl) rfl (fun wc lc => c_div (hd.kp) (hn.kp) h0 (by decide) (by decide)) ?_
  rintro v w17 u17 ⟨hxv, hyv, rfl, hx, hy⟩ lw17 mw17
  obtain ⟨hxa, hxl, hxc, rfl, -⟩ := id hx
  obtain ⟨hya, hyl, hyc, rfl, -⟩ := id hy
  refine sQ 3 ?_
  refine sS (fun w18 sw18 vw18 => ?_)
  refine sS (fun w19 sw19 vw19 => ?_)
  refine vOrd_nil ?_
  refine qQ 2 ?_
  refine s_callT rfl rfl rfl (by kernel_rfl) rfl (c_add (hl.kp) (hy.kp) (by decide) (by decide)) ?_
  rintro v w20 hs lw20
  obtain ⟨hsa, hsl, hsc, rfl, -⟩ := id hs
  refine sS (fun w21 sw21 vw21 => ?_)
  refine vOrd_nil ?_
  refine Wp.ret ⟨.inr rfl, fun lW => ⟨_, res_cell rfl rfl rfl rfl, _, rfl, ?_, lW⟩⟩
  clear lW
  exact hs.kp
theorem pv_w (n : Int) (h0 : -9223372036854775808 ≤ n) (h1 : n ≤ 9223372036854775807) {w : World} : Calls Try.prog 24 #[.int .i64 n] w fun e w' => ∃ u, e = .returned u ∧ IsW n u ∧ Below w.heap.size w w' := c_wof n h0 h1 w
theorem pv_c : pnE 1 10 28 = 0 ∧ pnZ 1 10 28 = 31 ∧ pnE 3 10 28 = 0 ∧ pnZ 3 10 28 = 23 ∧ pfE 10 = 0 ∧ pfZ (-1) 10 = 9 := by decide +kernel
theorem pvanswers_any {w : World} : Calls Try.prog 10 #[] w fun e w' => ∃ r, e = .returned r ∧ r = .bool true ∧ Below w.heap.size w w' := by
  obtain ⟨f1, f2, f3, f4, f5, f6⟩ := pv_c
  refine calls_Wp (args := []) (n := 52) Try.func10 rfl rfl (by simp) ?_
  refine qZ ?_
  refine Wp.seq ?_
  refine wR [0, 1, 2, 3, 4, 5, 6, 7, 8, 9] ?_
  refine s_callT rfl rfl rfl (by kernel_rfl) rfl (c_wof 1 (by decide) (by decide) _) ?_
  rintro v w1 ⟨a1h, a1l, rfl, a1⟩ lw1
  refine s_callT rfl rfl rfl (by kernel_rfl) rfl (c_wof 10 (by decide) (by decide) _) ?_
  rintro v w2 ⟨a2h, a2l, rfl, a2⟩ lw2
  refine s_callT rfl rfl rfl (by kernel_rfl) rfl (c_wof 28 (by decide) (by decide) _) ?_
  rintro v w3 ⟨a3h, a3l, rfl, a3⟩ lw3
  refine sT (pnear_any ⟨_, _, rfl, a1⟩ ⟨_, _, rfl, a2⟩ ⟨_, _, rfl, a3⟩) ?_
  rintro v w4 ⟨x1u, rfl, x1h, x1l, rfl, x1⟩ lw4
  rw [f1]
  rw [f2] at x1
  refine sQ 3 ?_
  refine sO (fun bk5 w5 kb5 lw5 => ?_)
  refine sS (fun w6 sw6 vw6 => ?_)
  refine sZ 1 ?_
  refine Wp.seq ?_
  refine wR [0, 1, 2, 3, 4, 5, 6, 7, 8, 9] ?_
  refine s_callT rfl rfl rfl (by kernel_rfl) rfl (c_wof 3 (by decide) (by decide) _) ?_
  rintro v w7 ⟨b1h, b1l, rfl, b1⟩ lw7
  refine s_callT rfl rfl rfl (by kernel_rfl) rfl (c_wof 10 (by decide) (by decide) _) ?_
  rintro v w8 ⟨b2h, b2l, rfl, b2⟩ lw8
  refine s_callT rfl rfl rfl (by kernel_rfl) rfl (c_wof 28 (by decide) (by decide) _) ?_
  rintro v w9 ⟨b3h, b3l, rfl, b3⟩ lw9
  refine sT (pnear_any ⟨_, _, rfl, b1⟩ ⟨_, _, rfl, b2⟩ ⟨_, _, rfl, b3⟩) ?_
  rintro v w10 ⟨x2u, rfl, x2h, x2l, rfl, x2⟩ lw10
  rw [f3]
  rw [f4] at x2
  refine sQ 3 ?_
  refine sO (fun bk11 w11 kb11 lw11 => ?_)
  refine sS (fun w12 sw12 vw12 => ?_)
  refine sZ 1 ?_
  refine Wp.seq ?_
  refine wR [0, 1, 2, 3, 4, 5, 6, 7, 8] ?_
  refine s_callT rfl rfl rfl (by kernel_rfl) rfl (c_wof (-1) (by decide) (by decide) _) ?_
  rintro v w13 ⟨c1h, c1l, rfl, c1⟩ lw13
  refine s_callT rfl rfl rfl (by kernel_rfl) rfl (c_wof 10 (by decide) (by decide) _) ?_
  rintro v w14 ⟨c2h, c2l, rfl, c2⟩ lw14
  refine sT (pfold_any ⟨_, _, rfl, c1⟩ ⟨_, _, rfl, c2⟩) ?_
  rintro v w15 ⟨x3u, rfl, x3h, x3l, rfl, x3⟩ lw15
  rw [f5]
  rw [f6] at x3
  refine sQ 3 ?_
  refine sO (fun bk16 w16 kb16 lw16 => ?_)
  refine sS (fun w17 sw17 vw17 => ?_)
  refine sZ 1 ?_
  refine Wp.seq ?_
  refine wD [0, 1, 2, 3, 4, 5, 6, 7, 8, 9, 10, 11, 12, 13, 14, 15, 16, 17, 18, 19, 20, 21, 22, 23, 24, 25] [0, 0, 0, 23, 0, 0, 0, 0, 0, 0, 0, 0, 12287, 0, 0, 0, 0, 0, 0, 0, 0, 6291455, 0, 0, 0, 0] (fun | 4 => fun v _ => IsW 31 v | 13 => fun v _ => IsW 23 v | 22 => fun v _ => IsW 9 v | _ => fun _ _ => True) (fun _ _ => ?_)
  refine sM ?_
  refine t_eql rfl rfl rfl rfl rfl (by omega) ?_
  refine sQ 2 ?_
  refine s_callD rfl rfl rfl (by kernel_rfl) rfl (fun wc lc => c_wof 31 (by decide) (by decide) wc) ?_
  rintro v w18 u18 ⟨d1h, d1l, rfl, d1⟩ lw18 mw18
  refine s_eqv (c := true) rfl rfl rfl rfl rfl (fun _ => by kernel_rfl) (fun w => by rw [run_eql_wide, eqW_same x1 d1]) ?_
  refine sQ 3 ?_
  refine t_eql rfl rfl rfl rfl rfl (by omega) ?_
  refine sQ 3 ?_
  refine s_callD rfl rfl rfl (by kernel_rfl) rfl (fun wc lc => c_wof 23 (by decide) (by decide) wc) ?_
  rintro v w20 u20 ⟨d2h, d2l, rfl, d2⟩ lw20 mw20
  refine s_eqv (c := true) rfl rfl rfl rfl rfl (fun _ => by kernel_rfl) (fun w => by rw [run_eql_wide, eqW_same x2 d2]) ?_
  refine sQ 3 ?_
  refine t_eql rfl rfl rfl rfl rfl (by omega) ?_
  refine sQ 3 ?_
  refine s_callD rfl rfl rfl (by kernel_rfl) rfl (fun wc lc => c_wof 9 (by decide) (by decide) wc) ?_
  rintro v w22 u22 ⟨d3h, d3l, rfl, d3⟩ lw22 mw22
  refine s_eqv (c := true) rfl rfl rfl rfl rfl (fun _ => by kernel_rfl) (fun w => by rw [run_eql_wide, eqW_same x3 d3]) ?_
  refine sZ 2 ?_
  refine Wp.ret ⟨.inr rfl, fun lW => ⟨_, res_tmp (P := Try.prog) rfl rfl, _, rfl, ?_, lW⟩⟩
  clear lW
  rfl
set_option maxHeartbeats 1000000 in
theorem law_pvfolds {nh nl n eh el e : Int} (hn : WideIs nh nl n) (he : WideIs eh el e) {w : World} : Calls Try.prog 3 #[.agg #[.int .i64 nh, .int .u64 nl], .agg #[.int .i64 eh, .int .u64 el]] w fun e w' => ∃ r, e = .returned r ∧ r = .bool true ∧ Below w.heap.size w w' := by
  by_cases h0 : e ≤ 0
  · obtain ⟨e1, e2⟩ := pf_zero (m := n) h0
    have hc := (cmpI_le (x := e) (y := 0)).2 h0
    refine calls_Wp (args := [_, _]) (n := 49) Try.func3 rfl rfl (by simp) ?_
    refine Wp.seq ?_
    refine wR [0, 1, 2] ?_
    refine sE (fun bk1 w1 kb1 lw1 => ?_)
    refine sE (fun bk2 w2 kb2 lw2 => ?_)
    refine sZ 1 ?_
    refine qQ 2 ?_
    refine sT (pfold_any ⟨_, _, rfl, hn⟩ ⟨_, _, rfl, he⟩) ?_
    rintro v w3 ⟨xu, rfl, xh, xl, rfl, x⟩ lw3
    rw [e1]
    rw [e2] at x
    refine sQ 3 ?_
    refine sO (fun bk4 w4 kb4 lw4 => ?_)
    refine sS (fun w5 sw5 vw5 => ?_)
    refine sZ 1 ?_
    refine Wp.seq ?_
    refine qQ 1 ?_
    refine sT (c_rof ⟨_, _, rfl, he⟩ _) ?_
    rintro v w6 h1 lw6
    refine s_callT rfl rfl rfl (by kernel_rfl) rfl (c_rint 0 (by decide) (by decide) _) ?_
    rintro v w7 h2 lw7
    refine s_callT rfl rfl rfl (by kernel_rfl) rfl (c_cmp (h1.kp) (h2.kp) (by decide) (by decide)) ?_
    rintro v w8 rfl lw8
    refine t_leq rfl rfl rfl rfl rfl (by omega) ?_
    refine vOrd_nil ?_
    refine Wp.condT rfl rfl ?_
    refine Wp.seq ?_
    refine wR [0, 1, 2, 3, 4, 5, 6, 7, 8, 9, 10] ?_
    refine sT (pvanswers_any) ?_
    rintro v w9 rfl lw9
    refine sQ 2 ?_
    refine t_eql rfl rfl rfl rfl rfl (by omega) ?_
    refine sQ 3 ?_
    refine sB ?_
    refine s_eqv (c := true) rfl rfl rfl rfl rfl (fun _ => by kernel_rfl) (fun w => by rw [run_eql_wide, eqW_same x (show WideIs 0 0 0 by unfold WideIs; omega)]) ?_
    refine sZ 2 ?_
    refine Wp.ret ⟨.inr rfl, fun lW => ⟨_, res_tmp (P := Try.prog) rfl rfl, _, rfl, ?_, lW⟩⟩
    clear lW
    rfl
  · obtain ⟨e1, e2⟩ := pf_ok (m := n) (n := e) (by omega)
    have hc : ¬ cmpI e 0 ≤ 0 := fun q => h0 (cmpI_le.1 q)
    have h0 : 0 < e := by omega
    refine calls_Wp (args := [_, _]) (n := 49) Try.func3 rfl rfl (by simp) ?_
    refine Wp.seq ?_
    refine wR [0, 1, 2] ?_
    refine sE (fun bk1 w1 kb1 lw1 => ?_)
    refine sE (fun bk2 w2 kb2 lw2 => ?_)
    refine sZ 1 ?_
    refine qQ 2 ?_
    refine sT (pfold_any ⟨_, _, rfl, hn⟩ ⟨_, _, rfl, he⟩) ?_
    rintro v w3 ⟨xu, rfl, xh, xl, rfl, x⟩ lw3
    rw [e1]
    rw [e2] at x
    refine sQ 3 ?_
    refine sO (fun bk4 w4 kb4 lw4 => ?_)
    refine sS (fun w5 sw5 vw5 => ?_)
    refine sZ 1 ?_
    refine Wp.seq ?_
    refine qQ 1 ?_
    refine sT (c_rof ⟨_, _, rfl, he⟩ _) ?_
    rintro v w6 h1 lw6
    refine s_callT rfl rfl rfl (by kernel_rfl) rfl (c_rint 0 (by decide) (by decide) _) ?_
    rintro v w7 h2 lw7
    refine s_callT rfl rfl rfl (by kernel_rfl) rfl (c_cmp (h1.kp) (h2.kp) (by decide) (by decide)) ?_
    rintro v w8 rfl lw8
    refine f_leq rfl rfl rfl rfl rfl (by omega) ?_
    refine vOrd_nil ?_
    refine Wp.condF rfl rfl ?_
    refine Wp.skip ?_
    refine Wp.seq ?_
    refine wD [0, 2, 8, 9, 1, 3, 4, 5, 6, 7, 10, 11] [772, 771, 767, 511, 0, 0, 0, 0, 959, 1919, 0, 0] (fun | 1 => IsBig 11 (n) | 3 => IsBig 11 (e) | 4 => fun v w => ∃ x y, v = .tuple #[x, y] ∧ IsBig 12 (n / e) x w ∧ IsBig 12 (n % e) y w | _ => fun _ _ => True) (fun _ _ => ?_)
    refine sQ 2 ?_
    refine sO (fun bk9 w9 kb9 lw9 => ?_)
    refine sO (fun bk10 w10 kb10 lw10 => ?_)
    refine sD (fun wc lc => c_rof ⟨_, _, rfl, hn⟩ wc) ?_
    rintro v w11 u11 i1 lw11 mw11
    refine sD (fun wc lc => c_rof ⟨_, _, rfl, he⟩ wc) ?_
    rintro v w12 u12 i2 lw12 mw12
    refine s_callD rfl rfl rfl (by kernel_rfl) rfl (fun wc lc => c_div (i1.kp) (i2.kp) h0 (by decide) (by decide)) ?_
    rintro v w13 u13 ⟨j1v, j2v, rfl, j1, j2⟩ lw13 mw13
    obtain ⟨j1a, j1l, j1c, rfl, -⟩ := id j1
    obtain ⟨j2a, j2l, j2c, rfl, -⟩ := id j2
    refine sQ 3 ?_
    refine sS (fun w14 sw14 vw14 => ?_)
    refine sS (fun w15 sw15 vw15 => ?_)
    refine vOrd_nil ?_
    refine Wp.seq ?_
    refine wD [0, 1, 2, 3, 4, 5, 6, 8, 7, 9, 10, 11] [0, 0, 0, 0, 0, 0, 319, 255, 0, 0, 0, 0] (fun | 0 => fun v _ => v = .bool true | 7 => IsBig 11 (n % e) | 9 => fun v _ => v = .bool true | _ => fun _ _ => True) (fun _ _ => ?_)
    refine sD (fun wc lc => pvanswers_any) ?_
    rintro v w16 u16 rfl lw16 mw16
    refine sQ 2 ?_
    refine t_eql rfl rfl rfl rfl rfl (by omega) ?_
    refine sQ 4 ?_
    refine sD (fun wc lc => c_rof ⟨_, _, rfl, x⟩ wc) ?_
    rintro v w17 u17 i3 lw17 mw17
    refine s_callD rfl rfl rfl (by kernel_rfl) rfl (fun wc lc => c_same_yes (i3.kp) (j2.kp) (by decide) (by decide)) ?_
    rintro v w18 u18 rfl lw18 mw18
    refine sZ 2 ?_
    refine Wp.ret ⟨.inr rfl, fun lW => ⟨_, res_tmp (P := Try.prog) rfl rfl, _, rfl, ?_, lW⟩⟩
    clear lW
    rfl
set_option maxHeartbeats 1000000 in
theorem law_pvnear {fh fl f nh nl n ph pl p : Int} (hf : WideIs fh fl f) (hn : WideIs nh nl n) (hp : WideIs ph pl p) {w : World} : Calls Try.prog 4 #[.agg #[.int .i64 fh, .int .u64 fl], .agg #[.int .i64 nh, .int .u64 nl], .agg #[.int .i64 ph, .int .u64 pl]] w fun e w' => ∃ r, e = .returned r ∧ r = .bool true ∧ Below w.heap.size w w' := by
  by_cases h0 : n ≤ 0
  · obtain ⟨e1, e2⟩ := pn_zero (f := f) (p := p) h0
    have hc := (cmpI_le (x := n) (y := 0)).2 h0
    refine calls_Wp (args := [_, _, _]) (n := 110) Try.func4 rfl rfl (by simp) ?_
    refine Wp.seq ?_
    refine wR [0, 1, 2, 3] ?_
    refine sE (fun bk1 w1 kb1 lw1 => ?_)
    refine sE (fun bk2 w2 kb2 lw2 => ?_)
    refine sE (fun bk3 w3 kb3 lw3 => ?_)
    refine sZ 1 ?_
    refine qQ 3 ?_
    refine sT (pnear_any ⟨_, _, rfl, hf⟩ ⟨_, _, rfl, hn⟩ ⟨_, _, rfl, hp⟩) ?_
    rintro v w4 ⟨xu, rfl, xh, xl, rfl, x⟩ lw4
    rw [e1]
    rw [e2] at x
    refine sQ 3 ?_
    refine sO (fun bk5 w5 kb5 lw5 => ?_)
    refine sS (fun w6 sw6 vw6 => ?_)
    refine sZ 1 ?_
    refine Wp.seq ?_
    refine wD [0, 2, 4, 6, 7, 8, 1, 3, 5, 9, 10, 11] [468, 467, 463, 447, 383, 255, 0, 0, 0, 0, 0, 0] (fun | 1 => IsBig 11 (f) | 3 => IsBig 11 (n) | 5 => IsBig 11 (p) | _ => fun _ _ => True) (fun _ _ => ?_)
    refine sQ 3 ?_
    refine sO (fun bk7 w7 kb7 lw7 => ?_)
    refine sO (fun bk8 w8 kb8 lw8 => ?_)
    refine sO (fun bk9 w9 kb9 lw9 => ?_)
    refine sD (fun wc lc => c_rof ⟨_, _, rfl, hf⟩ wc) ?_
    rintro v w10 u10 i1 lw10 mw10
    obtain ⟨i1a, i1l, i1c, rfl, -⟩ := id i1
    refine sD (fun wc lc => c_rof ⟨_, _, rfl, hn⟩ wc) ?_
    rintro v w11 u11 i2 lw11 mw11
    obtain ⟨i2a, i2l, i2c, rfl, -⟩ := id i2
    refine sD (fun wc lc => c_rof ⟨_, _, rfl, hp⟩ wc) ?_
    rintro v w12 u12 i3 lw12 mw12
    obtain ⟨i3a, i3l, i3c, rfl, -⟩ := id i3
    refine sS (fun w13 sw13 vw13 => ?_)
    refine sS (fun w14 sw14 vw14 => ?_)
    refine sS (fun w15 sw15 vw15 => ?_)
    refine vOrd_nil ?_
    refine Wp.seq ?_
    refine Wp.seq ?_
    refine wD [0, 1, 2, 3] [2, 0, 0, 0] (fun | 1 => IsBig 5 0 | 2 => fun v _ => v = .int .i64 (cmpI n 0) | _ => fun _ _ => True) (fun _ _ => ?_)
    refine sL ?_
    refine s_callD rfl rfl rfl (by kernel_rfl) rfl (fun wc lc => c_rint 0 (by decide) (by decide) wc) ?_
    rintro v w16 u16 h2 lw16 mw16
    refine s_callD rfl rfl rfl (by kernel_rfl) rfl (fun wc lc => c_cmp (i2.kp) (h2.kp) (by decide) (by decide)) ?_
    rintro v w17 u17 rfl lw17 mw17
    refine t_leq rfl rfl rfl rfl rfl (by omega) ?_
    refine vOrd_nil ?_
    refine Wp.condT rfl rfl ?_
    refine Wp.seq ?_
    refine wR [0, 1, 2, 3, 4, 5, 6, 7, 8, 9, 10] ?_
    refine sT (pvanswers_any) ?_
    rintro v w18 rfl lw18
    refine sQ 2 ?_
    refine t_eql rfl rfl rfl rfl rfl (by omega) ?_
    refine sQ 3 ?_
    refine sB ?_
    refine s_eqv (c := true) rfl rfl rfl rfl rfl (fun _ => by kernel_rfl) (fun w => by rw [run_eql_wide, eqW_same x (show WideIs 0 0 0 by unfold WideIs; omega)]) ?_
    refine sZ 2 ?_
    refine Wp.ret ⟨.inr rfl, fun lW => ⟨_, res_tmp (P := Try.prog) rfl rfl, _, rfl, ?_, lW⟩⟩
    clear lW
    rfl
  · have hc : ¬ cmpI n 0 ≤ 0 := fun q => h0 (cmpI_le.1 q)
    have h0 : 0 < n := by omega
    by_cases hf0 : f < 0
    · obtain ⟨e1, e2⟩ := pn_arg (p := p) h0 (.inl hf0)
      have hs := sg_neg hf0
      refine calls_Wp (args := [_, _, _]) (n := 110) Try.func4 rfl rfl (by simp) ?_
      refine Wp.seq ?_
      refine wR [0, 1, 2, 3] ?_
      refine sE (fun bk1 w1 kb1 lw1 => ?_)
      refine sE (fun bk2 w2 kb2 lw2 => ?_)
      refine sE (fun bk3 w3 kb3 lw3 => ?_)
      refine sZ 1 ?_
      refine qQ 3 ?_
      refine sT (pnear_any ⟨_, _, rfl, hf⟩ ⟨_, _, rfl, hn⟩ ⟨_, _, rfl, hp⟩) ?_
      rintro v w4 ⟨xu, rfl, xh, xl, rfl, x⟩ lw4
      rw [e1]
      rw [e2] at x
      refine sQ 3 ?_
      refine sO (fun bk5 w5 kb5 lw5 => ?_)
      refine sS (fun w6 sw6 vw6 => ?_)
      refine sZ 1 ?_
      refine Wp.seq ?_
      refine wD [0, 2, 4, 6, 7, 8, 1, 3, 5, 9, 10, 11] [468, 467, 463, 447, 383, 255, 0, 0, 0, 0, 0, 0] (fun | 1 => IsBig 11 (f) | 3 => IsBig 11 (n) | 5 => IsBig 11 (p) | _ => fun _ _ => True) (fun _ _ => ?_)
      refine sQ 3 ?_
      refine sO (fun bk7 w7 kb7 lw7 => ?_)
      refine sO (fun bk8 w8 kb8 lw8 => ?_)
      refine sO (fun bk9 w9 kb9 lw9 => ?_)
      refine sD (fun wc lc => c_rof ⟨_, _, rfl, hf⟩ wc) ?_
      rintro v w10 u10 i1 lw10 mw10
      obtain ⟨i1a, i1l, i1c, rfl, -⟩ := id i1
      rw [hs] at i1 ⊢
      refine sD (fun wc lc => c_rof ⟨_, _, rfl, hn⟩ wc) ?_
      rintro v w11 u11 i2 lw11 mw11
      obtain ⟨i2a, i2l, i2c, rfl, -⟩ := id i2
      refine sD (fun wc lc => c_rof ⟨_, _, rfl, hp⟩ wc) ?_
      rintro v w12 u12 i3 lw12 mw12
      obtain ⟨i3a, i3l, i3c, rfl, -⟩ := id i3
      refine sS (fun w13 sw13 vw13 => ?_)
      refine sS (fun w14 sw14 vw14 => ?_)
      refine sS (fun w15 sw15 vw15 => ?_)
      refine vOrd_nil ?_
      refine Wp.seq ?_
      refine Wp.seq ?_
      refine wD [0, 1, 2, 3] [2, 0, 0, 0] (fun | 1 => IsBig 5 0 | 2 => fun v _ => v = .int .i64 (cmpI n 0) | _ => fun _ _ => True) (fun _ _ => ?_)
      refine sL ?_
      refine s_callD rfl rfl rfl (by kernel_rfl) rfl (fun wc lc => c_rint 0 (by decide) (by decide) wc) ?_
      rintro v w16 u16 h2 lw16 mw16
      refine s_callD rfl rfl rfl (by kernel_rfl) rfl (fun wc lc => c_cmp (i2.kp) (h2.kp) (by decide) (by decide)) ?_
      rintro v w17 u17 rfl lw17 mw17
      refine f_leq rfl rfl rfl rfl rfl (by omega) ?_
      refine vOrd_nil ?_
      refine Wp.condF rfl rfl ?_
      refine Wp.skip ?_
      refine Wp.seq ?_
      refine qZ ?_
      refine Wp.condT rfl rfl ?_
      refine Wp.seq ?_
      refine wR [0, 1, 2, 3, 4, 5, 6, 7, 8, 9, 10] ?_
      refine sT (pvanswers_any) ?_
      rintro v w19 rfl lw19
      refine sQ 2 ?_
      refine t_eql rfl rfl rfl rfl rfl (by omega) ?_
      refine sQ 3 ?_
      refine sB ?_
      refine s_eqv (c := true) rfl rfl rfl rfl rfl (fun _ => by kernel_rfl) (fun w => by rw [run_eql_wide, eqW_same x (show WideIs 0 0 0 by unfold WideIs; omega)]) ?_
      refine sZ 2 ?_
      refine Wp.ret ⟨.inr rfl, fun lW => ⟨_, res_tmp (P := Try.prog) rfl rfl, _, rfl, ?_, lW⟩⟩
      clear lW
      rfl
    · have hs := sg_pos (z := f) (by omega)
      by_cases hfn : n ≤ f
      · obtain ⟨e1, e2⟩ := pn_arg (p := p) h0 (.inr hfn)
        have hc2 : 0 ≤ cmpI f n := by have := @cmpI_low f n; omega
        refine calls_Wp (args := [_, _, _]) (n := 110) Try.func4 rfl rfl (by simp) ?_
        refine Wp.seq ?_
        refine wR [0, 1, 2, 3] ?_
        refine sE (fun bk1 w1 kb1 lw1 => ?_)
        refine sE (fun bk2 w2 kb2 lw2 => ?_)
        refine sE (fun bk3 w3 kb3 lw3 => ?_)
        refine sZ 1 ?_
        refine qQ 3 ?_
        refine sT (pnear_any ⟨_, _, rfl, hf⟩ ⟨_, _, rfl, hn⟩ ⟨_, _, rfl, hp⟩) ?_
        rintro v w4 ⟨xu, rfl, xh, xl, rfl, x⟩ lw4
        rw [e1]
        rw [e2] at x
        refine sQ 3 ?_
        refine sO (fun bk5 w5 kb5 lw5 => ?_)
        refine sS (fun w6 sw6 vw6 => ?_)
        refine sZ 1 ?_
        refine Wp.seq ?_
        refine wD [0, 2, 4, 6, 7, 8, 1, 3, 5, 9, 10, 11] [468, 467, 463, 447, 383, 255, 0, 0, 0, 0, 0, 0] (fun | 1 => IsBig 11 (f) | 3 => IsBig 11 (n) | 5 => IsBig 11 (p) | _ => fun _ _ => True) (fun _ _ => ?_)
        refine sQ 3 ?_
        refine sO (fun bk7 w7 kb7 lw7 => ?_)
        refine sO (fun bk8 w8 kb8 lw8 => ?_)
        refine sO (fun bk9 w9 kb9 lw9 => ?_)
        refine sD (fun wc lc => c_rof ⟨_, _, rfl, hf⟩ wc) ?_
        rintro v w10 u10 i1 lw10 mw10
        obtain ⟨i1a, i1l, i1c, rfl, -⟩ := id i1
        rw [hs] at i1 ⊢
        refine sD (fun wc lc => c_rof ⟨_, _, rfl, hn⟩ wc) ?_
        rintro v w11 u11 i2 lw11 mw11
        obtain ⟨i2a, i2l, i2c, rfl, -⟩ := id i2
        refine sD (fun wc lc => c_rof ⟨_, _, rfl, hp⟩ wc) ?_
        rintro v w12 u12 i3 lw12 mw12
        obtain ⟨i3a, i3l, i3c, rfl, -⟩ := id i3
        refine sS (fun w13 sw13 vw13 => ?_)
        refine sS (fun w14 sw14 vw14 => ?_)
        refine sS (fun w15 sw15 vw15 => ?_)
        refine vOrd_nil ?_
        refine Wp.seq ?_
        refine Wp.seq ?_
        refine wD [0, 1, 2, 3] [2, 0, 0, 0] (fun | 1 => IsBig 5 0 | 2 => fun v _ => v = .int .i64 (cmpI n 0) | _ => fun _ _ => True) (fun _ _ => ?_)
        refine sL ?_
        refine s_callD rfl rfl rfl (by kernel_rfl) rfl (fun wc lc => c_rint 0 (by decide) (by decide) wc) ?_
        rintro v w16 u16 h2 lw16 mw16
        refine s_callD rfl rfl rfl (by kernel_rfl) rfl (fun wc lc => c_cmp (i2.kp) (h2.kp) (by decide) (by decide)) ?_
        rintro v w17 u17 rfl lw17 mw17
        refine f_leq rfl rfl rfl rfl rfl (by omega) ?_
        refine vOrd_nil ?_
        refine Wp.condF rfl rfl ?_
        refine Wp.skip ?_
        refine Wp.seq ?_
        refine qQ 5 ?_
        refine s_callT rfl rfl rfl (by kernel_rfl) rfl (c_cmp (i1.kp) (i2.kp) (by decide) (by decide)) ?_
        rintro v w19 rfl lw19
        refine t_geq rfl rfl rfl rfl rfl (by omega) ?_
        refine sZ 1 ?_
        refine Wp.condT rfl rfl ?_
        refine Wp.seq ?_
        refine wR [0, 1, 2, 3, 4, 5, 6, 7, 8, 9, 10] ?_
        refine sT (pvanswers_any) ?_
        rintro v w20 rfl lw20
        refine sQ 2 ?_
        refine t_eql rfl rfl rfl rfl rfl (by omega) ?_
        refine sQ 3 ?_
        refine sB ?_
        refine s_eqv (c := true) rfl rfl rfl rfl rfl (fun _ => by kernel_rfl) (fun w => by rw [run_eql_wide, eqW_same x (show WideIs 0 0 0 by unfold WideIs; omega)]) ?_
        refine sZ 2 ?_
        refine Wp.ret ⟨.inr rfl, fun lW => ⟨_, res_tmp (P := Try.prog) rfl rfl, _, rfl, ?_, lW⟩⟩
        clear lW
        rfl
      · have hc2 : ¬ 0 ≤ cmpI f n := by have := @cmpI_low f n; omega
        have hk : 0 ≤ f ∧ f < n := by omega
        cases hw1 : inW (p - n / 2) with
        | false =>
          obtain ⟨e1, e2⟩ := pn_over (p := p) h0 hk (fun q => by rw [hw1] at q; cases q.1)
          refine calls_Wp (args := [_, _, _]) (n := 110) Try.func4 rfl rfl (by simp) ?_
          refine Wp.seq ?_
          refine wR [0, 1, 2, 3] ?_
          refine sE (fun bk1 w1 kb1 lw1 => ?_)
          refine sE (fun bk2 w2 kb2 lw2 => ?_)
          refine sE (fun bk3 w3 kb3 lw3 => ?_)
          refine sZ 1 ?_
          refine qQ 3 ?_
          refine sT (pnear_any ⟨_, _, rfl, hf⟩ ⟨_, _, rfl, hn⟩ ⟨_, _, rfl, hp⟩) ?_
          rintro v w4 ⟨xu, rfl, xh, xl, rfl, x⟩ lw4
          rw [e1]
          rw [e2] at x
          refine sQ 3 ?_
          refine sO (fun bk5 w5 kb5 lw5 => ?_)
          refine sS (fun w6 sw6 vw6 => ?_)
          refine sZ 1 ?_
          refine Wp.seq ?_
          refine wD [0, 2, 4, 6, 7, 8, 1, 3, 5, 9, 10, 11] [468, 467, 463, 447, 383, 255, 0, 0, 0, 0, 0, 0] (fun | 1 => IsBig 11 (f) | 3 => IsBig 11 (n) | 5 => IsBig 11 (p) | _ => fun _ _ => True) (fun _ _ => ?_)
          refine sQ 3 ?_
          refine sO (fun bk7 w7 kb7 lw7 => ?_)
          refine sO (fun bk8 w8 kb8 lw8 => ?_)
          refine sO (fun bk9 w9 kb9 lw9 => ?_)
          refine sD (fun wc lc => c_rof ⟨_, _, rfl, hf⟩ wc) ?_
          rintro v w10 u10 i1 lw10 mw10
          obtain ⟨i1a, i1l, i1c, rfl, -⟩ := id i1
          rw [hs] at i1 ⊢
          refine sD (fun wc lc => c_rof ⟨_, _, rfl, hn⟩ wc) ?_
          rintro v w11 u11 i2 lw11 mw11
          obtain ⟨i2a, i2l, i2c, rfl, -⟩ := id i2
          refine sD (fun wc lc => c_rof ⟨_, _, rfl, hp⟩ wc) ?_
          rintro v w12 u12 i3 lw12 mw12
          obtain ⟨i3a, i3l, i3c, rfl, -⟩ := id i3
          refine sS (fun w13 sw13 vw13 => ?_)
          refine sS (fun w14 sw14 vw14 => ?_)
          refine sS (fun w15 sw15 vw15 => ?_)
          refine vOrd_nil ?_
          refine Wp.seq ?_
          refine Wp.seq ?_
          refine wD [0, 1, 2, 3] [2, 0, 0, 0] (fun | 1 => IsBig 5 0 | 2 => fun v _ => v = .int .i64 (cmpI n 0) | _ => fun _ _ => True) (fun _ _ => ?_)
          refine sL ?_
          refine s_callD rfl rfl rfl (by kernel_rfl) rfl (fun wc lc => c_rint 0 (by decide) (by decide) wc) ?_
          rintro v w16 u16 h2 lw16 mw16
          refine s_callD rfl rfl rfl (by kernel_rfl) rfl (fun wc lc => c_cmp (i2.kp) (h2.kp) (by decide) (by decide)) ?_
          rintro v w17 u17 rfl lw17 mw17
          refine f_leq rfl rfl rfl rfl rfl (by omega) ?_
          refine vOrd_nil ?_
          refine Wp.condF rfl rfl ?_
          refine Wp.skip ?_
          refine Wp.seq ?_
          refine qQ 5 ?_
          refine s_callT rfl rfl rfl (by kernel_rfl) rfl (c_cmp (i1.kp) (i2.kp) (by decide) (by decide)) ?_
          rintro v w19 rfl lw19
          refine f_geq rfl rfl rfl rfl rfl (by omega) ?_
          refine sZ 1 ?_
          refine Wp.condF rfl rfl ?_
          refine Wp.skip ?_
          refine Wp.seq ?_
          refine wD [0, 6, 7, 1, 2, 3, 4, 5, 8, 9] [194, 191, 127, 0, 0, 0, 239, 479, 0, 0] (fun | 1 => IsBig 5 2 | 2 => fun v w => ∃ x y, v = .tuple #[x, y] ∧ IsBig 12 (n / 2) x w ∧ IsBig 6 (n % 2) y w | _ => fun _ _ => True) (fun _ _ => ?_)
          refine sL ?_
          refine sO (fun bk20 w20 kb20 lw20 => ?_)
          refine sO (fun bk21 w21 kb21 lw21 => ?_)
          refine s_callD rfl rfl rfl (by kernel_rfl) rfl (fun wc lc => c_rint 2 (by decide) (by decide) wc) ?_
          rintro v w22 u22 k2 lw22 mw22
          refine s_callD rfl rfl rfl (by kernel_rfl) rfl (fun wc lc => c_div (i2.kp) (k2.kp) (by decide) (by decide) (by decide)) ?_
          rintro v w23 u23 ⟨hhv, hqv, rfl, hh, hq⟩ lw23 mw23
          obtain ⟨hha, hhl, hhc, rfl, -⟩ := id hh
          obtain ⟨hqa, hql, hqc, rfl, -⟩ := id hq
          refine sQ 3 ?_
          refine sS (fun w24 sw24 vw24 => ?_)
          refine sS (fun w25 sw25 vw25 => ?_)
          refine vOrd_nil ?_
          refine qQ 2 ?_
          refine s_callT rfl rfl rfl (by kernel_rfl) rfl (c_rsub (i3.kp) (hh.kp) (by decide) (by decide)) ?_
          rintro v w26 hl lw26
          refine s_callT rfl rfl rfl (by kernel_rfl) rfl (c_rwide (hl.kp) (by decide)) ?_
          rintro v w27 ⟨su, rfl, sh, sl, rfl, hs1⟩ lw27
          rw [hw1]
          refine sQ 3 ?_
          refine sO (fun bk28 w28 kb28 lw28 => ?_)
          refine sS (fun w29 sw29 vw29 => ?_)
          refine sZ 1 ?_
          refine qQ 3 ?_
          refine s_callT rfl rfl rfl (by kernel_rfl) rfl (rnear_any (i1.kp) (i2.kp) (i3.kp) h0) ?_
          rintro v w30 hr lw30
          refine s_callT rfl rfl rfl (by kernel_rfl) rfl (c_rwide (hr.kp) (by decide)) ?_
          rintro v w31 ⟨tu, rfl, th, tl, rfl, ht1⟩ lw31
          refine sQ 3 ?_
          refine sO (fun bk32 w32 kb32 lw32 => ?_)
          refine sS (fun w33 sw33 vw33 => ?_)
          refine sZ 1 ?_
          refine Wp.seq ?_
          refine qZ ?_
          refine Wp.condT rfl rfl ?_
          refine Wp.seq ?_
          refine wR [0, 1, 2, 3, 4, 5, 6, 7, 8, 9, 10] ?_
          refine sT (pvanswers_any) ?_
          rintro v w34 rfl lw34
          refine sQ 2 ?_
          refine t_eql rfl rfl rfl rfl rfl (by omega) ?_
          refine sQ 3 ?_
          refine sB ?_
          refine s_eqv (c := true) rfl rfl rfl rfl rfl (fun _ => by kernel_rfl) (fun w => by rw [run_eql_wide, eqW_same x (show WideIs 0 0 0 by unfold WideIs; omega)]) ?_
          refine sZ 2 ?_
          refine Wp.ret ⟨.inr rfl, fun lW => ⟨_, res_tmp (P := Try.prog) rfl rfl, _, rfl, ?_, lW⟩⟩
          clear lW
          rfl
        | true =>
          cases hw2 : inW (pnI f n p) with
          | false =>
            obtain ⟨e1, e2⟩ := pn_over (p := p) h0 hk (fun q => by rw [hw2] at q; cases q.2)
            refine calls_Wp (args := [_, _, _]) (n := 110) Try.func4 rfl rfl (by simp) ?_
            refine Wp.seq ?_
            refine wR [0, 1, 2, 3] ?_
            refine sE (fun bk1 w1 kb1 lw1 => ?_)
            refine sE (fun bk2 w2 kb2 lw2 => ?_)
            refine sE (fun bk3 w3 kb3 lw3 => ?_)
            refine sZ 1 ?_
            refine qQ 3 ?_
            refine sT (pnear_any ⟨_, _, rfl, hf⟩ ⟨_, _, rfl, hn⟩ ⟨_, _, rfl, hp⟩) ?_
            rintro v w4 ⟨xu, rfl, xh, xl, rfl, x⟩ lw4
            rw [e1]
            rw [e2] at x
            refine sQ 3 ?_
            refine sO (fun bk5 w5 kb5 lw5 => ?_)
            refine sS (fun w6 sw6 vw6 => ?_)
            refine sZ 1 ?_
            refine Wp.seq ?_
            refine wD [0, 2, 4, 6, 7, 8, 1, 3, 5, 9, 10, 11] [468, 467, 463, 447, 383, 255, 0, 0, 0, 0, 0, 0] (fun | 1 => IsBig 11 (f) | 3 => IsBig 11 (n) | 5 => IsBig 11 (p) | _ => fun _ _ => True) (fun _ _ => ?_)
            refine sQ 3 ?_
            refine sO (fun bk7 w7 kb7 lw7 => ?_)
            refine sO (fun bk8 w8 kb8 lw8 => ?_)
            refine sO (fun bk9 w9 kb9 lw9 => ?_)
            refine sD (fun wc lc => c_rof ⟨_, _, rfl, hf⟩ wc) ?_
            rintro v w10 u10 i1 lw10 mw10
            obtain ⟨i1a, i1l, i1c, rfl, -⟩ := id i1
            rw [hs] at i1 ⊢
            refine sD (fun wc lc => c_rof ⟨_, _, rfl, hn⟩ wc) ?_
            rintro v w11 u11 i2 lw11 mw11
            obtain ⟨i2a, i2l, i2c, rfl, -⟩ := id i2
            refine sD (fun wc lc => c_rof ⟨_, _, rfl, hp⟩ wc) ?_
            rintro v w12 u12 i3 lw12 mw12
            obtain ⟨i3a, i3l, i3c, rfl, -⟩ := id i3
            refine sS (fun w13 sw13 vw13 => ?_)
            refine sS (fun w14 sw14 vw14 => ?_)
            refine sS (fun w15 sw15 vw15 => ?_)
            refine vOrd_nil ?_
            refine Wp.seq ?_
            refine Wp.seq ?_
            refine wD [0, 1, 2, 3] [2, 0, 0, 0] (fun | 1 => IsBig 5 0 | 2 => fun v _ => v = .int .i64 (cmpI n 0) | _ => fun _ _ => True) (fun _ _ => ?_)
            refine sL ?_
            refine s_callD rfl rfl rfl (by kernel_rfl) rfl (fun wc lc => c_rint 0 (by decide) (by decide) wc) ?_
            rintro v w16 u16 h2 lw16 mw16
            refine s_callD rfl rfl rfl (by kernel_rfl) rfl (fun wc lc => c_cmp (i2.kp) (h2.kp) (by decide) (by decide)) ?_
            rintro v w17 u17 rfl lw17 mw17
            refine f_leq rfl rfl rfl rfl rfl (by omega) ?_
            refine vOrd_nil ?_
            refine Wp.condF rfl rfl ?_
            refine Wp.skip ?_
            refine Wp.seq ?_
            refine qQ 5 ?_
            refine s_callT rfl rfl rfl (by kernel_rfl) rfl (c_cmp (i1.kp) (i2.kp) (by decide) (by decide)) ?_
            rintro v w19 rfl lw19
            refine f_geq rfl rfl rfl rfl rfl (by omega) ?_
            refine sZ 1 ?_
            refine Wp.condF rfl rfl ?_
            refine Wp.skip ?_
            refine Wp.seq ?_
            refine wD [0, 6, 7, 1, 2, 3, 4, 5, 8, 9] [194, 191, 127, 0, 0, 0, 239, 479, 0, 0] (fun | 1 => IsBig 5 2 | 2 => fun v w => ∃ x y, v = .tuple #[x, y] ∧ IsBig 12 (n / 2) x w ∧ IsBig 6 (n % 2) y w | _ => fun _ _ => True) (fun _ _ => ?_)
            refine sL ?_
            refine sO (fun bk20 w20 kb20 lw20 => ?_)
            refine sO (fun bk21 w21 kb21 lw21 => ?_)
            refine s_callD rfl rfl rfl (by kernel_rfl) rfl (fun wc lc => c_rint 2 (by decide) (by decide) wc) ?_
            rintro v w22 u22 k2 lw22 mw22
            refine s_callD rfl rfl rfl (by kernel_rfl) rfl (fun wc lc => c_div (i2.kp) (k2.kp) (by decide) (by decide) (by decide)) ?_
            rintro v w23 u23 ⟨hhv, hqv, rfl, hh, hq⟩ lw23 mw23
            obtain ⟨hha, hhl, hhc, rfl, -⟩ := id hh
            obtain ⟨hqa, hql, hqc, rfl, -⟩ := id hq
            refine sQ 3 ?_
            refine sS (fun w24 sw24 vw24 => ?_)
            refine sS (fun w25 sw25 vw25 => ?_)
            refine vOrd_nil ?_
            refine qQ 2 ?_
            refine s_callT rfl rfl rfl (by kernel_rfl) rfl (c_rsub (i3.kp) (hh.kp) (by decide) (by decide)) ?_
            rintro v w26 hl lw26
            refine s_callT rfl rfl rfl (by kernel_rfl) rfl (c_rwide (hl.kp) (by decide)) ?_
            rintro v w27 ⟨su, rfl, sh, sl, rfl, hs1⟩ lw27
            rw [hw1]
            refine sQ 3 ?_
            refine sO (fun bk28 w28 kb28 lw28 => ?_)
            refine sS (fun w29 sw29 vw29 => ?_)
            refine sZ 1 ?_
            refine qQ 3 ?_
            refine s_callT rfl rfl rfl (by kernel_rfl) rfl (rnear_any (i1.kp) (i2.kp) (i3.kp) h0) ?_
            rintro v w30 hr lw30
            refine s_callT rfl rfl rfl (by kernel_rfl) rfl (c_rwide (hr.kp) (by decide)) ?_
            rintro v w31 ⟨tu, rfl, th, tl, rfl, ht1⟩ lw31
            rw [hw2]
            refine sQ 3 ?_
            refine sO (fun bk32 w32 kb32 lw32 => ?_)
            refine sS (fun w33 sw33 vw33 => ?_)
            refine sZ 1 ?_
            refine Wp.seq ?_
            refine qZ ?_
            refine Wp.condT rfl rfl ?_
            refine Wp.seq ?_
            refine wR [0, 1, 2, 3, 4, 5, 6, 7, 8, 9, 10] ?_
            refine sT (pvanswers_any) ?_
            rintro v w34 rfl lw34
            refine sQ 2 ?_
            refine t_eql rfl rfl rfl rfl rfl (by omega) ?_
            refine sQ 3 ?_
            refine sB ?_
            refine s_eqv (c := true) rfl rfl rfl rfl rfl (fun _ => by kernel_rfl) (fun w => by rw [run_eql_wide, eqW_same x (show WideIs 0 0 0 by unfold WideIs; omega)]) ?_
            refine sZ 2 ?_
            refine Wp.ret ⟨.inr rfl, fun lW => ⟨_, res_tmp (P := Try.prog) rfl rfl, _, rfl, ?_, lW⟩⟩
            clear lW
            rfl
          | true =>
            obtain ⟨e1, e2⟩ := pn_ok (p := p) h0 hk ⟨hw1, hw2⟩
            have ft : fitV (pnI f n p) = pnI f n p := by unfold fitV; rw [hw2]; rfl
            refine calls_Wp (args := [_, _, _]) (n := 110) Try.func4 rfl rfl (by simp) ?_
            refine Wp.seq ?_
            refine wR [0, 1, 2, 3] ?_
            refine sE (fun bk1 w1 kb1 lw1 => ?_)
            refine sE (fun bk2 w2 kb2 lw2 => ?_)
            refine sE (fun bk3 w3 kb3 lw3 => ?_)
            refine sZ 1 ?_
            refine qQ 3 ?_
            refine sT (pnear_any ⟨_, _, rfl, hf⟩ ⟨_, _, rfl, hn⟩ ⟨_, _, rfl, hp⟩) ?_
            rintro v w4 ⟨xu, rfl, xh, xl, rfl, x⟩ lw4
            rw [e1]
            rw [e2] at x
            refine sQ 3 ?_
            refine sO (fun bk5 w5 kb5 lw5 => ?_)
            refine sS (fun w6 sw6 vw6 => ?_)
            refine sZ 1 ?_
            refine Wp.seq ?_
            refine wD [0, 2, 4, 6, 7, 8, 1, 3, 5, 9, 10, 11] [468, 467, 463, 447, 383, 255, 0, 0, 0, 0, 0, 0] (fun | 1 => IsBig 11 (f) | 3 => IsBig 11 (n) | 5 => IsBig 11 (p) | _ => fun _ _ => True) (fun _ _ => ?_)
            refine sQ 3 ?_
            refine sO (fun bk7 w7 kb7 lw7 => ?_)
            refine sO (fun bk8 w8 kb8 lw8 => ?_)
            refine sO (fun bk9 w9 kb9 lw9 => ?_)
            refine sD (fun wc lc => c_rof ⟨_, _, rfl, hf⟩ wc) ?_
            rintro v w10 u10 i1 lw10 mw10
            obtain ⟨i1a, i1l, i1c, rfl, -⟩ := id i1
            rw [hs] at i1 ⊢
            refine sD (fun wc lc => c_rof ⟨_, _, rfl, hn⟩ wc) ?_
            rintro v w11 u11 i2 lw11 mw11
            obtain ⟨i2a, i2l, i2c, rfl, -⟩ := id i2
            refine sD (fun wc lc => c_rof ⟨_, _, rfl, hp⟩ wc) ?_
            rintro v w12 u12 i3 lw12 mw12
            obtain ⟨i3a, i3l, i3c, rfl, -⟩ := id i3
            refine sS (fun w13 sw13 vw13 => ?_)
            refine sS (fun w14 sw14 vw14 => ?_)
            refine sS (fun w15 sw15 vw15 => ?_)
            refine vOrd_nil ?_
            refine Wp.seq ?_
            refine Wp.seq ?_
            refine wD [0, 1, 2, 3] [2, 0, 0, 0] (fun | 1 => IsBig 5 0 | 2 => fun v _ => v = .int .i64 (cmpI n 0) | _ => fun _ _ => True) (fun _ _ => ?_)
            refine sL ?_
            refine s_callD rfl rfl rfl (by kernel_rfl) rfl (fun wc lc => c_rint 0 (by decide) (by decide) wc) ?_
            rintro v w16 u16 h2 lw16 mw16
            refine s_callD rfl rfl rfl (by kernel_rfl) rfl (fun wc lc => c_cmp (i2.kp) (h2.kp) (by decide) (by decide)) ?_
            rintro v w17 u17 rfl lw17 mw17
            refine f_leq rfl rfl rfl rfl rfl (by omega) ?_
            refine vOrd_nil ?_
            refine Wp.condF rfl rfl ?_
            refine Wp.skip ?_
            refine Wp.seq ?_
            refine qQ 5 ?_
            refine s_callT rfl rfl rfl (by kernel_rfl) rfl (c_cmp (i1.kp) (i2.kp) (by decide) (by decide)) ?_
            rintro v w19 rfl lw19
            refine f_geq rfl rfl rfl rfl rfl (by omega) ?_
            refine sZ 1 ?_
            refine Wp.condF rfl rfl ?_
            refine Wp.skip ?_
            refine Wp.seq ?_
            refine wD [0, 6, 7, 1, 2, 3, 4, 5, 8, 9] [194, 191, 127, 0, 0, 0, 239, 479, 0, 0] (fun | 1 => IsBig 5 2 | 2 => fun v w => ∃ x y, v = .tuple #[x, y] ∧ IsBig 12 (n / 2) x w ∧ IsBig 6 (n % 2) y w | _ => fun _ _ => True) (fun _ _ => ?_)
            refine sL ?_
            refine sO (fun bk20 w20 kb20 lw20 => ?_)
            refine sO (fun bk21 w21 kb21 lw21 => ?_)
            refine s_callD rfl rfl rfl (by kernel_rfl) rfl (fun wc lc => c_rint 2 (by decide) (by decide) wc) ?_
            rintro v w22 u22 k2 lw22 mw22
            refine s_callD rfl rfl rfl (by kernel_rfl) rfl (fun wc lc => c_div (i2.kp) (k2.kp) (by decide) (by decide) (by decide)) ?_
            rintro v w23 u23 ⟨hhv, hqv, rfl, hh, hq⟩ lw23 mw23
            obtain ⟨hha, hhl, hhc, rfl, -⟩ := id hh
            obtain ⟨hqa, hql, hqc, rfl, -⟩ := id hq
            refine sQ 3 ?_
            refine sS (fun w24 sw24 vw24 => ?_)
            refine sS (fun w25 sw25 vw25 => ?_)
            refine vOrd_nil ?_
            refine qQ 2 ?_
            refine s_callT rfl rfl rfl (by kernel_rfl) rfl (c_rsub (i3.kp) (hh.kp) (by decide) (by decide)) ?_
            rintro v w26 hl lw26
            refine s_callT rfl rfl rfl (by kernel_rfl) rfl (c_rwide (hl.kp) (by decide)) ?_
            rintro v w27 ⟨su, rfl, sh, sl, rfl, hs1⟩ lw27
            rw [hw1]
            refine sQ 3 ?_
            refine sO (fun bk28 w28 kb28 lw28 => ?_)
            refine sS (fun w29 sw29 vw29 => ?_)
            refine sZ 1 ?_
            refine qQ 3 ?_
            refine s_callT rfl rfl rfl (by kernel_rfl) rfl (rnear_any (i1.kp) (i2.kp) (i3.kp) h0) ?_
            rintro v w30 hr lw30
            refine s_callT rfl rfl rfl (by kernel_rfl) rfl (c_rwide (hr.kp) (by decide)) ?_
            rintro v w31 ⟨tu, rfl, th, tl, rfl, ht1⟩ lw31
            rw [hw2]
            rw [ft] at ht1
            refine sQ 3 ?_
            refine sO (fun bk32 w32 kb32 lw32 => ?_)
            refine sS (fun w33 sw33 vw33 => ?_)
            refine sZ 1 ?_
            refine Wp.seq ?_
            refine qZ ?_
            refine Wp.condF rfl rfl ?_
            refine Wp.skip ?_
            refine Wp.seq ?_
            refine wR [0, 1, 2, 3, 4, 5, 6, 7, 8, 9, 10] ?_
            refine sT (pvanswers_any) ?_
            rintro v w34 rfl lw34
            refine sQ 2 ?_
            refine t_eql rfl rfl rfl rfl rfl (by omega) ?_
            refine sQ 4 ?_
            refine s_eqv (c := true) rfl rfl rfl rfl rfl (fun _ => by kernel_rfl) (fun w => by rw [run_eql_wide, eqW_same x ht1]) ?_
            refine sZ 2 ?_
            refine Wp.ret ⟨.inr rfl, fun lW => ⟨_, res_tmp (P := Try.prog) rfl rfl, _, rfl, ?_, lW⟩⟩
            clear lW
            rfl
set_option maxHeartbeats 1000000 in
theorem law_pvonly {nh nl n eh el e ph pl p : Int} (hn : WideIs nh nl n) (he : WideIs eh el e) (hp : WideIs ph pl p) {w : World} : Calls Try.prog 5 #[.agg #[.int .i64 nh, .int .u64 nl], .agg #[.int .i64 eh, .int .u64 el], .agg #[.int .i64 ph, .int .u64 pl]] w fun e w' => ∃ r, e = .returned r ∧ r = .bool true ∧ Below w.heap.size w w' := by
  by_cases h0 : e ≤ 0
  · obtain ⟨e1, e2⟩ := pf_zero (m := n) h0
    refine calls_Wp (args := [_, _, _]) (n := 105) Try.func5 rfl rfl (by simp) ?_
    refine Wp.seq ?_
    refine wR [0, 1, 2, 3] ?_
    refine sE (fun bk1 w1 kb1 lw1 => ?_)
    refine sE (fun bk2 w2 kb2 lw2 => ?_)
    refine sE (fun bk3 w3 kb3 lw3 => ?_)
    refine sZ 1 ?_
    refine qQ 2 ?_
    refine sT (pfold_any ⟨_, _, rfl, hn⟩ ⟨_, _, rfl, he⟩) ?_
    rintro v w4 ⟨xu, rfl, xh, xl, rfl, x⟩ lw4
    rw [e1]
    rw [e2] at x
    refine sQ 3 ?_
    refine sO (fun bk5 w5 kb5 lw5 => ?_)
    refine sS (fun w6 sw6 vw6 => ?_)
    refine sZ 1 ?_
    refine Wp.seq ?_
    refine qQ 1 ?_
    refine t_neq rfl rfl rfl rfl rfl (by omega) ?_
    refine vOrd_nil ?_
    refine Wp.condT rfl rfl ?_
    refine Wp.seq ?_
    refine wR [0, 1] ?_
    refine sT (pvanswers_any) ?_
    rintro v w7 rfl lw7
    refine sZ 1 ?_
    refine Wp.ret ⟨.inr rfl, fun lW => ⟨_, res_tmp (P := Try.prog) rfl rfl, _, rfl, ?_, lW⟩⟩
    clear lW
    rfl
  · have h0 : 0 < e := by omega
    obtain ⟨e1, e2⟩ := pf_ok (m := n) h0
    have hk : 0 ≤ n % e ∧ n % e < e := ⟨Int.emod_nonneg _ (by omega), Int.emod_lt_of_pos _ h0⟩
    by_cases hw : inW (p - e / 2) = true ∧ inW (pnI (n % e) e p) = true
    · obtain ⟨g1, g2⟩ := pn_ok (p := p) h0 hk hw
      obtain ⟨y, hy⟩ : ∃ y, pnI (n % e) e p = y := ⟨_, rfl⟩
      have hin := pn_in (f := n % e) (p := p) h0
      have hon := pn_only (m := n) (p := p) h0
      obtain ⟨e3, e4⟩ := pf_ok (m := y) h0
      have hfo := pn_fold (p := p) hk
      rw [hy] at g2 hin hon hfo
      rw [hfo] at e4
      have ca : 0 ≤ cmpI y (p - e / 2) := by have := @cmpI_low y (p - e / 2); omega
      have cb : cmpI y (p - e / 2 + e) < 0 := cmpI_low.2 hin.2
      rcases Int.lt_or_le n (p - e / 2) with q1 | q1
      · have c1 := cmpI_low.2 q1
        refine calls_Wp (args := [_, _, _]) (n := 105) Try.func5 rfl rfl (by simp) ?_
        refine Wp.seq ?_
        refine wR [0, 1, 2, 3] ?_
        refine sE (fun bk1 w1 kb1 lw1 => ?_)
        refine sE (fun bk2 w2 kb2 lw2 => ?_)
        refine sE (fun bk3 w3 kb3 lw3 => ?_)
        refine sZ 1 ?_
        refine qQ 2 ?_
        refine sT (pfold_any ⟨_, _, rfl, hn⟩ ⟨_, _, rfl, he⟩) ?_
        rintro v w4 ⟨xu, rfl, xh, xl, rfl, x⟩ lw4
        rw [e1]
        rw [e2] at x
        refine sQ 3 ?_
        refine sO (fun bk5 w5 kb5 lw5 => ?_)
        refine sS (fun w6 sw6 vw6 => ?_)
        refine sZ 1 ?_
        refine Wp.seq ?_
        refine qQ 1 ?_
        refine f_neq rfl rfl rfl rfl rfl (by omega) ?_
        refine vOrd_nil ?_
        refine Wp.condF rfl rfl ?_
        refine Wp.skip ?_
        refine qQ 3 ?_
        refine sT (pnear_any ⟨_, _, rfl, x⟩ ⟨_, _, rfl, he⟩ ⟨_, _, rfl, hp⟩) ?_
        rintro v w7 ⟨y1u, rfl, y1h, y1l, rfl, y1⟩ lw7
        rw [g1]
        rw [g2] at y1
        refine sQ 3 ?_
        refine sO (fun bk8 w8 kb8 lw8 => ?_)
        refine sS (fun w9 sw9 vw9 => ?_)
        refine sZ 1 ?_
        refine Wp.seq ?_
        refine qQ 1 ?_
        refine f_neq rfl rfl rfl rfl rfl (by omega) ?_
        refine vOrd_nil ?_
        refine Wp.condF rfl rfl ?_
        refine Wp.skip ?_
        refine qQ 1 ?_
        refine sT (c_rof ⟨_, _, rfl, he⟩ _) ?_
        rintro v w10 i1 lw10
        refine s_callT rfl rfl rfl (by kernel_rfl) rfl (c_rint 2 (by decide) (by decide) _) ?_
        rintro v w11 i2 lw11
        refine s_callT rfl rfl rfl (by kernel_rfl) rfl (c_div (i1.kp) (i2.kp) (by decide) (by decide) (by decide)) ?_
        rintro v w12 ⟨hhv, hqv, rfl, hh, hq⟩ lw12
        obtain ⟨hha, hhl, hhc, rfl, -⟩ := id hh
        obtain ⟨hqa, hql, hqc, rfl, -⟩ := id hq
        refine sQ 3 ?_
        refine sO (fun bk13 w13 kb13 lw13 => ?_)
        refine sO (fun bk14 w14 kb14 lw14 => ?_)
        refine sS (fun w15 sw15 vw15 => ?_)
        refine sS (fun w16 sw16 vw16 => ?_)
        refine vOrd_nil ?_
        refine Wp.seq ?_
        refine wD [0, 2, 4, 1, 3, 5] [20, 19, 15, 0, 0, 0] (fun | 1 => IsBig 11 (p) | 3 => IsBig 13 (p - e / 2) | _ => fun _ _ => True) (fun _ _ => ?_)
        refine sQ 2 ?_
        refine sO (fun bk17 w17 kb17 lw17 => ?_)
        refine sD (fun wc lc => c_rof ⟨_, _, rfl, hp⟩ wc) ?_
        rintro v w18 u18 i3 lw18 mw18
        refine s_callD rfl rfl rfl (by kernel_rfl) rfl (fun wc lc => c_rsub (i3.kp) (hh.kp) (by decide) (by decide)) ?_
        rintro v w19 u19 hl lw19 mw19
        obtain ⟨hla, hll, hlc, rfl, -⟩ := id hl
        refine sS (fun w20 sw20 vw20 => ?_)
        refine vOrd_nil ?_
        refine Wp.seq ?_
        refine wD [0, 1, 4, 2, 3, 5] [22, 17, 15, 0, 0, 0] (fun | 2 => IsBig 11 (e) | 3 => IsBig 14 (p - e / 2 + e) | _ => fun _ _ => True) (fun _ _ => ?_)
        refine sQ 2 ?_
        refine sO (fun bk21 w21 kb21 lw21 => ?_)
        refine sD (fun wc lc => c_rof ⟨_, _, rfl, he⟩ wc) ?_
        rintro v w22 u22 i4 lw22 mw22
        refine s_callD rfl rfl rfl (by kernel_rfl) rfl (fun wc lc => c_add (hl.kp) (i4.kp) (by decide) (by decide)) ?_
        rintro v w23 u23 hg lw23 mw23
        obtain ⟨hga, hgl, hgc, rfl, -⟩ := id hg
        refine sS (fun w24 sw24 vw24 => ?_)
        refine vOrd_nil ?_
        refine Wp.seq ?_
        refine wD [0, 2, 1, 3, 4, 5, 6, 8, 7, 9, 10, 11, 12] [4, 3, 0, 0, 0, 0, 319, 255, 0, 0, 0, 0, 0] (fun | 1 => IsBig 11 (n) | 3 => fun v _ => v = .int .i64 (cmpI n (p - e / 2)) | 7 => IsBig 11 (n) | 9 => fun v _ => v = .int .i64 (cmpI n (p - e / 2 + e)) | _ => fun _ _ => True) (fun _ _ => ?_)
        refine sQ 2 ?_
        refine sD (fun wc lc => c_rof ⟨_, _, rfl, hn⟩ wc) ?_
        rintro v w25 u25 i5 lw25 mw25
        refine s_callD rfl rfl rfl (by kernel_rfl) rfl (fun wc lc => c_cmp (i5.kp) (hl.kp) (by decide) (by decide)) ?_
        rintro v w26 u26 rfl lw26 mw26
        refine f_geq rfl rfl rfl rfl rfl (by omega) ?_
        refine sZ 8 ?_
        refine qQ 2 ?_
        refine sT (pfold_any ⟨_, _, rfl, y1⟩ ⟨_, _, rfl, he⟩) ?_
        rintro v w27 ⟨z1u, rfl, z1h, z1l, rfl, z1⟩ lw27
        rw [e3]
        rw [e4] at z1
        refine sQ 3 ?_
        refine sO (fun bk28 w28 kb28 lw28 => ?_)
        refine sS (fun w29 sw29 vw29 => ?_)
        refine sZ 1 ?_
        refine Wp.seq ?_
        refine wD [0, 1, 2, 3, 4, 5, 6, 7, 8, 9, 10, 11, 12, 13, 14, 15, 16, 17, 18, 20, 19, 21, 22, 23, 24, 25, 27, 26, 28, 29, 30, 31] [0, 0, 0, 0, 0, 0, 191, 0, 0, 0, 0, 22527, 20479, 24575, 0, 0, 0, 0, 1310719, 1048575, 0, 0, 0, 0, 0, 167772159, 134217727, 0, 0, 0, 0, 0] (fun | 0 => fun v _ => v = .bool true | 19 => IsBig 11 (y) | 21 => fun v _ => v = .int .i64 (cmpI y (p - e / 2)) | 26 => IsBig 11 (y) | 28 => fun v _ => v = .int .i64 (cmpI y (p - e / 2 + e)) | _ => fun _ _ => True) (fun _ _ => ?_)
        refine sD (fun wc lc => pvanswers_any) ?_
        rintro v w30 u30 rfl lw30 mw30
        refine sQ 2 ?_
        refine t_eql rfl rfl rfl rfl rfl (by omega) ?_
        refine sQ 4 ?_
        refine s_eqv (c := true) rfl rfl rfl rfl rfl (fun _ => by kernel_rfl) (fun w => by rw [run_eql_wide, eqW_same z1 x]) ?_
        refine sQ 4 ?_
        refine s_eqv (c := false) rfl rfl rfl rfl rfl (fun _ => by kernel_rfl) (fun w => by rw [run_eql_wide, eqL_not y1 hn (fun q => by have := hon.1 q; omega)]) ?_
        refine sM ?_
        refine s_eqv (c := true) rfl rfl rfl rfl rfl (fun _ => by kernel_rfl) (fun w => by rw [run_eql_bool, beq_self_eq_true]) ?_
        refine sQ 4 ?_
        refine sD (fun wc lc => c_rof ⟨_, _, rfl, y1⟩ wc) ?_
        rintro v w34 u34 m1 lw34 mw34
        refine s_callD rfl rfl rfl (by kernel_rfl) rfl (fun wc lc => c_cmp (m1.kp) (hl.kp) (by decide) (by decide)) ?_
        rintro v w35 u35 rfl lw35 mw35
        refine t_geq rfl rfl rfl rfl rfl (by omega) ?_
        refine sQ 4 ?_
        refine sD (fun wc lc => c_rof ⟨_, _, rfl, y1⟩ wc) ?_
        rintro v w36 u36 m2 lw36 mw36
        refine s_callD rfl rfl rfl (by kernel_rfl) rfl (fun wc lc => c_cmp (m2.kp) (hg.kp) (by decide) (by decide)) ?_
        rintro v w37 u37 rfl lw37 mw37
        refine t_lss rfl rfl rfl rfl rfl (by omega) ?_
        refine sZ 2 ?_
        refine Wp.ret ⟨.inr rfl, fun lW => ⟨_, res_tmp (P := Try.prog) rfl rfl, _, rfl, ?_, lW⟩⟩
        clear lW
        rfl
      · have c1 : 0 ≤ cmpI n (p - e / 2) := by have := @cmpI_low n (p - e / 2); omega
        rcases Int.lt_or_le n (p - e / 2 + e) with q2 | q2
        · have c2 := cmpI_low.2 q2
          have hyn := hon.2 ⟨q1, q2⟩
          refine calls_Wp (args := [_, _, _]) (n := 105) Try.func5 rfl rfl (by simp) ?_
          refine Wp.seq ?_
          refine wR [0, 1, 2, 3] ?_
          refine sE (fun bk1 w1 kb1 lw1 => ?_)
          refine sE (fun bk2 w2 kb2 lw2 => ?_)
          refine sE (fun bk3 w3 kb3 lw3 => ?_)
          refine sZ 1 ?_
          refine qQ 2 ?_
          refine sT (pfold_any ⟨_, _, rfl, hn⟩ ⟨_, _, rfl, he⟩) ?_
          rintro v w4 ⟨xu, rfl, xh, xl, rfl, x⟩ lw4
          rw [e1]
          rw [e2] at x
          refine sQ 3 ?_
          refine sO (fun bk5 w5 kb5 lw5 => ?_)
          refine sS (fun w6 sw6 vw6 => ?_)
          refine sZ 1 ?_
          refine Wp.seq ?_
          refine qQ 1 ?_
          refine f_neq rfl rfl rfl rfl rfl (by omega) ?_
          refine vOrd_nil ?_
          refine Wp.condF rfl rfl ?_
          refine Wp.skip ?_
          refine qQ 3 ?_
          refine sT (pnear_any ⟨_, _, rfl, x⟩ ⟨_, _, rfl, he⟩ ⟨_, _, rfl, hp⟩) ?_
          rintro v w7 ⟨y1u, rfl, y1h, y1l, rfl, y1⟩ lw7
          rw [g1]
          rw [g2] at y1
          refine sQ 3 ?_
          refine sO (fun bk8 w8 kb8 lw8 => ?_)
          refine sS (fun w9 sw9 vw9 => ?_)
          refine sZ 1 ?_
          refine Wp.seq ?_
          refine qQ 1 ?_
          refine f_neq rfl rfl rfl rfl rfl (by omega) ?_
          refine vOrd_nil ?_
          refine Wp.condF rfl rfl ?_
          refine Wp.skip ?_
          refine qQ 1 ?_
          refine sT (c_rof ⟨_, _, rfl, he⟩ _) ?_
          rintro v w10 i1 lw10
          refine s_callT rfl rfl rfl (by kernel_rfl) rfl (c_rint 2 (by decide) (by decide) _) ?_
          rintro v w11 i2 lw11
          refine s_callT rfl rfl rfl (by kernel_rfl) rfl (c_div (i1.kp) (i2.kp) (by decide) (by decide) (by decide)) ?_
          rintro v w12 ⟨hhv, hqv, rfl, hh, hq⟩ lw12
          obtain ⟨hha, hhl, hhc, rfl, -⟩ := id hh
          obtain ⟨hqa, hql, hqc, rfl, -⟩ := id hq
          refine sQ 3 ?_
          refine sO (fun bk13 w13 kb13 lw13 => ?_)
          refine sO (fun bk14 w14 kb14 lw14 => ?_)
          refine sS (fun w15 sw15 vw15 => ?_)
          refine sS (fun w16 sw16 vw16 => ?_)
          refine vOrd_nil ?_
          refine Wp.seq ?_
          refine wD [0, 2, 4, 1, 3, 5] [20, 19, 15, 0, 0, 0] (fun | 1 => IsBig 11 (p) | 3 => IsBig 13 (p - e / 2) | _ => fun _ _ => True) (fun _ _ => ?_)
          refine sQ 2 ?_
          refine sO (fun bk17 w17 kb17 lw17 => ?_)
          refine sD (fun wc lc => c_rof ⟨_, _, rfl, hp⟩ wc) ?_
          rintro v w18 u18 i3 lw18 mw18
          refine s_callD rfl rfl rfl (by kernel_rfl) rfl (fun wc lc => c_rsub (i3.kp) (hh.kp) (by decide) (by decide)) ?_
          rintro v w19 u19 hl lw19 mw19
          obtain ⟨hla, hll, hlc, rfl, -⟩ := id hl
          refine sS (fun w20 sw20 vw20 => ?_)
          refine vOrd_nil ?_
          refine Wp.seq ?_
          refine wD [0, 1, 4, 2, 3, 5] [22, 17, 15, 0, 0, 0] (fun | 2 => IsBig 11 (e) | 3 => IsBig 14 (p - e / 2 + e) | _ => fun _ _ => True) (fun _ _ => ?_)
          refine sQ 2 ?_
          refine sO (fun bk21 w21 kb21 lw21 => ?_)
          refine sD (fun wc lc => c_rof ⟨_, _, rfl, he⟩ wc) ?_
          rintro v w22 u22 i4 lw22 mw22
          refine s_callD rfl rfl rfl (by kernel_rfl) rfl (fun wc lc => c_add (hl.kp) (i4.kp) (by decide) (by decide)) ?_
          rintro v w23 u23 hg lw23 mw23
          obtain ⟨hga, hgl, hgc, rfl, -⟩ := id hg
          refine sS (fun w24 sw24 vw24 => ?_)
          refine vOrd_nil ?_
          refine Wp.seq ?_
          refine wD [0, 2, 1, 3, 4, 5, 6, 8, 7, 9, 10, 11, 12] [4, 3, 0, 0, 0, 0, 319, 255, 0, 0, 0, 0, 0] (fun | 1 => IsBig 11 (n) | 3 => fun v _ => v = .int .i64 (cmpI n (p - e / 2)) | 7 => IsBig 11 (n) | 9 => fun v _ => v = .int .i64 (cmpI n (p - e / 2 + e)) | _ => fun _ _ => True) (fun _ _ => ?_)
          refine sQ 2 ?_
          refine sD (fun wc lc => c_rof ⟨_, _, rfl, hn⟩ wc) ?_
          rintro v w25 u25 i5 lw25 mw25
          refine s_callD rfl rfl rfl (by kernel_rfl) rfl (fun wc lc => c_cmp (i5.kp) (hl.kp) (by decide) (by decide)) ?_
          rintro v w26 u26 rfl lw26 mw26
          refine t_geq rfl rfl rfl rfl rfl (by omega) ?_
          refine sQ 3 ?_
          refine sD (fun wc lc => c_rof ⟨_, _, rfl, hn⟩ wc) ?_
          rintro v w27 u27 i6 lw27 mw27
          refine s_callD rfl rfl rfl (by kernel_rfl) rfl (fun wc lc => c_cmp (i6.kp) (hg.kp) (by decide) (by decide)) ?_
          rintro v w28 u28 rfl lw28 mw28
          refine t_lss rfl rfl rfl rfl rfl (by omega) ?_
          refine sZ 2 ?_
          refine qQ 2 ?_
          refine sT (pfold_any ⟨_, _, rfl, y1⟩ ⟨_, _, rfl, he⟩) ?_
          rintro v w29 ⟨z1u, rfl, z1h, z1l, rfl, z1⟩ lw29
          rw [e3]
          rw [e4] at z1
          refine sQ 3 ?_
          refine sO (fun bk30 w30 kb30 lw30 => ?_)
          refine sS (fun w31 sw31 vw31 => ?_)
          refine sZ 1 ?_
          refine Wp.seq ?_
          refine wD [0, 1, 2, 3, 4, 5, 6, 7, 8, 9, 10, 11, 12, 13, 14, 15, 16, 17, 18, 20, 19, 21, 22, 23, 24, 25, 27, 26, 28, 29, 30, 31] [0, 0, 0, 0, 0, 0, 191, 0, 0, 0, 0, 22527, 20479, 24575, 0, 0, 0, 0, 1310719, 1048575, 0, 0, 0, 0, 0, 167772159, 134217727, 0, 0, 0, 0, 0] (fun | 0 => fun v _ => v = .bool true | 19 => IsBig 11 (y) | 21 => fun v _ => v = .int .i64 (cmpI y (p - e / 2)) | 26 => IsBig 11 (y) | 28 => fun v _ => v = .int .i64 (cmpI y (p - e / 2 + e)) | _ => fun _ _ => True) (fun _ _ => ?_)
          refine sD (fun wc lc => pvanswers_any) ?_
          rintro v w32 u32 rfl lw32 mw32
          refine sQ 2 ?_
          refine t_eql rfl rfl rfl rfl rfl (by omega) ?_
          refine sQ 4 ?_
          refine s_eqv (c := true) rfl rfl rfl rfl rfl (fun _ => by kernel_rfl) (fun w => by rw [run_eql_wide, eqW_same z1 x]) ?_
          refine sQ 4 ?_
          refine s_eqv (c := true) rfl rfl rfl rfl rfl (fun _ => by kernel_rfl) (fun w => by rw [run_eql_wide, eqW_same y1 (hyn ▸ hn)]) ?_
          refine sM ?_
          refine s_eqv (c := true) rfl rfl rfl rfl rfl (fun _ => by kernel_rfl) (fun w => by rw [run_eql_bool, beq_self_eq_true]) ?_
          refine sQ 4 ?_
          refine sD (fun wc lc => c_rof ⟨_, _, rfl, y1⟩ wc) ?_
          rintro v w36 u36 m1 lw36 mw36
          refine s_callD rfl rfl rfl (by kernel_rfl) rfl (fun wc lc => c_cmp (m1.kp) (hl.kp) (by decide) (by decide)) ?_
          rintro v w37 u37 rfl lw37 mw37
          refine t_geq rfl rfl rfl rfl rfl (by omega) ?_
          refine sQ 4 ?_
          refine sD (fun wc lc => c_rof ⟨_, _, rfl, y1⟩ wc) ?_
          rintro v w38 u38 m2 lw38 mw38
          refine s_callD rfl rfl rfl (by kernel_rfl) rfl (fun wc lc => c_cmp (m2.kp) (hg.kp) (by decide) (by decide)) ?_
          rintro v w39 u39 rfl lw39 mw39
          refine t_lss rfl rfl rfl rfl rfl (by omega) ?_
          refine sZ 2 ?_
          refine Wp.ret ⟨.inr rfl, fun lW => ⟨_, res_tmp (P := Try.prog) rfl rfl, _, rfl, ?_, lW⟩⟩
          clear lW
          rfl
        · have c2 : ¬ cmpI n (p - e / 2 + e) < 0 := fun q => by have := cmpI_low.1 q; omega
          refine calls_Wp (args := [_, _, _]) (n := 105) Try.func5 rfl rfl (by simp) ?_
          refine Wp.seq ?_
          refine wR [0, 1, 2, 3] ?_
          refine sE (fun bk1 w1 kb1 lw1 => ?_)
          refine sE (fun bk2 w2 kb2 lw2 => ?_)
          refine sE (fun bk3 w3 kb3 lw3 => ?_)
          refine sZ 1 ?_
          refine qQ 2 ?_
          refine sT (pfold_any ⟨_, _, rfl, hn⟩ ⟨_, _, rfl, he⟩) ?_
          rintro v w4 ⟨xu, rfl, xh, xl, rfl, x⟩ lw4
          rw [e1]
          rw [e2] at x
          refine sQ 3 ?_
          refine sO (fun bk5 w5 kb5 lw5 => ?_)
          refine sS (fun w6 sw6 vw6 => ?_)
          refine sZ 1 ?_
          refine Wp.seq ?_
          refine qQ 1 ?_
          refine f_neq rfl rfl rfl rfl rfl (by omega) ?_
          refine vOrd_nil ?_
          refine Wp.condF rfl rfl ?_
          refine Wp.skip ?_
          refine qQ 3 ?_
          refine sT (pnear_any ⟨_, _, rfl, x⟩ ⟨_, _, rfl, he⟩ ⟨_, _, rfl, hp⟩) ?_
          rintro v w7 ⟨y1u, rfl, y1h, y1l, rfl, y1⟩ lw7
          rw [g1]
          rw [g2] at y1
          refine sQ 3 ?_
          refine sO (fun bk8 w8 kb8 lw8 => ?_)
          refine sS (fun w9 sw9 vw9 => ?_)
          refine sZ 1 ?_
          refine Wp.seq ?_
          refine qQ 1 ?_
          refine f_neq rfl rfl rfl rfl rfl (by omega) ?_
          refine vOrd_nil ?_
          refine Wp.condF rfl rfl ?_
          refine Wp.skip ?_
          refine qQ 1 ?_
          refine sT (c_rof ⟨_, _, rfl, he⟩ _) ?_
          rintro v w10 i1 lw10
          refine s_callT rfl rfl rfl (by kernel_rfl) rfl (c_rint 2 (by decide) (by decide) _) ?_
          rintro v w11 i2 lw11
          refine s_callT rfl rfl rfl (by kernel_rfl) rfl (c_div (i1.kp) (i2.kp) (by decide) (by decide) (by decide)) ?_
          rintro v w12 ⟨hhv, hqv, rfl, hh, hq⟩ lw12
          obtain ⟨hha, hhl, hhc, rfl, -⟩ := id hh
          obtain ⟨hqa, hql, hqc, rfl, -⟩ := id hq
          refine sQ 3 ?_
          refine sO (fun bk13 w13 kb13 lw13 => ?_)
          refine sO (fun bk14 w14 kb14 lw14 => ?_)
          refine sS (fun w15 sw15 vw15 => ?_)
          refine sS (fun w16 sw16 vw16 => ?_)
          refine vOrd_nil ?_
          refine Wp.seq ?_
          refine wD [0, 2, 4, 1, 3, 5] [20, 19, 15, 0, 0, 0] (fun | 1 => IsBig 11 (p) | 3 => IsBig 13 (p - e / 2) | _ => fun _ _ => True) (fun _ _ => ?_)
          refine sQ 2 ?_
          refine sO (fun bk17 w17 kb17 lw17 => ?_)
          refine sD (fun wc lc => c_rof ⟨_, _, rfl, hp⟩ wc) ?_
          rintro v w18 u18 i3 lw18 mw18
          refine s_callD rfl rfl rfl (by kernel_rfl) rfl (fun wc lc => c_rsub (i3.kp) (hh.kp) (by decide) (by decide)) ?_
          rintro v w19 u19 hl lw19 mw19
          obtain ⟨hla, hll, hlc, rfl, -⟩ := id hl
          refine sS (fun w20 sw20 vw20 => ?_)
          refine vOrd_nil ?_
          refine Wp.seq ?_
          refine wD [0, 1, 4, 2, 3, 5] [22, 17, 15, 0, 0, 0] (fun | 2 => IsBig 11 (e) | 3 => IsBig 14 (p - e / 2 + e) | _ => fun _ _ => True) (fun _ _ => ?_)
          refine sQ 2 ?_
          refine sO (fun bk21 w21 kb21 lw21 => ?_)
          refine sD (fun wc lc => c_rof ⟨_, _, rfl, he⟩ wc) ?_
          rintro v w22 u22 i4 lw22 mw22
          refine s_callD rfl rfl rfl (by kernel_rfl) rfl (fun wc lc => c_add (hl.kp) (i4.kp) (by decide) (by decide)) ?_
          rintro v w23 u23 hg lw23 mw23
          obtain ⟨hga, hgl, hgc, rfl, -⟩ := id hg
          refine sS (fun w24 sw24 vw24 => ?_)
          refine vOrd_nil ?_
          refine Wp.seq ?_
          refine wD [0, 2, 1, 3, 4, 5, 6, 8, 7, 9, 10, 11, 12] [4, 3, 0, 0, 0, 0, 319, 255, 0, 0, 0, 0, 0] (fun | 1 => IsBig 11 (n) | 3 => fun v _ => v = .int .i64 (cmpI n (p - e / 2)) | 7 => IsBig 11 (n) | 9 => fun v _ => v = .int .i64 (cmpI n (p - e / 2 + e)) | _ => fun _ _ => True) (fun _ _ => ?_)
          refine sQ 2 ?_
          refine sD (fun wc lc => c_rof ⟨_, _, rfl, hn⟩ wc) ?_
          rintro v w25 u25 i5 lw25 mw25
          refine s_callD rfl rfl rfl (by kernel_rfl) rfl (fun wc lc => c_cmp (i5.kp) (hl.kp) (by decide) (by decide)) ?_
          rintro v w26 u26 rfl lw26 mw26
          refine t_geq rfl rfl rfl rfl rfl (by omega) ?_
          refine sQ 3 ?_
          refine sD (fun wc lc => c_rof ⟨_, _, rfl, hn⟩ wc) ?_
          rintro v w27 u27 i6 lw27 mw27
          refine s_callD rfl rfl rfl (by kernel_rfl) rfl (fun wc lc => c_cmp (i6.kp) (hg.kp) (by decide) (by decide)) ?_
          rintro v w28 u28 rfl lw28 mw28
          refine f_lss rfl rfl rfl rfl rfl (by omega) ?_
          refine sZ 2 ?_
          refine qQ 2 ?_
          refine sT (pfold_any ⟨_, _, rfl, y1⟩ ⟨_, _, rfl, he⟩) ?_
          rintro v w29 ⟨z1u, rfl, z1h, z1l, rfl, z1⟩ lw29
          rw [e3]
          rw [e4] at z1
          refine sQ 3 ?_
          refine sO (fun bk30 w30 kb30 lw30 => ?_)
          refine sS (fun w31 sw31 vw31 => ?_)
          refine sZ 1 ?_
          refine Wp.seq ?_
          refine wD [0, 1, 2, 3, 4, 5, 6, 7, 8, 9, 10, 11, 12, 13, 14, 15, 16, 17, 18, 20, 19, 21, 22, 23, 24, 25, 27, 26, 28, 29, 30, 31] [0, 0, 0, 0, 0, 0, 191, 0, 0, 0, 0, 22527, 20479, 24575, 0, 0, 0, 0, 1310719, 1048575, 0, 0, 0, 0, 0, 167772159, 134217727, 0, 0, 0, 0, 0] (fun | 0 => fun v _ => v = .bool true | 19 => IsBig 11 (y) | 21 => fun v _ => v = .int .i64 (cmpI y (p - e / 2)) | 26 => IsBig 11 (y) | 28 => fun v _ => v = .int .i64 (cmpI y (p - e / 2 + e)) | _ => fun _ _ => True) (fun _ _ => ?_)
          refine sD (fun wc lc => pvanswers_any) ?_
          rintro v w32 u32 rfl lw32 mw32
          refine sQ 2 ?_
          refine t_eql rfl rfl rfl rfl rfl (by omega) ?_
          refine sQ 4 ?_
          refine s_eqv (c := true) rfl rfl rfl rfl rfl (fun _ => by kernel_rfl) (fun w => by rw [run_eql_wide, eqW_same z1 x]) ?_
          refine sQ 4 ?_
          refine s_eqv (c := false) rfl rfl rfl rfl rfl (fun _ => by kernel_rfl) (fun w => by rw [run_eql_wide, eqL_not y1 hn (fun q => by have := hon.1 q; omega)]) ?_
          refine sM ?_
          refine s_eqv (c := true) rfl rfl rfl rfl rfl (fun _ => by kernel_rfl) (fun w => by rw [run_eql_bool, beq_self_eq_true]) ?_
          refine sQ 4 ?_
          refine sD (fun wc lc => c_rof ⟨_, _, rfl, y1⟩ wc) ?_
          rintro v w36 u36 m1 lw36 mw36
          refine s_callD rfl rfl rfl (by kernel_rfl) rfl (fun wc lc => c_cmp (m1.kp) (hl.kp) (by decide) (by decide)) ?_
          rintro v w37 u37 rfl lw37 mw37
          refine t_geq rfl rfl rfl rfl rfl (by omega) ?_
          refine sQ 4 ?_
          refine sD (fun wc lc => c_rof ⟨_, _, rfl, y1⟩ wc) ?_
          rintro v w38 u38 m2 lw38 mw38
          refine s_callD rfl rfl rfl (by kernel_rfl) rfl (fun wc lc => c_cmp (m2.kp) (hg.kp) (by decide) (by decide)) ?_
          rintro v w39 u39 rfl lw39 mw39
          refine t_lss rfl rfl rfl rfl rfl (by omega) ?_
          refine sZ 2 ?_
          refine Wp.ret ⟨.inr rfl, fun lW => ⟨_, res_tmp (P := Try.prog) rfl rfl, _, rfl, ?_, lW⟩⟩
          clear lW
          rfl
    · obtain ⟨g1, g2⟩ := pn_over (p := p) h0 hk hw
      refine calls_Wp (args := [_, _, _]) (n := 105) Try.func5 rfl rfl (by simp) ?_
      refine Wp.seq ?_
      refine wR [0, 1, 2, 3] ?_
      refine sE (fun bk1 w1 kb1 lw1 => ?_)
      refine sE (fun bk2 w2 kb2 lw2 => ?_)
      refine sE (fun bk3 w3 kb3 lw3 => ?_)
      refine sZ 1 ?_
      refine qQ 2 ?_
      refine sT (pfold_any ⟨_, _, rfl, hn⟩ ⟨_, _, rfl, he⟩) ?_
      rintro v w4 ⟨xu, rfl, xh, xl, rfl, x⟩ lw4
      rw [e1]
      rw [e2] at x
      refine sQ 3 ?_
      refine sO (fun bk5 w5 kb5 lw5 => ?_)
      refine sS (fun w6 sw6 vw6 => ?_)
      refine sZ 1 ?_
      refine Wp.seq ?_
      refine qQ 1 ?_
      refine f_neq rfl rfl rfl rfl rfl (by omega) ?_
      refine vOrd_nil ?_
      refine Wp.condF rfl rfl ?_
      refine Wp.skip ?_
      refine qQ 3 ?_
      refine sT (pnear_any ⟨_, _, rfl, x⟩ ⟨_, _, rfl, he⟩ ⟨_, _, rfl, hp⟩) ?_
      rintro v w7 ⟨y1u, rfl, y1h, y1l, rfl, y1⟩ lw7
      rw [g1]
      rw [g2] at y1
      refine sQ 3 ?_
      refine sO (fun bk8 w8 kb8 lw8 => ?_)
      refine sS (fun w9 sw9 vw9 => ?_)
      refine sZ 1 ?_
      refine Wp.seq ?_
      refine qQ 1 ?_
      refine t_neq rfl rfl rfl rfl rfl (by omega) ?_
      refine vOrd_nil ?_
      refine Wp.condT rfl rfl ?_
      refine Wp.seq ?_
      refine wR [0, 1, 2, 3, 4, 5] ?_
      refine sT (pvanswers_any) ?_
      rintro v w10 rfl lw10
      refine sQ 2 ?_
      refine t_eql rfl rfl rfl rfl rfl (by omega) ?_
      refine sZ 2 ?_
      refine Wp.ret ⟨.inr rfl, fun lW => ⟨_, res_tmp (P := Try.prog) rfl rfl, _, rfl, ?_, lW⟩⟩
      clear lW
      rfl
end Go.Proofs.Ytlbgpklnanalgaa
