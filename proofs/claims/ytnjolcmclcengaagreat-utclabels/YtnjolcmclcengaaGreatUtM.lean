/-
  Labels of UTC: the walks of the laws UtcTais and UtcLabels of layer 13.
-/
import Derived.Test.YtnjolcmclcengaaGreatUtL
import Derived.Test.YtnjolcmclcengaaGreatUtR
namespace Go.Proofs.YtnjolcmclcengaaGreat
open Go.RowKit
set_option maxRecDepth 100000

set_option maxHeartbeats 2000000 in
theorem law_tais (t : Tb) (hu : I64 t.u) (he : I64 t.e) {v : Value} {w : World} (hv : EntAt w v t.es) {d s a : Int} (hd : I64 d) (hs : I64 s) (ha : I64 a) : Calls Tryz.prog 3 #[tbV t v, .agg #[.int .i64 d, .int .i64 s, .int .i64 a]] w fun e w' => ∃ r, e = .returned r ∧ r = .bool true ∧ Below w.heap.size w w' := by
  obtain ⟨va, vc, rfl⟩ := hv.formL
  have lz := Later.refl w
  cases hb : canBe t with
  | false =>
    refine calls_Wp (args := [_, _]) (n := 55) Tryz.func3 rfl rfl (by simp) ?_
    refine Wp.seq ?_
    refine Wp.region [0, 1, 2] (by kernel_rfl) (by kernel_rfl) ?_
    refine s_box rfl rfl rfl rfl rfl rfl (fun bs2 ws2 ks2 ls2 => ?_)
    have kz2 := Nat.le_trans lz.size ks2
    try have nL2 := hL.ne ks2
    replace lz := lz.trans ls2
    try replace hL := hL.later ls2
    refine s_box rfl rfl rfl rfl rfl rfl (fun bs3 ws3 ks3 ls3 => ?_)
    have kz3 := Nat.le_trans lz.size ks3
    try have nL3 := hL.ne ks3
    replace lz := lz.trans ls3
    try replace hL := hL.later ls3
    refine s_assign rfl rfl rfl rfl ?_
    refine vOrd_nil ?_
    refine Wp.seq ?_
    refine Wp.var (h := 2) rfl (fun v2 => ?_)
    have q2 := v2.lt
    refine Wp.var (h := 3) rfl (fun v3 => ?_)
    have q3 := v3.lt
    have hz1 := lz.size
    refine Wp.region [0, 1, 2, 3, 4, 5, 6] (by kernel_rfl) (by kernel_rfl) ?_
    refine s_load rfl rfl rfl rfl rfl rfl rfl ?_
    refine s_callT rfl rfl rfl (by kernel_rfl) rfl (new_no t hb hu he (hv.later lz)) ?_
    rintro v w11 rfl lw11
    replace lz := lz.trans lw11
    try replace hL := hL.later lw11
    refine s_move rfl rfl rfl rfl ?_
    refine s_extract rfl rfl rfl rfl rfl ?_
    refine s_extract rfl rfl rfl rfl rfl ?_
    refine s_assign rfl rfl rfl rfl ?_
    refine s_assign rfl rfl rfl rfl ?_
    refine vOrd_nil ?_
    refine Wp.seq ?_
    refine Wp.seq ?_
    refine Wp.region [0, 1] (by kernel_rfl) (by kernel_rfl) ?_
    refine s_move rfl rfl rfl rfl ?_
    refine t_neq rfl rfl rfl rfl rfl (by omega) ?_
    refine vOrd_nil ?_
    refine Wp.condT rfl rfl ?_
    refine Wp.seq ?_
    refine Wp.region [0, 1] (by kernel_rfl) (by kernel_rfl) ?_
    refine s_callT rfl rfl rfl (by kernel_rfl) rfl (utanswers_any) ?_
    rintro v w12 rfl lw12
    replace lz := lz.trans lw12
    try replace hL := hL.later lw12
    refine s_assign rfl rfl rfl rfl ?_
    refine vOrd_nil ?_
    refine Wp.ret ⟨.inr rfl, fun lW => ⟨_, res_tmp (P := Tryz.prog) rfl rfl, _, rfl, ?_, lW⟩⟩
    clear lW
    rfl
  | true =>
    have hpos := (can_num hb).2.2
    have hn := can_len hb
    obtain ⟨K, hcut⟩ := cut_day hb d
    have hA := can_A hb K
    have hwi := why_in t.es K d s a
    obtain ⟨E, hE⟩ : ∃ E, whyE t.es K d s a = E := ⟨_, rfl⟩
    obtain ⟨Z, hZ⟩ : ∃ Z, taiZ t.es K d s a = Z := ⟨_, rfl⟩
    rw [hE] at hwi
    by_cases h0 : E = 0
    · refine calls_Wp (args := [_, _]) (n := 55) Tryz.func3 rfl rfl (by simp) ?_
      refine Wp.seq ?_
      refine Wp.region [0, 1, 2] (by kernel_rfl) (by kernel_rfl) ?_
      refine s_box rfl rfl rfl rfl rfl rfl (fun bs2 ws2 ks2 ls2 => ?_)
      have kz2 := Nat.le_trans lz.size ks2
      try have nL2 := hL.ne ks2
      replace lz := lz.trans ls2
      try replace hL := hL.later ls2
      refine s_box rfl rfl rfl rfl rfl rfl (fun bs3 ws3 ks3 ls3 => ?_)
      have kz3 := Nat.le_trans lz.size ks3
      try have nL3 := hL.ne ks3
      replace lz := lz.trans ls3
      try replace hL := hL.later ls3
      refine s_assign rfl rfl rfl rfl ?_
      refine vOrd_nil ?_
      refine Wp.seq ?_
      refine Wp.var (h := 2) rfl (fun v2 => ?_)
      have q2 := v2.lt
      refine Wp.var (h := 3) rfl (fun v3 => ?_)
      have q3 := v3.lt
      have hz1 := lz.size
      refine Wp.region [0, 1, 2, 3, 4, 5, 6] (by kernel_rfl) (by kernel_rfl) ?_
      refine s_load rfl rfl rfl rfl rfl rfl rfl ?_
      refine s_callT rfl rfl rfl (by kernel_rfl) rfl (new_yes t hb hu he (hv.later lz)) ?_
      rintro v w11 ⟨b1, c1, rfl, hc1, hb1, hL⟩ lw11
      try replace lz := lz.trans lw11
      try replace hL := hL.later lw11
      try replace hvl := hvl.later lw11
      refine s_move rfl rfl rfl rfl ?_
      refine s_extract rfl rfl rfl rfl rfl ?_
      refine s_extract rfl rfl rfl rfl rfl ?_
      refine s_assign rfl rfl rfl rfl ?_
      refine s_assign rfl rfl rfl rfl ?_
      refine vOrd_nil ?_
      refine Wp.seq ?_
      refine Wp.seq ?_
      refine Wp.region [0, 1] (by kernel_rfl) (by kernel_rfl) ?_
      refine s_move rfl rfl rfl rfl ?_
      refine f_neq rfl rfl rfl rfl rfl (by omega) ?_
      refine vOrd_nil ?_
      refine Wp.condF rfl rfl ?_
      refine Wp.skip ?_
      refine Wp.seq ?_
      have hbz : w.heap.size ≤ b1 := by omega
      obtain ⟨cs1, hvb⟩ := hL.var
      refine Wp.adopt 1007 hvb hbz rfl (show AllMem (fun d => d ≠ b1) _ from (by repeat (first | exact AllMem.args | exact AllMem.of (by simp only [AllL, and_true]; omega) | refine AllMem.put ?_ | refine AllMem.new ?_ (by omega) | refine AllMem.set ?_ (by omega)))) ?_
      refine Wp.region [0, 1, 2, 3, 4, 5, 6, 7, 8] (by kernel_rfl) (by kernel_rfl) ?_
      refine s_move rfl rfl rfl rfl ?_
      refine s_load rfl rfl rfl rfl rfl rfl rfl ?_
      refine s_callH 1007 rfl rfl rfl (by kernel_rfl) rfl rfl (fun vr => (utai_any hb hL ⟨by omega, by omega⟩ hd hs ha hcut)) ?_
      rintro v cs12 w12 ⟨⟨nu, rfl, nh, nl, rfl, hn⟩, R12, k12, _, hk12, hLq⟩ gw12 vw12
      replace lz := lz.past gw12 hbz
      clear hL
      have hL := hLq
      clear hLq
      rw [hE]
      rw [hZ] at hn
      refine s_move rfl rfl rfl rfl ?_
      refine s_extract rfl rfl rfl rfl rfl ?_
      refine s_extract rfl rfl rfl rfl rfl ?_
      refine s_alloc rfl rfl rfl rfl rfl (fun bk13 w13 kb13 lw13 => ?_)
      have kz7 := Nat.le_trans lz.size kb13
      try have nL7 := hL.ne kb13
      replace lz := lz.trans lw13
      try replace hL := hL.later lw13
      refine s_store rfl rfl rfl rfl rfl rfl rfl (fun w14 sw14 vw14 => ?_)
      try replace lz := lz.sto sw14 kz7
      try replace hL := hL.sto sw14 nL7
      refine s_assign rfl rfl rfl rfl ?_
      refine vOrd_nil ?_
      refine Wp.seq ?_
      refine Wp.region [0, 1, 2, 3] (by kernel_rfl) (by kernel_rfl) ?_
      refine s_load rfl rfl rfl rfl rfl rfl rfl ?_
      refine s_load rfl rfl rfl rfl rfl rfl rfl ?_
      refine s_callT rfl rfl rfl (by kernel_rfl) rfl (rwhy_any t hb (hv.later lz) hcut) ?_
      rintro v w15 rfl lw15
      try replace lz := lz.trans lw15
      try replace hL := hL.later lw15
      try replace hvl := hvl.later lw15
      rw [hE]
      refine s_assign rfl rfl rfl rfl ?_
      refine vOrd_nil ?_
      refine Wp.seq ?_
      refine Wp.seq ?_
      refine Wp.region [0, 1, 2, 3, 4, 5, 6, 7, 8, 9, 10] (by kernel_rfl) (by kernel_rfl) ?_
      refine s_move rfl rfl rfl rfl ?_
      refine s_move rfl rfl rfl rfl ?_
      refine f_neq rfl rfl rfl rfl rfl (by omega) ?_
      refine s_move rfl rfl rfl rfl ?_
      refine s_move rfl rfl rfl rfl ?_
      refine s_load rfl rfl rfl rfl rfl rfl rfl ?_
      refine s_callH 1007 rfl rfl rfl (by kernel_rfl) rfl rfl (fun vr => (uexists_any hb hL ⟨by omega, by omega⟩ hd hs ha hcut)) ?_
      rintro v cs16 w16 ⟨rfl, R16, k16, _, hk16, hLq⟩ gw16 vw16
      replace lz := lz.past gw16 hbz
      clear hL
      have hL := hLq
      clear hLq
      rw [hE]
      refine s_move rfl rfl rfl rfl ?_
      refine t_eql rfl rfl rfl rfl rfl (by omega) ?_
      rw [decide_eq_true h0]
      refine s_eqv (c := false) rfl rfl rfl rfl rfl (fun _ => by kernel_rfl) (fun w => by rw [run_neq_bool]; rfl) ?_
      refine s_pick rfl rfl rfl rfl rfl ?_
      refine vOrd_nil ?_
      refine Wp.condF rfl rfl ?_
      refine Wp.skip ?_
      refine Wp.seq ?_
      refine Wp.seq ?_
      refine Wp.region [0, 1] (by kernel_rfl) (by kernel_rfl) ?_
      refine s_move rfl rfl rfl rfl ?_
      refine f_neq rfl rfl rfl rfl rfl (by omega) ?_
      refine vOrd_nil ?_
      refine Wp.condF rfl rfl ?_
      refine Wp.skip ?_
      refine Wp.seq ?_
      have hvl := hv.later lz
      clear lz
      have hU := isU_iff.1 (why_zero (hE.trans h0)).1
      have hs2 : 0 ≤ s ∧ s ≤ 86400 := ⟨hU.1, hU.2.1⟩
      have hZ2 : Z = cnt d (s + offA t.es K) a := hZ.symm.trans (tai_ok (hE.trans h0))
      refine (Wp.drawn (by kernel_rfl) (by kernel_rfl) [0, 1, 2, 4, 5, 3, 6, 7, 8, 9] [0, 0, 51, 47, 31, 0, 0, 0, 0, 0] (by kernel_rfl) (by kernel_rfl) (fun | 0 => fun v _ => v = .bool true | 3 => IsBig 11 Z | 6 => IsBig 17 (cnt d (s + offA t.es K) a) | 7 => fun v _ => v = .bool true | _ => fun _ _ => True) (fun wd ld => ?_))
      try replace lz := lz.trans ld
      try replace hL := hL.later ld
      try replace hvl := hvl.later ld
      refine s_callD rfl rfl rfl (by kernel_rfl) rfl (fun wc lc => utanswers_any) ?_
      rintro v w19 u19 rfl lw19 mw19
      try replace lz := lz.trans lw19
      try replace hL := hL.later lw19
      try replace hvl := hvl.later lw19
      try replace lz := lz.trans mw19
      try replace hL := hL.later mw19
      try replace hvl := hvl.later mw19
      refine s_move rfl rfl rfl rfl ?_
      refine s_load rfl rfl rfl rfl rfl rfl rfl ?_
      refine s_load rfl rfl rfl rfl rfl rfl rfl ?_
      refine s_load rfl rfl rfl rfl rfl rfl rfl ?_
      refine s_callD rfl rfl rfl (by kernel_rfl) rfl (fun wc lc => c_rof ⟨_, _, rfl, hn⟩ wc) ?_
      rintro v w20 u20 hr lw20 mw20
      try replace lz := lz.trans lw20
      try replace hL := hL.later lw20
      try replace hvl := hvl.later lw20
      try replace lz := lz.trans mw20
      try replace hL := hL.later mw20
      try replace hvl := hvl.later mw20
      obtain ⟨ra, rl, rc, rfl, -⟩ := id hr
      refine s_callD rfl rfl rfl (by kernel_rfl) rfl (fun wc lc => rtai_any t hb (hvl.later lc) hd hs2 ha hcut) ?_
      rintro v w21 u21 hq lw21 mw21
      try replace lz := lz.trans lw21
      try replace hL := hL.later lw21
      try replace hvl := hvl.later lw21
      try replace lz := lz.trans mw21
      try replace hL := hL.later mw21
      try replace hvl := hvl.later mw21
      obtain ⟨qa, ql, qc, rfl, -⟩ := id hq
      refine s_callD rfl rfl rfl (by kernel_rfl) rfl (fun wc lc => c_same_yes (hr.keeps (by repeat (first | exact Keeps.refl _ | refine Keeps.trans ?_ (Keeps.later (by assumption)) | refine Keeps.trans ?_ (Keeps.stored (by assumption) (by assumption) rfl) | refine Keeps.trans ?_ (Keeps.fresh (by assumption) (by assumption) (by assumption))))) ((hq.eq hZ2.symm).keeps (by repeat (first | exact Keeps.refl _ | refine Keeps.trans ?_ (Keeps.later (by assumption)) | refine Keeps.trans ?_ (Keeps.stored (by assumption) (by assumption) rfl) | refine Keeps.trans ?_ (Keeps.fresh (by assumption) (by assumption) (by assumption))))) (by decide) (by decide)) ?_
      rintro v w22 u22 rfl lw22 mw22
      try replace lz := lz.trans lw22
      try replace hL := hL.later lw22
      try replace hvl := hvl.later lw22
      try replace lz := lz.trans mw22
      try replace hL := hL.later mw22
      try replace hvl := hvl.later mw22
      refine s_pick rfl rfl rfl rfl rfl ?_
      refine s_assign rfl rfl rfl rfl ?_
      refine vOrd_nil ?_
      refine Wp.ret ⟨.inr rfl, fun lW => ⟨_, res_tmp (P := Tryz.prog) rfl rfl, _, rfl, ?_, lW⟩⟩
      clear lW
      rfl
    · refine calls_Wp (args := [_, _]) (n := 55) Tryz.func3 rfl rfl (by simp) ?_
      refine Wp.seq ?_
      refine Wp.region [0, 1, 2] (by kernel_rfl) (by kernel_rfl) ?_
      refine s_box rfl rfl rfl rfl rfl rfl (fun bs2 ws2 ks2 ls2 => ?_)
      have kz2 := Nat.le_trans lz.size ks2
      try have nL2 := hL.ne ks2
      replace lz := lz.trans ls2
      try replace hL := hL.later ls2
      refine s_box rfl rfl rfl rfl rfl rfl (fun bs3 ws3 ks3 ls3 => ?_)
      have kz3 := Nat.le_trans lz.size ks3
      try have nL3 := hL.ne ks3
      replace lz := lz.trans ls3
      try replace hL := hL.later ls3
      refine s_assign rfl rfl rfl rfl ?_
      refine vOrd_nil ?_
      refine Wp.seq ?_
      refine Wp.var (h := 2) rfl (fun v2 => ?_)
      have q2 := v2.lt
      refine Wp.var (h := 3) rfl (fun v3 => ?_)
      have q3 := v3.lt
      have hz1 := lz.size
      refine Wp.region [0, 1, 2, 3, 4, 5, 6] (by kernel_rfl) (by kernel_rfl) ?_
      refine s_load rfl rfl rfl rfl rfl rfl rfl ?_
      refine s_callT rfl rfl rfl (by kernel_rfl) rfl (new_yes t hb hu he (hv.later lz)) ?_
      rintro v w11 ⟨b1, c1, rfl, hc1, hb1, hL⟩ lw11
      try replace lz := lz.trans lw11
      try replace hL := hL.later lw11
      try replace hvl := hvl.later lw11
      refine s_move rfl rfl rfl rfl ?_
      refine s_extract rfl rfl rfl rfl rfl ?_
      refine s_extract rfl rfl rfl rfl rfl ?_
      refine s_assign rfl rfl rfl rfl ?_
      refine s_assign rfl rfl rfl rfl ?_
      refine vOrd_nil ?_
      refine Wp.seq ?_
      refine Wp.seq ?_
      refine Wp.region [0, 1] (by kernel_rfl) (by kernel_rfl) ?_
      refine s_move rfl rfl rfl rfl ?_
      refine f_neq rfl rfl rfl rfl rfl (by omega) ?_
      refine vOrd_nil ?_
      refine Wp.condF rfl rfl ?_
      refine Wp.skip ?_
      refine Wp.seq ?_
      have hbz : w.heap.size ≤ b1 := by omega
      obtain ⟨cs1, hvb⟩ := hL.var
      refine Wp.adopt 1007 hvb hbz rfl (show AllMem (fun d => d ≠ b1) _ from (by repeat (first | exact AllMem.args | exact AllMem.of (by simp only [AllL, and_true]; omega) | refine AllMem.put ?_ | refine AllMem.new ?_ (by omega) | refine AllMem.set ?_ (by omega)))) ?_
      refine Wp.region [0, 1, 2, 3, 4, 5, 6, 7, 8] (by kernel_rfl) (by kernel_rfl) ?_
      refine s_move rfl rfl rfl rfl ?_
      refine s_load rfl rfl rfl rfl rfl rfl rfl ?_
      refine s_callH 1007 rfl rfl rfl (by kernel_rfl) rfl rfl (fun vr => (utai_any hb hL ⟨by omega, by omega⟩ hd hs ha hcut)) ?_
      rintro v cs12 w12 ⟨⟨nu, rfl, nh, nl, rfl, hn⟩, R12, k12, _, hk12, hLq⟩ gw12 vw12
      replace lz := lz.past gw12 hbz
      clear hL
      have hL := hLq
      clear hLq
      rw [hE]
      rw [hZ] at hn
      refine s_move rfl rfl rfl rfl ?_
      refine s_extract rfl rfl rfl rfl rfl ?_
      refine s_extract rfl rfl rfl rfl rfl ?_
      refine s_alloc rfl rfl rfl rfl rfl (fun bk13 w13 kb13 lw13 => ?_)
      have kz7 := Nat.le_trans lz.size kb13
      try have nL7 := hL.ne kb13
      replace lz := lz.trans lw13
      try replace hL := hL.later lw13
      refine s_store rfl rfl rfl rfl rfl rfl rfl (fun w14 sw14 vw14 => ?_)
      try replace lz := lz.sto sw14 kz7
      try replace hL := hL.sto sw14 nL7
      refine s_assign rfl rfl rfl rfl ?_
      refine vOrd_nil ?_
      refine Wp.seq ?_
      refine Wp.region [0, 1, 2, 3] (by kernel_rfl) (by kernel_rfl) ?_
      refine s_load rfl rfl rfl rfl rfl rfl rfl ?_
      refine s_load rfl rfl rfl rfl rfl rfl rfl ?_
      refine s_callT rfl rfl rfl (by kernel_rfl) rfl (rwhy_any t hb (hv.later lz) hcut) ?_
      rintro v w15 rfl lw15
      try replace lz := lz.trans lw15
      try replace hL := hL.later lw15
      try replace hvl := hvl.later lw15
      rw [hE]
      refine s_assign rfl rfl rfl rfl ?_
      refine vOrd_nil ?_
      refine Wp.seq ?_
      refine Wp.seq ?_
      refine Wp.region [0, 1, 2, 3, 4, 5, 6, 7, 8, 9, 10] (by kernel_rfl) (by kernel_rfl) ?_
      refine s_move rfl rfl rfl rfl ?_
      refine s_move rfl rfl rfl rfl ?_
      refine f_neq rfl rfl rfl rfl rfl (by omega) ?_
      refine s_move rfl rfl rfl rfl ?_
      refine s_move rfl rfl rfl rfl ?_
      refine s_load rfl rfl rfl rfl rfl rfl rfl ?_
      refine s_callH 1007 rfl rfl rfl (by kernel_rfl) rfl rfl (fun vr => (uexists_any hb hL ⟨by omega, by omega⟩ hd hs ha hcut)) ?_
      rintro v cs16 w16 ⟨rfl, R16, k16, _, hk16, hLq⟩ gw16 vw16
      replace lz := lz.past gw16 hbz
      clear hL
      have hL := hLq
      clear hLq
      rw [hE]
      refine s_move rfl rfl rfl rfl ?_
      refine f_eql rfl rfl rfl rfl rfl (by omega) ?_
      rw [decide_eq_false h0]
      refine s_eqv (c := false) rfl rfl rfl rfl rfl (fun _ => by kernel_rfl) (fun w => by rw [run_neq_bool]; rfl) ?_
      refine s_pick rfl rfl rfl rfl rfl ?_
      refine vOrd_nil ?_
      refine Wp.condF rfl rfl ?_
      refine Wp.skip ?_
      refine Wp.seq ?_
      refine Wp.seq ?_
      refine Wp.region [0, 1] (by kernel_rfl) (by kernel_rfl) ?_
      refine s_move rfl rfl rfl rfl ?_
      refine t_neq rfl rfl rfl rfl rfl (by omega) ?_
      refine vOrd_nil ?_
      refine Wp.condT rfl rfl ?_
      refine Wp.seq ?_
      obtain rfl : Z = 0 := by rw [← hZ]; exact tai_no (by rw [hE]; exact h0)
      refine Wp.region [0, 1, 2, 3, 4, 5, 6] (by kernel_rfl) (by kernel_rfl) ?_
      refine s_callT rfl rfl rfl (by kernel_rfl) rfl (utanswers_any) ?_
      rintro v w19 rfl lw19
      try replace lz := lz.trans lw19
      try replace hL := hL.later lw19
      try replace hvl := hvl.later lw19
      refine s_move rfl rfl rfl rfl ?_
      refine s_load rfl rfl rfl rfl rfl rfl rfl ?_
      refine s_build rfl rfl rfl rfl rfl (by kernel_rfl) ?_
      refine s_eqv (c := true) rfl rfl rfl rfl rfl (fun _ => by kernel_rfl) (fun w => by rw [run_eql_wide, eqW_same hn (show WideIs 0 0 0 by unfold WideIs; omega)]) ?_
      refine s_pick rfl rfl rfl rfl rfl ?_
      refine s_assign rfl rfl rfl rfl ?_
      refine vOrd_nil ?_
      refine Wp.ret ⟨.inr rfl, fun lW => ⟨_, res_tmp (P := Tryz.prog) rfl rfl, _, rfl, ?_, lW⟩⟩
      clear lW
      rfl

set_option maxHeartbeats 2000000 in
theorem law_labels (t : Tb) (hu : I64 t.u) (he : I64 t.e) {v : Value} {w : World} (hv : EntAt w v t.es) {nh nl z : Int} (hz : WideIs nh nl z) : Calls Tryz.prog 4 #[tbV t v, .agg #[.int .i64 nh, .int .u64 nl]] w fun e w' => ∃ r, e = .returned r ∧ r = .bool true ∧ Below w.heap.size w w' := by
  obtain ⟨va, vc, rfl⟩ := hv.formL
  have lz := Later.refl w
  cases hb : canBe t with
  | false =>
    refine calls_Wp (args := [_, _]) (n := 43) Tryz.func4 rfl rfl (by simp) ?_
    refine Wp.seq ?_
    refine Wp.region [0, 1, 2] (by kernel_rfl) (by kernel_rfl) ?_
    refine s_box rfl rfl rfl rfl rfl rfl (fun bs2 ws2 ks2 ls2 => ?_)
    have kz2 := Nat.le_trans lz.size ks2
    try have nL2 := hL.ne ks2
    replace lz := lz.trans ls2
    try replace hL := hL.later ls2
    refine s_box rfl rfl rfl rfl rfl rfl (fun bs3 ws3 ks3 ls3 => ?_)
    have kz3 := Nat.le_trans lz.size ks3
    try have nL3 := hL.ne ks3
    replace lz := lz.trans ls3
    try replace hL := hL.later ls3
    refine s_assign rfl rfl rfl rfl ?_
    refine vOrd_nil ?_
    refine Wp.seq ?_
    refine Wp.var (h := 2) rfl (fun v2 => ?_)
    have q2 := v2.lt
    refine Wp.var (h := 3) rfl (fun v3 => ?_)
    have q3 := v3.lt
    have hz1 := lz.size
    refine Wp.region [0, 1, 2, 3, 4, 5, 6] (by kernel_rfl) (by kernel_rfl) ?_
    refine s_load rfl rfl rfl rfl rfl rfl rfl ?_
    refine s_callT rfl rfl rfl (by kernel_rfl) rfl (new_no t hb hu he (hv.later lz)) ?_
    rintro v w11 rfl lw11
    replace lz := lz.trans lw11
    try replace hL := hL.later lw11
    refine s_move rfl rfl rfl rfl ?_
    refine s_extract rfl rfl rfl rfl rfl ?_
    refine s_extract rfl rfl rfl rfl rfl ?_
    refine s_assign rfl rfl rfl rfl ?_
    refine s_assign rfl rfl rfl rfl ?_
    refine vOrd_nil ?_
    refine Wp.seq ?_
    refine Wp.seq ?_
    refine Wp.region [0, 1] (by kernel_rfl) (by kernel_rfl) ?_
    refine s_move rfl rfl rfl rfl ?_
    refine t_neq rfl rfl rfl rfl rfl (by omega) ?_
    refine vOrd_nil ?_
    refine Wp.condT rfl rfl ?_
    refine Wp.seq ?_
    refine Wp.region [0, 1] (by kernel_rfl) (by kernel_rfl) ?_
    refine s_callT rfl rfl rfl (by kernel_rfl) rfl (utanswers_any) ?_
    rintro v w12 rfl lw12
    replace lz := lz.trans lw12
    try replace hL := hL.later lw12
    refine s_assign rfl rfl rfl rfl ?_
    refine vOrd_nil ?_
    refine Wp.ret ⟨.inr rfl, fun lW => ⟨_, res_tmp (P := Tryz.prog) rfl rfl, _, rfl, ?_, lW⟩⟩
    clear lW
    rfl
  | true =>
    have hpos := (can_num hb).2.2
    have hn := can_len hb
    obtain ⟨K, hcut⟩ := cut_at hb (z / 1000000000000000000)
    have hzr : -170141183460469231731687303715884105728 ≤ z ∧ z < 170141183460469231731687303715884105728 := hz.range
    obtain ⟨lu, hlu⟩ : ∃ lu, lbU t.es K z = lu := ⟨_, rfl⟩
    obtain ⟨x, y, q, hxyz⟩ : ∃ x y q, lu = .agg #[.int .i64 x, .int .i64 y, .int .i64 q] := ⟨_, _, _, hlu.symm⟩
    subst hxyz
    refine calls_Wp (args := [_, _]) (n := 43) Tryz.func4 rfl rfl (by simp) ?_
    refine Wp.seq ?_
    refine Wp.region [0, 1, 2] (by kernel_rfl) (by kernel_rfl) ?_
    refine s_box rfl rfl rfl rfl rfl rfl (fun bs2 ws2 ks2 ls2 => ?_)
    have kz2 := Nat.le_trans lz.size ks2
    try have nL2 := hL.ne ks2
    replace lz := lz.trans ls2
    try replace hL := hL.later ls2
    refine s_box rfl rfl rfl rfl rfl rfl (fun bs3 ws3 ks3 ls3 => ?_)
    have kz3 := Nat.le_trans lz.size ks3
    try have nL3 := hL.ne ks3
    replace lz := lz.trans ls3
    try replace hL := hL.later ls3
    refine s_assign rfl rfl rfl rfl ?_
    refine vOrd_nil ?_
    refine Wp.seq ?_
    refine Wp.var (h := 2) rfl (fun v2 => ?_)
    have q2 := v2.lt
    refine Wp.var (h := 3) rfl (fun v3 => ?_)
    have q3 := v3.lt
    have hz1 := lz.size
    refine Wp.region [0, 1, 2, 3, 4, 5, 6] (by kernel_rfl) (by kernel_rfl) ?_
    refine s_load rfl rfl rfl rfl rfl rfl rfl ?_
    refine s_callT rfl rfl rfl (by kernel_rfl) rfl (new_yes t hb hu he (hv.later lz)) ?_
    rintro v w11 ⟨b1, c1, rfl, hc1, hb1, hL⟩ lw11
    try replace lz := lz.trans lw11
    try replace hL := hL.later lw11
    try replace hvl := hvl.later lw11
    refine s_move rfl rfl rfl rfl ?_
    refine s_extract rfl rfl rfl rfl rfl ?_
    refine s_extract rfl rfl rfl rfl rfl ?_
    refine s_assign rfl rfl rfl rfl ?_
    refine s_assign rfl rfl rfl rfl ?_
    refine vOrd_nil ?_
    refine Wp.seq ?_
    refine Wp.seq ?_
    refine Wp.region [0, 1] (by kernel_rfl) (by kernel_rfl) ?_
    refine s_move rfl rfl rfl rfl ?_
    refine f_neq rfl rfl rfl rfl rfl (by omega) ?_
    refine vOrd_nil ?_
    refine Wp.condF rfl rfl ?_
    refine Wp.skip ?_
    refine Wp.seq ?_
    have hbz : w.heap.size ≤ b1 := by omega
    obtain ⟨cs1, hvb⟩ := hL.var
    refine Wp.adopt 1007 hvb hbz rfl (show AllMem (fun d => d ≠ b1) _ from (by repeat (first | exact AllMem.args | exact AllMem.of (by simp only [AllL, and_true]; omega) | refine AllMem.put ?_ | refine AllMem.new ?_ (by omega) | refine AllMem.set ?_ (by omega)))) ?_
    refine Wp.region [0, 1, 2, 3, 4, 5, 6, 7, 8] (by kernel_rfl) (by kernel_rfl) ?_
    refine s_move rfl rfl rfl rfl ?_
    refine s_load rfl rfl rfl rfl rfl rfl rfl ?_
    refine s_callH 1007 rfl rfl rfl (by kernel_rfl) rfl rfl (fun vr => (ulabel_any hb hL ⟨by omega, by omega⟩ ⟨_, _, rfl, hz⟩ hcut)) ?_
    rintro v cs12 w12 ⟨rfl, R12, k12, _, hk12, hLq⟩ gw12 vw12
    replace lz := lz.past gw12 hbz
    clear hL
    have hL := hLq
    clear hLq
    rw [hlu]
    refine s_move rfl rfl rfl rfl ?_
    refine s_extract rfl rfl rfl rfl rfl ?_
    refine s_extract rfl rfl rfl rfl rfl ?_
    refine s_alloc rfl rfl rfl rfl rfl (fun bk13 w13 kb13 lw13 => ?_)
    have kz7 := Nat.le_trans lz.size kb13
    try have nL7 := hL.ne kb13
    replace lz := lz.trans lw13
    try replace hL := hL.later lw13
    refine s_store rfl rfl rfl rfl rfl rfl rfl (fun w14 sw14 vw14 => ?_)
    try replace lz := lz.sto sw14 kz7
    try replace hL := hL.sto sw14 nL7
    refine s_assign rfl rfl rfl rfl ?_
    refine vOrd_nil ?_
    refine Wp.seq ?_
    refine (Wp.drawn (by kernel_rfl) (by kernel_rfl) [0, 1, 7, 2, 3, 4, 5, 6, 8, 9] [134, 129, 127, 0, 0, 0, 223, 447, 0, 0] (by kernel_rfl) (by kernel_rfl) (fun | 2 => IsBig 11 z | 3 => fun v _ => v = .tuple #[lbU t.es K z, .int .i64 (lbE t.es K z)] | _ => fun _ _ => True) (fun wd ld => ?_))
    try replace lz := lz.trans ld
    try replace hL := hL.later ld
    try replace hvl := hvl.later ld
    refine s_load rfl rfl rfl rfl rfl rfl rfl ?_
    refine s_load rfl rfl rfl rfl rfl rfl rfl ?_
    refine s_alloc rfl rfl rfl rfl rfl (fun bk15 w15 kb15 lw15 => ?_)
    have kz9 := Nat.le_trans lz.size kb15
    try have nL9 := hL.ne kb15
    replace lz := lz.trans lw15
    try replace hL := hL.later lw15
    refine s_callD rfl rfl rfl (by kernel_rfl) rfl (fun wc lc => c_rof ⟨_, _, rfl, hz⟩ wc) ?_
    rintro v w16 u16 hr lw16 mw16
    try replace lz := lz.trans lw16
    try replace hL := hL.later lw16
    try replace hvl := hvl.later lw16
    try replace lz := lz.trans mw16
    try replace hL := hL.later mw16
    try replace hvl := hvl.later mw16
    have hvl := hv.later lz
    clear lz
    obtain ⟨ra, rl, rc, rfl, -⟩ := id hr
    refine s_callD rfl rfl rfl (by kernel_rfl) rfl (fun wc lc => rlabel_any t hb (hvl.later lc) (hr.keeps (by repeat (first | exact Keeps.refl _ | refine Keeps.trans ?_ (Keeps.later (by assumption)) | refine Keeps.trans ?_ (Keeps.stored (by assumption) (by assumption) rfl) | refine Keeps.trans ?_ (Keeps.fresh (by assumption) (by assumption) (by assumption))))) (by decide) hcut hzr) ?_
    rintro v w17 u17 rfl lw17 mw17
    try replace lz := lz.trans lw17
    try replace hL := hL.later lw17
    try replace hvl := hvl.later lw17
    try replace lz := lz.trans mw17
    try replace hL := hL.later mw17
    try replace hvl := hvl.later mw17
    rw [hlu]
    refine s_move rfl rfl rfl rfl ?_
    refine s_extract rfl rfl rfl rfl rfl ?_
    refine s_extract rfl rfl rfl rfl rfl ?_
    refine s_store rfl rfl rfl rfl rfl rfl rfl (fun w18 sw18 vw18 => ?_)
    try replace lz := lz.sto sw18 kz9
    try replace hL := hL.sto sw18 nL9
    refine s_assign rfl rfl rfl rfl ?_
    refine vOrd_nil ?_
    refine Wp.seq ?_
    refine Wp.region [0, 1, 2, 3, 4, 5, 6, 7, 8, 9, 10, 11] (by kernel_rfl) (by kernel_rfl) ?_
    refine s_callT rfl rfl rfl (by kernel_rfl) rfl (utanswers_any) ?_
    rintro v w19 rfl lw19
    try replace lz := lz.trans lw19
    try replace hL := hL.later lw19
    try replace hvl := hvl.later lw19
    refine s_move rfl rfl rfl rfl ?_
    refine s_load rfl rfl rfl rfl rfl rfl rfl ?_
    refine s_load rfl rfl rfl rfl rfl rfl rfl ?_
    refine s_eqv (c := true) rfl rfl rfl rfl rfl (fun _ => by kernel_rfl) (fun w => by rw [run_eql_label, eqD_same]) ?_
    refine s_pick rfl rfl rfl rfl rfl ?_
    refine s_move rfl rfl rfl rfl ?_
    refine s_move rfl rfl rfl rfl ?_
    refine s_move rfl rfl rfl rfl ?_
    refine t_eql rfl rfl rfl rfl rfl (by rfl) ?_
    refine s_pick rfl rfl rfl rfl rfl ?_
    refine s_assign rfl rfl rfl rfl ?_
    refine vOrd_nil ?_
    refine Wp.ret ⟨.inr rfl, fun lW => ⟨_, res_tmp (P := Tryz.prog) rfl rfl, _, rfl, ?_, lW⟩⟩
    clear lW
    rfl

end Go.Proofs.YtnjolcmclcengaaGreat
