/-
  Leap seconds: the walks of the laws LeapsDays, LeapsAt and LeapsSums of layer 12.
-/
import Derived.Test.YtgpnapeobkiekaaLpL
namespace Go.Proofs.Ytgpnapeobkiekaa
open Go.RowKit
set_option maxRecDepth 100000

set_option maxHeartbeats 2000000 in
theorem law_days (t : Tb) (hu : I64 t.u) (he : I64 t.e) {v : Value} {w : World} (hv : EntAt w v t.es) (day : Int) : Calls Try.prog 4 #[tbV t v, .int .i64 day] w fun e w' => ∃ r, e = .returned r ∧ r = .bool true ∧ Below w.heap.size w w' := by
  obtain ⟨va, vc, rfl⟩ := hv.formL
  have lz := Later.refl w
  cases hb : canBe t with
  | false =>
    refine calls_Wp (args := [_, _]) (n := 87) Try.func4 rfl rfl (by simp) ?_
    refine Wp.seq ?_
    refine Wp.region [0, 1] (by kernel_rfl) (by kernel_rfl) ?_
    refine s_box rfl rfl rfl rfl rfl rfl (fun bs2 ws2 ks2 ls2 => ?_)
    have kz2 := Nat.le_trans lz.size ks2
    try have nL2 := hL.ne ks2
    replace lz := lz.trans ls2
    try replace hL := hL.later ls2
    refine s_assign rfl rfl rfl rfl ?_
    refine vOrd_nil ?_
    refine Wp.seq ?_
    refine Wp.var (h := 2) rfl (fun v2 => ?_)
    have q2 := v2.lt
    have hz1 := lz.size
    refine Wp.region [0, 1, 2, 3, 4, 5, 6] (by kernel_rfl) (by kernel_rfl) ?_
    refine s_load rfl rfl rfl rfl rfl rfl rfl ?_
    refine s_callT rfl rfl rfl (by kernel_rfl) rfl (new_no t hb hu he (hv.later lz)) ?_
    rintro v w6 rfl lw6
    replace lz := lz.trans lw6
    try replace hL := hL.later lw6
    refine s_move rfl rfl rfl rfl ?_
    refine s_extract rfl rfl rfl rfl rfl ?_
    refine s_extract rfl rfl rfl rfl rfl ?_
    refine s_assign rfl rfl rfl rfl ?_
    refine s_assign rfl rfl rfl rfl ?_
    refine vOrd_nil ?_
    refine Wp.seq ?_
    refine Wp.seq ?_
    refine Wp.region [0, 1] (by kernel_rfl) (by kernel_rfl) ?_
    refine s_move rfl rfl rfl rfl ?_
    refine t_neq rfl rfl rfl rfl rfl (by omega) ?_
    refine vOrd_nil ?_
    refine Wp.condT rfl rfl ?_
    refine Wp.seq ?_
    refine Wp.region [0, 1] (by kernel_rfl) (by kernel_rfl) ?_
    refine s_callT rfl rfl rfl (by kernel_rfl) rfl (lpanswers_any) ?_
    rintro v w7 rfl lw7
    replace lz := lz.trans lw7
    try replace hL := hL.later lw7
    refine s_assign rfl rfl rfl rfl ?_
    refine vOrd_nil ?_
    refine Wp.ret ⟨.inr rfl, fun lW => ⟨_, res_tmp (P := Try.prog) rfl rfl, _, rfl, ?_, lW⟩⟩
    clear lW
    rfl
  | true =>
    have hpos := (can_num hb).2.2
    have hn := can_len hb
    obtain ⟨K, hcut⟩ := cut_day hb day
    have hA := can_A hb K
    have hmi := more_in hb K day
    rcases Nat.eq_zero_or_pos K with hK | hK
    ·
      refine calls_Wp (args := [_, _]) (n := 87) Try.func4 rfl rfl (by simp) ?_
      refine Wp.seq ?_
      refine Wp.region [0, 1] (by kernel_rfl) (by kernel_rfl) ?_
      refine s_box rfl rfl rfl rfl rfl rfl (fun bs2 ws2 ks2 ls2 => ?_)
      have kz2 := Nat.le_trans lz.size ks2
      try have nL2 := hL.ne ks2
      replace lz := lz.trans ls2
      try replace hL := hL.later ls2
      refine s_assign rfl rfl rfl rfl ?_
      refine vOrd_nil ?_
      refine Wp.seq ?_
      refine Wp.var (h := 2) rfl (fun v2 => ?_)
      have q2 := v2.lt
      have hz1 := lz.size
      refine Wp.region [0, 1, 2, 3, 4, 5, 6] (by kernel_rfl) (by kernel_rfl) ?_
      refine s_load rfl rfl rfl rfl rfl rfl rfl ?_
      refine s_callT rfl rfl rfl (by kernel_rfl) rfl (new_yes t hb hu he (hv.later lz)) ?_
      rintro v w6 ⟨b1, c1, rfl, hc1, hb1, hL⟩ lw6
      replace lz := lz.trans lw6
      try replace hL := hL.later lw6
      refine s_move rfl rfl rfl rfl ?_
      refine s_extract rfl rfl rfl rfl rfl ?_
      refine s_extract rfl rfl rfl rfl rfl ?_
      refine s_assign rfl rfl rfl rfl ?_
      refine s_assign rfl rfl rfl rfl ?_
      refine vOrd_nil ?_
      refine Wp.seq ?_
      refine Wp.seq ?_
      refine Wp.region [0, 1] (by kernel_rfl) (by kernel_rfl) ?_
      refine s_move rfl rfl rfl rfl ?_
      refine f_neq rfl rfl rfl rfl rfl (by omega) ?_
      refine vOrd_nil ?_
      refine Wp.condF rfl rfl ?_
      refine Wp.skip ?_
      refine Wp.seq ?_
      have hbz : w.heap.size ≤ b1 := by omega
      obtain ⟨cs1, hvb⟩ := hL.var
      refine Wp.adopt 1007 hvb hbz rfl (show AllMem (fun d => d ≠ b1) _ from (by repeat (first | exact AllMem.args | exact AllMem.of (by simp only [AllL, and_true]; omega) | refine AllMem.put ?_ | refine AllMem.new ?_ (by omega) | refine AllMem.set ?_ (by omega)))) ?_
      refine Wp.region [0, 1, 2, 3, 4, 5, 6, 7] (by kernel_rfl) (by kernel_rfl) ?_
      refine s_move rfl rfl rfl rfl ?_
      refine s_move rfl rfl rfl rfl ?_
      refine s_callH 1007 rfl rfl rfl (by kernel_rfl) rfl rfl (fun vr => (offset_any hb hL ⟨by omega, by omega⟩ hcut)) ?_
      rintro v cs7 w7 ⟨rfl, R7, _, hLq⟩ gw7 vw7
      replace lz := lz.past gw7 hbz
      clear hL
      have hL := hLq
      clear hLq
      refine s_move rfl rfl rfl rfl ?_
      refine s_extract rfl rfl rfl rfl rfl ?_
      refine s_extract rfl rfl rfl rfl rfl ?_
      refine s_assign rfl rfl rfl rfl ?_
      refine s_assign rfl rfl rfl rfl ?_
      refine vOrd_nil ?_
      refine Wp.seq ?_
      refine Wp.region [0, 1, 2, 3, 4, 5, 6, 7] (by kernel_rfl) (by kernel_rfl) ?_
      refine s_move rfl rfl rfl rfl ?_
      refine s_move rfl rfl rfl rfl ?_
      refine s_callH 1007 rfl rfl rfl (by kernel_rfl) rfl rfl (fun vr => (length_none hb hL ⟨by omega, by omega⟩ hcut hK)) ?_
      rintro v cs8 w8 ⟨rfl, R8, _, hLq⟩ gw8 vw8
      replace lz := lz.past gw8 hbz
      clear hL
      have hL := hLq
      clear hLq
      refine s_move rfl rfl rfl rfl ?_
      refine s_extract rfl rfl rfl rfl rfl ?_
      refine s_extract rfl rfl rfl rfl rfl ?_
      refine s_assign rfl rfl rfl rfl ?_
      refine s_assign rfl rfl rfl rfl ?_
      refine vOrd_nil ?_
      refine Wp.seq ?_
      refine Wp.region [0, 1, 2, 3, 4, 5, 6, 7] (by kernel_rfl) (by kernel_rfl) ?_
      refine s_load rfl rfl rfl rfl rfl rfl rfl ?_
      refine s_move rfl rfl rfl rfl ?_
      refine s_callT rfl rfl rfl (by kernel_rfl) rfl (roffset_any t hb (hv.later lz) hcut) ?_
      rintro v w9 rfl lw9
      replace lz := lz.trans lw9
      try replace hL := hL.later lw9
      rw [show decide (0 < K) = false from decide_eq_false (by omega)]
      refine s_move rfl rfl rfl rfl ?_
      refine s_extract rfl rfl rfl rfl rfl ?_
      refine s_extract rfl rfl rfl rfl rfl ?_
      refine s_assign rfl rfl rfl rfl ?_
      refine s_assign rfl rfl rfl rfl ?_
      refine vOrd_nil ?_
      refine Wp.seq ?_
      refine Wp.seq ?_
      refine Wp.drawnX (by kernel_rfl) (by kernel_rfl) (by kernel_rfl) [0, 1, 4] 4 #[true, true, false, false, true, false, false] rfl (by kernel_rfl) (by kernel_rfl) (fun wd ld => ?_)
      replace lz := lz.trans ld
      try replace hL := hL.later ld
      refine s_move rfl rfl rfl rfl ?_
      refine s_move rfl rfl rfl rfl ?_
      refine s_move rfl rfl rfl rfl ?_
      refine vOrd_nil ?_
      refine vTree_two (i := 2) (k := 3) (L1 := #[true, true, true, false, true, false, false]) (L2 := #[true, true, false, true, true, false, false]) (by kernel_rfl) (by kernel_rfl) (by kernel_rfl) ?_ ?_
      · refine s_callH 1007 rfl rfl rfl (by kernel_rfl) rfl rfl (fun vr => (change_any hb hL ⟨by omega, by omega⟩ hcut)) ?_
        rintro v cs10 w10 ⟨rfl, R10, _, hLq⟩ gw10 vw10
        replace lz := lz.past gw10 hbz
        clear hL
        have hL := hLq
        clear hLq
        refine vOrd_nil ?_
        refine vTree_one (i := 3) (L := #[true, true, true, true, true, false, false]) (by kernel_rfl) (by kernel_rfl) ?_
        refine s_load rfl rfl rfl rfl rfl rfl rfl ?_
        refine vOrd_nil ?_
        refine vTree_one (i := 5) (L := #[true, true, true, true, true, true, false]) (by kernel_rfl) (by kernel_rfl) ?_
        refine s_callT rfl rfl rfl (by kernel_rfl) rfl (rchange_any t hb (hv.later lz) hcut) ?_
        rintro v w11 rfl lw11
        replace lz := lz.trans lw11
        try replace hL := hL.later lw11
        refine vOrd_nil ?_
        refine vTree_one (i := 6) (L := #[true, true, true, true, true, true, true]) (by kernel_rfl) (by kernel_rfl) ?_
        refine f_neq rfl rfl rfl rfl rfl (by rfl) ?_
        refine vOrd_nil ?_
        refine vTree_end (by kernel_rfl) ?_
        refine Wp.condF rfl rfl ?_
        refine Wp.skip ?_
        refine Wp.seq ?_
        refine Wp.seq ?_
        refine Wp.region [0, 1] (by kernel_rfl) (by kernel_rfl) ?_
        refine s_move rfl rfl rfl rfl ?_
        refine s_not rfl rfl rfl rfl ?_
        refine vOrd_nil ?_
        refine Wp.condT rfl rfl ?_
        refine Wp.seq ?_
        refine Wp.region [0, 1, 2, 3, 4, 5, 6, 7, 8, 9, 10, 11, 12, 13, 14, 15, 16, 17] (by kernel_rfl) (by kernel_rfl) ?_
        refine s_callT rfl rfl rfl (by kernel_rfl) rfl (lpanswers_any) ?_
        rintro v w12 rfl lw12
        replace lz := lz.trans lw12
        try replace hL := hL.later lw12
        refine s_move rfl rfl rfl rfl ?_
        refine s_move rfl rfl rfl rfl ?_
        refine t_eql rfl rfl rfl rfl rfl (by subst hK; rfl) ?_
        refine s_pick rfl rfl rfl rfl rfl ?_
        refine s_move rfl rfl rfl rfl ?_
        refine s_move rfl rfl rfl rfl ?_
        refine t_eql rfl rfl rfl rfl rfl (by subst hK; rfl) ?_
        refine s_pick rfl rfl rfl rfl rfl ?_
        refine s_move rfl rfl rfl rfl ?_
        refine s_move rfl rfl rfl rfl ?_
        refine t_eql rfl rfl rfl rfl rfl (by omega) ?_
        refine s_pick rfl rfl rfl rfl rfl ?_
        refine s_move rfl rfl rfl rfl ?_
        refine s_move rfl rfl rfl rfl ?_
        refine t_eql rfl rfl rfl rfl rfl (by omega) ?_
        refine s_pick rfl rfl rfl rfl rfl ?_
        refine s_assign rfl rfl rfl rfl ?_
        refine vOrd_nil ?_
        refine Wp.ret ⟨.inr rfl, fun lW => ⟨_, res_tmp (P := Try.prog) rfl rfl, _, rfl, ?_, lW⟩⟩
        clear lW
        rfl
      · refine s_load rfl rfl rfl rfl rfl rfl rfl ?_
        refine vOrd_nil ?_
        refine vTree_one (i := 2) (L := #[true, true, true, true, true, false, false]) (by kernel_rfl) (by kernel_rfl) ?_
        refine s_callH 1007 rfl rfl rfl (by kernel_rfl) rfl rfl (fun vr => (change_any hb hL ⟨by omega, by omega⟩ hcut)) ?_
        rintro v cs13 w13 ⟨rfl, R13, _, hLq⟩ gw13 vw13
        replace lz := lz.past gw13 hbz
        clear hL
        have hL := hLq
        clear hLq
        refine vOrd_nil ?_
        refine vTree_one (i := 5) (L := #[true, true, true, true, true, true, false]) (by kernel_rfl) (by kernel_rfl) ?_
        refine s_callT rfl rfl rfl (by kernel_rfl) rfl (rchange_any t hb (hv.later lz) hcut) ?_
        rintro v w14 rfl lw14
        replace lz := lz.trans lw14
        try replace hL := hL.later lw14
        refine vOrd_nil ?_
        refine vTree_one (i := 6) (L := #[true, true, true, true, true, true, true]) (by kernel_rfl) (by kernel_rfl) ?_
        refine f_neq rfl rfl rfl rfl rfl (by rfl) ?_
        refine vOrd_nil ?_
        refine vTree_end (by kernel_rfl) ?_
        refine Wp.condF rfl rfl ?_
        refine Wp.skip ?_
        refine Wp.seq ?_
        refine Wp.seq ?_
        refine Wp.region [0, 1] (by kernel_rfl) (by kernel_rfl) ?_
        refine s_move rfl rfl rfl rfl ?_
        refine s_not rfl rfl rfl rfl ?_
        refine vOrd_nil ?_
        refine Wp.condT rfl rfl ?_
        refine Wp.seq ?_
        refine Wp.region [0, 1, 2, 3, 4, 5, 6, 7, 8, 9, 10, 11, 12, 13, 14, 15, 16, 17] (by kernel_rfl) (by kernel_rfl) ?_
        refine s_callT rfl rfl rfl (by kernel_rfl) rfl (lpanswers_any) ?_
        rintro v w15 rfl lw15
        replace lz := lz.trans lw15
        try replace hL := hL.later lw15
        refine s_move rfl rfl rfl rfl ?_
        refine s_move rfl rfl rfl rfl ?_
        refine t_eql rfl rfl rfl rfl rfl (by subst hK; rfl) ?_
        refine s_pick rfl rfl rfl rfl rfl ?_
        refine s_move rfl rfl rfl rfl ?_
        refine s_move rfl rfl rfl rfl ?_
        refine t_eql rfl rfl rfl rfl rfl (by subst hK; rfl) ?_
        refine s_pick rfl rfl rfl rfl rfl ?_
        refine s_move rfl rfl rfl rfl ?_
        refine s_move rfl rfl rfl rfl ?_
        refine t_eql rfl rfl rfl rfl rfl (by omega) ?_
        refine s_pick rfl rfl rfl rfl rfl ?_
        refine s_move rfl rfl rfl rfl ?_
        refine s_move rfl rfl rfl rfl ?_
        refine t_eql rfl rfl rfl rfl rfl (by omega) ?_
        refine s_pick rfl rfl rfl rfl rfl ?_
        refine s_assign rfl rfl rfl rfl ?_
        refine vOrd_nil ?_
        refine Wp.ret ⟨.inr rfl, fun lW => ⟨_, res_tmp (P := Try.prog) rfl rfl, _, rfl, ?_, lW⟩⟩
        clear lW
        rfl
    · have herr : errA K = 0 := by obtain ⟨j, rfl⟩ : ∃ j, K = j + 1 := ⟨K - 1, by omega⟩; rfl
      refine calls_Wp (args := [_, _]) (n := 87) Try.func4 rfl rfl (by simp) ?_
      refine Wp.seq ?_
      refine Wp.region [0, 1] (by kernel_rfl) (by kernel_rfl) ?_
      refine s_box rfl rfl rfl rfl rfl rfl (fun bs2 ws2 ks2 ls2 => ?_)
      have kz2 := Nat.le_trans lz.size ks2
      try have nL2 := hL.ne ks2
      replace lz := lz.trans ls2
      try replace hL := hL.later ls2
      refine s_assign rfl rfl rfl rfl ?_
      refine vOrd_nil ?_
      refine Wp.seq ?_
      refine Wp.var (h := 2) rfl (fun v2 => ?_)
      have q2 := v2.lt
      have hz1 := lz.size
      refine Wp.region [0, 1, 2, 3, 4, 5, 6] (by kernel_rfl) (by kernel_rfl) ?_
      refine s_load rfl rfl rfl rfl rfl rfl rfl ?_
      refine s_callT rfl rfl rfl (by kernel_rfl) rfl (new_yes t hb hu he (hv.later lz)) ?_
      rintro v w6 ⟨b1, c1, rfl, hc1, hb1, hL⟩ lw6
      replace lz := lz.trans lw6
      try replace hL := hL.later lw6
      refine s_move rfl rfl rfl rfl ?_
      refine s_extract rfl rfl rfl rfl rfl ?_
      refine s_extract rfl rfl rfl rfl rfl ?_
      refine s_assign rfl rfl rfl rfl ?_
      refine s_assign rfl rfl rfl rfl ?_
      refine vOrd_nil ?_
      refine Wp.seq ?_
      refine Wp.seq ?_
      refine Wp.region [0, 1] (by kernel_rfl) (by kernel_rfl) ?_
      refine s_move rfl rfl rfl rfl ?_
      refine f_neq rfl rfl rfl rfl rfl (by omega) ?_
      refine vOrd_nil ?_
      refine Wp.condF rfl rfl ?_
      refine Wp.skip ?_
      refine Wp.seq ?_
      have hbz : w.heap.size ≤ b1 := by omega
      obtain ⟨cs1, hvb⟩ := hL.var
      refine Wp.adopt 1007 hvb hbz rfl (show AllMem (fun d => d ≠ b1) _ from (by repeat (first | exact AllMem.args | exact AllMem.of (by simp only [AllL, and_true]; omega) | refine AllMem.put ?_ | refine AllMem.new ?_ (by omega) | refine AllMem.set ?_ (by omega)))) ?_
      refine Wp.region [0, 1, 2, 3, 4, 5, 6, 7] (by kernel_rfl) (by kernel_rfl) ?_
      refine s_move rfl rfl rfl rfl ?_
      refine s_move rfl rfl rfl rfl ?_
      refine s_callH 1007 rfl rfl rfl (by kernel_rfl) rfl rfl (fun vr => (offset_any hb hL ⟨by omega, by omega⟩ hcut)) ?_
      rintro v cs7 w7 ⟨rfl, R7, _, hLq⟩ gw7 vw7
      replace lz := lz.past gw7 hbz
      clear hL
      have hL := hLq
      clear hLq
      refine s_move rfl rfl rfl rfl ?_
      refine s_extract rfl rfl rfl rfl rfl ?_
      refine s_extract rfl rfl rfl rfl rfl ?_
      refine s_assign rfl rfl rfl rfl ?_
      refine s_assign rfl rfl rfl rfl ?_
      refine vOrd_nil ?_
      refine Wp.seq ?_
      refine Wp.region [0, 1, 2, 3, 4, 5, 6, 7] (by kernel_rfl) (by kernel_rfl) ?_
      refine s_move rfl rfl rfl rfl ?_
      refine s_move rfl rfl rfl rfl ?_
      refine s_callH 1007 rfl rfl rfl (by kernel_rfl) rfl rfl (fun vr => (length_some hb hL ⟨by omega, by omega⟩ hcut hK)) ?_
      rintro v cs8 w8 ⟨rfl, R8, _, hLq⟩ gw8 vw8
      replace lz := lz.past gw8 hbz
      clear hL
      have hL := hLq
      clear hLq
      refine s_move rfl rfl rfl rfl ?_
      refine s_extract rfl rfl rfl rfl rfl ?_
      refine s_extract rfl rfl rfl rfl rfl ?_
      refine s_assign rfl rfl rfl rfl ?_
      refine s_assign rfl rfl rfl rfl ?_
      refine vOrd_nil ?_
      refine Wp.seq ?_
      refine Wp.region [0, 1, 2, 3, 4, 5, 6, 7] (by kernel_rfl) (by kernel_rfl) ?_
      refine s_load rfl rfl rfl rfl rfl rfl rfl ?_
      refine s_move rfl rfl rfl rfl ?_
      refine s_callT rfl rfl rfl (by kernel_rfl) rfl (roffset_any t hb (hv.later lz) hcut) ?_
      rintro v w9 rfl lw9
      replace lz := lz.trans lw9
      try replace hL := hL.later lw9
      rw [show decide (0 < K) = true from decide_eq_true hK]
      refine s_move rfl rfl rfl rfl ?_
      refine s_extract rfl rfl rfl rfl rfl ?_
      refine s_extract rfl rfl rfl rfl rfl ?_
      refine s_assign rfl rfl rfl rfl ?_
      refine s_assign rfl rfl rfl rfl ?_
      refine vOrd_nil ?_
      refine Wp.seq ?_
      refine Wp.seq ?_
      refine Wp.drawnX (by kernel_rfl) (by kernel_rfl) (by kernel_rfl) [0, 1, 4] 4 #[true, true, false, false, true, false, false] rfl (by kernel_rfl) (by kernel_rfl) (fun wd ld => ?_)
      replace lz := lz.trans ld
      try replace hL := hL.later ld
      refine s_move rfl rfl rfl rfl ?_
      refine s_move rfl rfl rfl rfl ?_
      refine s_move rfl rfl rfl rfl ?_
      refine vOrd_nil ?_
      refine vTree_two (i := 2) (k := 3) (L1 := #[true, true, true, false, true, false, false]) (L2 := #[true, true, false, true, true, false, false]) (by kernel_rfl) (by kernel_rfl) (by kernel_rfl) ?_ ?_
      · refine s_callH 1007 rfl rfl rfl (by kernel_rfl) rfl rfl (fun vr => (change_any hb hL ⟨by omega, by omega⟩ hcut)) ?_
        rintro v cs10 w10 ⟨rfl, R10, _, hLq⟩ gw10 vw10
        replace lz := lz.past gw10 hbz
        clear hL
        have hL := hLq
        clear hLq
        refine vOrd_nil ?_
        refine vTree_one (i := 3) (L := #[true, true, true, true, true, false, false]) (by kernel_rfl) (by kernel_rfl) ?_
        refine s_load rfl rfl rfl rfl rfl rfl rfl ?_
        refine vOrd_nil ?_
        refine vTree_one (i := 5) (L := #[true, true, true, true, true, true, false]) (by kernel_rfl) (by kernel_rfl) ?_
        refine s_callT rfl rfl rfl (by kernel_rfl) rfl (rchange_any t hb (hv.later lz) hcut) ?_
        rintro v w11 rfl lw11
        replace lz := lz.trans lw11
        try replace hL := hL.later lw11
        refine vOrd_nil ?_
        refine vTree_one (i := 6) (L := #[true, true, true, true, true, true, true]) (by kernel_rfl) (by kernel_rfl) ?_
        refine f_neq rfl rfl rfl rfl rfl (by rfl) ?_
        refine vOrd_nil ?_
        refine vTree_end (by kernel_rfl) ?_
        refine Wp.condF rfl rfl ?_
        refine Wp.skip ?_
        refine Wp.seq ?_
        refine Wp.seq ?_
        refine Wp.region [0, 1] (by kernel_rfl) (by kernel_rfl) ?_
        refine s_move rfl rfl rfl rfl ?_
        refine s_not rfl rfl rfl rfl ?_
        refine vOrd_nil ?_
        refine Wp.condF rfl rfl ?_
        refine Wp.skip ?_
        refine Wp.seq ?_
        refine Wp.region [0, 1, 2, 3, 4, 5, 6, 7, 8, 9, 10, 11, 12, 13, 14, 15, 16, 17, 18, 19, 20, 21, 22] (by kernel_rfl) (by kernel_rfl) ?_
        refine s_callT rfl rfl rfl (by kernel_rfl) rfl (lpanswers_any) ?_
        rintro v w12 rfl lw12
        replace lz := lz.trans lw12
        try replace hL := hL.later lw12
        refine s_move rfl rfl rfl rfl ?_
        refine s_move rfl rfl rfl rfl ?_
        refine t_eql rfl rfl rfl rfl rfl (by exact herr) ?_
        refine s_pick rfl rfl rfl rfl rfl ?_
        refine s_move rfl rfl rfl rfl ?_
        refine s_move rfl rfl rfl rfl ?_
        refine s_move rfl rfl rfl rfl ?_
        refine t_eql rfl rfl rfl rfl rfl (by rfl) ?_
        refine s_pick rfl rfl rfl rfl rfl ?_
        refine s_move rfl rfl rfl rfl ?_
        refine s_move rfl rfl rfl rfl ?_
        refine t_eql rfl rfl rfl rfl rfl (by omega) ?_
        refine s_pick rfl rfl rfl rfl rfl ?_
        refine s_move rfl rfl rfl rfl ?_
        refine s_move rfl rfl rfl rfl ?_
        refine s_load rfl rfl rfl rfl rfl rfl rfl ?_
        refine s_move rfl rfl rfl rfl ?_
        refine s_callT rfl rfl rfl (by kernel_rfl) rfl (rchange_any t hb (hv.later lz) hcut) ?_
        rintro v w13 rfl lw13
        replace lz := lz.trans lw13
        try replace hL := hL.later lw13
        refine a_add (-9223372036854775808) 9223372036854775807 (by decide) rfl rfl rfl rfl rfl (by omega) (by omega) ?_
        refine t_eql rfl rfl rfl rfl rfl (by rfl) ?_
        refine s_pick rfl rfl rfl rfl rfl ?_
        refine s_assign rfl rfl rfl rfl ?_
        refine vOrd_nil ?_
        refine Wp.ret ⟨.inr rfl, fun lW => ⟨_, res_tmp (P := Try.prog) rfl rfl, _, rfl, ?_, lW⟩⟩
        clear lW
        rfl
      · refine s_load rfl rfl rfl rfl rfl rfl rfl ?_
        refine vOrd_nil ?_
        refine vTree_one (i := 2) (L := #[true, true, true, true, true, false, false]) (by kernel_rfl) (by kernel_rfl) ?_
        refine s_callH 1007 rfl rfl rfl (by kernel_rfl) rfl rfl (fun vr => (change_any hb hL ⟨by omega, by omega⟩ hcut)) ?_
        rintro v cs14 w14 ⟨rfl, R14, _, hLq⟩ gw14 vw14
        replace lz := lz.past gw14 hbz
        clear hL
        have hL := hLq
        clear hLq
        refine vOrd_nil ?_
        refine vTree_one (i := 5) (L := #[true, true, true, true, true, true, false]) (by kernel_rfl) (by kernel_rfl) ?_
        refine s_callT rfl rfl rfl (by kernel_rfl) rfl (rchange_any t hb (hv.later lz) hcut) ?_
        rintro v w15 rfl lw15
        replace lz := lz.trans lw15
        try replace hL := hL.later lw15
        refine vOrd_nil ?_
        refine vTree_one (i := 6) (L := #[true, true, true, true, true, true, true]) (by kernel_rfl) (by kernel_rfl) ?_
        refine f_neq rfl rfl rfl rfl rfl (by rfl) ?_
        refine vOrd_nil ?_
        refine vTree_end (by kernel_rfl) ?_
        refine Wp.condF rfl rfl ?_
        refine Wp.skip ?_
        refine Wp.seq ?_
        refine Wp.seq ?_
        refine Wp.region [0, 1] (by kernel_rfl) (by kernel_rfl) ?_
        refine s_move rfl rfl rfl rfl ?_
        refine s_not rfl rfl rfl rfl ?_
        refine vOrd_nil ?_
        refine Wp.condF rfl rfl ?_
        refine Wp.skip ?_
        refine Wp.seq ?_
        refine Wp.region [0, 1, 2, 3, 4, 5, 6, 7, 8, 9, 10, 11, 12, 13, 14, 15, 16, 17, 18, 19, 20, 21, 22] (by kernel_rfl) (by kernel_rfl) ?_
        refine s_callT rfl rfl rfl (by kernel_rfl) rfl (lpanswers_any) ?_
        rintro v w16 rfl lw16
        replace lz := lz.trans lw16
        try replace hL := hL.later lw16
        refine s_move rfl rfl rfl rfl ?_
        refine s_move rfl rfl rfl rfl ?_
        refine t_eql rfl rfl rfl rfl rfl (by exact herr) ?_
        refine s_pick rfl rfl rfl rfl rfl ?_
        refine s_move rfl rfl rfl rfl ?_
        refine s_move rfl rfl rfl rfl ?_
        refine s_move rfl rfl rfl rfl ?_
        refine t_eql rfl rfl rfl rfl rfl (by rfl) ?_
        refine s_pick rfl rfl rfl rfl rfl ?_
        refine s_move rfl rfl rfl rfl ?_
        refine s_move rfl rfl rfl rfl ?_
        refine t_eql rfl rfl rfl rfl rfl (by omega) ?_
        refine s_pick rfl rfl rfl rfl rfl ?_
        refine s_move rfl rfl rfl rfl ?_
        refine s_move rfl rfl rfl rfl ?_
        refine s_load rfl rfl rfl rfl rfl rfl rfl ?_
        refine s_move rfl rfl rfl rfl ?_
        refine s_callT rfl rfl rfl (by kernel_rfl) rfl (rchange_any t hb (hv.later lz) hcut) ?_
        rintro v w17 rfl lw17
        replace lz := lz.trans lw17
        try replace hL := hL.later lw17
        refine a_add (-9223372036854775808) 9223372036854775807 (by decide) rfl rfl rfl rfl rfl (by omega) (by omega) ?_
        refine t_eql rfl rfl rfl rfl rfl (by rfl) ?_
        refine s_pick rfl rfl rfl rfl rfl ?_
        refine s_assign rfl rfl rfl rfl ?_
        refine vOrd_nil ?_
        refine Wp.ret ⟨.inr rfl, fun lW => ⟨_, res_tmp (P := Try.prog) rfl rfl, _, rfl, ?_, lW⟩⟩
        clear lW
        rfl

set_option maxHeartbeats 2000000 in
theorem law_at (t : Tb) (hu : I64 t.u) (he : I64 t.e) {v : Value} {w : World} (hv : EntAt w v t.es) (s : Int) : Calls Try.prog 5 #[tbV t v, .int .i64 s] w fun e w' => ∃ r, e = .returned r ∧ r = .bool true ∧ Below w.heap.size w w' := by
  obtain ⟨va, vc, rfl⟩ := hv.formL
  have lz := Later.refl w
  cases hb : canBe t with
  | false =>
    refine calls_Wp (args := [_, _]) (n := 78) Try.func5 rfl rfl (by simp) ?_
    refine Wp.seq ?_
    refine Wp.region [0, 1] (by kernel_rfl) (by kernel_rfl) ?_
    refine s_box rfl rfl rfl rfl rfl rfl (fun bs2 ws2 ks2 ls2 => ?_)
    have kz2 := Nat.le_trans lz.size ks2
    try have nL2 := hL.ne ks2
    replace lz := lz.trans ls2
    try replace hL := hL.later ls2
    refine s_assign rfl rfl rfl rfl ?_
    refine vOrd_nil ?_
    refine Wp.seq ?_
    refine Wp.var (h := 2) rfl (fun v2 => ?_)
    have q2 := v2.lt
    have hz1 := lz.size
    refine Wp.region [0, 1, 2, 3, 4, 5, 6] (by kernel_rfl) (by kernel_rfl) ?_
    refine s_load rfl rfl rfl rfl rfl rfl rfl ?_
    refine s_callT rfl rfl rfl (by kernel_rfl) rfl (new_no t hb hu he (hv.later lz)) ?_
    rintro v w6 rfl lw6
    replace lz := lz.trans lw6
    try replace hL := hL.later lw6
    refine s_move rfl rfl rfl rfl ?_
    refine s_extract rfl rfl rfl rfl rfl ?_
    refine s_extract rfl rfl rfl rfl rfl ?_
    refine s_assign rfl rfl rfl rfl ?_
    refine s_assign rfl rfl rfl rfl ?_
    refine vOrd_nil ?_
    refine Wp.seq ?_
    refine Wp.seq ?_
    refine Wp.region [0, 1] (by kernel_rfl) (by kernel_rfl) ?_
    refine s_move rfl rfl rfl rfl ?_
    refine t_neq rfl rfl rfl rfl rfl (by omega) ?_
    refine vOrd_nil ?_
    refine Wp.condT rfl rfl ?_
    refine Wp.seq ?_
    refine Wp.region [0, 1] (by kernel_rfl) (by kernel_rfl) ?_
    refine s_callT rfl rfl rfl (by kernel_rfl) rfl (lpanswers_any) ?_
    rintro v w7 rfl lw7
    replace lz := lz.trans lw7
    try replace hL := hL.later lw7
    refine s_assign rfl rfl rfl rfl ?_
    refine vOrd_nil ?_
    refine Wp.ret ⟨.inr rfl, fun lW => ⟨_, res_tmp (P := Try.prog) rfl rfl, _, rfl, ?_, lW⟩⟩
    clear lW
    rfl
  | true =>
    have hpos := (can_num hb).2.2
    have hn := can_len hb
    obtain ⟨K, hcut⟩ := cut_at hb s
    have hA := can_A hb K
    rcases Nat.eq_zero_or_pos K with hK | hK
    ·
      refine calls_Wp (args := [_, _]) (n := 78) Try.func5 rfl rfl (by simp) ?_
      refine Wp.seq ?_
      refine Wp.region [0, 1] (by kernel_rfl) (by kernel_rfl) ?_
      refine s_box rfl rfl rfl rfl rfl rfl (fun bs2 ws2 ks2 ls2 => ?_)
      have kz2 := Nat.le_trans lz.size ks2
      try have nL2 := hL.ne ks2
      replace lz := lz.trans ls2
      try replace hL := hL.later ls2
      refine s_assign rfl rfl rfl rfl ?_
      refine vOrd_nil ?_
      refine Wp.seq ?_
      refine Wp.var (h := 2) rfl (fun v2 => ?_)
      have q2 := v2.lt
      have hz1 := lz.size
      refine Wp.region [0, 1, 2, 3, 4, 5, 6] (by kernel_rfl) (by kernel_rfl) ?_
      refine s_load rfl rfl rfl rfl rfl rfl rfl ?_
      refine s_callT rfl rfl rfl (by kernel_rfl) rfl (new_yes t hb hu he (hv.later lz)) ?_
      rintro v w6 ⟨b1, c1, rfl, hc1, hb1, hL⟩ lw6
      replace lz := lz.trans lw6
      try replace hL := hL.later lw6
      refine s_move rfl rfl rfl rfl ?_
      refine s_extract rfl rfl rfl rfl rfl ?_
      refine s_extract rfl rfl rfl rfl rfl ?_
      refine s_assign rfl rfl rfl rfl ?_
      refine s_assign rfl rfl rfl rfl ?_
      refine vOrd_nil ?_
      refine Wp.seq ?_
      refine Wp.seq ?_
      refine Wp.region [0, 1] (by kernel_rfl) (by kernel_rfl) ?_
      refine s_move rfl rfl rfl rfl ?_
      refine f_neq rfl rfl rfl rfl rfl (by omega) ?_
      refine vOrd_nil ?_
      refine Wp.condF rfl rfl ?_
      refine Wp.skip ?_
      refine Wp.seq ?_
      have hbz : w.heap.size ≤ b1 := by omega
      obtain ⟨cs1, hvb⟩ := hL.var
      refine Wp.adopt 1007 hvb hbz rfl (show AllMem (fun d => d ≠ b1) _ from (by repeat (first | exact AllMem.args | exact AllMem.of (by simp only [AllL, and_true]; omega) | refine AllMem.put ?_ | refine AllMem.new ?_ (by omega) | refine AllMem.set ?_ (by omega)))) ?_
      refine Wp.region [0, 1, 2, 3, 4, 5, 6, 7, 8, 9] (by kernel_rfl) (by kernel_rfl) ?_
      refine s_move rfl rfl rfl rfl ?_
      refine s_move rfl rfl rfl rfl ?_
      refine s_callH 1007 rfl rfl rfl (by kernel_rfl) rfl rfl (fun vr => (at_any hb hL ⟨by omega, by omega⟩ hcut)) ?_
      rintro v cs7 w7 ⟨rfl, R7, _, hLq⟩ gw7 vw7
      replace lz := lz.past gw7 hbz
      clear hL
      have hL := hLq
      clear hLq
      refine s_move rfl rfl rfl rfl ?_
      refine s_extract rfl rfl rfl rfl rfl ?_
      refine s_extract rfl rfl rfl rfl rfl ?_
      refine s_extract rfl rfl rfl rfl rfl ?_
      refine s_assign rfl rfl rfl rfl ?_
      refine s_assign rfl rfl rfl rfl ?_
      refine s_assign rfl rfl rfl rfl ?_
      refine vOrd_nil ?_
      refine Wp.seq ?_
      refine Wp.region [0, 1, 2, 3] (by kernel_rfl) (by kernel_rfl) ?_
      refine s_load rfl rfl rfl rfl rfl rfl rfl ?_
      refine s_move rfl rfl rfl rfl ?_
      refine s_callT rfl rfl rfl (by kernel_rfl) rfl (rat_any t hb (hv.later lz) hcut) ?_
      rintro v w8 rfl lw8
      replace lz := lz.trans lw8
      try replace hL := hL.later lw8
      refine s_assign rfl rfl rfl rfl ?_
      refine vOrd_nil ?_
      refine Wp.seq ?_
      refine Wp.seq ?_
      refine Wp.region [0, 1] (by kernel_rfl) (by kernel_rfl) ?_
      refine s_move rfl rfl rfl rfl ?_
      refine t_lss rfl rfl rfl rfl rfl (by omega) ?_
      refine vOrd_nil ?_
      refine Wp.condT rfl rfl ?_
      refine Wp.seq ?_
      refine Wp.region [0, 1, 2, 3, 4, 5, 6, 7, 8, 9, 10, 11, 12, 13] (by kernel_rfl) (by kernel_rfl) ?_
      refine s_callT rfl rfl rfl (by kernel_rfl) rfl (lpanswers_any) ?_
      rintro v w9 rfl lw9
      replace lz := lz.trans lw9
      try replace hL := hL.later lw9
      refine s_move rfl rfl rfl rfl ?_
      refine s_move rfl rfl rfl rfl ?_
      refine t_eql rfl rfl rfl rfl rfl (by subst hK; rfl) ?_
      refine s_pick rfl rfl rfl rfl rfl ?_
      refine s_move rfl rfl rfl rfl ?_
      refine s_move rfl rfl rfl rfl ?_
      refine t_eql rfl rfl rfl rfl rfl (by subst hK; rfl) ?_
      refine s_pick rfl rfl rfl rfl rfl ?_
      refine s_move rfl rfl rfl rfl ?_
      refine s_move rfl rfl rfl rfl ?_
      refine t_eql rfl rfl rfl rfl rfl (by subst hK; rfl) ?_
      refine s_pick rfl rfl rfl rfl rfl ?_
      refine s_assign rfl rfl rfl rfl ?_
      refine vOrd_nil ?_
      refine Wp.ret ⟨.inr rfl, fun lW => ⟨_, res_tmp (P := Try.prog) rfl rfl, _, rfl, ?_, lW⟩⟩
      clear lW
      rfl
    · obtain ⟨j, rfl⟩ : ∃ j, K = j + 1 := ⟨K - 1, by omega⟩
      have hjn : j < t.es.length := by have := hcut.1; omega
      obtain ⟨x, hx⟩ : ∃ x, t.es[j]? = some x := ⟨t.es[j], List.getElem?_eq_getElem hjn⟩
      obtain ⟨ab, ao, rfl, hcell⟩ := ent_at hv hpos
      obtain ⟨k1, k2⟩ := hcell j x hx
      refine calls_Wp (args := [_, _]) (n := 78) Try.func5 rfl rfl (by simp) ?_
      refine Wp.seq ?_
      refine Wp.region [0, 1] (by kernel_rfl) (by kernel_rfl) ?_
      refine s_box rfl rfl rfl rfl rfl rfl (fun bs2 ws2 ks2 ls2 => ?_)
      have kz2 := Nat.le_trans lz.size ks2
      try have nL2 := hL.ne ks2
      replace lz := lz.trans ls2
      try replace hL := hL.later ls2
      refine s_assign rfl rfl rfl rfl ?_
      refine vOrd_nil ?_
      refine Wp.seq ?_
      refine Wp.var (h := 2) rfl (fun v2 => ?_)
      have q2 := v2.lt
      have hz1 := lz.size
      refine Wp.region [0, 1, 2, 3, 4, 5, 6] (by kernel_rfl) (by kernel_rfl) ?_
      refine s_load rfl rfl rfl rfl rfl rfl rfl ?_
      refine s_callT rfl rfl rfl (by kernel_rfl) rfl (new_yes t hb hu he (hv.later lz)) ?_
      rintro v w6 ⟨b1, c1, rfl, hc1, hb1, hL⟩ lw6
      replace lz := lz.trans lw6
      try replace hL := hL.later lw6
      refine s_move rfl rfl rfl rfl ?_
      refine s_extract rfl rfl rfl rfl rfl ?_
      refine s_extract rfl rfl rfl rfl rfl ?_
      refine s_assign rfl rfl rfl rfl ?_
      refine s_assign rfl rfl rfl rfl ?_
      refine vOrd_nil ?_
      refine Wp.seq ?_
      refine Wp.seq ?_
      refine Wp.region [0, 1] (by kernel_rfl) (by kernel_rfl) ?_
      refine s_move rfl rfl rfl rfl ?_
      refine f_neq rfl rfl rfl rfl rfl (by omega) ?_
      refine vOrd_nil ?_
      refine Wp.condF rfl rfl ?_
      refine Wp.skip ?_
      refine Wp.seq ?_
      have hbz : w.heap.size ≤ b1 := by omega
      obtain ⟨cs1, hvb⟩ := hL.var
      refine Wp.adopt 1007 hvb hbz rfl (show AllMem (fun d => d ≠ b1) _ from (by repeat (first | exact AllMem.args | exact AllMem.of (by simp only [AllL, and_true]; omega) | refine AllMem.put ?_ | refine AllMem.new ?_ (by omega) | refine AllMem.set ?_ (by omega)))) ?_
      refine Wp.region [0, 1, 2, 3, 4, 5, 6, 7, 8, 9] (by kernel_rfl) (by kernel_rfl) ?_
      refine s_move rfl rfl rfl rfl ?_
      refine s_move rfl rfl rfl rfl ?_
      refine s_callH 1007 rfl rfl rfl (by kernel_rfl) rfl rfl (fun vr => (at_any hb hL ⟨by omega, by omega⟩ hcut)) ?_
      rintro v cs7 w7 ⟨rfl, R7, _, hLq⟩ gw7 vw7
      replace lz := lz.past gw7 hbz
      clear hL
      have hL := hLq
      clear hLq
      refine s_move rfl rfl rfl rfl ?_
      refine s_extract rfl rfl rfl rfl rfl ?_
      refine s_extract rfl rfl rfl rfl rfl ?_
      refine s_extract rfl rfl rfl rfl rfl ?_
      refine s_assign rfl rfl rfl rfl ?_
      refine s_assign rfl rfl rfl rfl ?_
      refine s_assign rfl rfl rfl rfl ?_
      refine vOrd_nil ?_
      refine Wp.seq ?_
      refine Wp.region [0, 1, 2, 3] (by kernel_rfl) (by kernel_rfl) ?_
      refine s_load rfl rfl rfl rfl rfl rfl rfl ?_
      refine s_move rfl rfl rfl rfl ?_
      refine s_callT rfl rfl rfl (by kernel_rfl) rfl (rat_any t hb (hv.later lz) hcut) ?_
      rintro v w8 rfl lw8
      replace lz := lz.trans lw8
      try replace hL := hL.later lw8
      refine s_assign rfl rfl rfl rfl ?_
      refine vOrd_nil ?_
      refine Wp.seq ?_
      refine Wp.seq ?_
      refine Wp.region [0, 1] (by kernel_rfl) (by kernel_rfl) ?_
      refine s_move rfl rfl rfl rfl ?_
      refine f_lss rfl rfl rfl rfl rfl (by omega) ?_
      refine vOrd_nil ?_
      refine Wp.condF rfl rfl ?_
      refine Wp.skip ?_
      refine Wp.seq ?_
      refine Wp.region [0] (by kernel_rfl) (by kernel_rfl) ?_
      refine s_assign rfl rfl rfl rfl ?_
      refine vOrd_nil ?_
      refine Wp.seq ?_
      refine Wp.seq ?_
      refine Wp.region [0, 1, 2, 3, 4, 5] (by kernel_rfl) (by kernel_rfl) ?_
      refine s_move rfl rfl rfl rfl ?_
      refine a_add (-9223372036854775808) 9223372036854775807 (by decide) rfl rfl rfl rfl rfl (by omega) (by omega) ?_
      refine s_field 2 rfl rfl rfl rfl rfl ?_
      refine s_load rfl rfl rfl rfl rfl rfl rfl ?_
      refine x_len rfl rfl rfl rfl rfl ?_
      refine p_lss rfl rfl rfl rfl rfl (fun h50 => ?_) (fun h50 => ?_)
      · obtain ⟨y, hy⟩ : ∃ y, t.es[j + 1]? = some y := ⟨t.es[j + 1]'(by omega), List.getElem?_eq_getElem _⟩
        obtain ⟨m1, m2⟩ := hcell (j + 1) y hy
        have hyi := can_in hb hy
        refine vOrd_nil ?_
        refine Wp.condT rfl rfl ?_
        refine Wp.region [0, 1, 2, 3, 4, 5, 6, 7] (by kernel_rfl) (by kernel_rfl) ?_
        refine s_field 2 rfl rfl rfl rfl rfl ?_
        refine s_load rfl rfl rfl rfl rfl rfl rfl ?_
        refine s_move rfl rfl rfl rfl ?_
        refine a_add (-9223372036854775808) 9223372036854775807 (by decide) rfl rfl rfl rfl rfl (by omega) (by omega) ?_
        refine s_idx (sz := 2) (ao + (j + 1) * 2) rfl rfl rfl rfl rfl rfl rfl (by omega) (by omega) (by omega) ?_
        refine x_ldA [.int .i64 y.1, .int .i64 y.2] rfl rfl rfl rfl rfl rfl (World.block_lt_of_cell? _ _ (cell_later lz m1)) (fun j u hj => ?_) ?_
        · match j, hj with
          | 0, hj => cases hj; exact cell_later lz m1
          | 1, hj => cases hj; exact cell_later lz m2
        refine s_callT rfl rfl rfl (by kernel_rfl) rfl (rday_any y hyi.1) ?_
        rintro v w14 rfl lw14
        replace lz := lz.trans lw14
        try replace hL := hL.later lw14
        refine s_assign rfl rfl rfl rfl ?_
        refine vOrd_nil ?_
        refine Wp.seq ?_
        refine Wp.region [0, 1, 2, 3, 4, 5, 6, 7, 8, 9, 10, 11, 12, 13, 14, 15, 16, 17, 18, 19, 20] (by kernel_rfl) (by kernel_rfl) ?_
        refine s_callT rfl rfl rfl (by kernel_rfl) rfl (lpanswers_any) ?_
        rintro v w15 rfl lw15
        replace lz := lz.trans lw15
        try replace hL := hL.later lw15
        refine s_move rfl rfl rfl rfl ?_
        refine s_move rfl rfl rfl rfl ?_
        refine t_eql rfl rfl rfl rfl rfl (by rfl) ?_
        refine s_pick rfl rfl rfl rfl rfl ?_
        refine s_move rfl rfl rfl rfl ?_
        refine s_move rfl rfl rfl rfl ?_
        refine s_field 2 rfl rfl rfl rfl rfl ?_
        refine s_load rfl rfl rfl rfl rfl rfl rfl ?_
        refine s_move rfl rfl rfl rfl ?_
        refine s_idx (sz := 2) (ao + j * 2) rfl rfl rfl rfl rfl rfl rfl (by omega) (by omega) (by omega) ?_
        refine s_fieldV (ao + j * 2 + 1) rfl rfl rfl rfl 1 rfl rfl ?_
        refine x_ldc rfl rfl rfl rfl rfl (cell_later lz k2) ?_
        refine t_eql rfl rfl rfl rfl rfl (by exact (A_at hx).2.2) ?_
        refine s_pick rfl rfl rfl rfl rfl ?_
        refine s_move rfl rfl rfl rfl ?_
        refine s_move rfl rfl rfl rfl ?_
        refine s_move rfl rfl rfl rfl ?_
        refine t_eql rfl rfl rfl rfl rfl (by unfold untilA untilE; simp only [hy]) ?_
        refine s_pick rfl rfl rfl rfl rfl ?_
        refine s_assign rfl rfl rfl rfl ?_
        refine vOrd_nil ?_
        refine Wp.ret ⟨.inr rfl, fun lW => ⟨_, res_tmp (P := Try.prog) rfl rfl, _, rfl, ?_, lW⟩⟩
        clear lW
        rfl
      · have hy : t.es[j + 1]? = none := List.getElem?_eq_none (by omega)
        refine vOrd_nil ?_
        refine Wp.condF rfl rfl ?_
        refine Wp.skip ?_
        refine Wp.seq ?_
        refine Wp.region [0, 1, 2, 3, 4, 5, 6, 7, 8, 9, 10, 11, 12, 13, 14, 15, 16, 17, 18, 19, 20] (by kernel_rfl) (by kernel_rfl) ?_
        refine s_callT rfl rfl rfl (by kernel_rfl) rfl (lpanswers_any) ?_
        rintro v w19 rfl lw19
        replace lz := lz.trans lw19
        try replace hL := hL.later lw19
        refine s_move rfl rfl rfl rfl ?_
        refine s_move rfl rfl rfl rfl ?_
        refine t_eql rfl rfl rfl rfl rfl (by rfl) ?_
        refine s_pick rfl rfl rfl rfl rfl ?_
        refine s_move rfl rfl rfl rfl ?_
        refine s_move rfl rfl rfl rfl ?_
        refine s_field 2 rfl rfl rfl rfl rfl ?_
        refine s_load rfl rfl rfl rfl rfl rfl rfl ?_
        refine s_move rfl rfl rfl rfl ?_
        refine s_idx (sz := 2) (ao + j * 2) rfl rfl rfl rfl rfl rfl rfl (by omega) (by omega) (by omega) ?_
        refine s_fieldV (ao + j * 2 + 1) rfl rfl rfl rfl 1 rfl rfl ?_
        refine x_ldc rfl rfl rfl rfl rfl (cell_later lz k2) ?_
        refine t_eql rfl rfl rfl rfl rfl (by exact (A_at hx).2.2) ?_
        refine s_pick rfl rfl rfl rfl rfl ?_
        refine s_move rfl rfl rfl rfl ?_
        refine s_move rfl rfl rfl rfl ?_
        refine s_move rfl rfl rfl rfl ?_
        refine t_eql rfl rfl rfl rfl rfl (by unfold untilA untilE; simp only [hy]) ?_
        refine s_pick rfl rfl rfl rfl rfl ?_
        refine s_assign rfl rfl rfl rfl ?_
        refine vOrd_nil ?_
        refine Wp.ret ⟨.inr rfl, fun lW => ⟨_, res_tmp (P := Try.prog) rfl rfl, _, rfl, ?_, lW⟩⟩
        clear lW
        rfl

set_option maxHeartbeats 2000000 in
theorem law_sums (t : Tb) (hu : I64 t.u) (he : I64 t.e) {v : Value} {w : World} (hv : EntAt w v t.es) (day : Int) : Calls Try.prog 6 #[tbV t v, .int .i64 day] w fun e w' => ∃ r, e = .returned r ∧ r = .bool true ∧ Below w.heap.size w w' := by
  obtain ⟨va, vc, rfl⟩ := hv.formL
  have lz := Later.refl w
  cases hb : canBe t with
  | false =>
    refine calls_Wp (args := [_, _]) (n := 67) Try.func6 rfl rfl (by simp) ?_
    refine Wp.seq ?_
    refine Wp.region [0, 1] (by kernel_rfl) (by kernel_rfl) ?_
    refine s_box rfl rfl rfl rfl rfl rfl (fun bs2 ws2 ks2 ls2 => ?_)
    have kz2 := Nat.le_trans lz.size ks2
    try have nL2 := hL.ne ks2
    replace lz := lz.trans ls2
    try replace hL := hL.later ls2
    refine s_assign rfl rfl rfl rfl ?_
    refine vOrd_nil ?_
    refine Wp.seq ?_
    refine Wp.var (h := 2) rfl (fun v2 => ?_)
    have q2 := v2.lt
    have hz1 := lz.size
    refine Wp.region [0, 1, 2, 3, 4, 5, 6] (by kernel_rfl) (by kernel_rfl) ?_
    refine s_load rfl rfl rfl rfl rfl rfl rfl ?_
    refine s_callT rfl rfl rfl (by kernel_rfl) rfl (new_no t hb hu he (hv.later lz)) ?_
    rintro v w6 rfl lw6
    replace lz := lz.trans lw6
    try replace hL := hL.later lw6
    refine s_move rfl rfl rfl rfl ?_
    refine s_extract rfl rfl rfl rfl rfl ?_
    refine s_extract rfl rfl rfl rfl rfl ?_
    refine s_assign rfl rfl rfl rfl ?_
    refine s_assign rfl rfl rfl rfl ?_
    refine vOrd_nil ?_
    refine Wp.seq ?_
    refine Wp.seq ?_
    refine Wp.region [0, 1, 2, 3, 4, 5, 6, 7, 8, 9, 10, 11] (by kernel_rfl) (by kernel_rfl) ?_
    refine s_move rfl rfl rfl rfl ?_
    refine t_neq rfl rfl rfl rfl rfl (by omega) ?_
    refine s_move rfl rfl rfl rfl ?_
    refine s_skip rfl rfl rfl ?_
    refine s_skip rfl rfl rfl ?_
    refine s_skip rfl rfl rfl ?_
    refine s_skip rfl rfl rfl ?_
    refine s_pick rfl rfl rfl rfl rfl ?_
    refine s_move rfl rfl rfl rfl ?_
    refine s_skip rfl rfl rfl ?_
    refine s_skip rfl rfl rfl ?_
    refine s_pick rfl rfl rfl rfl rfl ?_
    refine vOrd_nil ?_
    refine Wp.condT rfl rfl ?_
    refine Wp.seq ?_
    refine Wp.region [0, 1] (by kernel_rfl) (by kernel_rfl) ?_
    refine s_callT rfl rfl rfl (by kernel_rfl) rfl (lpanswers_any) ?_
    rintro v w7 rfl lw7
    replace lz := lz.trans lw7
    try replace hL := hL.later lw7
    refine s_assign rfl rfl rfl rfl ?_
    refine vOrd_nil ?_
    refine Wp.ret ⟨.inr rfl, fun lW => ⟨_, res_tmp (P := Try.prog) rfl rfl, _, rfl, ?_, lW⟩⟩
    clear lW
    rfl
  | true =>
    have hpos := (can_num hb).2.2
    have hn := can_len hb
    obtain ⟨K, hcut⟩ := cut_day hb day
    obtain ⟨K2, hcut2⟩ := cut_day hb (day + 1)
    have hA := can_A hb K
    have hA2 := can_A hb K2
    have hmi := more_in hb K day
    obtain ⟨x0, hx0⟩ : ∃ x, t.es[0]? = some x := ⟨t.es[0], List.getElem?_eq_getElem hpos⟩
    have hfi := can_in hb hx0
    have hd1 : dayA t.es 1 = dayE x0 := (A_at hx0).1
    have hp0 := hcut.2 0 x0 hx0
    unfold pDay at hp0
    rw [decide_eq_decide] at hp0
    refine calls_Wp (args := [_, _]) (n := 67) Try.func6 rfl rfl (by simp) ?_
    refine Wp.seq ?_
    refine Wp.region [0, 1] (by kernel_rfl) (by kernel_rfl) ?_
    refine s_box rfl rfl rfl rfl rfl rfl (fun bs2 ws2 ks2 ls2 => ?_)
    have kz2 := Nat.le_trans lz.size ks2
    try have nL2 := hL.ne ks2
    replace lz := lz.trans ls2
    try replace hL := hL.later ls2
    refine s_assign rfl rfl rfl rfl ?_
    refine vOrd_nil ?_
    refine Wp.seq ?_
    refine Wp.var (h := 2) rfl (fun v2 => ?_)
    have q2 := v2.lt
    have hz1 := lz.size
    refine Wp.region [0, 1, 2, 3, 4, 5, 6] (by kernel_rfl) (by kernel_rfl) ?_
    refine s_load rfl rfl rfl rfl rfl rfl rfl ?_
    refine s_callT rfl rfl rfl (by kernel_rfl) rfl (new_yes t hb hu he (hv.later lz)) ?_
    rintro v w6 ⟨b1, c1, rfl, hc1, hb1, hL⟩ lw6
    replace lz := lz.trans lw6
    try replace hL := hL.later lw6
    refine s_move rfl rfl rfl rfl ?_
    refine s_extract rfl rfl rfl rfl rfl ?_
    refine s_extract rfl rfl rfl rfl rfl ?_
    refine s_assign rfl rfl rfl rfl ?_
    refine s_assign rfl rfl rfl rfl ?_
    refine vOrd_nil ?_
    refine Wp.seq ?_
    refine Wp.seq ?_
    have hbz : w.heap.size ≤ b1 := by omega
    obtain ⟨cs1, hvb⟩ := hL.var
    refine Wp.adopt 1007 hvb hbz rfl (show AllMem (fun d => d ≠ b1) _ from (by repeat (first | exact AllMem.args | exact AllMem.of (by simp only [AllL, and_true]; omega) | refine AllMem.put ?_ | refine AllMem.new ?_ (by omega) | refine AllMem.set ?_ (by omega)))) ?_
    refine Wp.region [0, 1, 2, 3, 4, 5, 6, 7, 8, 9, 10, 11] (by kernel_rfl) (by kernel_rfl) ?_
    refine s_move rfl rfl rfl rfl ?_
    refine f_neq rfl rfl rfl rfl rfl (by omega) ?_
    refine s_move rfl rfl rfl rfl ?_
    refine s_move rfl rfl rfl rfl ?_
    refine s_move rfl rfl rfl rfl ?_
    refine s_callH 1007 rfl rfl rfl (by kernel_rfl) rfl rfl (fun vr => (first_any hb hL)) ?_
    rintro v cs7 w7 ⟨rfl, R7, _, hLq⟩ gw7 vw7
    replace lz := lz.past gw7 hbz
    clear hL
    have hL := hLq
    clear hLq
    refine p_lss rfl rfl rfl rfl rfl (fun h24 => ?_) (fun h24 => ?_)
    · refine s_pick rfl rfl rfl rfl rfl ?_
      refine s_move rfl rfl rfl rfl ?_
      refine s_skip rfl rfl rfl ?_
      refine s_skip rfl rfl rfl ?_
      refine s_pick rfl rfl rfl rfl rfl ?_
      refine vOrd_nil ?_
      refine Wp.condT rfl rfl ?_
      refine Wp.seq ?_
      refine Wp.region [0, 1] (by kernel_rfl) (by kernel_rfl) ?_
      refine s_callT rfl rfl rfl (by kernel_rfl) rfl (lpanswers_any) ?_
      rintro v w8 rfl lw8
      replace lz := lz.trans lw8
      try replace hL := hL.later lw8
      refine s_assign rfl rfl rfl rfl ?_
      refine vOrd_nil ?_
      refine Wp.ret ⟨.inr rfl, fun lW => ⟨_, res_tmp (P := Try.prog) rfl rfl, _, rfl, ?_, lW⟩⟩
      clear lW
      rfl
    · refine s_pick rfl rfl rfl rfl rfl ?_
      refine s_move rfl rfl rfl rfl ?_
      refine s_move rfl rfl rfl rfl ?_
      refine p_gtr rfl rfl rfl rfl rfl (fun h28 => ?_) (fun h28 => ?_)
      · refine s_pick rfl rfl rfl rfl rfl ?_
        refine vOrd_nil ?_
        refine Wp.condT rfl rfl ?_
        refine Wp.seq ?_
        refine Wp.region [0, 1] (by kernel_rfl) (by kernel_rfl) ?_
        refine s_callT rfl rfl rfl (by kernel_rfl) rfl (lpanswers_any) ?_
        rintro v w9 rfl lw9
        replace lz := lz.trans lw9
        try replace hL := hL.later lw9
        refine s_assign rfl rfl rfl rfl ?_
        refine vOrd_nil ?_
        refine Wp.ret ⟨.inr rfl, fun lW => ⟨_, res_tmp (P := Try.prog) rfl rfl, _, rfl, ?_, lW⟩⟩
        clear lW
        rfl
      · refine s_pick rfl rfl rfl rfl rfl ?_
        refine vOrd_nil ?_
        refine Wp.condF rfl rfl ?_
        refine Wp.skip ?_
        refine Wp.seq ?_
        have hK : 0 < K := hp0.1 (by omega)
        obtain ⟨hs1, hs2⟩ := sum_step hb hcut hcut2 hK
        refine Wp.region [0, 1, 2, 3, 4, 5, 6, 7] (by kernel_rfl) (by kernel_rfl) ?_
        refine s_move rfl rfl rfl rfl ?_
        refine s_move rfl rfl rfl rfl ?_
        refine s_callH 1007 rfl rfl rfl (by kernel_rfl) rfl rfl (fun vr => (offset_any hb hL ⟨by omega, by omega⟩ hcut)) ?_
        rintro v cs10 w10 ⟨rfl, R10, _, hLq⟩ gw10 vw10
        replace lz := lz.past gw10 hbz
        clear hL
        have hL := hLq
        clear hLq
        refine s_move rfl rfl rfl rfl ?_
        refine s_extract rfl rfl rfl rfl rfl ?_
        refine s_extract rfl rfl rfl rfl rfl ?_
        refine s_assign rfl rfl rfl rfl ?_
        refine s_assign rfl rfl rfl rfl ?_
        refine vOrd_nil ?_
        refine Wp.seq ?_
        refine Wp.region [0, 1, 2, 3, 4, 5, 6, 7, 8] (by kernel_rfl) (by kernel_rfl) ?_
        refine s_move rfl rfl rfl rfl ?_
        refine s_move rfl rfl rfl rfl ?_
        refine a_add (-9223372036854775808) 9223372036854775807 (by decide) rfl rfl rfl rfl rfl (by omega) (by omega) ?_
        refine s_callH 1007 rfl rfl rfl (by kernel_rfl) rfl rfl (fun vr => (offset_any hb hL ⟨by omega, by omega⟩ hcut2)) ?_
        rintro v cs11 w11 ⟨rfl, R11, _, hLq⟩ gw11 vw11
        replace lz := lz.past gw11 hbz
        clear hL
        have hL := hLq
        clear hLq
        refine s_move rfl rfl rfl rfl ?_
        refine s_extract rfl rfl rfl rfl rfl ?_
        refine s_extract rfl rfl rfl rfl rfl ?_
        refine s_assign rfl rfl rfl rfl ?_
        refine s_assign rfl rfl rfl rfl ?_
        refine vOrd_nil ?_
        refine Wp.seq ?_
        refine Wp.region [0, 1, 2, 3, 4, 5, 6, 7] (by kernel_rfl) (by kernel_rfl) ?_
        refine s_move rfl rfl rfl rfl ?_
        refine s_move rfl rfl rfl rfl ?_
        refine s_callH 1007 rfl rfl rfl (by kernel_rfl) rfl rfl (fun vr => (length_some hb hL ⟨by omega, by omega⟩ hcut hK)) ?_
        rintro v cs12 w12 ⟨rfl, R12, _, hLq⟩ gw12 vw12
        replace lz := lz.past gw12 hbz
        clear hL
        have hL := hLq
        clear hLq
        refine s_move rfl rfl rfl rfl ?_
        refine s_extract rfl rfl rfl rfl rfl ?_
        refine s_extract rfl rfl rfl rfl rfl ?_
        refine s_assign rfl rfl rfl rfl ?_
        refine s_assign rfl rfl rfl rfl ?_
        refine vOrd_nil ?_
        refine Wp.seq ?_
        refine Wp.region [0, 1, 2, 3, 4, 5, 6, 7, 8, 9, 10, 11, 12, 13, 14, 15, 16, 17] (by kernel_rfl) (by kernel_rfl) ?_
        refine s_callT rfl rfl rfl (by kernel_rfl) rfl (lpanswers_any) ?_
        rintro v w13 rfl lw13
        replace lz := lz.trans lw13
        try replace hL := hL.later lw13
        refine s_move rfl rfl rfl rfl ?_
        refine s_move rfl rfl rfl rfl ?_
        refine s_move rfl rfl rfl rfl ?_
        refine a_add (-9223372036854775808) 9223372036854775807 (by decide) rfl rfl rfl rfl rfl (by omega) (by omega) ?_
        refine s_move rfl rfl rfl rfl ?_
        refine a_sub (-9223372036854775808) 9223372036854775807 (by decide) rfl rfl rfl rfl rfl (by omega) (by omega) ?_
        refine t_eql rfl rfl rfl rfl rfl (by omega) ?_
        refine s_pick rfl rfl rfl rfl rfl ?_
        refine s_move rfl rfl rfl rfl ?_
        refine s_move rfl rfl rfl rfl ?_
        refine t_geq rfl rfl rfl rfl rfl (by omega) ?_
        refine s_pick rfl rfl rfl rfl rfl ?_
        refine s_move rfl rfl rfl rfl ?_
        refine s_move rfl rfl rfl rfl ?_
        refine t_leq rfl rfl rfl rfl rfl (by omega) ?_
        refine s_pick rfl rfl rfl rfl rfl ?_
        refine s_assign rfl rfl rfl rfl ?_
        refine vOrd_nil ?_
        refine Wp.ret ⟨.inr rfl, fun lW => ⟨_, res_tmp (P := Try.prog) rfl rfl, _, rfl, ?_, lW⟩⟩
        clear lW
        rfl

end Go.Proofs.Ytgpnapeobkiekaa
