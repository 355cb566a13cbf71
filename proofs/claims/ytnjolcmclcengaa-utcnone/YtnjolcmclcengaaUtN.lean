/-
  Labels of UTC: the walks of the laws UtcBack, UtcSeconds and UtcNone of layer 13.
-/
import Derived.Test.YtnjolcmclcengaaUtL
namespace Go.Proofs.Ytnjolcmclcengaa
open Go.RowKit
set_option maxRecDepth 100000

theorem law_utnone {d s a nh nl z : Int} (hz : WideIs nh nl z) {w : World} : Calls Try.prog 5 #[.agg #[.int .i64 d, .int .i64 s, .int .i64 a], .agg #[.int .i64 nh, .int .u64 nl]] w fun e w' => ∃ r, e = .returned r ∧ r = .bool true ∧ Below w.heap.size w w' := by
  refine calls_Wp (args := [_, _]) (n := 43) Try.func5 rfl rfl (by simp) ?_
  refine Wp.seq ?_
  refine Wp.region [0, 1, 2] (by kernel_rfl) (by kernel_rfl) ?_
  refine s_box rfl rfl rfl rfl rfl rfl (fun bk1 w1 kb1 lw1 => ?_)
  refine s_box rfl rfl rfl rfl rfl rfl (fun bk2 w2 kb2 lw2 => ?_)
  refine s_assign rfl rfl rfl rfl ?_
  refine vOrd_nil ?_
  refine Wp.seq ?_
  refine Wp.region [0, 1, 2, 3, 4, 5, 6, 7] (by kernel_rfl) (by kernel_rfl) ?_
  refine s_load rfl rfl rfl rfl rfl rfl rfl ?_
  refine s_callT rfl rfl rfl (by kernel_rfl) rfl (utai_nil) ?_
  rintro v w3 rfl lw3
  refine s_move rfl rfl rfl rfl ?_
  refine s_extract rfl rfl rfl rfl rfl ?_
  refine s_extract rfl rfl rfl rfl rfl ?_
  refine s_alloc rfl rfl rfl rfl rfl (fun bk4 w4 kb4 lw4 => ?_)
  refine s_store rfl rfl rfl rfl rfl rfl rfl (fun w5 sw5 vw5 => ?_)
  refine s_assign rfl rfl rfl rfl ?_
  refine vOrd_nil ?_
  refine Wp.seq ?_
  refine Wp.region [0, 1, 2, 3, 4, 5, 6, 7] (by kernel_rfl) (by kernel_rfl) ?_
  refine s_load rfl rfl rfl rfl rfl rfl rfl ?_
  refine s_callT rfl rfl rfl (by kernel_rfl) rfl (ulabel_nil ⟨_, _, rfl, hz⟩) ?_
  rintro v w6 rfl lw6
  refine s_move rfl rfl rfl rfl ?_
  refine s_extract rfl rfl rfl rfl rfl ?_
  refine s_extract rfl rfl rfl rfl rfl ?_
  refine s_alloc rfl rfl rfl rfl rfl (fun bk7 w7 kb7 lw7 => ?_)
  refine s_store rfl rfl rfl rfl rfl rfl rfl (fun w8 sw8 vw8 => ?_)
  refine s_assign rfl rfl rfl rfl ?_
  refine vOrd_nil ?_
  refine Wp.seq ?_
  refine Wp.region [0, 1, 2, 3, 4, 5, 6, 7, 8, 9, 10, 11, 12, 13, 14, 15, 16, 17, 18, 19, 20, 21, 22, 23, 24] (by kernel_rfl) (by kernel_rfl) ?_
  refine s_callT rfl rfl rfl (by kernel_rfl) rfl (utanswers_any) ?_
  rintro v w9 rfl lw9
  refine s_move rfl rfl rfl rfl ?_
  refine s_move rfl rfl rfl rfl ?_
  refine t_eql rfl rfl rfl rfl rfl (by omega) ?_
  refine s_pick rfl rfl rfl rfl rfl ?_
  refine s_move rfl rfl rfl rfl ?_
  refine s_load rfl rfl rfl rfl rfl rfl rfl ?_
  refine s_build rfl rfl rfl rfl rfl (by kernel_rfl) ?_
  refine s_eqv (c := true) rfl rfl rfl rfl rfl (fun _ => by kernel_rfl) (fun w => by rw [run_eql_wide, eqW_same (show WideIs 0 0 0 by unfold WideIs; omega) (show WideIs 0 0 0 by unfold WideIs; omega)]) ?_
  refine s_pick rfl rfl rfl rfl rfl ?_
  refine s_move rfl rfl rfl rfl ?_
  refine s_move rfl rfl rfl rfl ?_
  refine t_eql rfl rfl rfl rfl rfl (by omega) ?_
  refine s_pick rfl rfl rfl rfl rfl ?_
  refine s_move rfl rfl rfl rfl ?_
  refine s_load rfl rfl rfl rfl rfl rfl rfl ?_
  refine s_build rfl rfl rfl rfl rfl (by kernel_rfl) ?_
  refine s_eqv (c := true) rfl rfl rfl rfl rfl (fun _ => by kernel_rfl) (fun w => by rw [run_eql_label, eqD_same]) ?_
  refine s_pick rfl rfl rfl rfl rfl ?_
  refine s_move rfl rfl rfl rfl ?_
  refine s_load rfl rfl rfl rfl rfl rfl rfl ?_
  refine s_callT rfl rfl rfl (by kernel_rfl) rfl (uexists_nil) ?_
  rintro v w12 rfl lw12
  refine s_not rfl rfl rfl rfl ?_
  refine s_pick rfl rfl rfl rfl rfl ?_
  refine s_assign rfl rfl rfl rfl ?_
  refine vOrd_nil ?_
  refine Wp.ret ⟨.inr rfl, fun lW => ⟨_, res_tmp (P := Try.prog) rfl rfl, _, rfl, ?_, lW⟩⟩
  clear lW
  rfl
set_option maxHeartbeats 2000000 in
theorem law_utback (t : Tb) (hu : I64 t.u) (he : I64 t.e) {v : Value} {w : World} (hv : EntAt w v t.es) {d s a : Int} (hd : I64 d) (hs : I64 s) (ha : I64 a) {nh nl z : Int} (hz : WideIs nh nl z) : Calls Try.prog 3 #[tbV t v, .agg #[.int .i64 d, .int .i64 s, .int .i64 a], .agg #[.int .i64 nh, .int .u64 nl]] w fun e w' => ∃ r, e = .returned r ∧ r = .bool true ∧ Below w.heap.size w w' := by
  obtain ⟨va, vc, rfl⟩ := hv.formL
  have lz := Later.refl w
  cases hb : canBe t with
  | false =>
    refine calls_Wp (args := [_, _, _]) (n := 80) Try.func3 rfl rfl (by simp) ?_
    refine Wp.seq ?_
    refine Wp.region [0, 1, 2, 3] (by kernel_rfl) (by kernel_rfl) ?_
    refine s_box rfl rfl rfl rfl rfl rfl (fun bs3 ws3 ks3 ls3 => ?_)
    have kz3 := Nat.le_trans lz.size ks3
    try have nL3 := hL.ne ks3
    replace lz := lz.trans ls3
    try replace hL := hL.later ls3
    refine s_box rfl rfl rfl rfl rfl rfl (fun bs4 ws4 ks4 ls4 => ?_)
    have kz4 := Nat.le_trans lz.size ks4
    try have nL4 := hL.ne ks4
    replace lz := lz.trans ls4
    try replace hL := hL.later ls4
    refine s_box rfl rfl rfl rfl rfl rfl (fun bs5 ws5 ks5 ls5 => ?_)
    have kz5 := Nat.le_trans lz.size ks5
    try have nL5 := hL.ne ks5
    replace lz := lz.trans ls5
    try replace hL := hL.later ls5
    refine s_assign rfl rfl rfl rfl ?_
    refine vOrd_nil ?_
    refine Wp.seq ?_
    refine Wp.var (h := 3) rfl (fun v3 => ?_)
    have q3 := v3.lt
    refine Wp.var (h := 4) rfl (fun v4 => ?_)
    have q4 := v4.lt
    refine Wp.var (h := 5) rfl (fun v5 => ?_)
    have q5 := v5.lt
    have hz1 := lz.size
    refine Wp.region [0, 1, 2, 3, 4, 5, 6] (by kernel_rfl) (by kernel_rfl) ?_
    refine s_load rfl rfl rfl rfl rfl rfl rfl ?_
    refine s_callT rfl rfl rfl (by kernel_rfl) rfl (new_no t hb hu he (hv.later lz)) ?_
    rintro v w16 rfl lw16
    replace lz := lz.trans lw16
    try replace hL := hL.later lw16
    refine s_move rfl rfl rfl rfl ?_
    refine s_extract rfl rfl rfl rfl rfl ?_
    refine s_extract rfl rfl rfl rfl rfl ?_
    refine s_assign rfl rfl rfl rfl ?_
    refine s_assign rfl rfl rfl rfl ?_
    refine vOrd_nil ?_
    refine Wp.seq ?_
    refine Wp.seq ?_
    refine Wp.region [0, 1] (by kernel_rfl) (by kernel_rfl) ?_
    refine s_move rfl rfl rfl rfl ?_
    refine t_neq rfl rfl rfl rfl rfl (by omega) ?_
    refine vOrd_nil ?_
    refine Wp.condT rfl rfl ?_
    refine Wp.seq ?_
    refine Wp.region [0, 1] (by kernel_rfl) (by kernel_rfl) ?_
    refine s_callT rfl rfl rfl (by kernel_rfl) rfl (utanswers_any) ?_
    rintro v w17 rfl lw17
    replace lz := lz.trans lw17
    try replace hL := hL.later lw17
    refine s_assign rfl rfl rfl rfl ?_
    refine vOrd_nil ?_
    refine Wp.ret ⟨.inr rfl, fun lW => ⟨_, res_tmp (P := Try.prog) rfl rfl, _, rfl, ?_, lW⟩⟩
    clear lW
    rfl
  | true =>
    have hpos := (can_num hb).2.2
    have hn := can_len hb
    obtain ⟨K, hcut⟩ := cut_day hb d
    obtain ⟨K2, hcut2⟩ := cut_at hb (z / 1000000000000000000)
    have hli := lb_in t.es K2 z
    obtain ⟨E, hE⟩ : ∃ E, whyE t.es K d s a = E := ⟨_, rfl⟩
    obtain ⟨F, hF⟩ : ∃ F, lbE t.es K2 z = F := ⟨_, rfl⟩
    obtain ⟨Z, hZ⟩ : ∃ Z, taiZ t.es K d s a = Z := ⟨_, rfl⟩
    rw [hF] at hli
    by_cases h0 : F = 0
    · obtain ⟨bk1f, bk2f, bk3f⟩ := tai_again hb hcut2 (hF.trans h0)
      have hlu := lb_val (hF.trans h0)
      obtain ⟨hU, hB, _, _⟩ := why_zero bk2f
      have hU' := isU_iff.1 hU
      have hB' := inB_iff.1 hB
      obtain ⟨x, hx⟩ : ∃ x, lbD t.es K2 z = x := ⟨_, rfl⟩
      obtain ⟨y, hy⟩ : ∃ y, lbS t.es K2 z = y := ⟨_, rfl⟩
      obtain ⟨q, hq⟩ : ∃ q, z % 1000000000000000000 = q := ⟨_, rfl⟩
      rw [hx, hy, hq] at bk2f bk3f hlu
      rw [hx] at bk1f hB'
      rw [hy, hq] at hU'
      refine calls_Wp (args := [_, _, _]) (n := 80) Try.func3 rfl rfl (by simp) ?_
      refine Wp.seq ?_
      refine Wp.region [0, 1, 2, 3] (by kernel_rfl) (by kernel_rfl) ?_
      refine s_box rfl rfl rfl rfl rfl rfl (fun bs3 ws3 ks3 ls3 => ?_)
      have kz3 := Nat.le_trans lz.size ks3
      try have nL3 := hL.ne ks3
      replace lz := lz.trans ls3
      try replace hL := hL.later ls3
      refine s_box rfl rfl rfl rfl rfl rfl (fun bs4 ws4 ks4 ls4 => ?_)
      have kz4 := Nat.le_trans lz.size ks4
      try have nL4 := hL.ne ks4
      replace lz := lz.trans ls4
      try replace hL := hL.later ls4
      refine s_box rfl rfl rfl rfl rfl rfl (fun bs5 ws5 ks5 ls5 => ?_)
      have kz5 := Nat.le_trans lz.size ks5
      try have nL5 := hL.ne ks5
      replace lz := lz.trans ls5
      try replace hL := hL.later ls5
      refine s_assign rfl rfl rfl rfl ?_
      refine vOrd_nil ?_
      refine Wp.seq ?_
      refine Wp.var (h := 3) rfl (fun v3 => ?_)
      have q3 := v3.lt
      refine Wp.var (h := 4) rfl (fun v4 => ?_)
      have q4 := v4.lt
      refine Wp.var (h := 5) rfl (fun v5 => ?_)
      have q5 := v5.lt
      have hz1 := lz.size
      refine Wp.region [0, 1, 2, 3, 4, 5, 6] (by kernel_rfl) (by kernel_rfl) ?_
      refine s_load rfl rfl rfl rfl rfl rfl rfl ?_
      refine s_callT rfl rfl rfl (by kernel_rfl) rfl (new_yes t hb hu he (hv.later lz)) ?_
      rintro v w16 ⟨b1, c1, rfl, hc1, hb1, hL⟩ lw16
      try replace lz := lz.trans lw16
      try replace hL := hL.later lw16
      try replace hvl := hvl.later lw16
      refine s_move rfl rfl rfl rfl ?_
      refine s_extract rfl rfl rfl rfl rfl ?_
      refine s_extract rfl rfl rfl rfl rfl ?_
      refine s_assign rfl rfl rfl rfl ?_
      refine s_assign rfl rfl rfl rfl ?_
      refine vOrd_nil ?_
      refine Wp.seq ?_
      refine Wp.seq ?_
      refine Wp.region [0, 1] (by kernel_rfl) (by kernel_rfl) ?_
      refine s_move rfl rfl rfl rfl ?_
      refine f_neq rfl rfl rfl rfl rfl (by omega) ?_
      refine vOrd_nil ?_
      refine Wp.condF rfl rfl ?_
      refine Wp.skip ?_
      refine Wp.seq ?_
      refine Wp.seq ?_
      have hbz : w.heap.size ≤ b1 := by omega
      obtain ⟨cs1, hvb⟩ := hL.var
      refine Wp.adopt 1007 hvb hbz rfl (show AllMem (fun d => d ≠ b1) _ from (by repeat (first | exact AllMem.args | exact AllMem.of (by simp only [AllL, and_true]; omega) | refine AllMem.put ?_ | refine AllMem.new ?_ (by omega) | refine AllMem.set ?_ (by omega)))) ?_
      refine Wp.region [0, 1, 2, 3, 4, 5, 6, 7, 8] (by kernel_rfl) (by kernel_rfl) ?_
      refine s_move rfl rfl rfl rfl ?_
      refine s_load rfl rfl rfl rfl rfl rfl rfl ?_
      refine s_callH 1007 rfl rfl rfl (by kernel_rfl) rfl rfl (fun vr => (utai_any hb hL ⟨by omega, by omega⟩ hd hs ha hcut)) ?_
      rintro v cs17 w17 ⟨⟨nu, rfl, mh, ml, rfl, hm⟩, R17, k17, _, hk17, hLq⟩ gw17 vw17
      replace lz := lz.past gw17 hbz
      clear hL
      have hL := hLq
      clear hLq
      rw [hE]
      rw [hZ] at hm
      refine s_move rfl rfl rfl rfl ?_
      refine s_extract rfl rfl rfl rfl rfl ?_
      refine s_extract rfl rfl rfl rfl rfl ?_
      refine s_alloc rfl rfl rfl rfl rfl (fun bk18 w18 kb18 lw18 => ?_)
      have kz9 := Nat.le_trans lz.size kb18
      try have nL9 := hL.ne kb18
      replace lz := lz.trans lw18
      try replace hL := hL.later lw18
      refine s_store rfl rfl rfl rfl rfl rfl rfl (fun w19 sw19 vw19 => ?_)
      try replace lz := lz.sto sw19 kz9
      try replace hL := hL.sto sw19 nL9
      refine s_assign rfl rfl rfl rfl ?_
      refine vOrd_nil ?_
      refine Wp.seq ?_
      refine Wp.region [0, 1] (by kernel_rfl) (by kernel_rfl) ?_
      refine s_move rfl rfl rfl rfl ?_
      refine p_eql rfl rfl rfl rfl rfl (fun h32 => ?_) (fun h32 => ?_)
      · obtain rfl : E = 0 := by omega
        have hc4 := cut_of_tai hb hcut hE
        obtain ⟨l1, l2⟩ := lab_again hb hcut hE
        rw [hZ] at hc4 l1 l2
        refine vOrd_nil ?_
        refine Wp.condT rfl rfl ?_
        refine Wp.seq ?_
        refine Wp.region [0, 1, 2, 3, 4, 5, 6, 7, 8] (by kernel_rfl) (by kernel_rfl) ?_
        refine s_move rfl rfl rfl rfl ?_
        refine s_load rfl rfl rfl rfl rfl rfl rfl ?_
        refine s_callH 1007 rfl rfl rfl (by kernel_rfl) rfl rfl (fun vr => (ulabel_any hb hL ⟨by omega, by omega⟩ ⟨_, _, rfl, hm⟩ hc4)) ?_
        rintro v cs20 w20 ⟨rfl, R20, k20, _, hk20, hLq⟩ gw20 vw20
        replace lz := lz.past gw20 hbz
        clear hL
        have hL := hLq
        clear hLq
        rw [l1, l2]
        refine s_move rfl rfl rfl rfl ?_
        refine s_extract rfl rfl rfl rfl rfl ?_
        refine s_extract rfl rfl rfl rfl rfl ?_
        refine s_alloc rfl rfl rfl rfl rfl (fun bk21 w21 kb21 lw21 => ?_)
        have kz11 := Nat.le_trans lz.size kb21
        try have nL11 := hL.ne kb21
        replace lz := lz.trans lw21
        try replace hL := hL.later lw21
        refine s_store rfl rfl rfl rfl rfl rfl rfl (fun w22 sw22 vw22 => ?_)
        try replace lz := lz.sto sw22 kz11
        try replace hL := hL.sto sw22 nL11
        refine s_assign rfl rfl rfl rfl ?_
        refine vOrd_nil ?_
        refine Wp.seq ?_
        refine Wp.region [0, 1, 2, 3, 4, 5, 6] (by kernel_rfl) (by kernel_rfl) ?_
        refine s_move rfl rfl rfl rfl ?_
        refine f_neq rfl rfl rfl rfl rfl (by omega) ?_
        refine s_move rfl rfl rfl rfl ?_
        refine s_load rfl rfl rfl rfl rfl rfl rfl ?_
        refine s_load rfl rfl rfl rfl rfl rfl rfl ?_
        refine s_eqv (c := false) rfl rfl rfl rfl rfl (fun _ => by kernel_rfl) (fun w => by rw [run_neq_label, eqD_same]; rfl) ?_
        refine s_pick rfl rfl rfl rfl rfl ?_
        refine vOrd_nil ?_
        refine Wp.condF rfl rfl ?_
        refine Wp.skip ?_
        refine Wp.seq ?_
        refine Wp.region [0, 1, 2, 3, 4, 5, 6, 7, 8] (by kernel_rfl) (by kernel_rfl) ?_
        refine s_move rfl rfl rfl rfl ?_
        refine s_load rfl rfl rfl rfl rfl rfl rfl ?_
        refine s_callH 1007 rfl rfl rfl (by kernel_rfl) rfl rfl (fun vr => (ulabel_any hb hL ⟨by omega, by omega⟩ ⟨_, _, rfl, hz⟩ hcut2)) ?_
        rintro v cs24 w24 ⟨rfl, R24, k24, _, hk24, hLq⟩ gw24 vw24
        replace lz := lz.past gw24 hbz
        clear hL
        have hL := hLq
        clear hLq
        rw [hF]
        rw [hlu]
        refine s_move rfl rfl rfl rfl ?_
        refine s_extract rfl rfl rfl rfl rfl ?_
        refine s_extract rfl rfl rfl rfl rfl ?_
        refine s_alloc rfl rfl rfl rfl rfl (fun bk25 w25 kb25 lw25 => ?_)
        have kz13 := Nat.le_trans lz.size kb25
        try have nL13 := hL.ne kb25
        replace lz := lz.trans lw25
        try replace hL := hL.later lw25
        refine s_store rfl rfl rfl rfl rfl rfl rfl (fun w26 sw26 vw26 => ?_)
        try replace lz := lz.sto sw26 kz13
        try replace hL := hL.sto sw26 nL13
        refine s_assign rfl rfl rfl rfl ?_
        refine vOrd_nil ?_
        refine Wp.seq ?_
        refine Wp.seq ?_
        refine Wp.region [0, 1] (by kernel_rfl) (by kernel_rfl) ?_
        refine s_move rfl rfl rfl rfl ?_
        refine f_neq rfl rfl rfl rfl rfl (by omega) ?_
        refine vOrd_nil ?_
        refine Wp.condF rfl rfl ?_
        refine Wp.skip ?_
        refine Wp.seq ?_
        refine Wp.region [0, 1, 2, 3, 4, 5, 6, 7, 8] (by kernel_rfl) (by kernel_rfl) ?_
        refine s_move rfl rfl rfl rfl ?_
        refine s_load rfl rfl rfl rfl rfl rfl rfl ?_
        refine s_callH 1007 rfl rfl rfl (by kernel_rfl) rfl rfl (fun vr => (utai_any hb hL ⟨by omega, by omega⟩ ⟨by omega, by omega⟩ ⟨by omega, by omega⟩ ⟨by omega, by omega⟩ bk1f)) ?_
        rintro v cs27 w27 ⟨⟨ou, rfl, oh, ol, rfl, ho⟩, R27, k27, _, hk27, hLq⟩ gw27 vw27
        replace lz := lz.past gw27 hbz
        clear hL
        have hL := hLq
        clear hLq
        rw [bk2f]
        rw [bk3f] at ho
        refine s_move rfl rfl rfl rfl ?_
        refine s_extract rfl rfl rfl rfl rfl ?_
        refine s_extract rfl rfl rfl rfl rfl ?_
        refine s_alloc rfl rfl rfl rfl rfl (fun bk28 w28 kb28 lw28 => ?_)
        have kz15 := Nat.le_trans lz.size kb28
        try have nL15 := hL.ne kb28
        replace lz := lz.trans lw28
        try replace hL := hL.later lw28
        refine s_store rfl rfl rfl rfl rfl rfl rfl (fun w29 sw29 vw29 => ?_)
        try replace lz := lz.sto sw29 kz15
        try replace hL := hL.sto sw29 nL15
        refine s_assign rfl rfl rfl rfl ?_
        refine vOrd_nil ?_
        refine Wp.seq ?_
        refine Wp.region [0, 1, 2, 3, 4, 5, 6, 7, 8, 9, 10, 11, 12, 13, 14, 15] (by kernel_rfl) (by kernel_rfl) ?_
        refine s_callT rfl rfl rfl (by kernel_rfl) rfl (utanswers_any) ?_
        rintro v w30 rfl lw30
        try replace lz := lz.trans lw30
        try replace hL := hL.later lw30
        try replace hvl := hvl.later lw30
        refine s_move rfl rfl rfl rfl ?_
        refine s_move rfl rfl rfl rfl ?_
        refine t_eql rfl rfl rfl rfl rfl (by omega) ?_
        refine s_pick rfl rfl rfl rfl rfl ?_
        refine s_move rfl rfl rfl rfl ?_
        refine s_load rfl rfl rfl rfl rfl rfl rfl ?_
        refine s_load rfl rfl rfl rfl rfl rfl rfl ?_
        refine s_eqv (c := true) rfl rfl rfl rfl rfl (fun _ => by kernel_rfl) (fun w => by rw [run_eql_wide, eqW_same ho hz]) ?_
        refine s_pick rfl rfl rfl rfl rfl ?_
        refine s_move rfl rfl rfl rfl ?_
        refine s_move rfl rfl rfl rfl ?_
        refine s_load rfl rfl rfl rfl rfl rfl rfl ?_
        refine s_callH 1007 rfl rfl rfl (by kernel_rfl) rfl rfl (fun vr => (uexists_any hb hL ⟨by omega, by omega⟩ ⟨by omega, by omega⟩ ⟨by omega, by omega⟩ ⟨by omega, by omega⟩ bk1f)) ?_
        rintro v cs32 w32 ⟨rfl, R32, k32, _, hk32, hLq⟩ gw32 vw32
        replace lz := lz.past gw32 hbz
        clear hL
        have hL := hLq
        clear hLq
        rw [decide_eq_true bk2f]
        refine s_pick rfl rfl rfl rfl rfl ?_
        refine s_assign rfl rfl rfl rfl ?_
        refine vOrd_nil ?_
        refine Wp.ret ⟨.inr rfl, fun lW => ⟨_, res_tmp (P := Try.prog) rfl rfl, _, rfl, ?_, lW⟩⟩
        clear lW
        rfl
      · refine vOrd_nil ?_
        refine Wp.condF rfl rfl ?_
        refine Wp.skip ?_
        refine Wp.seq ?_
        refine Wp.region [0, 1, 2, 3, 4, 5, 6, 7, 8] (by kernel_rfl) (by kernel_rfl) ?_
        refine s_move rfl rfl rfl rfl ?_
        refine s_load rfl rfl rfl rfl rfl rfl rfl ?_
        refine s_callH 1007 rfl rfl rfl (by kernel_rfl) rfl rfl (fun vr => (ulabel_any hb hL ⟨by omega, by omega⟩ ⟨_, _, rfl, hz⟩ hcut2)) ?_
        rintro v cs33 w33 ⟨rfl, R33, k33, _, hk33, hLq⟩ gw33 vw33
        replace lz := lz.past gw33 hbz
        clear hL
        have hL := hLq
        clear hLq
        rw [hF]
        rw [hlu]
        refine s_move rfl rfl rfl rfl ?_
        refine s_extract rfl rfl rfl rfl rfl ?_
        refine s_extract rfl rfl rfl rfl rfl ?_
        refine s_alloc rfl rfl rfl rfl rfl (fun bk34 w34 kb34 lw34 => ?_)
        have kz13 := Nat.le_trans lz.size kb34
        try have nL13 := hL.ne kb34
        replace lz := lz.trans lw34
        try replace hL := hL.later lw34
        refine s_store rfl rfl rfl rfl rfl rfl rfl (fun w35 sw35 vw35 => ?_)
        try replace lz := lz.sto sw35 kz13
        try replace hL := hL.sto sw35 nL13
        refine s_assign rfl rfl rfl rfl ?_
        refine vOrd_nil ?_
        refine Wp.seq ?_
        refine Wp.seq ?_
        refine Wp.region [0, 1] (by kernel_rfl) (by kernel_rfl) ?_
        refine s_move rfl rfl rfl rfl ?_
        refine f_neq rfl rfl rfl rfl rfl (by omega) ?_
        refine vOrd_nil ?_
        refine Wp.condF rfl rfl ?_
        refine Wp.skip ?_
        refine Wp.seq ?_
        refine Wp.region [0, 1, 2, 3, 4, 5, 6, 7, 8] (by kernel_rfl) (by kernel_rfl) ?_
        refine s_move rfl rfl rfl rfl ?_
        refine s_load rfl rfl rfl rfl rfl rfl rfl ?_
        refine s_callH 1007 rfl rfl rfl (by kernel_rfl) rfl rfl (fun vr => (utai_any hb hL ⟨by omega, by omega⟩ ⟨by omega, by omega⟩ ⟨by omega, by omega⟩ ⟨by omega, by omega⟩ bk1f)) ?_
        rintro v cs36 w36 ⟨⟨ou, rfl, oh, ol, rfl, ho⟩, R36, k36, _, hk36, hLq⟩ gw36 vw36
        replace lz := lz.past gw36 hbz
        clear hL
        have hL := hLq
        clear hLq
        rw [bk2f]
        rw [bk3f] at ho
        refine s_move rfl rfl rfl rfl ?_
        refine s_extract rfl rfl rfl rfl rfl ?_
        refine s_extract rfl rfl rfl rfl rfl ?_
        refine s_alloc rfl rfl rfl rfl rfl (fun bk37 w37 kb37 lw37 => ?_)
        have kz15 := Nat.le_trans lz.size kb37
        try have nL15 := hL.ne kb37
        replace lz := lz.trans lw37
        try replace hL := hL.later lw37
        refine s_store rfl rfl rfl rfl rfl rfl rfl (fun w38 sw38 vw38 => ?_)
        try replace lz := lz.sto sw38 kz15
        try replace hL := hL.sto sw38 nL15
        refine s_assign rfl rfl rfl rfl ?_
        refine vOrd_nil ?_
        refine Wp.seq ?_
        refine Wp.region [0, 1, 2, 3, 4, 5, 6, 7, 8, 9, 10, 11, 12, 13, 14, 15] (by kernel_rfl) (by kernel_rfl) ?_
        refine s_callT rfl rfl rfl (by kernel_rfl) rfl (utanswers_any) ?_
        rintro v w39 rfl lw39
        try replace lz := lz.trans lw39
        try replace hL := hL.later lw39
        try replace hvl := hvl.later lw39
        refine s_move rfl rfl rfl rfl ?_
        refine s_move rfl rfl rfl rfl ?_
        refine t_eql rfl rfl rfl rfl rfl (by omega) ?_
        refine s_pick rfl rfl rfl rfl rfl ?_
        refine s_move rfl rfl rfl rfl ?_
        refine s_load rfl rfl rfl rfl rfl rfl rfl ?_
        refine s_load rfl rfl rfl rfl rfl rfl rfl ?_
        refine s_eqv (c := true) rfl rfl rfl rfl rfl (fun _ => by kernel_rfl) (fun w => by rw [run_eql_wide, eqW_same ho hz]) ?_
        refine s_pick rfl rfl rfl rfl rfl ?_
        refine s_move rfl rfl rfl rfl ?_
        refine s_move rfl rfl rfl rfl ?_
        refine s_load rfl rfl rfl rfl rfl rfl rfl ?_
        refine s_callH 1007 rfl rfl rfl (by kernel_rfl) rfl rfl (fun vr => (uexists_any hb hL ⟨by omega, by omega⟩ ⟨by omega, by omega⟩ ⟨by omega, by omega⟩ ⟨by omega, by omega⟩ bk1f)) ?_
        rintro v cs41 w41 ⟨rfl, R41, k41, _, hk41, hLq⟩ gw41 vw41
        replace lz := lz.past gw41 hbz
        clear hL
        have hL := hLq
        clear hLq
        rw [decide_eq_true bk2f]
        refine s_pick rfl rfl rfl rfl rfl ?_
        refine s_assign rfl rfl rfl rfl ?_
        refine vOrd_nil ?_
        refine Wp.ret ⟨.inr rfl, fun lW => ⟨_, res_tmp (P := Try.prog) rfl rfl, _, rfl, ?_, lW⟩⟩
        clear lW
        rfl
    · obtain ⟨x, y, q, hlu⟩ : ∃ x y q, lbU t.es K2 z = .agg #[.int .i64 x, .int .i64 y, .int .i64 q] := ⟨_, _, _, rfl⟩
      refine calls_Wp (args := [_, _, _]) (n := 80) Try.func3 rfl rfl (by simp) ?_
      refine Wp.seq ?_
      refine Wp.region [0, 1, 2, 3] (by kernel_rfl) (by kernel_rfl) ?_
      refine s_box rfl rfl rfl rfl rfl rfl (fun bs3 ws3 ks3 ls3 => ?_)
      have kz3 := Nat.le_trans lz.size ks3
      try have nL3 := hL.ne ks3
      replace lz := lz.trans ls3
      try replace hL := hL.later ls3
      refine s_box rfl rfl rfl rfl rfl rfl (fun bs4 ws4 ks4 ls4 => ?_)
      have kz4 := Nat.le_trans lz.size ks4
      try have nL4 := hL.ne ks4
      replace lz := lz.trans ls4
      try replace hL := hL.later ls4
      refine s_box rfl rfl rfl rfl rfl rfl (fun bs5 ws5 ks5 ls5 => ?_)
      have kz5 := Nat.le_trans lz.size ks5
      try have nL5 := hL.ne ks5
      replace lz := lz.trans ls5
      try replace hL := hL.later ls5
      refine s_assign rfl rfl rfl rfl ?_
      refine vOrd_nil ?_
      refine Wp.seq ?_
      refine Wp.var (h := 3) rfl (fun v3 => ?_)
      have q3 := v3.lt
      refine Wp.var (h := 4) rfl (fun v4 => ?_)
      have q4 := v4.lt
      refine Wp.var (h := 5) rfl (fun v5 => ?_)
      have q5 := v5.lt
      have hz1 := lz.size
      refine Wp.region [0, 1, 2, 3, 4, 5, 6] (by kernel_rfl) (by kernel_rfl) ?_
      refine s_load rfl rfl rfl rfl rfl rfl rfl ?_
      refine s_callT rfl rfl rfl (by kernel_rfl) rfl (new_yes t hb hu he (hv.later lz)) ?_
      rintro v w16 ⟨b1, c1, rfl, hc1, hb1, hL⟩ lw16
      try replace lz := lz.trans lw16
      try replace hL := hL.later lw16
      try replace hvl := hvl.later lw16
      refine s_move rfl rfl rfl rfl ?_
      refine s_extract rfl rfl rfl rfl rfl ?_
      refine s_extract rfl rfl rfl rfl rfl ?_
      refine s_assign rfl rfl rfl rfl ?_
      refine s_assign rfl rfl rfl rfl ?_
      refine vOrd_nil ?_
      refine Wp.seq ?_
      refine Wp.seq ?_
      refine Wp.region [0, 1] (by kernel_rfl) (by kernel_rfl) ?_
      refine s_move rfl rfl rfl rfl ?_
      refine f_neq rfl rfl rfl rfl rfl (by omega) ?_
      refine vOrd_nil ?_
      refine Wp.condF rfl rfl ?_
      refine Wp.skip ?_
      refine Wp.seq ?_
      refine Wp.seq ?_
      have hbz : w.heap.size ≤ b1 := by omega
      obtain ⟨cs1, hvb⟩ := hL.var
      refine Wp.adopt 1007 hvb hbz rfl (show AllMem (fun d => d ≠ b1) _ from (by repeat (first | exact AllMem.args | exact AllMem.of (by simp only [AllL, and_true]; omega) | refine AllMem.put ?_ | refine AllMem.new ?_ (by omega) | refine AllMem.set ?_ (by omega)))) ?_
      refine Wp.region [0, 1, 2, 3, 4, 5, 6, 7, 8] (by kernel_rfl) (by kernel_rfl) ?_
      refine s_move rfl rfl rfl rfl ?_
      refine s_load rfl rfl rfl rfl rfl rfl rfl ?_
      refine s_callH 1007 rfl rfl rfl (by kernel_rfl) rfl rfl (fun vr => (utai_any hb hL ⟨by omega, by omega⟩ hd hs ha hcut)) ?_
      rintro v cs17 w17 ⟨⟨nu, rfl, mh, ml, rfl, hm⟩, R17, k17, _, hk17, hLq⟩ gw17 vw17
      replace lz := lz.past gw17 hbz
      clear hL
      have hL := hLq
      clear hLq
      rw [hE]
      rw [hZ] at hm
      refine s_move rfl rfl rfl rfl ?_
      refine s_extract rfl rfl rfl rfl rfl ?_
      refine s_extract rfl rfl rfl rfl rfl ?_
      refine s_alloc rfl rfl rfl rfl rfl (fun bk18 w18 kb18 lw18 => ?_)
      have kz9 := Nat.le_trans lz.size kb18
      try have nL9 := hL.ne kb18
      replace lz := lz.trans lw18
      try replace hL := hL.later lw18
      refine s_store rfl rfl rfl rfl rfl rfl rfl (fun w19 sw19 vw19 => ?_)
      try replace lz := lz.sto sw19 kz9
      try replace hL := hL.sto sw19 nL9
      refine s_assign rfl rfl rfl rfl ?_
      refine vOrd_nil ?_
      refine Wp.seq ?_
      refine Wp.region [0, 1] (by kernel_rfl) (by kernel_rfl) ?_
      refine s_move rfl rfl rfl rfl ?_
      refine p_eql rfl rfl rfl rfl rfl (fun h32 => ?_) (fun h32 => ?_)
      · obtain rfl : E = 0 := by omega
        have hc4 := cut_of_tai hb hcut hE
        obtain ⟨l1, l2⟩ := lab_again hb hcut hE
        rw [hZ] at hc4 l1 l2
        refine vOrd_nil ?_
        refine Wp.condT rfl rfl ?_
        refine Wp.seq ?_
        refine Wp.region [0, 1, 2, 3, 4, 5, 6, 7, 8] (by kernel_rfl) (by kernel_rfl) ?_
        refine s_move rfl rfl rfl rfl ?_
        refine s_load rfl rfl rfl rfl rfl rfl rfl ?_
        refine s_callH 1007 rfl rfl rfl (by kernel_rfl) rfl rfl (fun vr => (ulabel_any hb hL ⟨by omega, by omega⟩ ⟨_, _, rfl, hm⟩ hc4)) ?_
        rintro v cs20 w20 ⟨rfl, R20, k20, _, hk20, hLq⟩ gw20 vw20
        replace lz := lz.past gw20 hbz
        clear hL
        have hL := hLq
        clear hLq
        rw [l1, l2]
        refine s_move rfl rfl rfl rfl ?_
        refine s_extract rfl rfl rfl rfl rfl ?_
        refine s_extract rfl rfl rfl rfl rfl ?_
        refine s_alloc rfl rfl rfl rfl rfl (fun bk21 w21 kb21 lw21 => ?_)
        have kz11 := Nat.le_trans lz.size kb21
        try have nL11 := hL.ne kb21
        replace lz := lz.trans lw21
        try replace hL := hL.later lw21
        refine s_store rfl rfl rfl rfl rfl rfl rfl (fun w22 sw22 vw22 => ?_)
        try replace lz := lz.sto sw22 kz11
        try replace hL := hL.sto sw22 nL11
        refine s_assign rfl rfl rfl rfl ?_
        refine vOrd_nil ?_
        refine Wp.seq ?_
        refine Wp.region [0, 1, 2, 3, 4, 5, 6] (by kernel_rfl) (by kernel_rfl) ?_
        refine s_move rfl rfl rfl rfl ?_
        refine f_neq rfl rfl rfl rfl rfl (by omega) ?_
        refine s_move rfl rfl rfl rfl ?_
        refine s_load rfl rfl rfl rfl rfl rfl rfl ?_
        refine s_load rfl rfl rfl rfl rfl rfl rfl ?_
        refine s_eqv (c := false) rfl rfl rfl rfl rfl (fun _ => by kernel_rfl) (fun w => by rw [run_neq_label, eqD_same]; rfl) ?_
        refine s_pick rfl rfl rfl rfl rfl ?_
        refine vOrd_nil ?_
        refine Wp.condF rfl rfl ?_
        refine Wp.skip ?_
        refine Wp.seq ?_
        refine Wp.region [0, 1, 2, 3, 4, 5, 6, 7, 8] (by kernel_rfl) (by kernel_rfl) ?_
        refine s_move rfl rfl rfl rfl ?_
        refine s_load rfl rfl rfl rfl rfl rfl rfl ?_
        refine s_callH 1007 rfl rfl rfl (by kernel_rfl) rfl rfl (fun vr => (ulabel_any hb hL ⟨by omega, by omega⟩ ⟨_, _, rfl, hz⟩ hcut2)) ?_
        rintro v cs24 w24 ⟨rfl, R24, k24, _, hk24, hLq⟩ gw24 vw24
        replace lz := lz.past gw24 hbz
        clear hL
        have hL := hLq
        clear hLq
        rw [hF]
        rw [hlu]
        refine s_move rfl rfl rfl rfl ?_
        refine s_extract rfl rfl rfl rfl rfl ?_
        refine s_extract rfl rfl rfl rfl rfl ?_
        refine s_alloc rfl rfl rfl rfl rfl (fun bk25 w25 kb25 lw25 => ?_)
        have kz13 := Nat.le_trans lz.size kb25
        try have nL13 := hL.ne kb25
        replace lz := lz.trans lw25
        try replace hL := hL.later lw25
        refine s_store rfl rfl rfl rfl rfl rfl rfl (fun w26 sw26 vw26 => ?_)
        try replace lz := lz.sto sw26 kz13
        try replace hL := hL.sto sw26 nL13
        refine s_assign rfl rfl rfl rfl ?_
        refine vOrd_nil ?_
        refine Wp.seq ?_
        refine Wp.seq ?_
        refine Wp.region [0, 1] (by kernel_rfl) (by kernel_rfl) ?_
        refine s_move rfl rfl rfl rfl ?_
        refine t_neq rfl rfl rfl rfl rfl (by omega) ?_
        refine vOrd_nil ?_
        refine Wp.condT rfl rfl ?_
        refine Wp.seq ?_
        refine Wp.region [0, 1, 2, 3, 4, 5] (by kernel_rfl) (by kernel_rfl) ?_
        refine s_callT rfl rfl rfl (by kernel_rfl) rfl (utanswers_any) ?_
        rintro v w27 rfl lw27
        try replace lz := lz.trans lw27
        try replace hL := hL.later lw27
        try replace hvl := hvl.later lw27
        refine s_move rfl rfl rfl rfl ?_
        refine s_move rfl rfl rfl rfl ?_
        refine t_neq rfl rfl rfl rfl rfl (by omega) ?_
        refine s_pick rfl rfl rfl rfl rfl ?_
        refine s_assign rfl rfl rfl rfl ?_
        refine vOrd_nil ?_
        refine Wp.ret ⟨.inr rfl, fun lW => ⟨_, res_tmp (P := Try.prog) rfl rfl, _, rfl, ?_, lW⟩⟩
        clear lW
        rfl
      · refine vOrd_nil ?_
        refine Wp.condF rfl rfl ?_
        refine Wp.skip ?_
        refine Wp.seq ?_
        refine Wp.region [0, 1, 2, 3, 4, 5, 6, 7, 8] (by kernel_rfl) (by kernel_rfl) ?_
        refine s_move rfl rfl rfl rfl ?_
        refine s_load rfl rfl rfl rfl rfl rfl rfl ?_
        refine s_callH 1007 rfl rfl rfl (by kernel_rfl) rfl rfl (fun vr => (ulabel_any hb hL ⟨by omega, by omega⟩ ⟨_, _, rfl, hz⟩ hcut2)) ?_
        rintro v cs28 w28 ⟨rfl, R28, k28, _, hk28, hLq⟩ gw28 vw28
        replace lz := lz.past gw28 hbz
        clear hL
        have hL := hLq
        clear hLq
        rw [hF]
        rw [hlu]
        refine s_move rfl rfl rfl rfl ?_
        refine s_extract rfl rfl rfl rfl rfl ?_
        refine s_extract rfl rfl rfl rfl rfl ?_
        refine s_alloc rfl rfl rfl rfl rfl (fun bk29 w29 kb29 lw29 => ?_)
        have kz13 := Nat.le_trans lz.size kb29
        try have nL13 := hL.ne kb29
        replace lz := lz.trans lw29
        try replace hL := hL.later lw29
        refine s_store rfl rfl rfl rfl rfl rfl rfl (fun w30 sw30 vw30 => ?_)
        try replace lz := lz.sto sw30 kz13
        try replace hL := hL.sto sw30 nL13
        refine s_assign rfl rfl rfl rfl ?_
        refine vOrd_nil ?_
        refine Wp.seq ?_
        refine Wp.seq ?_
        refine Wp.region [0, 1] (by kernel_rfl) (by kernel_rfl) ?_
        refine s_move rfl rfl rfl rfl ?_
        refine t_neq rfl rfl rfl rfl rfl (by omega) ?_
        refine vOrd_nil ?_
        refine Wp.condT rfl rfl ?_
        refine Wp.seq ?_
        refine Wp.region [0, 1, 2, 3, 4, 5] (by kernel_rfl) (by kernel_rfl) ?_
        refine s_callT rfl rfl rfl (by kernel_rfl) rfl (utanswers_any) ?_
        rintro v w31 rfl lw31
        try replace lz := lz.trans lw31
        try replace hL := hL.later lw31
        try replace hvl := hvl.later lw31
        refine s_move rfl rfl rfl rfl ?_
        refine s_move rfl rfl rfl rfl ?_
        refine t_neq rfl rfl rfl rfl rfl (by omega) ?_
        refine s_pick rfl rfl rfl rfl rfl ?_
        refine s_assign rfl rfl rfl rfl ?_
        refine vOrd_nil ?_
        refine Wp.ret ⟨.inr rfl, fun lW => ⟨_, res_tmp (P := Try.prog) rfl rfl, _, rfl, ?_, lW⟩⟩
        clear lW
        rfl

set_option maxHeartbeats 2000000 in
theorem law_utsecs (t : Tb) (hu : I64 t.u) (he : I64 t.e) {v : Value} {w : World} (hv : EntAt w v t.es) {d s : Int} (hd : I64 d) (hs : I64 s) : Calls Try.prog 4 #[tbV t v, .int .i64 d, .int .i64 s] w fun e w' => ∃ r, e = .returned r ∧ r = .bool true ∧ Below w.heap.size w w' := by
  obtain ⟨va, vc, rfl⟩ := hv.formL
  have lz := Later.refl w
  cases hb : canBe t with
  | false =>
    refine calls_Wp (args := [_, _, _]) (n := 77) Try.func4 rfl rfl (by simp) ?_
    refine Wp.seq ?_
    refine Wp.region [0, 1] (by kernel_rfl) (by kernel_rfl) ?_
    refine s_box rfl rfl rfl rfl rfl rfl (fun bs3 ws3 ks3 ls3 => ?_)
    have kz3 := Nat.le_trans lz.size ks3
    try have nL3 := hL.ne ks3
    replace lz := lz.trans ls3
    try replace hL := hL.later ls3
    refine s_assign rfl rfl rfl rfl ?_
    refine vOrd_nil ?_
    refine Wp.seq ?_
    refine Wp.var (h := 3) rfl (fun v3 => ?_)
    have q3 := v3.lt
    have hz1 := lz.size
    refine Wp.region [0, 1, 2, 3, 4, 5, 6] (by kernel_rfl) (by kernel_rfl) ?_
    refine s_load rfl rfl rfl rfl rfl rfl rfl ?_
    refine s_callT rfl rfl rfl (by kernel_rfl) rfl (new_no t hb hu he (hv.later lz)) ?_
    rintro v w6 rfl lw6
    replace lz := lz.trans lw6
    try replace hL := hL.later lw6
    refine s_move rfl rfl rfl rfl ?_
    refine s_extract rfl rfl rfl rfl rfl ?_
    refine s_extract rfl rfl rfl rfl rfl ?_
    refine s_assign rfl rfl rfl rfl ?_
    refine s_assign rfl rfl rfl rfl ?_
    refine vOrd_nil ?_
    refine Wp.seq ?_
    refine Wp.seq ?_
    refine Wp.region [0, 1, 2, 3, 4, 5, 6, 7, 8, 9, 10, 11, 12, 13, 14, 15] (by kernel_rfl) (by kernel_rfl) ?_
    refine s_move rfl rfl rfl rfl ?_
    refine t_neq rfl rfl rfl rfl rfl (by omega) ?_
    refine s_move rfl rfl rfl rfl ?_
    refine s_skip rfl rfl rfl ?_
    refine s_skip rfl rfl rfl ?_
    refine s_skip rfl rfl rfl ?_
    refine s_pick rfl rfl rfl rfl rfl ?_
    refine s_move rfl rfl rfl rfl ?_
    refine s_skip rfl rfl rfl ?_
    refine s_skip rfl rfl rfl ?_
    refine s_skip rfl rfl rfl ?_
    refine s_skip rfl rfl rfl ?_
    refine s_skip rfl rfl rfl ?_
    refine s_skip rfl rfl rfl ?_
    refine s_skip rfl rfl rfl ?_
    refine s_pick rfl rfl rfl rfl rfl ?_
    refine vOrd_nil ?_
    refine Wp.condT rfl rfl ?_
    refine Wp.seq ?_
    refine Wp.region [0, 1] (by kernel_rfl) (by kernel_rfl) ?_
    refine s_callT rfl rfl rfl (by kernel_rfl) rfl (utanswers_any) ?_
    rintro v w7 rfl lw7
    replace lz := lz.trans lw7
    try replace hL := hL.later lw7
    refine s_assign rfl rfl rfl rfl ?_
    refine vOrd_nil ?_
    refine Wp.ret ⟨.inr rfl, fun lW => ⟨_, res_tmp (P := Try.prog) rfl rfl, _, rfl, ?_, lW⟩⟩
    clear lW
    rfl
  | true =>
    have hpos := (can_num hb).2.2
    have hn := can_len hb
    obtain ⟨K, hcut⟩ := cut_day hb d
    have hmi := more_one hb K d
    obtain ⟨x0, hx0⟩ : ∃ x, t.es[0]? = some x := ⟨_, List.getElem?_eq_getElem hpos⟩
    have hxi := can_in hb hx0
    have hp0 := hcut.2 0 x0 hx0
    unfold pDay at hp0
    rw [decide_eq_decide] at hp0
    obtain ⟨ab, ao, rfl, hcell⟩ := ent_at hv hpos
    obtain ⟨kx1, kx2⟩ := hcell 0 x0 hx0
    refine calls_Wp (args := [_, _, _]) (n := 77) Try.func4 rfl rfl (by simp) ?_
    refine Wp.seq ?_
    refine Wp.region [0, 1] (by kernel_rfl) (by kernel_rfl) ?_
    refine s_box rfl rfl rfl rfl rfl rfl (fun bs3 ws3 ks3 ls3 => ?_)
    have kz3 := Nat.le_trans lz.size ks3
    try have nL3 := hL.ne ks3
    replace lz := lz.trans ls3
    try replace hL := hL.later ls3
    refine s_assign rfl rfl rfl rfl ?_
    refine vOrd_nil ?_
    refine Wp.seq ?_
    refine Wp.var (h := 3) rfl (fun v3 => ?_)
    have q3 := v3.lt
    have hz1 := lz.size
    refine Wp.region [0, 1, 2, 3, 4, 5, 6] (by kernel_rfl) (by kernel_rfl) ?_
    refine s_load rfl rfl rfl rfl rfl rfl rfl ?_
    refine s_callT rfl rfl rfl (by kernel_rfl) rfl (new_yes t hb hu he (hv.later lz)) ?_
    rintro v w6 ⟨b1, c1, rfl, hc1, hb1, hL⟩ lw6
    try replace lz := lz.trans lw6
    try replace hL := hL.later lw6
    try replace hvl := hvl.later lw6
    refine s_move rfl rfl rfl rfl ?_
    refine s_extract rfl rfl rfl rfl rfl ?_
    refine s_extract rfl rfl rfl rfl rfl ?_
    refine s_assign rfl rfl rfl rfl ?_
    refine s_assign rfl rfl rfl rfl ?_
    refine vOrd_nil ?_
    refine Wp.seq ?_
    refine Wp.seq ?_
    refine Wp.region [0, 1, 2, 3, 4, 5, 6, 7, 8, 9, 10, 11, 12, 13, 14, 15] (by kernel_rfl) (by kernel_rfl) ?_
    refine s_move rfl rfl rfl rfl ?_
    refine f_neq rfl rfl rfl rfl rfl (by omega) ?_
    refine s_move rfl rfl rfl rfl ?_
    refine s_move rfl rfl rfl rfl ?_
    refine s_callT rfl rfl rfl (by kernel_rfl) rfl (din_any d _) ?_
    rintro v w7 rfl lw7
    try replace lz := lz.trans lw7
    try replace hL := hL.later lw7
    try replace hvl := hvl.later lw7
    rcases Bool.eq_false_or_eq_true (inB d) with h19 | h19
    · rw [h19]
      refine s_not rfl rfl rfl rfl ?_
      refine s_pick rfl rfl rfl rfl rfl ?_
      refine s_move rfl rfl rfl rfl ?_
      refine s_move rfl rfl rfl rfl ?_
      refine s_field 2 rfl rfl rfl rfl rfl ?_
      refine s_load rfl rfl rfl rfl rfl rfl rfl ?_
      refine s_idx (sz := 2) (ao + 0 * 2) rfl rfl rfl rfl rfl rfl rfl (by omega) (by omega) (by omega) ?_
      refine x_ldA [.int .i64 x0.1, .int .i64 x0.2] rfl rfl rfl rfl rfl rfl (World.block_lt_of_cell? _ _ (cell_later lz kx1)) (fun j u hj => ?_) ?_
      · match j, hj with
        | 0, hj => cases hj; exact cell_later lz kx1
        | 1, hj => cases hj; exact cell_later lz kx2
      refine s_callT rfl rfl rfl (by kernel_rfl) rfl (rday_any x0 hxi.1) ?_
      rintro v w13 rfl lw13
      try replace lz := lz.trans lw13
      try replace hL := hL.later lw13
      try replace hvl := hvl.later lw13
      refine p_lss rfl rfl rfl rfl rfl (fun h29 => ?_) (fun h29 => ?_)
      · refine s_pick rfl rfl rfl rfl rfl ?_
        refine vOrd_nil ?_
        refine Wp.condT rfl rfl ?_
        refine Wp.seq ?_
        refine Wp.region [0, 1] (by kernel_rfl) (by kernel_rfl) ?_
        refine s_callT rfl rfl rfl (by kernel_rfl) rfl (utanswers_any) ?_
        rintro v w14 rfl lw14
        try replace lz := lz.trans lw14
        try replace hL := hL.later lw14
        try replace hvl := hvl.later lw14
        refine s_assign rfl rfl rfl rfl ?_
        refine vOrd_nil ?_
        refine Wp.ret ⟨.inr rfl, fun lW => ⟨_, res_tmp (P := Try.prog) rfl rfl, _, rfl, ?_, lW⟩⟩
        clear lW
        rfl
      · refine s_pick rfl rfl rfl rfl rfl ?_
        refine vOrd_nil ?_
        refine Wp.condF rfl rfl ?_
        refine Wp.skip ?_
        refine Wp.seq ?_
        have hB := h19
        have hK : 0 < K := hp0.1 (by omega)
        refine Wp.region [0, 1, 2, 3, 4, 5, 6, 7, 8, 9, 10, 11, 12, 13, 14, 15, 16, 17, 18, 19, 20, 21, 22, 23, 24, 25, 26] (by kernel_rfl) (by kernel_rfl) ?_
        refine s_move rfl rfl rfl rfl ?_
        refine p_geq rfl rfl rfl rfl rfl (fun h33 => ?_) (fun h33 => ?_)
        · refine s_move rfl rfl rfl rfl ?_
          refine s_move rfl rfl rfl rfl ?_
          refine p_lss rfl rfl rfl rfl rfl (fun h36 => ?_) (fun h36 => ?_)
          · refine s_pick rfl rfl rfl rfl rfl ?_
            refine s_move rfl rfl rfl rfl ?_
            refine s_skip rfl rfl rfl ?_
            refine s_skip rfl rfl rfl ?_
            refine s_skip rfl rfl rfl ?_
            refine s_skip rfl rfl rfl ?_
            refine s_skip rfl rfl rfl ?_
            refine s_skip rfl rfl rfl ?_
            refine s_skip rfl rfl rfl ?_
            refine s_skip rfl rfl rfl ?_
            refine s_pick rfl rfl rfl rfl rfl ?_
            refine s_move rfl rfl rfl rfl ?_
            refine s_skip rfl rfl rfl ?_
            refine s_skip rfl rfl rfl ?_
            refine s_skip rfl rfl rfl ?_
            refine s_skip rfl rfl rfl ?_
            refine s_skip rfl rfl rfl ?_
            refine s_skip rfl rfl rfl ?_
            refine s_skip rfl rfl rfl ?_
            refine s_skip rfl rfl rfl ?_
            refine s_pick rfl rfl rfl rfl rfl ?_
            refine s_assign rfl rfl rfl rfl ?_
            refine vOrd_nil ?_
            refine Wp.seq ?_
            have hbz : w.heap.size ≤ b1 := by omega
            obtain ⟨cs1, hvb⟩ := hL.var
            refine Wp.adopt 1007 hvb hbz rfl (show AllMem (fun d => d ≠ b1) _ from (by repeat (first | exact AllMem.args | exact AllMem.of (by simp only [AllL, and_true]; omega) | refine AllMem.put ?_ | refine AllMem.new ?_ (by omega) | refine AllMem.set ?_ (by omega)))) ?_
            refine Wp.region [0, 1, 2, 3, 4, 5, 6, 7, 8, 9, 10, 11, 12, 13, 14, 15, 16, 17, 18, 19] (by kernel_rfl) (by kernel_rfl) ?_
            refine s_callT rfl rfl rfl (by kernel_rfl) rfl (utanswers_any) ?_
            rintro v w15 rfl lw15
            try replace lz := lz.trans lw15
            try replace hL := hL.later lw15
            try replace hvl := hvl.later lw15
            refine s_move rfl rfl rfl rfl ?_
            refine s_move rfl rfl rfl rfl ?_
            refine s_move rfl rfl rfl rfl ?_
            refine s_move rfl rfl rfl rfl ?_
            refine s_build rfl rfl rfl rfl rfl (by kernel_rfl) ?_
            refine s_callH 1007 rfl rfl rfl (by kernel_rfl) rfl rfl (fun vr => (uexists_any (a := 0) hb hL ⟨by omega, by omega⟩ hd hs ⟨by decide, by decide⟩ hcut)) ?_
            rintro v cs16 w16 ⟨rfl, R16, k16, _, hk16, hLq⟩ gw16 vw16
            replace lz := lz.past gw16 hbz
            clear hL
            have hL := hLq
            clear hLq
            rw [decide_eq_true (show whyE t.es K d s 0 = 0 from why_ok (isU_iff.2 ⟨by omega, by omega, by decide, by decide⟩) hB hK (by omega))]
            refine s_move rfl rfl rfl rfl ?_
            refine s_eqv (c := true) rfl rfl rfl rfl rfl (fun _ => by kernel_rfl) (fun w => by rw [run_eql_bool]; rfl) ?_
            refine s_pick rfl rfl rfl rfl rfl ?_
            refine s_move rfl rfl rfl rfl ?_
            refine s_move rfl rfl rfl rfl ?_
            refine s_move rfl rfl rfl rfl ?_
            refine s_move rfl rfl rfl rfl ?_
            refine s_build rfl rfl rfl rfl rfl (by kernel_rfl) ?_
            refine s_callH 1007 rfl rfl rfl (by kernel_rfl) rfl rfl (fun vr => (uexists_any (a := 999999999999999999) hb hL ⟨by omega, by omega⟩ hd hs ⟨by decide, by decide⟩ hcut)) ?_
            rintro v cs18 w18 ⟨rfl, R18, k18, _, hk18, hLq⟩ gw18 vw18
            replace lz := lz.past gw18 hbz
            clear hL
            have hL := hLq
            clear hLq
            rw [decide_eq_true (show whyE t.es K d s 999999999999999999 = 0 from why_ok (isU_iff.2 ⟨by omega, by omega, by decide, by decide⟩) hB hK (by omega))]
            refine s_move rfl rfl rfl rfl ?_
            refine s_eqv (c := true) rfl rfl rfl rfl rfl (fun _ => by kernel_rfl) (fun w => by rw [run_eql_bool]; rfl) ?_
            refine s_pick rfl rfl rfl rfl rfl ?_
            refine s_assign rfl rfl rfl rfl ?_
            refine vOrd_nil ?_
            refine Wp.ret ⟨.inr rfl, fun lW => ⟨_, res_tmp (P := Try.prog) rfl rfl, _, rfl, ?_, lW⟩⟩
            clear lW
            rfl
          · refine s_pick rfl rfl rfl rfl rfl ?_
            refine s_move rfl rfl rfl rfl ?_
            refine s_move rfl rfl rfl rfl ?_
            refine p_eql rfl rfl rfl rfl rfl (fun h40 => ?_) (fun h40 => ?_)
            · refine s_move rfl rfl rfl rfl ?_
              refine s_load rfl rfl rfl rfl rfl rfl rfl ?_
              refine s_move rfl rfl rfl rfl ?_
              refine s_callT rfl rfl rfl (by kernel_rfl) rfl (rchange_any t hb (hv.later lz) hcut) ?_
              rintro v w20 rfl lw20
              try replace lz := lz.trans lw20
              try replace hL := hL.later lw20
              try replace hvl := hvl.later lw20
              refine p_geq rfl rfl rfl rfl rfl (fun h45 => ?_) (fun h45 => ?_)
              · refine s_pick rfl rfl rfl rfl rfl ?_
                refine s_pick rfl rfl rfl rfl rfl ?_
                refine s_move rfl rfl rfl rfl ?_
                refine s_skip rfl rfl rfl ?_
                refine s_skip rfl rfl rfl ?_
                refine s_skip rfl rfl rfl ?_
                refine s_skip rfl rfl rfl ?_
                refine s_skip rfl rfl rfl ?_
                refine s_skip rfl rfl rfl ?_
                refine s_skip rfl rfl rfl ?_
                refine s_skip rfl rfl rfl ?_
                refine s_pick rfl rfl rfl rfl rfl ?_
                refine s_assign rfl rfl rfl rfl ?_
                refine vOrd_nil ?_
                refine Wp.seq ?_
                have hbz : w.heap.size ≤ b1 := by omega
                obtain ⟨cs1, hvb⟩ := hL.var
                refine Wp.adopt 1007 hvb hbz rfl (show AllMem (fun d => d ≠ b1) _ from (by repeat (first | exact AllMem.args | exact AllMem.of (by simp only [AllL, and_true]; omega) | refine AllMem.put ?_ | refine AllMem.new ?_ (by omega) | refine AllMem.set ?_ (by omega)))) ?_
                refine Wp.region [0, 1, 2, 3, 4, 5, 6, 7, 8, 9, 10, 11, 12, 13, 14, 15, 16, 17, 18, 19] (by kernel_rfl) (by kernel_rfl) ?_
                refine s_callT rfl rfl rfl (by kernel_rfl) rfl (utanswers_any) ?_
                rintro v w21 rfl lw21
                try replace lz := lz.trans lw21
                try replace hL := hL.later lw21
                try replace hvl := hvl.later lw21
                refine s_move rfl rfl rfl rfl ?_
                refine s_move rfl rfl rfl rfl ?_
                refine s_move rfl rfl rfl rfl ?_
                refine s_move rfl rfl rfl rfl ?_
                refine s_build rfl rfl rfl rfl rfl (by kernel_rfl) ?_
                refine s_callH 1007 rfl rfl rfl (by kernel_rfl) rfl rfl (fun vr => (uexists_any (a := 0) hb hL ⟨by omega, by omega⟩ hd hs ⟨by decide, by decide⟩ hcut)) ?_
                rintro v cs22 w22 ⟨rfl, R22, k22, _, hk22, hLq⟩ gw22 vw22
                replace lz := lz.past gw22 hbz
                clear hL
                have hL := hLq
                clear hLq
                rw [decide_eq_true (show whyE t.es K d s 0 = 0 from why_ok (isU_iff.2 ⟨by omega, by omega, by decide, by decide⟩) hB hK (by omega))]
                refine s_move rfl rfl rfl rfl ?_
                refine s_eqv (c := true) rfl rfl rfl rfl rfl (fun _ => by kernel_rfl) (fun w => by rw [run_eql_bool]; rfl) ?_
                refine s_pick rfl rfl rfl rfl rfl ?_
                refine s_move rfl rfl rfl rfl ?_
                refine s_move rfl rfl rfl rfl ?_
                refine s_move rfl rfl rfl rfl ?_
                refine s_move rfl rfl rfl rfl ?_
                refine s_build rfl rfl rfl rfl rfl (by kernel_rfl) ?_
                refine s_callH 1007 rfl rfl rfl (by kernel_rfl) rfl rfl (fun vr => (uexists_any (a := 999999999999999999) hb hL ⟨by omega, by omega⟩ hd hs ⟨by decide, by decide⟩ hcut)) ?_
                rintro v cs24 w24 ⟨rfl, R24, k24, _, hk24, hLq⟩ gw24 vw24
                replace lz := lz.past gw24 hbz
                clear hL
                have hL := hLq
                clear hLq
                rw [decide_eq_true (show whyE t.es K d s 999999999999999999 = 0 from why_ok (isU_iff.2 ⟨by omega, by omega, by decide, by decide⟩) hB hK (by omega))]
                refine s_move rfl rfl rfl rfl ?_
                refine s_eqv (c := true) rfl rfl rfl rfl rfl (fun _ => by kernel_rfl) (fun w => by rw [run_eql_bool]; rfl) ?_
                refine s_pick rfl rfl rfl rfl rfl ?_
                refine s_assign rfl rfl rfl rfl ?_
                refine vOrd_nil ?_
                refine Wp.ret ⟨.inr rfl, fun lW => ⟨_, res_tmp (P := Try.prog) rfl rfl, _, rfl, ?_, lW⟩⟩
                clear lW
                rfl
              · refine s_pick rfl rfl rfl rfl rfl ?_
                refine s_pick rfl rfl rfl rfl rfl ?_
                refine s_move rfl rfl rfl rfl ?_
                refine s_move rfl rfl rfl rfl ?_
                refine p_eql rfl rfl rfl rfl rfl (fun h50 => ?_) (fun h50 => ?_)
                · refine s_move rfl rfl rfl rfl ?_
                  refine s_load rfl rfl rfl rfl rfl rfl rfl ?_
                  refine s_move rfl rfl rfl rfl ?_
                  refine s_callT rfl rfl rfl (by kernel_rfl) rfl (rchange_any t hb (hv.later lz) hcut) ?_
                  rintro v w26 rfl lw26
                  try replace lz := lz.trans lw26
                  try replace hL := hL.later lw26
                  try replace hvl := hvl.later lw26
                  refine p_gtr rfl rfl rfl rfl rfl (fun h55 => ?_) (fun h55 => ?_)
                  · refine s_pick rfl rfl rfl rfl rfl ?_
                    refine s_pick rfl rfl rfl rfl rfl ?_
                    refine s_assign rfl rfl rfl rfl ?_
                    refine vOrd_nil ?_
                    refine Wp.seq ?_
                    have hbz : w.heap.size ≤ b1 := by omega
                    obtain ⟨cs1, hvb⟩ := hL.var
                    refine Wp.adopt 1007 hvb hbz rfl (show AllMem (fun d => d ≠ b1) _ from (by repeat (first | exact AllMem.args | exact AllMem.of (by simp only [AllL, and_true]; omega) | refine AllMem.put ?_ | refine AllMem.new ?_ (by omega) | refine AllMem.set ?_ (by omega)))) ?_
                    refine Wp.region [0, 1, 2, 3, 4, 5, 6, 7, 8, 9, 10, 11, 12, 13, 14, 15, 16, 17, 18, 19] (by kernel_rfl) (by kernel_rfl) ?_
                    refine s_callT rfl rfl rfl (by kernel_rfl) rfl (utanswers_any) ?_
                    rintro v w27 rfl lw27
                    try replace lz := lz.trans lw27
                    try replace hL := hL.later lw27
                    try replace hvl := hvl.later lw27
                    refine s_move rfl rfl rfl rfl ?_
                    refine s_move rfl rfl rfl rfl ?_
                    refine s_move rfl rfl rfl rfl ?_
                    refine s_move rfl rfl rfl rfl ?_
                    refine s_build rfl rfl rfl rfl rfl (by kernel_rfl) ?_
                    refine s_callH 1007 rfl rfl rfl (by kernel_rfl) rfl rfl (fun vr => (uexists_any (a := 0) hb hL ⟨by omega, by omega⟩ hd hs ⟨by decide, by decide⟩ hcut)) ?_
                    rintro v cs28 w28 ⟨rfl, R28, k28, _, hk28, hLq⟩ gw28 vw28
                    replace lz := lz.past gw28 hbz
                    clear hL
                    have hL := hLq
                    clear hLq
                    rw [decide_eq_true (show whyE t.es K d s 0 = 0 from why_ok (isU_iff.2 ⟨by omega, by omega, by decide, by decide⟩) hB hK (by omega))]
                    refine s_move rfl rfl rfl rfl ?_
                    refine s_eqv (c := true) rfl rfl rfl rfl rfl (fun _ => by kernel_rfl) (fun w => by rw [run_eql_bool]; rfl) ?_
                    refine s_pick rfl rfl rfl rfl rfl ?_
                    refine s_move rfl rfl rfl rfl ?_
                    refine s_move rfl rfl rfl rfl ?_
                    refine s_move rfl rfl rfl rfl ?_
                    refine s_move rfl rfl rfl rfl ?_
                    refine s_build rfl rfl rfl rfl rfl (by kernel_rfl) ?_
                    refine s_callH 1007 rfl rfl rfl (by kernel_rfl) rfl rfl (fun vr => (uexists_any (a := 999999999999999999) hb hL ⟨by omega, by omega⟩ hd hs ⟨by decide, by decide⟩ hcut)) ?_
                    rintro v cs30 w30 ⟨rfl, R30, k30, _, hk30, hLq⟩ gw30 vw30
                    replace lz := lz.past gw30 hbz
                    clear hL
                    have hL := hLq
                    clear hLq
                    rw [decide_eq_true (show whyE t.es K d s 999999999999999999 = 0 from why_ok (isU_iff.2 ⟨by omega, by omega, by decide, by decide⟩) hB hK (by omega))]
                    refine s_move rfl rfl rfl rfl ?_
                    refine s_eqv (c := true) rfl rfl rfl rfl rfl (fun _ => by kernel_rfl) (fun w => by rw [run_eql_bool]; rfl) ?_
                    refine s_pick rfl rfl rfl rfl rfl ?_
                    refine s_assign rfl rfl rfl rfl ?_
                    refine vOrd_nil ?_
                    refine Wp.ret ⟨.inr rfl, fun lW => ⟨_, res_tmp (P := Try.prog) rfl rfl, _, rfl, ?_, lW⟩⟩
                    clear lW
                    rfl
                  · refine s_pick rfl rfl rfl rfl rfl ?_
                    refine s_pick rfl rfl rfl rfl rfl ?_
                    refine s_assign rfl rfl rfl rfl ?_
                    refine vOrd_nil ?_
                    refine Wp.seq ?_
                    have hbz : w.heap.size ≤ b1 := by omega
                    obtain ⟨cs1, hvb⟩ := hL.var
                    refine Wp.adopt 1007 hvb hbz rfl (show AllMem (fun d => d ≠ b1) _ from (by repeat (first | exact AllMem.args | exact AllMem.of (by simp only [AllL, and_true]; omega) | refine AllMem.put ?_ | refine AllMem.new ?_ (by omega) | refine AllMem.set ?_ (by omega)))) ?_
                    refine Wp.region [0, 1, 2, 3, 4, 5, 6, 7, 8, 9, 10, 11, 12, 13, 14, 15, 16, 17, 18, 19] (by kernel_rfl) (by kernel_rfl) ?_
                    refine s_callT rfl rfl rfl (by kernel_rfl) rfl (utanswers_any) ?_
                    rintro v w32 rfl lw32
                    try replace lz := lz.trans lw32
                    try replace hL := hL.later lw32
                    try replace hvl := hvl.later lw32
                    refine s_move rfl rfl rfl rfl ?_
                    refine s_move rfl rfl rfl rfl ?_
                    refine s_move rfl rfl rfl rfl ?_
                    refine s_move rfl rfl rfl rfl ?_
                    refine s_build rfl rfl rfl rfl rfl (by kernel_rfl) ?_
                    refine s_callH 1007 rfl rfl rfl (by kernel_rfl) rfl rfl (fun vr => (uexists_any (a := 0) hb hL ⟨by omega, by omega⟩ hd hs ⟨by decide, by decide⟩ hcut)) ?_
                    rintro v cs33 w33 ⟨rfl, R33, k33, _, hk33, hLq⟩ gw33 vw33
                    replace lz := lz.past gw33 hbz
                    clear hL
                    have hL := hLq
                    clear hLq
                    rw [decide_eq_false (fun q => by have z1 := why_zero (K := K) (s := s) (a := 0) q; have z2 := isU_iff.1 z1.1; omega)]
                    refine s_move rfl rfl rfl rfl ?_
                    refine s_eqv (c := true) rfl rfl rfl rfl rfl (fun _ => by kernel_rfl) (fun w => by rw [run_eql_bool]; rfl) ?_
                    refine s_pick rfl rfl rfl rfl rfl ?_
                    refine s_move rfl rfl rfl rfl ?_
                    refine s_move rfl rfl rfl rfl ?_
                    refine s_move rfl rfl rfl rfl ?_
                    refine s_move rfl rfl rfl rfl ?_
                    refine s_build rfl rfl rfl rfl rfl (by kernel_rfl) ?_
                    refine s_callH 1007 rfl rfl rfl (by kernel_rfl) rfl rfl (fun vr => (uexists_any (a := 999999999999999999) hb hL ⟨by omega, by omega⟩ hd hs ⟨by decide, by decide⟩ hcut)) ?_
                    rintro v cs35 w35 ⟨rfl, R35, k35, _, hk35, hLq⟩ gw35 vw35
                    replace lz := lz.past gw35 hbz
                    clear hL
                    have hL := hLq
                    clear hLq
                    rw [decide_eq_false (fun q => by have z1 := why_zero (K := K) (s := s) (a := 999999999999999999) q; have z2 := isU_iff.1 z1.1; omega)]
                    refine s_move rfl rfl rfl rfl ?_
                    refine s_eqv (c := true) rfl rfl rfl rfl rfl (fun _ => by kernel_rfl) (fun w => by rw [run_eql_bool]; rfl) ?_
                    refine s_pick rfl rfl rfl rfl rfl ?_
                    refine s_assign rfl rfl rfl rfl ?_
                    refine vOrd_nil ?_
                    refine Wp.ret ⟨.inr rfl, fun lW => ⟨_, res_tmp (P := Try.prog) rfl rfl, _, rfl, ?_, lW⟩⟩
                    clear lW
                    rfl
                · refine s_move rfl rfl rfl rfl ?_
                  refine s_skip rfl rfl rfl ?_
                  refine s_skip rfl rfl rfl ?_
                  refine s_skip rfl rfl rfl ?_
                  refine s_skip rfl rfl rfl ?_
                  refine s_pick rfl rfl rfl rfl rfl ?_
                  refine s_pick rfl rfl rfl rfl rfl ?_
                  refine s_assign rfl rfl rfl rfl ?_
                  refine vOrd_nil ?_
                  refine Wp.seq ?_
                  have hbz : w.heap.size ≤ b1 := by omega
                  obtain ⟨cs1, hvb⟩ := hL.var
                  refine Wp.adopt 1007 hvb hbz rfl (show AllMem (fun d => d ≠ b1) _ from (by repeat (first | exact AllMem.args | exact AllMem.of (by simp only [AllL, and_true]; omega) | refine AllMem.put ?_ | refine AllMem.new ?_ (by omega) | refine AllMem.set ?_ (by omega)))) ?_
                  refine Wp.region [0, 1, 2, 3, 4, 5, 6, 7, 8, 9, 10, 11, 12, 13, 14, 15, 16, 17, 18, 19] (by kernel_rfl) (by kernel_rfl) ?_
                  refine s_callT rfl rfl rfl (by kernel_rfl) rfl (utanswers_any) ?_
                  rintro v w37 rfl lw37
                  try replace lz := lz.trans lw37
                  try replace hL := hL.later lw37
                  try replace hvl := hvl.later lw37
                  refine s_move rfl rfl rfl rfl ?_
                  refine s_move rfl rfl rfl rfl ?_
                  refine s_move rfl rfl rfl rfl ?_
                  refine s_move rfl rfl rfl rfl ?_
                  refine s_build rfl rfl rfl rfl rfl (by kernel_rfl) ?_
                  refine s_callH 1007 rfl rfl rfl (by kernel_rfl) rfl rfl (fun vr => (uexists_any (a := 0) hb hL ⟨by omega, by omega⟩ hd hs ⟨by decide, by decide⟩ hcut)) ?_
                  rintro v cs38 w38 ⟨rfl, R38, k38, _, hk38, hLq⟩ gw38 vw38
                  replace lz := lz.past gw38 hbz
                  clear hL
                  have hL := hLq
                  clear hLq
                  rw [decide_eq_false (fun q => by have z1 := why_zero (K := K) (s := s) (a := 0) q; have z2 := isU_iff.1 z1.1; omega)]
                  refine s_move rfl rfl rfl rfl ?_
                  refine s_eqv (c := true) rfl rfl rfl rfl rfl (fun _ => by kernel_rfl) (fun w => by rw [run_eql_bool]; rfl) ?_
                  refine s_pick rfl rfl rfl rfl rfl ?_
                  refine s_move rfl rfl rfl rfl ?_
                  refine s_move rfl rfl rfl rfl ?_
                  refine s_move rfl rfl rfl rfl ?_
                  refine s_move rfl rfl rfl rfl ?_
                  refine s_build rfl rfl rfl rfl rfl (by kernel_rfl) ?_
                  refine s_callH 1007 rfl rfl rfl (by kernel_rfl) rfl rfl (fun vr => (uexists_any (a := 999999999999999999) hb hL ⟨by omega, by omega⟩ hd hs ⟨by decide, by decide⟩ hcut)) ?_
                  rintro v cs40 w40 ⟨rfl, R40, k40, _, hk40, hLq⟩ gw40 vw40
                  replace lz := lz.past gw40 hbz
                  clear hL
                  have hL := hLq
                  clear hLq
                  rw [decide_eq_false (fun q => by have z1 := why_zero (K := K) (s := s) (a := 999999999999999999) q; have z2 := isU_iff.1 z1.1; omega)]
                  refine s_move rfl rfl rfl rfl ?_
                  refine s_eqv (c := true) rfl rfl rfl rfl rfl (fun _ => by kernel_rfl) (fun w => by rw [run_eql_bool]; rfl) ?_
                  refine s_pick rfl rfl rfl rfl rfl ?_
                  refine s_assign rfl rfl rfl rfl ?_
                  refine vOrd_nil ?_
                  refine Wp.ret ⟨.inr rfl, fun lW => ⟨_, res_tmp (P := Try.prog) rfl rfl, _, rfl, ?_, lW⟩⟩
                  clear lW
                  rfl
            · refine s_move rfl rfl rfl rfl ?_
              refine s_skip rfl rfl rfl ?_
              refine s_skip rfl rfl rfl ?_
              refine s_skip rfl rfl rfl ?_
              refine s_skip rfl rfl rfl ?_
              refine s_pick rfl rfl rfl rfl rfl ?_
              refine s_pick rfl rfl rfl rfl rfl ?_
              refine s_move rfl rfl rfl rfl ?_
              refine s_move rfl rfl rfl rfl ?_
              refine p_eql rfl rfl rfl rfl rfl (fun h50 => ?_) (fun h50 => ?_)
              · refine s_move rfl rfl rfl rfl ?_
                refine s_load rfl rfl rfl rfl rfl rfl rfl ?_
                refine s_move rfl rfl rfl rfl ?_
                refine s_callT rfl rfl rfl (by kernel_rfl) rfl (rchange_any t hb (hv.later lz) hcut) ?_
                rintro v w42 rfl lw42
                try replace lz := lz.trans lw42
                try replace hL := hL.later lw42
                try replace hvl := hvl.later lw42
                refine p_gtr rfl rfl rfl rfl rfl (fun h55 => ?_) (fun h55 => ?_)
                · refine s_pick rfl rfl rfl rfl rfl ?_
                  refine s_pick rfl rfl rfl rfl rfl ?_
                  refine s_assign rfl rfl rfl rfl ?_
                  refine vOrd_nil ?_
                  refine Wp.seq ?_
                  have hbz : w.heap.size ≤ b1 := by omega
                  obtain ⟨cs1, hvb⟩ := hL.var
                  refine Wp.adopt 1007 hvb hbz rfl (show AllMem (fun d => d ≠ b1) _ from (by repeat (first | exact AllMem.args | exact AllMem.of (by simp only [AllL, and_true]; omega) | refine AllMem.put ?_ | refine AllMem.new ?_ (by omega) | refine AllMem.set ?_ (by omega)))) ?_
                  refine Wp.region [0, 1, 2, 3, 4, 5, 6, 7, 8, 9, 10, 11, 12, 13, 14, 15, 16, 17, 18, 19] (by kernel_rfl) (by kernel_rfl) ?_
                  refine s_callT rfl rfl rfl (by kernel_rfl) rfl (utanswers_any) ?_
                  rintro v w43 rfl lw43
                  try replace lz := lz.trans lw43
                  try replace hL := hL.later lw43
                  try replace hvl := hvl.later lw43
                  refine s_move rfl rfl rfl rfl ?_
                  refine s_move rfl rfl rfl rfl ?_
                  refine s_move rfl rfl rfl rfl ?_
                  refine s_move rfl rfl rfl rfl ?_
                  refine s_build rfl rfl rfl rfl rfl (by kernel_rfl) ?_
                  refine s_callH 1007 rfl rfl rfl (by kernel_rfl) rfl rfl (fun vr => (uexists_any (a := 0) hb hL ⟨by omega, by omega⟩ hd hs ⟨by decide, by decide⟩ hcut)) ?_
                  rintro v cs44 w44 ⟨rfl, R44, k44, _, hk44, hLq⟩ gw44 vw44
                  replace lz := lz.past gw44 hbz
                  clear hL
                  have hL := hLq
                  clear hLq
                  rw [decide_eq_true (show whyE t.es K d s 0 = 0 from why_ok (isU_iff.2 ⟨by omega, by omega, by decide, by decide⟩) hB hK (by omega))]
                  refine s_move rfl rfl rfl rfl ?_
                  refine s_eqv (c := true) rfl rfl rfl rfl rfl (fun _ => by kernel_rfl) (fun w => by rw [run_eql_bool]; rfl) ?_
                  refine s_pick rfl rfl rfl rfl rfl ?_
                  refine s_move rfl rfl rfl rfl ?_
                  refine s_move rfl rfl rfl rfl ?_
                  refine s_move rfl rfl rfl rfl ?_
                  refine s_move rfl rfl rfl rfl ?_
                  refine s_build rfl rfl rfl rfl rfl (by kernel_rfl) ?_
                  refine s_callH 1007 rfl rfl rfl (by kernel_rfl) rfl rfl (fun vr => (uexists_any (a := 999999999999999999) hb hL ⟨by omega, by omega⟩ hd hs ⟨by decide, by decide⟩ hcut)) ?_
                  rintro v cs46 w46 ⟨rfl, R46, k46, _, hk46, hLq⟩ gw46 vw46
                  replace lz := lz.past gw46 hbz
                  clear hL
                  have hL := hLq
                  clear hLq
                  rw [decide_eq_true (show whyE t.es K d s 999999999999999999 = 0 from why_ok (isU_iff.2 ⟨by omega, by omega, by decide, by decide⟩) hB hK (by omega))]
                  refine s_move rfl rfl rfl rfl ?_
                  refine s_eqv (c := true) rfl rfl rfl rfl rfl (fun _ => by kernel_rfl) (fun w => by rw [run_eql_bool]; rfl) ?_
                  refine s_pick rfl rfl rfl rfl rfl ?_
                  refine s_assign rfl rfl rfl rfl ?_
                  refine vOrd_nil ?_
                  refine Wp.ret ⟨.inr rfl, fun lW => ⟨_, res_tmp (P := Try.prog) rfl rfl, _, rfl, ?_, lW⟩⟩
                  clear lW
                  rfl
                · refine s_pick rfl rfl rfl rfl rfl ?_
                  refine s_pick rfl rfl rfl rfl rfl ?_
                  refine s_assign rfl rfl rfl rfl ?_
                  refine vOrd_nil ?_
                  refine Wp.seq ?_
                  have hbz : w.heap.size ≤ b1 := by omega
                  obtain ⟨cs1, hvb⟩ := hL.var
                  refine Wp.adopt 1007 hvb hbz rfl (show AllMem (fun d => d ≠ b1) _ from (by repeat (first | exact AllMem.args | exact AllMem.of (by simp only [AllL, and_true]; omega) | refine AllMem.put ?_ | refine AllMem.new ?_ (by omega) | refine AllMem.set ?_ (by omega)))) ?_
                  refine Wp.region [0, 1, 2, 3, 4, 5, 6, 7, 8, 9, 10, 11, 12, 13, 14, 15, 16, 17, 18, 19] (by kernel_rfl) (by kernel_rfl) ?_
                  refine s_callT rfl rfl rfl (by kernel_rfl) rfl (utanswers_any) ?_
                  rintro v w48 rfl lw48
                  try replace lz := lz.trans lw48
                  try replace hL := hL.later lw48
                  try replace hvl := hvl.later lw48
                  refine s_move rfl rfl rfl rfl ?_
                  refine s_move rfl rfl rfl rfl ?_
                  refine s_move rfl rfl rfl rfl ?_
                  refine s_move rfl rfl rfl rfl ?_
                  refine s_build rfl rfl rfl rfl rfl (by kernel_rfl) ?_
                  refine s_callH 1007 rfl rfl rfl (by kernel_rfl) rfl rfl (fun vr => (uexists_any (a := 0) hb hL ⟨by omega, by omega⟩ hd hs ⟨by decide, by decide⟩ hcut)) ?_
                  rintro v cs49 w49 ⟨rfl, R49, k49, _, hk49, hLq⟩ gw49 vw49
                  replace lz := lz.past gw49 hbz
                  clear hL
                  have hL := hLq
                  clear hLq
                  rw [decide_eq_false (fun q => by have z1 := why_zero (K := K) (s := s) (a := 0) q; have z2 := isU_iff.1 z1.1; omega)]
                  refine s_move rfl rfl rfl rfl ?_
                  refine s_eqv (c := true) rfl rfl rfl rfl rfl (fun _ => by kernel_rfl) (fun w => by rw [run_eql_bool]; rfl) ?_
                  refine s_pick rfl rfl rfl rfl rfl ?_
                  refine s_move rfl rfl rfl rfl ?_
                  refine s_move rfl rfl rfl rfl ?_
                  refine s_move rfl rfl rfl rfl ?_
                  refine s_move rfl rfl rfl rfl ?_
                  refine s_build rfl rfl rfl rfl rfl (by kernel_rfl) ?_
                  refine s_callH 1007 rfl rfl rfl (by kernel_rfl) rfl rfl (fun vr => (uexists_any (a := 999999999999999999) hb hL ⟨by omega, by omega⟩ hd hs ⟨by decide, by decide⟩ hcut)) ?_
                  rintro v cs51 w51 ⟨rfl, R51, k51, _, hk51, hLq⟩ gw51 vw51
                  replace lz := lz.past gw51 hbz
                  clear hL
                  have hL := hLq
                  clear hLq
                  rw [decide_eq_false (fun q => by have z1 := why_zero (K := K) (s := s) (a := 999999999999999999) q; have z2 := isU_iff.1 z1.1; omega)]
                  refine s_move rfl rfl rfl rfl ?_
                  refine s_eqv (c := true) rfl rfl rfl rfl rfl (fun _ => by kernel_rfl) (fun w => by rw [run_eql_bool]; rfl) ?_
                  refine s_pick rfl rfl rfl rfl rfl ?_
                  refine s_assign rfl rfl rfl rfl ?_
                  refine vOrd_nil ?_
                  refine Wp.ret ⟨.inr rfl, fun lW => ⟨_, res_tmp (P := Try.prog) rfl rfl, _, rfl, ?_, lW⟩⟩
                  clear lW
                  rfl
              · refine s_move rfl rfl rfl rfl ?_
                refine s_skip rfl rfl rfl ?_
                refine s_skip rfl rfl rfl ?_
                refine s_skip rfl rfl rfl ?_
                refine s_skip rfl rfl rfl ?_
                refine s_pick rfl rfl rfl rfl rfl ?_
                refine s_pick rfl rfl rfl rfl rfl ?_
                refine s_assign rfl rfl rfl rfl ?_
                refine vOrd_nil ?_
                refine Wp.seq ?_
                have hbz : w.heap.size ≤ b1 := by omega
                obtain ⟨cs1, hvb⟩ := hL.var
                refine Wp.adopt 1007 hvb hbz rfl (show AllMem (fun d => d ≠ b1) _ from (by repeat (first | exact AllMem.args | exact AllMem.of (by simp only [AllL, and_true]; omega) | refine AllMem.put ?_ | refine AllMem.new ?_ (by omega) | refine AllMem.set ?_ (by omega)))) ?_
                refine Wp.region [0, 1, 2, 3, 4, 5, 6, 7, 8, 9, 10, 11, 12, 13, 14, 15, 16, 17, 18, 19] (by kernel_rfl) (by kernel_rfl) ?_
                refine s_callT rfl rfl rfl (by kernel_rfl) rfl (utanswers_any) ?_
                rintro v w53 rfl lw53
                try replace lz := lz.trans lw53
                try replace hL := hL.later lw53
                try replace hvl := hvl.later lw53
                refine s_move rfl rfl rfl rfl ?_
                refine s_move rfl rfl rfl rfl ?_
                refine s_move rfl rfl rfl rfl ?_
                refine s_move rfl rfl rfl rfl ?_
                refine s_build rfl rfl rfl rfl rfl (by kernel_rfl) ?_
                refine s_callH 1007 rfl rfl rfl (by kernel_rfl) rfl rfl (fun vr => (uexists_any (a := 0) hb hL ⟨by omega, by omega⟩ hd hs ⟨by decide, by decide⟩ hcut)) ?_
                rintro v cs54 w54 ⟨rfl, R54, k54, _, hk54, hLq⟩ gw54 vw54
                replace lz := lz.past gw54 hbz
                clear hL
                have hL := hLq
                clear hLq
                rw [decide_eq_false (fun q => by have z1 := why_zero (K := K) (s := s) (a := 0) q; have z2 := isU_iff.1 z1.1; omega)]
                refine s_move rfl rfl rfl rfl ?_
                refine s_eqv (c := true) rfl rfl rfl rfl rfl (fun _ => by kernel_rfl) (fun w => by rw [run_eql_bool]; rfl) ?_
                refine s_pick rfl rfl rfl rfl rfl ?_
                refine s_move rfl rfl rfl rfl ?_
                refine s_move rfl rfl rfl rfl ?_
                refine s_move rfl rfl rfl rfl ?_
                refine s_move rfl rfl rfl rfl ?_
                refine s_build rfl rfl rfl rfl rfl (by kernel_rfl) ?_
                refine s_callH 1007 rfl rfl rfl (by kernel_rfl) rfl rfl (fun vr => (uexists_any (a := 999999999999999999) hb hL ⟨by omega, by omega⟩ hd hs ⟨by decide, by decide⟩ hcut)) ?_
                rintro v cs56 w56 ⟨rfl, R56, k56, _, hk56, hLq⟩ gw56 vw56
                replace lz := lz.past gw56 hbz
                clear hL
                have hL := hLq
                clear hLq
                rw [decide_eq_false (fun q => by have z1 := why_zero (K := K) (s := s) (a := 999999999999999999) q; have z2 := isU_iff.1 z1.1; omega)]
                refine s_move rfl rfl rfl rfl ?_
                refine s_eqv (c := true) rfl rfl rfl rfl rfl (fun _ => by kernel_rfl) (fun w => by rw [run_eql_bool]; rfl) ?_
                refine s_pick rfl rfl rfl rfl rfl ?_
                refine s_assign rfl rfl rfl rfl ?_
                refine vOrd_nil ?_
                refine Wp.ret ⟨.inr rfl, fun lW => ⟨_, res_tmp (P := Try.prog) rfl rfl, _, rfl, ?_, lW⟩⟩
                clear lW
                rfl
        · refine s_move rfl rfl rfl rfl ?_
          refine s_skip rfl rfl rfl ?_
          refine s_skip rfl rfl rfl ?_
          refine s_pick rfl rfl rfl rfl rfl ?_
          refine s_move rfl rfl rfl rfl ?_
          refine s_move rfl rfl rfl rfl ?_
          refine p_eql rfl rfl rfl rfl rfl (fun h40 => ?_) (fun h40 => ?_)
          · refine s_move rfl rfl rfl rfl ?_
            refine s_load rfl rfl rfl rfl rfl rfl rfl ?_
            refine s_move rfl rfl rfl rfl ?_
            refine s_callT rfl rfl rfl (by kernel_rfl) rfl (rchange_any t hb (hv.later lz) hcut) ?_
            rintro v w58 rfl lw58
            try replace lz := lz.trans lw58
            try replace hL := hL.later lw58
            try replace hvl := hvl.later lw58
            refine p_geq rfl rfl rfl rfl rfl (fun h45 => ?_) (fun h45 => ?_)
            · refine s_pick rfl rfl rfl rfl rfl ?_
              refine s_pick rfl rfl rfl rfl rfl ?_
              refine s_move rfl rfl rfl rfl ?_
              refine s_skip rfl rfl rfl ?_
              refine s_skip rfl rfl rfl ?_
              refine s_skip rfl rfl rfl ?_
              refine s_skip rfl rfl rfl ?_
              refine s_skip rfl rfl rfl ?_
              refine s_skip rfl rfl rfl ?_
              refine s_skip rfl rfl rfl ?_
              refine s_skip rfl rfl rfl ?_
              refine s_pick rfl rfl rfl rfl rfl ?_
              refine s_assign rfl rfl rfl rfl ?_
              refine vOrd_nil ?_
              refine Wp.seq ?_
              have hbz : w.heap.size ≤ b1 := by omega
              obtain ⟨cs1, hvb⟩ := hL.var
              refine Wp.adopt 1007 hvb hbz rfl (show AllMem (fun d => d ≠ b1) _ from (by repeat (first | exact AllMem.args | exact AllMem.of (by simp only [AllL, and_true]; omega) | refine AllMem.put ?_ | refine AllMem.new ?_ (by omega) | refine AllMem.set ?_ (by omega)))) ?_
              refine Wp.region [0, 1, 2, 3, 4, 5, 6, 7, 8, 9, 10, 11, 12, 13, 14, 15, 16, 17, 18, 19] (by kernel_rfl) (by kernel_rfl) ?_
              refine s_callT rfl rfl rfl (by kernel_rfl) rfl (utanswers_any) ?_
              rintro v w59 rfl lw59
              try replace lz := lz.trans lw59
              try replace hL := hL.later lw59
              try replace hvl := hvl.later lw59
              refine s_move rfl rfl rfl rfl ?_
              refine s_move rfl rfl rfl rfl ?_
              refine s_move rfl rfl rfl rfl ?_
              refine s_move rfl rfl rfl rfl ?_
              refine s_build rfl rfl rfl rfl rfl (by kernel_rfl) ?_
              refine s_callH 1007 rfl rfl rfl (by kernel_rfl) rfl rfl (fun vr => (uexists_any (a := 0) hb hL ⟨by omega, by omega⟩ hd hs ⟨by decide, by decide⟩ hcut)) ?_
              rintro v cs60 w60 ⟨rfl, R60, k60, _, hk60, hLq⟩ gw60 vw60
              replace lz := lz.past gw60 hbz
              clear hL
              have hL := hLq
              clear hLq
              rw [decide_eq_true (show whyE t.es K d s 0 = 0 from why_ok (isU_iff.2 ⟨by omega, by omega, by decide, by decide⟩) hB hK (by omega))]
              refine s_move rfl rfl rfl rfl ?_
              refine s_eqv (c := true) rfl rfl rfl rfl rfl (fun _ => by kernel_rfl) (fun w => by rw [run_eql_bool]; rfl) ?_
              refine s_pick rfl rfl rfl rfl rfl ?_
              refine s_move rfl rfl rfl rfl ?_
              refine s_move rfl rfl rfl rfl ?_
              refine s_move rfl rfl rfl rfl ?_
              refine s_move rfl rfl rfl rfl ?_
              refine s_build rfl rfl rfl rfl rfl (by kernel_rfl) ?_
              refine s_callH 1007 rfl rfl rfl (by kernel_rfl) rfl rfl (fun vr => (uexists_any (a := 999999999999999999) hb hL ⟨by omega, by omega⟩ hd hs ⟨by decide, by decide⟩ hcut)) ?_
              rintro v cs62 w62 ⟨rfl, R62, k62, _, hk62, hLq⟩ gw62 vw62
              replace lz := lz.past gw62 hbz
              clear hL
              have hL := hLq
              clear hLq
              rw [decide_eq_true (show whyE t.es K d s 999999999999999999 = 0 from why_ok (isU_iff.2 ⟨by omega, by omega, by decide, by decide⟩) hB hK (by omega))]
              refine s_move rfl rfl rfl rfl ?_
              refine s_eqv (c := true) rfl rfl rfl rfl rfl (fun _ => by kernel_rfl) (fun w => by rw [run_eql_bool]; rfl) ?_
              refine s_pick rfl rfl rfl rfl rfl ?_
              refine s_assign rfl rfl rfl rfl ?_
              refine vOrd_nil ?_
              refine Wp.ret ⟨.inr rfl, fun lW => ⟨_, res_tmp (P := Try.prog) rfl rfl, _, rfl, ?_, lW⟩⟩
              clear lW
              rfl
            · refine s_pick rfl rfl rfl rfl rfl ?_
              refine s_pick rfl rfl rfl rfl rfl ?_
              refine s_move rfl rfl rfl rfl ?_
              refine s_move rfl rfl rfl rfl ?_
              refine p_eql rfl rfl rfl rfl rfl (fun h50 => ?_) (fun h50 => ?_)
              · refine s_move rfl rfl rfl rfl ?_
                refine s_load rfl rfl rfl rfl rfl rfl rfl ?_
                refine s_move rfl rfl rfl rfl ?_
                refine s_callT rfl rfl rfl (by kernel_rfl) rfl (rchange_any t hb (hv.later lz) hcut) ?_
                rintro v w64 rfl lw64
                try replace lz := lz.trans lw64
                try replace hL := hL.later lw64
                try replace hvl := hvl.later lw64
                refine p_gtr rfl rfl rfl rfl rfl (fun h55 => ?_) (fun h55 => ?_)
                · refine s_pick rfl rfl rfl rfl rfl ?_
                  refine s_pick rfl rfl rfl rfl rfl ?_
                  refine s_assign rfl rfl rfl rfl ?_
                  refine vOrd_nil ?_
                  refine Wp.seq ?_
                  have hbz : w.heap.size ≤ b1 := by omega
                  obtain ⟨cs1, hvb⟩ := hL.var
                  refine Wp.adopt 1007 hvb hbz rfl (show AllMem (fun d => d ≠ b1) _ from (by repeat (first | exact AllMem.args | exact AllMem.of (by simp only [AllL, and_true]; omega) | refine AllMem.put ?_ | refine AllMem.new ?_ (by omega) | refine AllMem.set ?_ (by omega)))) ?_
                  refine Wp.region [0, 1, 2, 3, 4, 5, 6, 7, 8, 9, 10, 11, 12, 13, 14, 15, 16, 17, 18, 19] (by kernel_rfl) (by kernel_rfl) ?_
                  refine s_callT rfl rfl rfl (by kernel_rfl) rfl (utanswers_any) ?_
                  rintro v w65 rfl lw65
                  try replace lz := lz.trans lw65
                  try replace hL := hL.later lw65
                  try replace hvl := hvl.later lw65
                  refine s_move rfl rfl rfl rfl ?_
                  refine s_move rfl rfl rfl rfl ?_
                  refine s_move rfl rfl rfl rfl ?_
                  refine s_move rfl rfl rfl rfl ?_
                  refine s_build rfl rfl rfl rfl rfl (by kernel_rfl) ?_
                  refine s_callH 1007 rfl rfl rfl (by kernel_rfl) rfl rfl (fun vr => (uexists_any (a := 0) hb hL ⟨by omega, by omega⟩ hd hs ⟨by decide, by decide⟩ hcut)) ?_
                  rintro v cs66 w66 ⟨rfl, R66, k66, _, hk66, hLq⟩ gw66 vw66
                  replace lz := lz.past gw66 hbz
                  clear hL
                  have hL := hLq
                  clear hLq
                  rw [decide_eq_true (show whyE t.es K d s 0 = 0 from why_ok (isU_iff.2 ⟨by omega, by omega, by decide, by decide⟩) hB hK (by omega))]
                  refine s_move rfl rfl rfl rfl ?_
                  refine s_eqv (c := true) rfl rfl rfl rfl rfl (fun _ => by kernel_rfl) (fun w => by rw [run_eql_bool]; rfl) ?_
                  refine s_pick rfl rfl rfl rfl rfl ?_
                  refine s_move rfl rfl rfl rfl ?_
                  refine s_move rfl rfl rfl rfl ?_
                  refine s_move rfl rfl rfl rfl ?_
                  refine s_move rfl rfl rfl rfl ?_
                  refine s_build rfl rfl rfl rfl rfl (by kernel_rfl) ?_
                  refine s_callH 1007 rfl rfl rfl (by kernel_rfl) rfl rfl (fun vr => (uexists_any (a := 999999999999999999) hb hL ⟨by omega, by omega⟩ hd hs ⟨by decide, by decide⟩ hcut)) ?_
                  rintro v cs68 w68 ⟨rfl, R68, k68, _, hk68, hLq⟩ gw68 vw68
                  replace lz := lz.past gw68 hbz
                  clear hL
                  have hL := hLq
                  clear hLq
                  rw [decide_eq_true (show whyE t.es K d s 999999999999999999 = 0 from why_ok (isU_iff.2 ⟨by omega, by omega, by decide, by decide⟩) hB hK (by omega))]
                  refine s_move rfl rfl rfl rfl ?_
                  refine s_eqv (c := true) rfl rfl rfl rfl rfl (fun _ => by kernel_rfl) (fun w => by rw [run_eql_bool]; rfl) ?_
                  refine s_pick rfl rfl rfl rfl rfl ?_
                  refine s_assign rfl rfl rfl rfl ?_
                  refine vOrd_nil ?_
                  refine Wp.ret ⟨.inr rfl, fun lW => ⟨_, res_tmp (P := Try.prog) rfl rfl, _, rfl, ?_, lW⟩⟩
                  clear lW
                  rfl
                · refine s_pick rfl rfl rfl rfl rfl ?_
                  refine s_pick rfl rfl rfl rfl rfl ?_
                  refine s_assign rfl rfl rfl rfl ?_
                  refine vOrd_nil ?_
                  refine Wp.seq ?_
                  have hbz : w.heap.size ≤ b1 := by omega
                  obtain ⟨cs1, hvb⟩ := hL.var
                  refine Wp.adopt 1007 hvb hbz rfl (show AllMem (fun d => d ≠ b1) _ from (by repeat (first | exact AllMem.args | exact AllMem.of (by simp only [AllL, and_true]; omega) | refine AllMem.put ?_ | refine AllMem.new ?_ (by omega) | refine AllMem.set ?_ (by omega)))) ?_
                  refine Wp.region [0, 1, 2, 3, 4, 5, 6, 7, 8, 9, 10, 11, 12, 13, 14, 15, 16, 17, 18, 19] (by kernel_rfl) (by kernel_rfl) ?_
                  refine s_callT rfl rfl rfl (by kernel_rfl) rfl (utanswers_any) ?_
                  rintro v w70 rfl lw70
                  try replace lz := lz.trans lw70
                  try replace hL := hL.later lw70
                  try replace hvl := hvl.later lw70
                  refine s_move rfl rfl rfl rfl ?_
                  refine s_move rfl rfl rfl rfl ?_
                  refine s_move rfl rfl rfl rfl ?_
                  refine s_move rfl rfl rfl rfl ?_
                  refine s_build rfl rfl rfl rfl rfl (by kernel_rfl) ?_
                  refine s_callH 1007 rfl rfl rfl (by kernel_rfl) rfl rfl (fun vr => (uexists_any (a := 0) hb hL ⟨by omega, by omega⟩ hd hs ⟨by decide, by decide⟩ hcut)) ?_
                  rintro v cs71 w71 ⟨rfl, R71, k71, _, hk71, hLq⟩ gw71 vw71
                  replace lz := lz.past gw71 hbz
                  clear hL
                  have hL := hLq
                  clear hLq
                  rw [decide_eq_false (fun q => by have z1 := why_zero (K := K) (s := s) (a := 0) q; have z2 := isU_iff.1 z1.1; omega)]
                  refine s_move rfl rfl rfl rfl ?_
                  refine s_eqv (c := true) rfl rfl rfl rfl rfl (fun _ => by kernel_rfl) (fun w => by rw [run_eql_bool]; rfl) ?_
                  refine s_pick rfl rfl rfl rfl rfl ?_
                  refine s_move rfl rfl rfl rfl ?_
                  refine s_move rfl rfl rfl rfl ?_
                  refine s_move rfl rfl rfl rfl ?_
                  refine s_move rfl rfl rfl rfl ?_
                  refine s_build rfl rfl rfl rfl rfl (by kernel_rfl) ?_
                  refine s_callH 1007 rfl rfl rfl (by kernel_rfl) rfl rfl (fun vr => (uexists_any (a := 999999999999999999) hb hL ⟨by omega, by omega⟩ hd hs ⟨by decide, by decide⟩ hcut)) ?_
                  rintro v cs73 w73 ⟨rfl, R73, k73, _, hk73, hLq⟩ gw73 vw73
                  replace lz := lz.past gw73 hbz
                  clear hL
                  have hL := hLq
                  clear hLq
                  rw [decide_eq_false (fun q => by have z1 := why_zero (K := K) (s := s) (a := 999999999999999999) q; have z2 := isU_iff.1 z1.1; omega)]
                  refine s_move rfl rfl rfl rfl ?_
                  refine s_eqv (c := true) rfl rfl rfl rfl rfl (fun _ => by kernel_rfl) (fun w => by rw [run_eql_bool]; rfl) ?_
                  refine s_pick rfl rfl rfl rfl rfl ?_
                  refine s_assign rfl rfl rfl rfl ?_
                  refine vOrd_nil ?_
                  refine Wp.ret ⟨.inr rfl, fun lW => ⟨_, res_tmp (P := Try.prog) rfl rfl, _, rfl, ?_, lW⟩⟩
                  clear lW
                  rfl
              · refine s_move rfl rfl rfl rfl ?_
                refine s_skip rfl rfl rfl ?_
                refine s_skip rfl rfl rfl ?_
                refine s_skip rfl rfl rfl ?_
                refine s_skip rfl rfl rfl ?_
                refine s_pick rfl rfl rfl rfl rfl ?_
                refine s_pick rfl rfl rfl rfl rfl ?_
                refine s_assign rfl rfl rfl rfl ?_
                refine vOrd_nil ?_
                refine Wp.seq ?_
                have hbz : w.heap.size ≤ b1 := by omega
                obtain ⟨cs1, hvb⟩ := hL.var
                refine Wp.adopt 1007 hvb hbz rfl (show AllMem (fun d => d ≠ b1) _ from (by repeat (first | exact AllMem.args | exact AllMem.of (by simp only [AllL, and_true]; omega) | refine AllMem.put ?_ | refine AllMem.new ?_ (by omega) | refine AllMem.set ?_ (by omega)))) ?_
                refine Wp.region [0, 1, 2, 3, 4, 5, 6, 7, 8, 9, 10, 11, 12, 13, 14, 15, 16, 17, 18, 19] (by kernel_rfl) (by kernel_rfl) ?_
                refine s_callT rfl rfl rfl (by kernel_rfl) rfl (utanswers_any) ?_
                rintro v w75 rfl lw75
                try replace lz := lz.trans lw75
                try replace hL := hL.later lw75
                try replace hvl := hvl.later lw75
                refine s_move rfl rfl rfl rfl ?_
                refine s_move rfl rfl rfl rfl ?_
                refine s_move rfl rfl rfl rfl ?_
                refine s_move rfl rfl rfl rfl ?_
                refine s_build rfl rfl rfl rfl rfl (by kernel_rfl) ?_
                refine s_callH 1007 rfl rfl rfl (by kernel_rfl) rfl rfl (fun vr => (uexists_any (a := 0) hb hL ⟨by omega, by omega⟩ hd hs ⟨by decide, by decide⟩ hcut)) ?_
                rintro v cs76 w76 ⟨rfl, R76, k76, _, hk76, hLq⟩ gw76 vw76
                replace lz := lz.past gw76 hbz
                clear hL
                have hL := hLq
                clear hLq
                rw [decide_eq_false (fun q => by have z1 := why_zero (K := K) (s := s) (a := 0) q; have z2 := isU_iff.1 z1.1; omega)]
                refine s_move rfl rfl rfl rfl ?_
                refine s_eqv (c := true) rfl rfl rfl rfl rfl (fun _ => by kernel_rfl) (fun w => by rw [run_eql_bool]; rfl) ?_
                refine s_pick rfl rfl rfl rfl rfl ?_
                refine s_move rfl rfl rfl rfl ?_
                refine s_move rfl rfl rfl rfl ?_
                refine s_move rfl rfl rfl rfl ?_
                refine s_move rfl rfl rfl rfl ?_
                refine s_build rfl rfl rfl rfl rfl (by kernel_rfl) ?_
                refine s_callH 1007 rfl rfl rfl (by kernel_rfl) rfl rfl (fun vr => (uexists_any (a := 999999999999999999) hb hL ⟨by omega, by omega⟩ hd hs ⟨by decide, by decide⟩ hcut)) ?_
                rintro v cs78 w78 ⟨rfl, R78, k78, _, hk78, hLq⟩ gw78 vw78
                replace lz := lz.past gw78 hbz
                clear hL
                have hL := hLq
                clear hLq
                rw [decide_eq_false (fun q => by have z1 := why_zero (K := K) (s := s) (a := 999999999999999999) q; have z2 := isU_iff.1 z1.1; omega)]
                refine s_move rfl rfl rfl rfl ?_
                refine s_eqv (c := true) rfl rfl rfl rfl rfl (fun _ => by kernel_rfl) (fun w => by rw [run_eql_bool]; rfl) ?_
                refine s_pick rfl rfl rfl rfl rfl ?_
                refine s_assign rfl rfl rfl rfl ?_
                refine vOrd_nil ?_
                refine Wp.ret ⟨.inr rfl, fun lW => ⟨_, res_tmp (P := Try.prog) rfl rfl, _, rfl, ?_, lW⟩⟩
                clear lW
                rfl
          · refine s_move rfl rfl rfl rfl ?_
            refine s_skip rfl rfl rfl ?_
            refine s_skip rfl rfl rfl ?_
            refine s_skip rfl rfl rfl ?_
            refine s_skip rfl rfl rfl ?_
            refine s_pick rfl rfl rfl rfl rfl ?_
            refine s_pick rfl rfl rfl rfl rfl ?_
            refine s_move rfl rfl rfl rfl ?_
            refine s_move rfl rfl rfl rfl ?_
            refine p_eql rfl rfl rfl rfl rfl (fun h50 => ?_) (fun h50 => ?_)
            · refine s_move rfl rfl rfl rfl ?_
              refine s_load rfl rfl rfl rfl rfl rfl rfl ?_
              refine s_move rfl rfl rfl rfl ?_
              refine s_callT rfl rfl rfl (by kernel_rfl) rfl (rchange_any t hb (hv.later lz) hcut) ?_
              rintro v w80 rfl lw80
              try replace lz := lz.trans lw80
              try replace hL := hL.later lw80
              try replace hvl := hvl.later lw80
              refine p_gtr rfl rfl rfl rfl rfl (fun h55 => ?_) (fun h55 => ?_)
              · refine s_pick rfl rfl rfl rfl rfl ?_
                refine s_pick rfl rfl rfl rfl rfl ?_
                refine s_assign rfl rfl rfl rfl ?_
                refine vOrd_nil ?_
                refine Wp.seq ?_
                have hbz : w.heap.size ≤ b1 := by omega
                obtain ⟨cs1, hvb⟩ := hL.var
                refine Wp.adopt 1007 hvb hbz rfl (show AllMem (fun d => d ≠ b1) _ from (by repeat (first | exact AllMem.args | exact AllMem.of (by simp only [AllL, and_true]; omega) | refine AllMem.put ?_ | refine AllMem.new ?_ (by omega) | refine AllMem.set ?_ (by omega)))) ?_
                refine Wp.region [0, 1, 2, 3, 4, 5, 6, 7, 8, 9, 10, 11, 12, 13, 14, 15, 16, 17, 18, 19] (by kernel_rfl) (by kernel_rfl) ?_
                refine s_callT rfl rfl rfl (by kernel_rfl) rfl (utanswers_any) ?_
                rintro v w81 rfl lw81
                try replace lz := lz.trans lw81
                try replace hL := hL.later lw81
                try replace hvl := hvl.later lw81
                refine s_move rfl rfl rfl rfl ?_
                refine s_move rfl rfl rfl rfl ?_
                refine s_move rfl rfl rfl rfl ?_
                refine s_move rfl rfl rfl rfl ?_
                refine s_build rfl rfl rfl rfl rfl (by kernel_rfl) ?_
                refine s_callH 1007 rfl rfl rfl (by kernel_rfl) rfl rfl (fun vr => (uexists_any (a := 0) hb hL ⟨by omega, by omega⟩ hd hs ⟨by decide, by decide⟩ hcut)) ?_
                rintro v cs82 w82 ⟨rfl, R82, k82, _, hk82, hLq⟩ gw82 vw82
                replace lz := lz.past gw82 hbz
                clear hL
                have hL := hLq
                clear hLq
                rw [decide_eq_true (show whyE t.es K d s 0 = 0 from why_ok (isU_iff.2 ⟨by omega, by omega, by decide, by decide⟩) hB hK (by omega))]
                refine s_move rfl rfl rfl rfl ?_
                refine s_eqv (c := true) rfl rfl rfl rfl rfl (fun _ => by kernel_rfl) (fun w => by rw [run_eql_bool]; rfl) ?_
                refine s_pick rfl rfl rfl rfl rfl ?_
                refine s_move rfl rfl rfl rfl ?_
                refine s_move rfl rfl rfl rfl ?_
                refine s_move rfl rfl rfl rfl ?_
                refine s_move rfl rfl rfl rfl ?_
                refine s_build rfl rfl rfl rfl rfl (by kernel_rfl) ?_
                refine s_callH 1007 rfl rfl rfl (by kernel_rfl) rfl rfl (fun vr => (uexists_any (a := 999999999999999999) hb hL ⟨by omega, by omega⟩ hd hs ⟨by decide, by decide⟩ hcut)) ?_
                rintro v cs84 w84 ⟨rfl, R84, k84, _, hk84, hLq⟩ gw84 vw84
                replace lz := lz.past gw84 hbz
                clear hL
                have hL := hLq
                clear hLq
                rw [decide_eq_true (show whyE t.es K d s 999999999999999999 = 0 from why_ok (isU_iff.2 ⟨by omega, by omega, by decide, by decide⟩) hB hK (by omega))]
                refine s_move rfl rfl rfl rfl ?_
                refine s_eqv (c := true) rfl rfl rfl rfl rfl (fun _ => by kernel_rfl) (fun w => by rw [run_eql_bool]; rfl) ?_
                refine s_pick rfl rfl rfl rfl rfl ?_
                refine s_assign rfl rfl rfl rfl ?_
                refine vOrd_nil ?_
                refine Wp.ret ⟨.inr rfl, fun lW => ⟨_, res_tmp (P := Try.prog) rfl rfl, _, rfl, ?_, lW⟩⟩
                clear lW
                rfl
              · refine s_pick rfl rfl rfl rfl rfl ?_
                refine s_pick rfl rfl rfl rfl rfl ?_
                refine s_assign rfl rfl rfl rfl ?_
                refine vOrd_nil ?_
                refine Wp.seq ?_
                have hbz : w.heap.size ≤ b1 := by omega
                obtain ⟨cs1, hvb⟩ := hL.var
                refine Wp.adopt 1007 hvb hbz rfl (show AllMem (fun d => d ≠ b1) _ from (by repeat (first | exact AllMem.args | exact AllMem.of (by simp only [AllL, and_true]; omega) | refine AllMem.put ?_ | refine AllMem.new ?_ (by omega) | refine AllMem.set ?_ (by omega)))) ?_
                refine Wp.region [0, 1, 2, 3, 4, 5, 6, 7, 8, 9, 10, 11, 12, 13, 14, 15, 16, 17, 18, 19] (by kernel_rfl) (by kernel_rfl) ?_
                refine s_callT rfl rfl rfl (by kernel_rfl) rfl (utanswers_any) ?_
                rintro v w86 rfl lw86
                try replace lz := lz.trans lw86
                try replace hL := hL.later lw86
                try replace hvl := hvl.later lw86
                refine s_move rfl rfl rfl rfl ?_
                refine s_move rfl rfl rfl rfl ?_
                refine s_move rfl rfl rfl rfl ?_
                refine s_move rfl rfl rfl rfl ?_
                refine s_build rfl rfl rfl rfl rfl (by kernel_rfl) ?_
                refine s_callH 1007 rfl rfl rfl (by kernel_rfl) rfl rfl (fun vr => (uexists_any (a := 0) hb hL ⟨by omega, by omega⟩ hd hs ⟨by decide, by decide⟩ hcut)) ?_
                rintro v cs87 w87 ⟨rfl, R87, k87, _, hk87, hLq⟩ gw87 vw87
                replace lz := lz.past gw87 hbz
                clear hL
                have hL := hLq
                clear hLq
                rw [decide_eq_false (fun q => by have z1 := why_zero (K := K) (s := s) (a := 0) q; have z2 := isU_iff.1 z1.1; omega)]
                refine s_move rfl rfl rfl rfl ?_
                refine s_eqv (c := true) rfl rfl rfl rfl rfl (fun _ => by kernel_rfl) (fun w => by rw [run_eql_bool]; rfl) ?_
                refine s_pick rfl rfl rfl rfl rfl ?_
                refine s_move rfl rfl rfl rfl ?_
                refine s_move rfl rfl rfl rfl ?_
                refine s_move rfl rfl rfl rfl ?_
                refine s_move rfl rfl rfl rfl ?_
                refine s_build rfl rfl rfl rfl rfl (by kernel_rfl) ?_
                refine s_callH 1007 rfl rfl rfl (by kernel_rfl) rfl rfl (fun vr => (uexists_any (a := 999999999999999999) hb hL ⟨by omega, by omega⟩ hd hs ⟨by decide, by decide⟩ hcut)) ?_
                rintro v cs89 w89 ⟨rfl, R89, k89, _, hk89, hLq⟩ gw89 vw89
                replace lz := lz.past gw89 hbz
                clear hL
                have hL := hLq
                clear hLq
                rw [decide_eq_false (fun q => by have z1 := why_zero (K := K) (s := s) (a := 999999999999999999) q; have z2 := isU_iff.1 z1.1; omega)]
                refine s_move rfl rfl rfl rfl ?_
                refine s_eqv (c := true) rfl rfl rfl rfl rfl (fun _ => by kernel_rfl) (fun w => by rw [run_eql_bool]; rfl) ?_
                refine s_pick rfl rfl rfl rfl rfl ?_
                refine s_assign rfl rfl rfl rfl ?_
                refine vOrd_nil ?_
                refine Wp.ret ⟨.inr rfl, fun lW => ⟨_, res_tmp (P := Try.prog) rfl rfl, _, rfl, ?_, lW⟩⟩
                clear lW
                rfl
            · refine s_move rfl rfl rfl rfl ?_
              refine s_skip rfl rfl rfl ?_
              refine s_skip rfl rfl rfl ?_
              refine s_skip rfl rfl rfl ?_
              refine s_skip rfl rfl rfl ?_
              refine s_pick rfl rfl rfl rfl rfl ?_
              refine s_pick rfl rfl rfl rfl rfl ?_
              refine s_assign rfl rfl rfl rfl ?_
              refine vOrd_nil ?_
              refine Wp.seq ?_
              have hbz : w.heap.size ≤ b1 := by omega
              obtain ⟨cs1, hvb⟩ := hL.var
              refine Wp.adopt 1007 hvb hbz rfl (show AllMem (fun d => d ≠ b1) _ from (by repeat (first | exact AllMem.args | exact AllMem.of (by simp only [AllL, and_true]; omega) | refine AllMem.put ?_ | refine AllMem.new ?_ (by omega) | refine AllMem.set ?_ (by omega)))) ?_
              refine Wp.region [0, 1, 2, 3, 4, 5, 6, 7, 8, 9, 10, 11, 12, 13, 14, 15, 16, 17, 18, 19] (by kernel_rfl) (by kernel_rfl) ?_
              refine s_callT rfl rfl rfl (by kernel_rfl) rfl (utanswers_any) ?_
              rintro v w91 rfl lw91
              try replace lz := lz.trans lw91
              try replace hL := hL.later lw91
              try replace hvl := hvl.later lw91
              refine s_move rfl rfl rfl rfl ?_
              refine s_move rfl rfl rfl rfl ?_
              refine s_move rfl rfl rfl rfl ?_
              refine s_move rfl rfl rfl rfl ?_
              refine s_build rfl rfl rfl rfl rfl (by kernel_rfl) ?_
              refine s_callH 1007 rfl rfl rfl (by kernel_rfl) rfl rfl (fun vr => (uexists_any (a := 0) hb hL ⟨by omega, by omega⟩ hd hs ⟨by decide, by decide⟩ hcut)) ?_
              rintro v cs92 w92 ⟨rfl, R92, k92, _, hk92, hLq⟩ gw92 vw92
              replace lz := lz.past gw92 hbz
              clear hL
              have hL := hLq
              clear hLq
              rw [decide_eq_false (fun q => by have z1 := why_zero (K := K) (s := s) (a := 0) q; have z2 := isU_iff.1 z1.1; omega)]
              refine s_move rfl rfl rfl rfl ?_
              refine s_eqv (c := true) rfl rfl rfl rfl rfl (fun _ => by kernel_rfl) (fun w => by rw [run_eql_bool]; rfl) ?_
              refine s_pick rfl rfl rfl rfl rfl ?_
              refine s_move rfl rfl rfl rfl ?_
              refine s_move rfl rfl rfl rfl ?_
              refine s_move rfl rfl rfl rfl ?_
              refine s_move rfl rfl rfl rfl ?_
              refine s_build rfl rfl rfl rfl rfl (by kernel_rfl) ?_
              refine s_callH 1007 rfl rfl rfl (by kernel_rfl) rfl rfl (fun vr => (uexists_any (a := 999999999999999999) hb hL ⟨by omega, by omega⟩ hd hs ⟨by decide, by decide⟩ hcut)) ?_
              rintro v cs94 w94 ⟨rfl, R94, k94, _, hk94, hLq⟩ gw94 vw94
              replace lz := lz.past gw94 hbz
              clear hL
              have hL := hLq
              clear hLq
              rw [decide_eq_false (fun q => by have z1 := why_zero (K := K) (s := s) (a := 999999999999999999) q; have z2 := isU_iff.1 z1.1; omega)]
              refine s_move rfl rfl rfl rfl ?_
              refine s_eqv (c := true) rfl rfl rfl rfl rfl (fun _ => by kernel_rfl) (fun w => by rw [run_eql_bool]; rfl) ?_
              refine s_pick rfl rfl rfl rfl rfl ?_
              refine s_assign rfl rfl rfl rfl ?_
              refine vOrd_nil ?_
              refine Wp.ret ⟨.inr rfl, fun lW => ⟨_, res_tmp (P := Try.prog) rfl rfl, _, rfl, ?_, lW⟩⟩
              clear lW
              rfl
    · rw [h19]
      refine s_not rfl rfl rfl rfl ?_
      refine s_pick rfl rfl rfl rfl rfl ?_
      refine s_move rfl rfl rfl rfl ?_
      refine s_skip rfl rfl rfl ?_
      refine s_skip rfl rfl rfl ?_
      refine s_skip rfl rfl rfl ?_
      refine s_skip rfl rfl rfl ?_
      refine s_skip rfl rfl rfl ?_
      refine s_skip rfl rfl rfl ?_
      refine s_skip rfl rfl rfl ?_
      refine s_pick rfl rfl rfl rfl rfl ?_
      refine vOrd_nil ?_
      refine Wp.condT rfl rfl ?_
      refine Wp.seq ?_
      refine Wp.region [0, 1] (by kernel_rfl) (by kernel_rfl) ?_
      refine s_callT rfl rfl rfl (by kernel_rfl) rfl (utanswers_any) ?_
      rintro v w96 rfl lw96
      try replace lz := lz.trans lw96
      try replace hL := hL.later lw96
      try replace hvl := hvl.later lw96
      refine s_assign rfl rfl rfl rfl ?_
      refine vOrd_nil ?_
      refine Wp.ret ⟨.inr rfl, fun lW => ⟨_, res_tmp (P := Try.prog) rfl rfl, _, rfl, ?_, lW⟩⟩
      clear lW
      rfl

end Go.Proofs.Ytnjolcmclcengaa
