/-
 A clock: the walk of ClockBack of layer 15.
-/
import Derived.Test.YtdpodbfamgafiaaGreatClL
namespace Go.Proofs.YtdpodbfamgafiaaGreat
open Go.RowKit
set_option maxRecDepth 100000

theorem ck_range {t : Tb} {lax : Bool} {J K : Nat} {d s a : Int} (hJ : CutP (pSD d) pubS J) (h : ckE t lax J K d s a = 0) : I64 d ∧ I64 s ∧ I64 a := by
 have hw := (ckE_zero h).1
 cases hr : ckR t.es d with
 | true =>
  rw [(ckW_r (J := J) (K := K) (s := s) (a := a) hr).1] at hw
  have hU := isU_iff.1 (rE_zero hw).1
  have hd := (rE_zero hw).2.2.1
  obtain ⟨x, hx, -, hlow, -⟩ := rE_facts pub_may15 hJ hw
  have hs := sgIn_iff.1 (may_at pub_may15 hx).1
  exact ⟨⟨by omega, by omega⟩, ⟨by omega, by omega⟩, ⟨by omega, by omega⟩⟩
 | false =>
  rw [(ckW_u (J := J) (K := K) (s := s) (a := a) hr).1] at hw
  obtain ⟨hU, hB, _, _⟩ := why_zero hw
  have hU' := isU_iff.1 hU
  have hB' := inB_iff.1 hB
  exact ⟨⟨by omega, by omega⟩, ⟨by omega, by omega⟩, ⟨by omega, by omega⟩⟩

set_option maxHeartbeats 2000000 in
theorem law_ckback (t : Tb) (hu : I64 t.u) (he : I64 t.e) {v : Value} {w : World} (hv : EntAt w v t.es) {d s a : Int} (hd : I64 d) (hs : I64 s) (ha : I64 a) {nh nl z : Int} (hz : WideIs nh nl z) : Calls Tryz.prog 6 #[tbV t v, .agg #[.int .i64 d, .int .i64 s, .int .i64 a], .agg #[.int .i64 nh, .int .u64 nl]] w fun e w' => ∃ r, e = .returned r ∧ r = .bool true ∧ Below w.heap.size w w' := by
 obtain ⟨va, vc, rfl⟩ := hv.formL
 have lz := Later.refl w
 cases hb : canBe t with
 | false =>
  refine calls_Wp (args := [_, _, _]) (n := 91) Tryz.func6 rfl rfl (by simp) ?_
  refine Wp.seq ?_
  refine wR [0, 1, 2, 3] ?_
  refine sE (fun bs3 ws3 ks3 ls3 => ?_)
  try have kz3 := Nat.le_trans lz.size ks3
  try have nL3 := hL.ne ks3
  try replace lz := lz.trans ls3
  try replace hL := hL.later ls3
  try replace hvl := hvl.later ls3
  refine sE (fun bs4 ws4 ks4 ls4 => ?_)
  try have kz4 := Nat.le_trans lz.size ks4
  try have nL4 := hL.ne ks4
  try replace lz := lz.trans ls4
  try replace hL := hL.later ls4
  try replace hvl := hvl.later ls4
  refine sE (fun bs5 ws5 ks5 ls5 => ?_)
  try have kz5 := Nat.le_trans lz.size ks5
  try have nL5 := hL.ne ks5
  try replace lz := lz.trans ls5
  try replace hL := hL.later ls5
  try replace hvl := hvl.later ls5
  refine sZ 1 ?_
  refine Wp.seq ?_
  refine Wp.var (h := 3) rfl (fun v3 => ?_)
  have q3 := v3.lt
  refine Wp.var (h := 4) rfl (fun v4 => ?_)
  have q4 := v4.lt
  refine Wp.var (h := 5) rfl (fun v5 => ?_)
  have q5 := v5.lt
  have hz1 := lz.size
  refine wQ 1 ?_
  refine sT (cnew_no t hb hu he (hv.later lz)) ?_
  rintro v w19 rfl lw19
  try replace lz := lz.trans lw19
  try replace hL := hL.later lw19
  try replace hvl := hvl.later lw19
  refine sZ 5 ?_
  refine Wp.seq ?_
  refine qQ 1 ?_
  refine t_neq rfl rfl rfl rfl rfl (by omega) ?_
  refine vOrd_nil ?_
  refine Wp.condT rfl rfl ?_
  refine Wp.seq ?_
  refine wR [0, 1] ?_
  refine sT (ckanswers_any) ?_
  rintro v w20 rfl lw20
  try replace lz := lz.trans lw20
  try replace hL := hL.later lw20
  try replace hvl := hvl.later lw20
  refine sZ 1 ?_
  refine Wp.ret ⟨.inr rfl, fun lW => ⟨_, res_tmp (P := Tryz.prog) rfl rfl, _, rfl, ?_, lW⟩⟩
  clear lW
  rfl
 | true =>
  have hpos := (can_num hb).2.2
  have hn := can_len hb
  obtain ⟨x0, hx0⟩ : ∃ x, t.es[0]? = some x := ⟨_, List.getElem?_eq_getElem hpos⟩
  obtain ⟨J, hJ⟩ := cutS_day pub_may15 d
  obtain ⟨K, hK⟩ := cut_day hb d
  obtain ⟨J2, hJ2⟩ := cutS_at pub_may15 z
  obtain ⟨K2, hK2⟩ := cut_at hb (z / 1000000000000000000)
  have hag := ck_again (s := s) (a := a) hb hx0 hJ hK
  obtain ⟨E, hE⟩ : ∃ E, ckE t true J K d s a = E := ⟨_, rfl⟩
  obtain ⟨F, hF⟩ : ∃ F, ckF t true J2 K2 z = F := ⟨_, rfl⟩
  obtain ⟨Z, hZ⟩ : ∃ Z, ckT t true J K d s a = Z := ⟨_, rfl⟩
  rw [hE, hZ] at hag
  by_cases h0 : F = 0
  ·obtain ⟨J3, K3, hJ3, hK3, kE1, hor⟩ := ck_tai hb hx0 hJ2 hK2 (hF.trans h0)
   have hlu : ckU t true J2 K2 z = .agg #[.int .i64 (ckD t.es J2 K2 z), .int .i64 (ckS t.es J2 K2 z), .int .i64 (ckA t.es J2 K2 z)] := if_pos (hF.trans h0)
   obtain ⟨x, hx⟩ : ∃ x, ckD t.es J2 K2 z = x := ⟨_, rfl⟩
   obtain ⟨y, hy⟩ : ∃ y, ckS t.es J2 K2 z = y := ⟨_, rfl⟩
   obtain ⟨q, hq⟩ : ∃ q, ckA t.es J2 K2 z = q := ⟨_, rfl⟩
   rw [hx, hy, hq] at hlu kE1 hor
   rw [hx] at hJ3 hK3
   obtain ⟨hr1, hr2, hr3⟩ := ck_range hJ3 kE1
   obtain ⟨Y, hY⟩ : ∃ Y, ckT t true J3 K3 x y q = Y := ⟨_, rfl⟩
   rw [hY] at hor
   rcases hor with hzY | ⟨ho1, hlt, hzY⟩
   ·refine calls_Wp (args := [_, _, _]) (n := 91) Tryz.func6 rfl rfl (by simp) ?_
    refine Wp.seq ?_
    refine wR [0, 1, 2, 3] ?_
    refine sE (fun bs3 ws3 ks3 ls3 => ?_)
    try have kz3 := Nat.le_trans lz.size ks3
    try have nL3 := hL.ne ks3
    try replace lz := lz.trans ls3
    try replace hL := hL.later ls3
    try replace hvl := hvl.later ls3
    refine sE (fun bs4 ws4 ks4 ls4 => ?_)
    try have kz4 := Nat.le_trans lz.size ks4
    try have nL4 := hL.ne ks4
    try replace lz := lz.trans ls4
    try replace hL := hL.later ls4
    try replace hvl := hvl.later ls4
    refine sE (fun bs5 ws5 ks5 ls5 => ?_)
    try have kz5 := Nat.le_trans lz.size ks5
    try have nL5 := hL.ne ks5
    try replace lz := lz.trans ls5
    try replace hL := hL.later ls5
    try replace hvl := hvl.later ls5
    refine sZ 1 ?_
    refine Wp.seq ?_
    refine Wp.var (h := 3) rfl (fun v3 => ?_)
    have q3 := v3.lt
    refine Wp.var (h := 4) rfl (fun v4 => ?_)
    have q4 := v4.lt
    refine Wp.var (h := 5) rfl (fun v5 => ?_)
    have q5 := v5.lt
    have hz1 := lz.size
    refine wQ 1 ?_
    refine sT (cnew_yes t hb hu he (hv.later lz)) ?_
    rintro v w19 ⟨h1, b1, c1, R1, hs1, k1, rfl, hh1, hb1, hk1, hL⟩ lw19
    try replace lz := lz.trans lw19
    try replace hL := hL.later lw19
    try replace hvl := hvl.later lw19
    refine sZ 5 ?_
    refine Wp.seq ?_
    refine qQ 1 ?_
    refine f_neq rfl rfl rfl rfl rfl (by omega) ?_
    refine vOrd_nil ?_
    refine Wp.condF rfl rfl ?_
    refine Wp.skip ?_
    refine Wp.seq ?_
    refine Wp.seq ?_
    have hbz : w.heap.size ≤ b1 := by omega
    obtain ⟨cs1, hvb⟩ := hL.var
    refine Wp.adopt 1007 hvb hbz rfl (show AllMem (fun d => d ≠ b1) _ from (by repeat (first | exact AllMem.args | exact AllMem.of (by simp only [AllL, and_true]; omega) | refine AllMem.put ?_ | refine AllMem.new ?_ (by omega) | refine AllMem.set ?_ (by omega)))) ?_
    refine wQ 2 ?_
    refine s_callH 1007 rfl rfl rfl (by kernel_rfl) rfl rfl (fun vr => (ctai_any hb hL ⟨by omega, by omega⟩ hd hs ha true hJ hK)) ?_
    rintro v cs20 w20 ⟨⟨nu, rfl, mh, ml, rfl, hm⟩, R20, k20, _, hk20, hLq⟩ gw20 vw20
    try replace lz := lz.past gw20 hbz
    clear hL
    have hL := hLq
    clear hLq
    rw [hE]
    rw [hZ] at hm
    refine sQ 3 ?_
    refine sO (fun bk21 w21 kb21 lw21 => ?_)
    try have kz9 := Nat.le_trans lz.size kb21
    try have nL9 := hL.ne kb21
    try replace lz := lz.trans lw21
    try replace hL := hL.later lw21
    try replace hvl := hvl.later lw21
    refine sS (fun w22 sw22 vw22 => ?_)
    try replace lz := lz.sto sw22 kz9
    try replace hL := hL.sto sw22 nL9
    refine sZ 1 ?_
    refine qQ 1 ?_
    refine p_eql rfl rfl rfl rfl rfl (fun h33 => ?_) (fun h33 => ?_)
    ·obtain rfl : E = 0 := by omega
     obtain ⟨J1, K1, hc1, hc2, l1, l2⟩ := hag rfl
     refine vOrd_nil ?_
     refine Wp.condT rfl rfl ?_
     refine qQ 2 ?_
     refine s_callH 1007 rfl rfl rfl (by kernel_rfl) rfl rfl (fun vr => (clabel_any hb hL ⟨by omega, by omega⟩ ⟨_, _, rfl, hm⟩ true hc1 hc2)) ?_
     rintro v cs23 w23 ⟨rfl, R23, k23, _, hk23, hLq⟩ gw23 vw23
     try replace lz := lz.past gw23 hbz
     clear hL
     have hL := hLq
     clear hLq
     rw [l1, l2]
     refine sQ 3 ?_
     refine sO (fun bk24 w24 kb24 lw24 => ?_)
     try have kz11 := Nat.le_trans lz.size kb24
     try have nL11 := hL.ne kb24
     try replace lz := lz.trans lw24
     try replace hL := hL.later lw24
     try replace hvl := hvl.later lw24
     refine sS (fun w25 sw25 vw25 => ?_)
     try replace lz := lz.sto sw25 kz11
     try replace hL := hL.sto sw25 nL11
     refine sZ 1 ?_
     refine qQ 1 ?_
     refine f_neq rfl rfl rfl rfl rfl (by omega) ?_
     refine sQ 3 ?_
     refine s_eqv (c := false) rfl rfl rfl rfl rfl (fun _ => by kernel_rfl) (fun w => by rw [run_neq_label, eqD_same]; rfl) ?_
     refine sZ 1 ?_
     refine Wp.condF rfl rfl ?_
     refine Wp.skip ?_
     refine qQ 2 ?_
     refine s_callH 1007 rfl rfl rfl (by kernel_rfl) rfl rfl (fun vr => (clabel_any hb hL ⟨by omega, by omega⟩ ⟨_, _, rfl, hz⟩ true hJ2 hK2)) ?_
     rintro v cs27 w27 ⟨rfl, R27, k27, _, hk27, hLq⟩ gw27 vw27
     try replace lz := lz.past gw27 hbz
     clear hL
     have hL := hLq
     clear hLq
     rw [hF, hlu]
     refine sQ 3 ?_
     refine sO (fun bk28 w28 kb28 lw28 => ?_)
     try have kz13 := Nat.le_trans lz.size kb28
     try have nL13 := hL.ne kb28
     try replace lz := lz.trans lw28
     try replace hL := hL.later lw28
     try replace hvl := hvl.later lw28
     refine sS (fun w29 sw29 vw29 => ?_)
     try replace lz := lz.sto sw29 kz13
     try replace hL := hL.sto sw29 nL13
     refine sZ 1 ?_
     refine Wp.seq ?_
     refine qQ 1 ?_
     refine f_neq rfl rfl rfl rfl rfl (by omega) ?_
     refine vOrd_nil ?_
     refine Wp.condF rfl rfl ?_
     refine Wp.skip ?_
     refine qQ 2 ?_
     refine s_callH 1007 rfl rfl rfl (by kernel_rfl) rfl rfl (fun vr => (ctai_any hb hL ⟨by omega, by omega⟩ hr1 hr2 hr3 true hJ3 hK3)) ?_
     rintro v cs30 w30 ⟨⟨ou, rfl, oh, ol, rfl, ho⟩, R30, k30, _, hk30, hLq⟩ gw30 vw30
     try replace lz := lz.past gw30 hbz
     clear hL
     have hL := hLq
     clear hLq
     rw [kE1]
     rw [hY] at ho
     refine sQ 3 ?_
     refine sO (fun bk31 w31 kb31 lw31 => ?_)
     try have kz15 := Nat.le_trans lz.size kb31
     try have nL15 := hL.ne kb31
     try replace lz := lz.trans lw31
     try replace hL := hL.later lw31
     try replace hvl := hvl.later lw31
     refine sS (fun w32 sw32 vw32 => ?_)
     try replace lz := lz.sto sw32 kz15
     try replace hL := hL.sto sw32 nL15
     refine sZ 1 ?_
     refine Wp.seq ?_
     clear lz
     refine wD [0, 2, 5, 1, 3, 4, 6] [36, 35, 31, 0, 0, 0, 0] (fun | 1 => IsBig 11 z | 3 => IsBig 11 Y | 4 => IsBig 12 (z - Y) | _ => fun _ _ => True) (fun wd ld => ?_)
     try replace lz := lz.trans ld
     try replace hL := hL.later ld
     try replace hvl := hvl.later ld
     refine sQ 2 ?_
     refine sO (fun bk33 w33 kb33 lw33 => ?_)
     try have kz17 := Nat.le_trans lz.size kb33
     try have nL17 := hL.ne kb33
     try replace lz := lz.trans lw33
     try replace hL := hL.later lw33
     try replace hvl := hvl.later lw33
     refine sD (fun wc lc => c_rof ⟨_, _, rfl, hz⟩ wc) ?_
     rintro v w34 u34 hb1 lw34 mw34
     try replace lz := lz.trans lw34
     try replace hL := hL.later lw34
     try replace hvl := hvl.later lw34
     try replace lz := lz.trans mw34
     try replace hL := hL.later mw34
     try replace hvl := hvl.later mw34
     refine sD (fun wc lc => c_rof ⟨_, _, rfl, ho⟩ wc) ?_
     rintro v w35 u35 hb2 lw35 mw35
     try replace lz := lz.trans lw35
     try replace hL := hL.later lw35
     try replace hvl := hvl.later lw35
     try replace lz := lz.trans mw35
     try replace hL := hL.later mw35
     try replace hvl := hvl.later mw35
     refine s_callD rfl rfl rfl (by kernel_rfl) rfl (fun wc lc => c_rsub (hb1.kp) (hb2.kp) (by decide) (by decide)) ?_
     rintro v w36 u36 hb3 lw36 mw36
     try replace lz := lz.trans lw36
     try replace hL := hL.later lw36
     try replace hvl := hvl.later lw36
     try replace lz := lz.trans mw36
     try replace hL := hL.later mw36
     try replace hvl := hvl.later mw36
     obtain ⟨hb3a, hb3l, hb3c, rfl, -⟩ := id hb3
     replace hb3 := hb3.eq hzY
     refine sS (fun w37 sw37 vw37 => ?_)
     try replace lz := lz.sto sw37 kz17
     try replace hL := hL.sto sw37 nL17
     refine vOrd_nil ?_
     refine Wp.seq ?_
     refine wD [0, 1, 2, 3, 4, 5, 6, 7, 8, 9, 10, 11, 12, 13, 14, 15, 16, 17, 18, 19, 20, 21, 22, 23, 24] [0, 0, 0, 0, 0, 0, 191, 0, 0, 0, 0, 0, 0, 0, 0, 0, 0, 0, 786431, 0, 0, 0, 0, 0, 0] (fun | 0 => fun v _ => v = .bool true | 7 => IsBig 5 0 | 8 => fun v _ => v = .bool true | _ => fun _ _ => True) (fun wd ld => ?_)
     try replace lz := lz.trans ld
     try replace hL := hL.later ld
     try replace hvl := hvl.later ld
     refine sD (fun wc lc => ckanswers_any) ?_
     rintro v w38 u38 rfl lw38 mw38
     try replace lz := lz.trans lw38
     try replace hL := hL.later lw38
     try replace hvl := hvl.later lw38
     try replace lz := lz.trans mw38
     try replace hL := hL.later mw38
     try replace hvl := hvl.later mw38
     refine sQ 2 ?_
     refine t_eql rfl rfl rfl rfl rfl (by omega) ?_
     refine sQ 3 ?_
     refine s_callD rfl rfl rfl (by kernel_rfl) rfl (fun wc lc => c_rint 0 (by decide) (by decide) wc) ?_
     rintro v w39 u39 hi0 lw39 mw39
     try replace lz := lz.trans lw39
     try replace hL := hL.later lw39
     try replace hvl := hvl.later lw39
     try replace lz := lz.trans mw39
     try replace hL := hL.later mw39
     try replace hvl := hvl.later mw39
     refine s_callD rfl rfl rfl (by kernel_rfl) rfl (fun wc lc => c_same_yes (hb3.kp) (hi0.kp) (by decide) (by decide)) ?_
     rintro v w40 u40 rfl lw40 mw40
     try replace lz := lz.trans lw40
     try replace hL := hL.later lw40
     try replace hvl := hvl.later lw40
     try replace lz := lz.trans mw40
     try replace hL := hL.later mw40
     try replace hvl := hvl.later mw40
     refine sZ 16 ?_
     refine Wp.ret ⟨.inr rfl, fun lW => ⟨_, res_tmp (P := Tryz.prog) rfl rfl, _, rfl, ?_, lW⟩⟩
     clear lW
     rfl
    ·refine vOrd_nil ?_
     refine Wp.condF rfl rfl ?_
     refine Wp.skip ?_
     refine qQ 2 ?_
     refine s_callH 1007 rfl rfl rfl (by kernel_rfl) rfl rfl (fun vr => (clabel_any hb hL ⟨by omega, by omega⟩ ⟨_, _, rfl, hz⟩ true hJ2 hK2)) ?_
     rintro v cs41 w41 ⟨rfl, R41, k41, _, hk41, hLq⟩ gw41 vw41
     try replace lz := lz.past gw41 hbz
     clear hL
     have hL := hLq
     clear hLq
     rw [hF, hlu]
     refine sQ 3 ?_
     refine sO (fun bk42 w42 kb42 lw42 => ?_)
     try have kz13 := Nat.le_trans lz.size kb42
     try have nL13 := hL.ne kb42
     try replace lz := lz.trans lw42
     try replace hL := hL.later lw42
     try replace hvl := hvl.later lw42
     refine sS (fun w43 sw43 vw43 => ?_)
     try replace lz := lz.sto sw43 kz13
     try replace hL := hL.sto sw43 nL13
     refine sZ 1 ?_
     refine Wp.seq ?_
     refine qQ 1 ?_
     refine f_neq rfl rfl rfl rfl rfl (by omega) ?_
     refine vOrd_nil ?_
     refine Wp.condF rfl rfl ?_
     refine Wp.skip ?_
     refine qQ 2 ?_
     refine s_callH 1007 rfl rfl rfl (by kernel_rfl) rfl rfl (fun vr => (ctai_any hb hL ⟨by omega, by omega⟩ hr1 hr2 hr3 true hJ3 hK3)) ?_
     rintro v cs44 w44 ⟨⟨ou, rfl, oh, ol, rfl, ho⟩, R44, k44, _, hk44, hLq⟩ gw44 vw44
     try replace lz := lz.past gw44 hbz
     clear hL
     have hL := hLq
     clear hLq
     rw [kE1]
     rw [hY] at ho
     refine sQ 3 ?_
     refine sO (fun bk45 w45 kb45 lw45 => ?_)
     try have kz15 := Nat.le_trans lz.size kb45
     try have nL15 := hL.ne kb45
     try replace lz := lz.trans lw45
     try replace hL := hL.later lw45
     try replace hvl := hvl.later lw45
     refine sS (fun w46 sw46 vw46 => ?_)
     try replace lz := lz.sto sw46 kz15
     try replace hL := hL.sto sw46 nL15
     refine sZ 1 ?_
     refine Wp.seq ?_
     clear lz
     refine wD [0, 2, 5, 1, 3, 4, 6] [36, 35, 31, 0, 0, 0, 0] (fun | 1 => IsBig 11 z | 3 => IsBig 11 Y | 4 => IsBig 12 (z - Y) | _ => fun _ _ => True) (fun wd ld => ?_)
     try replace lz := lz.trans ld
     try replace hL := hL.later ld
     try replace hvl := hvl.later ld
     refine sQ 2 ?_
     refine sO (fun bk47 w47 kb47 lw47 => ?_)
     try have kz17 := Nat.le_trans lz.size kb47
     try have nL17 := hL.ne kb47
     try replace lz := lz.trans lw47
     try replace hL := hL.later lw47
     try replace hvl := hvl.later lw47
     refine sD (fun wc lc => c_rof ⟨_, _, rfl, hz⟩ wc) ?_
     rintro v w48 u48 hb1 lw48 mw48
     try replace lz := lz.trans lw48
     try replace hL := hL.later lw48
     try replace hvl := hvl.later lw48
     try replace lz := lz.trans mw48
     try replace hL := hL.later mw48
     try replace hvl := hvl.later mw48
     refine sD (fun wc lc => c_rof ⟨_, _, rfl, ho⟩ wc) ?_
     rintro v w49 u49 hb2 lw49 mw49
     try replace lz := lz.trans lw49
     try replace hL := hL.later lw49
     try replace hvl := hvl.later lw49
     try replace lz := lz.trans mw49
     try replace hL := hL.later mw49
     try replace hvl := hvl.later mw49
     refine s_callD rfl rfl rfl (by kernel_rfl) rfl (fun wc lc => c_rsub (hb1.kp) (hb2.kp) (by decide) (by decide)) ?_
     rintro v w50 u50 hb3 lw50 mw50
     try replace lz := lz.trans lw50
     try replace hL := hL.later lw50
     try replace hvl := hvl.later lw50
     try replace lz := lz.trans mw50
     try replace hL := hL.later mw50
     try replace hvl := hvl.later mw50
     obtain ⟨hb3a, hb3l, hb3c, rfl, -⟩ := id hb3
     replace hb3 := hb3.eq hzY
     refine sS (fun w51 sw51 vw51 => ?_)
     try replace lz := lz.sto sw51 kz17
     try replace hL := hL.sto sw51 nL17
     refine vOrd_nil ?_
     refine Wp.seq ?_
     refine wD [0, 1, 2, 3, 4, 5, 6, 7, 8, 9, 10, 11, 12, 13, 14, 15, 16, 17, 18, 19, 20, 21, 22, 23, 24] [0, 0, 0, 0, 0, 0, 191, 0, 0, 0, 0, 0, 0, 0, 0, 0, 0, 0, 786431, 0, 0, 0, 0, 0, 0] (fun | 0 => fun v _ => v = .bool true | 7 => IsBig 5 0 | 8 => fun v _ => v = .bool true | _ => fun _ _ => True) (fun wd ld => ?_)
     try replace lz := lz.trans ld
     try replace hL := hL.later ld
     try replace hvl := hvl.later ld
     refine sD (fun wc lc => ckanswers_any) ?_
     rintro v w52 u52 rfl lw52 mw52
     try replace lz := lz.trans lw52
     try replace hL := hL.later lw52
     try replace hvl := hvl.later lw52
     try replace lz := lz.trans mw52
     try replace hL := hL.later mw52
     try replace hvl := hvl.later mw52
     refine sQ 2 ?_
     refine t_eql rfl rfl rfl rfl rfl (by omega) ?_
     refine sQ 3 ?_
     refine s_callD rfl rfl rfl (by kernel_rfl) rfl (fun wc lc => c_rint 0 (by decide) (by decide) wc) ?_
     rintro v w53 u53 hi0 lw53 mw53
     try replace lz := lz.trans lw53
     try replace hL := hL.later lw53
     try replace hvl := hvl.later lw53
     try replace lz := lz.trans mw53
     try replace hL := hL.later mw53
     try replace hvl := hvl.later mw53
     refine s_callD rfl rfl rfl (by kernel_rfl) rfl (fun wc lc => c_same_yes (hb3.kp) (hi0.kp) (by decide) (by decide)) ?_
     rintro v w54 u54 rfl lw54 mw54
     try replace lz := lz.trans lw54
     try replace hL := hL.later lw54
     try replace hvl := hvl.later lw54
     try replace lz := lz.trans mw54
     try replace hL := hL.later mw54
     try replace hvl := hvl.later mw54
     refine sZ 16 ?_
     refine Wp.ret ⟨.inr rfl, fun lW => ⟨_, res_tmp (P := Tryz.prog) rfl rfl, _, rfl, ?_, lW⟩⟩
     clear lW
     rfl
   ·refine calls_Wp (args := [_, _, _]) (n := 91) Tryz.func6 rfl rfl (by simp) ?_
    refine Wp.seq ?_
    refine wR [0, 1, 2, 3] ?_
    refine sE (fun bs3 ws3 ks3 ls3 => ?_)
    try have kz3 := Nat.le_trans lz.size ks3
    try have nL3 := hL.ne ks3
    try replace lz := lz.trans ls3
    try replace hL := hL.later ls3
    try replace hvl := hvl.later ls3
    refine sE (fun bs4 ws4 ks4 ls4 => ?_)
    try have kz4 := Nat.le_trans lz.size ks4
    try have nL4 := hL.ne ks4
    try replace lz := lz.trans ls4
    try replace hL := hL.later ls4
    try replace hvl := hvl.later ls4
    refine sE (fun bs5 ws5 ks5 ls5 => ?_)
    try have kz5 := Nat.le_trans lz.size ks5
    try have nL5 := hL.ne ks5
    try replace lz := lz.trans ls5
    try replace hL := hL.later ls5
    try replace hvl := hvl.later ls5
    refine sZ 1 ?_
    refine Wp.seq ?_
    refine Wp.var (h := 3) rfl (fun v3 => ?_)
    have q3 := v3.lt
    refine Wp.var (h := 4) rfl (fun v4 => ?_)
    have q4 := v4.lt
    refine Wp.var (h := 5) rfl (fun v5 => ?_)
    have q5 := v5.lt
    have hz1 := lz.size
    refine wQ 1 ?_
    refine sT (cnew_yes t hb hu he (hv.later lz)) ?_
    rintro v w19 ⟨h1, b1, c1, R1, hs1, k1, rfl, hh1, hb1, hk1, hL⟩ lw19
    try replace lz := lz.trans lw19
    try replace hL := hL.later lw19
    try replace hvl := hvl.later lw19
    refine sZ 5 ?_
    refine Wp.seq ?_
    refine qQ 1 ?_
    refine f_neq rfl rfl rfl rfl rfl (by omega) ?_
    refine vOrd_nil ?_
    refine Wp.condF rfl rfl ?_
    refine Wp.skip ?_
    refine Wp.seq ?_
    refine Wp.seq ?_
    have hbz : w.heap.size ≤ b1 := by omega
    obtain ⟨cs1, hvb⟩ := hL.var
    refine Wp.adopt 1007 hvb hbz rfl (show AllMem (fun d => d ≠ b1) _ from (by repeat (first | exact AllMem.args | exact AllMem.of (by simp only [AllL, and_true]; omega) | refine AllMem.put ?_ | refine AllMem.new ?_ (by omega) | refine AllMem.set ?_ (by omega)))) ?_
    refine wQ 2 ?_
    refine s_callH 1007 rfl rfl rfl (by kernel_rfl) rfl rfl (fun vr => (ctai_any hb hL ⟨by omega, by omega⟩ hd hs ha true hJ hK)) ?_
    rintro v cs20 w20 ⟨⟨nu, rfl, mh, ml, rfl, hm⟩, R20, k20, _, hk20, hLq⟩ gw20 vw20
    try replace lz := lz.past gw20 hbz
    clear hL
    have hL := hLq
    clear hLq
    rw [hE]
    rw [hZ] at hm
    refine sQ 3 ?_
    refine sO (fun bk21 w21 kb21 lw21 => ?_)
    try have kz9 := Nat.le_trans lz.size kb21
    try have nL9 := hL.ne kb21
    try replace lz := lz.trans lw21
    try replace hL := hL.later lw21
    try replace hvl := hvl.later lw21
    refine sS (fun w22 sw22 vw22 => ?_)
    try replace lz := lz.sto sw22 kz9
    try replace hL := hL.sto sw22 nL9
    refine sZ 1 ?_
    refine qQ 1 ?_
    refine p_eql rfl rfl rfl rfl rfl (fun h33 => ?_) (fun h33 => ?_)
    ·obtain rfl : E = 0 := by omega
     obtain ⟨J1, K1, hc1, hc2, l1, l2⟩ := hag rfl
     refine vOrd_nil ?_
     refine Wp.condT rfl rfl ?_
     refine qQ 2 ?_
     refine s_callH 1007 rfl rfl rfl (by kernel_rfl) rfl rfl (fun vr => (clabel_any hb hL ⟨by omega, by omega⟩ ⟨_, _, rfl, hm⟩ true hc1 hc2)) ?_
     rintro v cs23 w23 ⟨rfl, R23, k23, _, hk23, hLq⟩ gw23 vw23
     try replace lz := lz.past gw23 hbz
     clear hL
     have hL := hLq
     clear hLq
     rw [l1, l2]
     refine sQ 3 ?_
     refine sO (fun bk24 w24 kb24 lw24 => ?_)
     try have kz11 := Nat.le_trans lz.size kb24
     try have nL11 := hL.ne kb24
     try replace lz := lz.trans lw24
     try replace hL := hL.later lw24
     try replace hvl := hvl.later lw24
     refine sS (fun w25 sw25 vw25 => ?_)
     try replace lz := lz.sto sw25 kz11
     try replace hL := hL.sto sw25 nL11
     refine sZ 1 ?_
     refine qQ 1 ?_
     refine f_neq rfl rfl rfl rfl rfl (by omega) ?_
     refine sQ 3 ?_
     refine s_eqv (c := false) rfl rfl rfl rfl rfl (fun _ => by kernel_rfl) (fun w => by rw [run_neq_label, eqD_same]; rfl) ?_
     refine sZ 1 ?_
     refine Wp.condF rfl rfl ?_
     refine Wp.skip ?_
     refine qQ 2 ?_
     refine s_callH 1007 rfl rfl rfl (by kernel_rfl) rfl rfl (fun vr => (clabel_any hb hL ⟨by omega, by omega⟩ ⟨_, _, rfl, hz⟩ true hJ2 hK2)) ?_
     rintro v cs27 w27 ⟨rfl, R27, k27, _, hk27, hLq⟩ gw27 vw27
     try replace lz := lz.past gw27 hbz
     clear hL
     have hL := hLq
     clear hLq
     rw [hF, hlu]
     refine sQ 3 ?_
     refine sO (fun bk28 w28 kb28 lw28 => ?_)
     try have kz13 := Nat.le_trans lz.size kb28
     try have nL13 := hL.ne kb28
     try replace lz := lz.trans lw28
     try replace hL := hL.later lw28
     try replace hvl := hvl.later lw28
     refine sS (fun w29 sw29 vw29 => ?_)
     try replace lz := lz.sto sw29 kz13
     try replace hL := hL.sto sw29 nL13
     refine sZ 1 ?_
     refine Wp.seq ?_
     refine qQ 1 ?_
     refine f_neq rfl rfl rfl rfl rfl (by omega) ?_
     refine vOrd_nil ?_
     refine Wp.condF rfl rfl ?_
     refine Wp.skip ?_
     refine qQ 2 ?_
     refine s_callH 1007 rfl rfl rfl (by kernel_rfl) rfl rfl (fun vr => (ctai_any hb hL ⟨by omega, by omega⟩ hr1 hr2 hr3 true hJ3 hK3)) ?_
     rintro v cs30 w30 ⟨⟨ou, rfl, oh, ol, rfl, ho⟩, R30, k30, _, hk30, hLq⟩ gw30 vw30
     try replace lz := lz.past gw30 hbz
     clear hL
     have hL := hLq
     clear hLq
     rw [kE1]
     rw [hY] at ho
     refine sQ 3 ?_
     refine sO (fun bk31 w31 kb31 lw31 => ?_)
     try have kz15 := Nat.le_trans lz.size kb31
     try have nL15 := hL.ne kb31
     try replace lz := lz.trans lw31
     try replace hL := hL.later lw31
     try replace hvl := hvl.later lw31
     refine sS (fun w32 sw32 vw32 => ?_)
     try replace lz := lz.sto sw32 kz15
     try replace hL := hL.sto sw32 nL15
     refine sZ 1 ?_
     refine Wp.seq ?_
     clear lz
     refine wD [0, 2, 5, 1, 3, 4, 6] [36, 35, 31, 0, 0, 0, 0] (fun | 1 => IsBig 11 z | 3 => IsBig 11 Y | 4 => IsBig 12 (z - Y) | _ => fun _ _ => True) (fun wd ld => ?_)
     try replace lz := lz.trans ld
     try replace hL := hL.later ld
     try replace hvl := hvl.later ld
     refine sQ 2 ?_
     refine sO (fun bk33 w33 kb33 lw33 => ?_)
     try have kz17 := Nat.le_trans lz.size kb33
     try have nL17 := hL.ne kb33
     try replace lz := lz.trans lw33
     try replace hL := hL.later lw33
     try replace hvl := hvl.later lw33
     refine sD (fun wc lc => c_rof ⟨_, _, rfl, hz⟩ wc) ?_
     rintro v w34 u34 hb1 lw34 mw34
     try replace lz := lz.trans lw34
     try replace hL := hL.later lw34
     try replace hvl := hvl.later lw34
     try replace lz := lz.trans mw34
     try replace hL := hL.later mw34
     try replace hvl := hvl.later mw34
     refine sD (fun wc lc => c_rof ⟨_, _, rfl, ho⟩ wc) ?_
     rintro v w35 u35 hb2 lw35 mw35
     try replace lz := lz.trans lw35
     try replace hL := hL.later lw35
     try replace hvl := hvl.later lw35
     try replace lz := lz.trans mw35
     try replace hL := hL.later mw35
     try replace hvl := hvl.later mw35
     refine s_callD rfl rfl rfl (by kernel_rfl) rfl (fun wc lc => c_rsub (hb1.kp) (hb2.kp) (by decide) (by decide)) ?_
     rintro v w36 u36 hb3 lw36 mw36
     try replace lz := lz.trans lw36
     try replace hL := hL.later lw36
     try replace hvl := hvl.later lw36
     try replace lz := lz.trans mw36
     try replace hL := hL.later mw36
     try replace hvl := hvl.later mw36
     obtain ⟨hb3a, hb3l, hb3c, rfl, -⟩ := id hb3
     replace hb3 := hb3.eq hzY
     refine sS (fun w37 sw37 vw37 => ?_)
     try replace lz := lz.sto sw37 kz17
     try replace hL := hL.sto sw37 nL17
     refine vOrd_nil ?_
     refine Wp.seq ?_
     refine wD [0, 1, 2, 3, 4, 5, 6, 7, 8, 9, 10, 11, 12, 13, 14, 15, 16, 17, 18, 19, 20, 21, 22, 23, 24] [0, 0, 0, 0, 0, 0, 191, 0, 0, 0, 0, 0, 0, 0, 0, 0, 0, 0, 786431, 0, 0, 0, 0, 0, 0] (fun | 0 => fun v _ => v = .bool true | 7 => IsBig 5 0 | 8 => fun v _ => v = .bool (eqI 1 0) | 11 => fun v _ => v = .bool (ckOld t.es) | 19 => IsBig 5 1 | 20 => fun v _ => v = .bool true | _ => fun _ _ => True) (fun wd ld => ?_)
     try replace lz := lz.trans ld
     try replace hL := hL.later ld
     try replace hvl := hvl.later ld
     refine sD (fun wc lc => ckanswers_any) ?_
     rintro v w38 u38 rfl lw38 mw38
     try replace lz := lz.trans lw38
     try replace hL := hL.later lw38
     try replace hvl := hvl.later lw38
     try replace lz := lz.trans mw38
     try replace hL := hL.later mw38
     try replace hvl := hvl.later mw38
     refine sQ 2 ?_
     refine t_eql rfl rfl rfl rfl rfl (by omega) ?_
     refine sQ 3 ?_
     refine s_callD rfl rfl rfl (by kernel_rfl) rfl (fun wc lc => c_rint 0 (by decide) (by decide) wc) ?_
     rintro v w39 u39 hi0 lw39 mw39
     try replace lz := lz.trans lw39
     try replace hL := hL.later lw39
     try replace hvl := hvl.later lw39
     try replace lz := lz.trans mw39
     try replace hL := hL.later mw39
     try replace hvl := hvl.later mw39
     refine s_callD rfl rfl rfl (by kernel_rfl) rfl (fun wc lc => c_same (hb3.kp) (hi0.kp) (by decide) (by decide)) ?_
     rintro v w40 u40 rfl lw40 mw40
     try replace lz := lz.trans lw40
     try replace hL := hL.later lw40
     try replace hvl := hvl.later lw40
     try replace lz := lz.trans mw40
     try replace hL := hL.later mw40
     try replace hvl := hvl.later mw40
     rw [show eqI 1 0 = false by decide]
     refine sQ 2 ?_
     refine sD (fun wc lc => cold_any hb (hL.later lc)) ?_
     rintro v w41 u41 rfl lw41 mw41
     try replace lz := lz.trans lw41
     try replace hL := hL.later lw41
     try replace hvl := hvl.later lw41
     try replace lz := lz.trans mw41
     try replace hL := hL.later mw41
     try replace hvl := hvl.later mw41
     rw [ho1]
     refine sQ 3 ?_
     refine t_lss rfl rfl rfl rfl rfl (by omega) ?_
     refine sQ 3 ?_
     refine s_callD rfl rfl rfl (by kernel_rfl) rfl (fun wc lc => c_rint 1 (by decide) (by decide) wc) ?_
     rintro v w42 u42 hi1 lw42 mw42
     try replace lz := lz.trans lw42
     try replace hL := hL.later lw42
     try replace hvl := hvl.later lw42
     try replace lz := lz.trans mw42
     try replace hL := hL.later mw42
     try replace hvl := hvl.later mw42
     refine s_callD rfl rfl rfl (by kernel_rfl) rfl (fun wc lc => c_same_yes (hb3.kp) (hi1.kp) (by decide) (by decide)) ?_
     rintro v w43 u43 rfl lw43 mw43
     try replace lz := lz.trans lw43
     try replace hL := hL.later lw43
     try replace hvl := hvl.later lw43
     try replace lz := lz.trans mw43
     try replace hL := hL.later mw43
     try replace hvl := hvl.later mw43
     refine sZ 4 ?_
     refine Wp.ret ⟨.inr rfl, fun lW => ⟨_, res_tmp (P := Tryz.prog) rfl rfl, _, rfl, ?_, lW⟩⟩
     clear lW
     rfl
    ·refine vOrd_nil ?_
     refine Wp.condF rfl rfl ?_
     refine Wp.skip ?_
     refine qQ 2 ?_
     refine s_callH 1007 rfl rfl rfl (by kernel_rfl) rfl rfl (fun vr => (clabel_any hb hL ⟨by omega, by omega⟩ ⟨_, _, rfl, hz⟩ true hJ2 hK2)) ?_
     rintro v cs44 w44 ⟨rfl, R44, k44, _, hk44, hLq⟩ gw44 vw44
     try replace lz := lz.past gw44 hbz
     clear hL
     have hL := hLq
     clear hLq
     rw [hF, hlu]
     refine sQ 3 ?_
     refine sO (fun bk45 w45 kb45 lw45 => ?_)
     try have kz13 := Nat.le_trans lz.size kb45
     try have nL13 := hL.ne kb45
     try replace lz := lz.trans lw45
     try replace hL := hL.later lw45
     try replace hvl := hvl.later lw45
     refine sS (fun w46 sw46 vw46 => ?_)
     try replace lz := lz.sto sw46 kz13
     try replace hL := hL.sto sw46 nL13
     refine sZ 1 ?_
     refine Wp.seq ?_
     refine qQ 1 ?_
     refine f_neq rfl rfl rfl rfl rfl (by omega) ?_
     refine vOrd_nil ?_
     refine Wp.condF rfl rfl ?_
     refine Wp.skip ?_
     refine qQ 2 ?_
     refine s_callH 1007 rfl rfl rfl (by kernel_rfl) rfl rfl (fun vr => (ctai_any hb hL ⟨by omega, by omega⟩ hr1 hr2 hr3 true hJ3 hK3)) ?_
     rintro v cs47 w47 ⟨⟨ou, rfl, oh, ol, rfl, ho⟩, R47, k47, _, hk47, hLq⟩ gw47 vw47
     try replace lz := lz.past gw47 hbz
     clear hL
     have hL := hLq
     clear hLq
     rw [kE1]
     rw [hY] at ho
     refine sQ 3 ?_
     refine sO (fun bk48 w48 kb48 lw48 => ?_)
     try have kz15 := Nat.le_trans lz.size kb48
     try have nL15 := hL.ne kb48
     try replace lz := lz.trans lw48
     try replace hL := hL.later lw48
     try replace hvl := hvl.later lw48
     refine sS (fun w49 sw49 vw49 => ?_)
     try replace lz := lz.sto sw49 kz15
     try replace hL := hL.sto sw49 nL15
     refine sZ 1 ?_
     refine Wp.seq ?_
     clear lz
     refine wD [0, 2, 5, 1, 3, 4, 6] [36, 35, 31, 0, 0, 0, 0] (fun | 1 => IsBig 11 z | 3 => IsBig 11 Y | 4 => IsBig 12 (z - Y) | _ => fun _ _ => True) (fun wd ld => ?_)
     try replace lz := lz.trans ld
     try replace hL := hL.later ld
     try replace hvl := hvl.later ld
     refine sQ 2 ?_
     refine sO (fun bk50 w50 kb50 lw50 => ?_)
     try have kz17 := Nat.le_trans lz.size kb50
     try have nL17 := hL.ne kb50
     try replace lz := lz.trans lw50
     try replace hL := hL.later lw50
     try replace hvl := hvl.later lw50
     refine sD (fun wc lc => c_rof ⟨_, _, rfl, hz⟩ wc) ?_
     rintro v w51 u51 hb1 lw51 mw51
     try replace lz := lz.trans lw51
     try replace hL := hL.later lw51
     try replace hvl := hvl.later lw51
     try replace lz := lz.trans mw51
     try replace hL := hL.later mw51
     try replace hvl := hvl.later mw51
     refine sD (fun wc lc => c_rof ⟨_, _, rfl, ho⟩ wc) ?_
     rintro v w52 u52 hb2 lw52 mw52
     try replace lz := lz.trans lw52
     try replace hL := hL.later lw52
     try replace hvl := hvl.later lw52
     try replace lz := lz.trans mw52
     try replace hL := hL.later mw52
     try replace hvl := hvl.later mw52
     refine s_callD rfl rfl rfl (by kernel_rfl) rfl (fun wc lc => c_rsub (hb1.kp) (hb2.kp) (by decide) (by decide)) ?_
     rintro v w53 u53 hb3 lw53 mw53
     try replace lz := lz.trans lw53
     try replace hL := hL.later lw53
     try replace hvl := hvl.later lw53
     try replace lz := lz.trans mw53
     try replace hL := hL.later mw53
     try replace hvl := hvl.later mw53
     obtain ⟨hb3a, hb3l, hb3c, rfl, -⟩ := id hb3
     replace hb3 := hb3.eq hzY
     refine sS (fun w54 sw54 vw54 => ?_)
     try replace lz := lz.sto sw54 kz17
     try replace hL := hL.sto sw54 nL17
     refine vOrd_nil ?_
     refine Wp.seq ?_
     refine wD [0, 1, 2, 3, 4, 5, 6, 7, 8, 9, 10, 11, 12, 13, 14, 15, 16, 17, 18, 19, 20, 21, 22, 23, 24] [0, 0, 0, 0, 0, 0, 191, 0, 0, 0, 0, 0, 0, 0, 0, 0, 0, 0, 786431, 0, 0, 0, 0, 0, 0] (fun | 0 => fun v _ => v = .bool true | 7 => IsBig 5 0 | 8 => fun v _ => v = .bool (eqI 1 0) | 11 => fun v _ => v = .bool (ckOld t.es) | 19 => IsBig 5 1 | 20 => fun v _ => v = .bool true | _ => fun _ _ => True) (fun wd ld => ?_)
     try replace lz := lz.trans ld
     try replace hL := hL.later ld
     try replace hvl := hvl.later ld
     refine sD (fun wc lc => ckanswers_any) ?_
     rintro v w55 u55 rfl lw55 mw55
     try replace lz := lz.trans lw55
     try replace hL := hL.later lw55
     try replace hvl := hvl.later lw55
     try replace lz := lz.trans mw55
     try replace hL := hL.later mw55
     try replace hvl := hvl.later mw55
     refine sQ 2 ?_
     refine t_eql rfl rfl rfl rfl rfl (by omega) ?_
     refine sQ 3 ?_
     refine s_callD rfl rfl rfl (by kernel_rfl) rfl (fun wc lc => c_rint 0 (by decide) (by decide) wc) ?_
     rintro v w56 u56 hi0 lw56 mw56
     try replace lz := lz.trans lw56
     try replace hL := hL.later lw56
     try replace hvl := hvl.later lw56
     try replace lz := lz.trans mw56
     try replace hL := hL.later mw56
     try replace hvl := hvl.later mw56
     refine s_callD rfl rfl rfl (by kernel_rfl) rfl (fun wc lc => c_same (hb3.kp) (hi0.kp) (by decide) (by decide)) ?_
     rintro v w57 u57 rfl lw57 mw57
     try replace lz := lz.trans lw57
     try replace hL := hL.later lw57
     try replace hvl := hvl.later lw57
     try replace lz := lz.trans mw57
     try replace hL := hL.later mw57
     try replace hvl := hvl.later mw57
     rw [show eqI 1 0 = false by decide]
     refine sQ 2 ?_
     refine sD (fun wc lc => cold_any hb (hL.later lc)) ?_
     rintro v w58 u58 rfl lw58 mw58
     try replace lz := lz.trans lw58
     try replace hL := hL.later lw58
     try replace hvl := hvl.later lw58
     try replace lz := lz.trans mw58
     try replace hL := hL.later mw58
     try replace hvl := hvl.later mw58
     rw [ho1]
     refine sQ 3 ?_
     refine t_lss rfl rfl rfl rfl rfl (by omega) ?_
     refine sQ 3 ?_
     refine s_callD rfl rfl rfl (by kernel_rfl) rfl (fun wc lc => c_rint 1 (by decide) (by decide) wc) ?_
     rintro v w59 u59 hi1 lw59 mw59
     try replace lz := lz.trans lw59
     try replace hL := hL.later lw59
     try replace hvl := hvl.later lw59
     try replace lz := lz.trans mw59
     try replace hL := hL.later mw59
     try replace hvl := hvl.later mw59
     refine s_callD rfl rfl rfl (by kernel_rfl) rfl (fun wc lc => c_same_yes (hb3.kp) (hi1.kp) (by decide) (by decide)) ?_
     rintro v w60 u60 rfl lw60 mw60
     try replace lz := lz.trans lw60
     try replace hL := hL.later lw60
     try replace hvl := hvl.later lw60
     try replace lz := lz.trans mw60
     try replace hL := hL.later mw60
     try replace hvl := hvl.later mw60
     refine sZ 4 ?_
     refine Wp.ret ⟨.inr rfl, fun lW => ⟨_, res_tmp (P := Tryz.prog) rfl rfl, _, rfl, ?_, lW⟩⟩
     clear lW
     rfl
  ·obtain ⟨x, y, q, hlu⟩ : ∃ x y q, ckU t true J2 K2 z = .agg #[.int .i64 x, .int .i64 y, .int .i64 q] := ⟨0, 0, 0, if_neg (by rw [hF]; exact h0)⟩
   refine calls_Wp (args := [_, _, _]) (n := 91) Tryz.func6 rfl rfl (by simp) ?_
   refine Wp.seq ?_
   refine wR [0, 1, 2, 3] ?_
   refine sE (fun bs3 ws3 ks3 ls3 => ?_)
   try have kz3 := Nat.le_trans lz.size ks3
   try have nL3 := hL.ne ks3
   try replace lz := lz.trans ls3
   try replace hL := hL.later ls3
   try replace hvl := hvl.later ls3
   refine sE (fun bs4 ws4 ks4 ls4 => ?_)
   try have kz4 := Nat.le_trans lz.size ks4
   try have nL4 := hL.ne ks4
   try replace lz := lz.trans ls4
   try replace hL := hL.later ls4
   try replace hvl := hvl.later ls4
   refine sE (fun bs5 ws5 ks5 ls5 => ?_)
   try have kz5 := Nat.le_trans lz.size ks5
   try have nL5 := hL.ne ks5
   try replace lz := lz.trans ls5
   try replace hL := hL.later ls5
   try replace hvl := hvl.later ls5
   refine sZ 1 ?_
   refine Wp.seq ?_
   refine Wp.var (h := 3) rfl (fun v3 => ?_)
   have q3 := v3.lt
   refine Wp.var (h := 4) rfl (fun v4 => ?_)
   have q4 := v4.lt
   refine Wp.var (h := 5) rfl (fun v5 => ?_)
   have q5 := v5.lt
   have hz1 := lz.size
   refine wQ 1 ?_
   refine sT (cnew_yes t hb hu he (hv.later lz)) ?_
   rintro v w19 ⟨h1, b1, c1, R1, hs1, k1, rfl, hh1, hb1, hk1, hL⟩ lw19
   try replace lz := lz.trans lw19
   try replace hL := hL.later lw19
   try replace hvl := hvl.later lw19
   refine sZ 5 ?_
   refine Wp.seq ?_
   refine qQ 1 ?_
   refine f_neq rfl rfl rfl rfl rfl (by omega) ?_
   refine vOrd_nil ?_
   refine Wp.condF rfl rfl ?_
   refine Wp.skip ?_
   refine Wp.seq ?_
   refine Wp.seq ?_
   have hbz : w.heap.size ≤ b1 := by omega
   obtain ⟨cs1, hvb⟩ := hL.var
   refine Wp.adopt 1007 hvb hbz rfl (show AllMem (fun d => d ≠ b1) _ from (by repeat (first | exact AllMem.args | exact AllMem.of (by simp only [AllL, and_true]; omega) | refine AllMem.put ?_ | refine AllMem.new ?_ (by omega) | refine AllMem.set ?_ (by omega)))) ?_
   refine wQ 2 ?_
   refine s_callH 1007 rfl rfl rfl (by kernel_rfl) rfl rfl (fun vr => (ctai_any hb hL ⟨by omega, by omega⟩ hd hs ha true hJ hK)) ?_
   rintro v cs20 w20 ⟨⟨nu, rfl, mh, ml, rfl, hm⟩, R20, k20, _, hk20, hLq⟩ gw20 vw20
   try replace lz := lz.past gw20 hbz
   clear hL
   have hL := hLq
   clear hLq
   rw [hE]
   rw [hZ] at hm
   refine sQ 3 ?_
   refine sO (fun bk21 w21 kb21 lw21 => ?_)
   try have kz9 := Nat.le_trans lz.size kb21
   try have nL9 := hL.ne kb21
   try replace lz := lz.trans lw21
   try replace hL := hL.later lw21
   try replace hvl := hvl.later lw21
   refine sS (fun w22 sw22 vw22 => ?_)
   try replace lz := lz.sto sw22 kz9
   try replace hL := hL.sto sw22 nL9
   refine sZ 1 ?_
   refine qQ 1 ?_
   refine p_eql rfl rfl rfl rfl rfl (fun h33 => ?_) (fun h33 => ?_)
   ·obtain rfl : E = 0 := by omega
    obtain ⟨J1, K1, hc1, hc2, l1, l2⟩ := hag rfl
    refine vOrd_nil ?_
    refine Wp.condT rfl rfl ?_
    refine qQ 2 ?_
    refine s_callH 1007 rfl rfl rfl (by kernel_rfl) rfl rfl (fun vr => (clabel_any hb hL ⟨by omega, by omega⟩ ⟨_, _, rfl, hm⟩ true hc1 hc2)) ?_
    rintro v cs23 w23 ⟨rfl, R23, k23, _, hk23, hLq⟩ gw23 vw23
    try replace lz := lz.past gw23 hbz
    clear hL
    have hL := hLq
    clear hLq
    rw [l1, l2]
    refine sQ 3 ?_
    refine sO (fun bk24 w24 kb24 lw24 => ?_)
    try have kz11 := Nat.le_trans lz.size kb24
    try have nL11 := hL.ne kb24
    try replace lz := lz.trans lw24
    try replace hL := hL.later lw24
    try replace hvl := hvl.later lw24
    refine sS (fun w25 sw25 vw25 => ?_)
    try replace lz := lz.sto sw25 kz11
    try replace hL := hL.sto sw25 nL11
    refine sZ 1 ?_
    refine qQ 1 ?_
    refine f_neq rfl rfl rfl rfl rfl (by omega) ?_
    refine sQ 3 ?_
    refine s_eqv (c := false) rfl rfl rfl rfl rfl (fun _ => by kernel_rfl) (fun w => by rw [run_neq_label, eqD_same]; rfl) ?_
    refine sZ 1 ?_
    refine Wp.condF rfl rfl ?_
    refine Wp.skip ?_
    refine qQ 2 ?_
    refine s_callH 1007 rfl rfl rfl (by kernel_rfl) rfl rfl (fun vr => (clabel_any hb hL ⟨by omega, by omega⟩ ⟨_, _, rfl, hz⟩ true hJ2 hK2)) ?_
    rintro v cs27 w27 ⟨rfl, R27, k27, _, hk27, hLq⟩ gw27 vw27
    try replace lz := lz.past gw27 hbz
    clear hL
    have hL := hLq
    clear hLq
    rw [hF, hlu]
    refine sQ 3 ?_
    refine sO (fun bk28 w28 kb28 lw28 => ?_)
    try have kz13 := Nat.le_trans lz.size kb28
    try have nL13 := hL.ne kb28
    try replace lz := lz.trans lw28
    try replace hL := hL.later lw28
    try replace hvl := hvl.later lw28
    refine sS (fun w29 sw29 vw29 => ?_)
    try replace lz := lz.sto sw29 kz13
    try replace hL := hL.sto sw29 nL13
    refine sZ 1 ?_
    refine Wp.seq ?_
    refine qQ 1 ?_
    refine t_neq rfl rfl rfl rfl rfl (by omega) ?_
    refine vOrd_nil ?_
    refine Wp.condT rfl rfl ?_
    refine Wp.seq ?_
    refine wR [0, 1] ?_
    refine sT (ckanswers_any) ?_
    rintro v w30 rfl lw30
    try replace lz := lz.trans lw30
    try replace hL := hL.later lw30
    try replace hvl := hvl.later lw30
    refine sZ 1 ?_
    refine Wp.ret ⟨.inr rfl, fun lW => ⟨_, res_tmp (P := Tryz.prog) rfl rfl, _, rfl, ?_, lW⟩⟩
    clear lW
    rfl
   ·refine vOrd_nil ?_
    refine Wp.condF rfl rfl ?_
    refine Wp.skip ?_
    refine qQ 2 ?_
    refine s_callH 1007 rfl rfl rfl (by kernel_rfl) rfl rfl (fun vr => (clabel_any hb hL ⟨by omega, by omega⟩ ⟨_, _, rfl, hz⟩ true hJ2 hK2)) ?_
    rintro v cs31 w31 ⟨rfl, R31, k31, _, hk31, hLq⟩ gw31 vw31
    try replace lz := lz.past gw31 hbz
    clear hL
    have hL := hLq
    clear hLq
    rw [hF, hlu]
    refine sQ 3 ?_
    refine sO (fun bk32 w32 kb32 lw32 => ?_)
    try have kz13 := Nat.le_trans lz.size kb32
    try have nL13 := hL.ne kb32
    try replace lz := lz.trans lw32
    try replace hL := hL.later lw32
    try replace hvl := hvl.later lw32
    refine sS (fun w33 sw33 vw33 => ?_)
    try replace lz := lz.sto sw33 kz13
    try replace hL := hL.sto sw33 nL13
    refine sZ 1 ?_
    refine Wp.seq ?_
    refine qQ 1 ?_
    refine t_neq rfl rfl rfl rfl rfl (by omega) ?_
    refine vOrd_nil ?_
    refine Wp.condT rfl rfl ?_
    refine Wp.seq ?_
    refine wR [0, 1] ?_
    refine sT (ckanswers_any) ?_
    rintro v w34 rfl lw34
    try replace lz := lz.trans lw34
    try replace hL := hL.later lw34
    try replace hvl := hvl.later lw34
    refine sZ 1 ?_
    refine Wp.ret ⟨.inr rfl, fun lW => ⟨_, res_tmp (P := Tryz.prog) rfl rfl, _, rfl, ?_, lW⟩⟩
    clear lW
    rfl

end Go.Proofs.YtdpodbfamgafiaaGreat
