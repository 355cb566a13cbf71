/-
 A clock: the walks of ClockTais and ClockLabels of layer 15.
-/
import Derived.Test.YtdpodbfamgafiaaGreatClL
namespace Go.Proofs.YtdpodbfamgafiaaGreat
open Go.RowKit
set_option maxRecDepth 100000

/-- A great number's digits lie in no Leaps. -/
theorem IsBig.turned {n : Nat} {z : Int} {v : Value} {w w' : World} (h : IsBig n z v w) (hz : 4294967296 ≤ z) {b c : Nat} {R : Option Nat} {t : Tb} {k : Int} (hL : Lp w b c R t k) (hg : w.grownBy w' (some b)) : IsBig n z v w' := by
 obtain ⟨a, l, cp, rfl, ds, ⟨ao, q, off, cap, h1, h2, h3, h4, h5⟩, h6, h7, h8, h9⟩ := h
 have hr := val_range h6
 have hlen : 3 ≤ ds.length := by
  rcases Nat.lt_or_ge ds.length 3 with g | g
  ·exfalso
   have e : ab z = z := by unfold ab; rw [if_neg (by omega)]
   rw [h9, e] at hr
   have hp : pw ds.length ≤ 4294967296 := by
    rcases (by omega : ds.length = 0 ∨ ds.length = 1 ∨ ds.length = 2) with q | q | q <;> rw [q] <;> decide
   omega
  ·exact g
 obtain ⟨d, u, hv, _, _, _⟩ := hL
 have hne : q ≠ b := by
  rintro rfl
  have k0 := h5 0 (by omega)
  have k1 := h5 1 (by omega)
  have k2 := h5 2 (by omega)
  rw [cell_var hv] at k0 k1 k2
  unfold leapC at k0 k1 k2
  rcases (by omega : off = 0 ∨ off = 1 ∨ off = 2 ∨ off = 3 ∨ off = 4 ∨ off = 5 ∨ off = 6 ∨ off = 7 ∨ 8 ≤ off) with q | q | q | q | q | q | q | q | q
  ·subst q; cases k2
  ·subst q; cases k1
  ·subst q; cases k0
  ·subst q; cases k1
  ·subst q; cases k0
  ·subst q; cases k0
  ·subst q; cases k0
  ·subst q; cases k1
  ·rw [List.getElem?_eq_none (by simp only [List.length_cons, List.length_nil]; omega)] at k0; cases k0
 refine ⟨a, l, cp, rfl, ds, ⟨ao, q, off, cap, h1, h2, h3, h4, fun j hj => ?_⟩, h6, h7, h8, h9⟩
 exact (World.cell?_of_block (hg.block q (World.block_lt_of_cell? _ _ (h5 j hj)) (by simpa using hne))).trans (h5 j hj)
theorem ck_far {t : Tb} (hb : canBe t = true) {lax : Bool} {J K : Nat} {d s a : Int} (hJ : CutP (pSD d) pubS J) (hK : Cut (pDay d) t.es K) (he : ckE t lax J K d s a = 0) : 4294967296 ≤ ckT t lax J K d s a := by
 rw [ckT_ok he]
 have hw := (ckE_zero he).1
 cases hr : ckR t.es d with
 | true =>
  obtain ⟨e1, e2⟩ := ckW_r (J := J) (K := K) (s := s) (a := a) hr
  rw [e1] at hw
  rw [e2, rT_ok hw]
  obtain ⟨x, hx, hA, h1, h2, h3, h4⟩ := rE_facts pub_may15 hJ hw
  rw [hA]
  obtain ⟨y, hy⟩ : ∃ y, pubS[0]? = some y := ⟨_, rfl⟩
  have hyd : y.d = 37300 := by cases hy; rfl
  have hxd : 37300 ≤ x.d := by
   rcases Nat.eq_zero_or_pos (J - 1) with q | q
   ·rw [q, hy] at hx; cases hx; omega
   ·have := (may_less pub_may15 q hy hx).2.1; omega
  have hin := (may_at pub_may15 hx).1
  have hdi := (sgIn_iff.1 hin).1
  have n1 := fZ_near hin (u := cnt x.d 0 0) (by unfold cnt; omega) (by unfold cnt; omega)
  have n2 : begS x = fZ x (cnt x.d 0 0) := rfl
  have n3 := cnt_day x.d
  omega
 | false =>
  obtain ⟨e1, e2⟩ := ckW_u (J := J) (K := K) (s := s) (a := a) hr
  rw [e1] at hw
  rw [e2, tai_ok hw]
  obtain ⟨hU, hB, hK0, _⟩ := why_zero hw
  have hU' := isU_iff.1 hU
  obtain ⟨j, rfl⟩ : ∃ j, K = j + 1 := ⟨K - 1, by omega⟩
  obtain ⟨x, hx⟩ : ∃ x, t.es[j]? = some x := ⟨_, List.getElem?_eq_getElem (by have := hK.1; omega)⟩
  have h1 := hK.2 j x hx
  unfold pDay at h1
  rw [decide_eq_decide] at h1
  have h2 := can_in hb hx
  have h3 := (A_at hx).2.2
  rw [h3]
  unfold cnt
  omega
theorem ck_lax {t : Tb} {lax : Bool} {J K : Nat} {d s a : Int} (h : ckE t lax J K d s a = 0) : ckE t true J K d s a = 0 := ckE_ok (ckE_zero h).1 rfl

set_option maxHeartbeats 2000000 in
theorem law_cktais (t : Tb) (hu : I64 t.u) (he : I64 t.e) {v : Value} {w : World} (hv : EntAt w v t.es) {d s a : Int} (hd : I64 d) (hs : I64 s) (ha : I64 a) (lax : Bool) : Calls Tryz.prog 4 #[tbV t v, .agg #[.int .i64 d, .int .i64 s, .int .i64 a], .bool lax] w fun e w' => ∃ r, e = .returned r ∧ r = .bool true ∧ Below w.heap.size w w' := by
 obtain ⟨va, vc, rfl⟩ := hv.formL
 have lz := Later.refl w
 cases hb : canBe t with
 | false =>
  refine calls_Wp (args := [_, _, _]) (n := 74) Tryz.func4 rfl rfl (by simp) ?_
  refine Wp.seq ?_
  refine wR [0, 1, 2] ?_
  refine sE (fun bs3 ws3 ks3 ls3 => ?_)
  try have kz3 := Nat.le_trans lz.size ks3
  try have nL3 := hL.ne ks3
  try replace lz := lz.trans ls3
  try replace hL := hL.later ls3
  try replace hvl := hvl.later ls3
  refine sE (fun bs4 ws4 ks4 ls4 => ?_)
  try have kz4 := Nat.le_trans lz.size ks4
  try have nL4 := hL.ne ks4
  try replace lz := lz.trans ls4
  try replace hL := hL.later ls4
  try replace hvl := hvl.later ls4
  refine sZ 1 ?_
  refine Wp.seq ?_
  refine Wp.var (h := 3) rfl (fun v3 => ?_)
  have q3 := v3.lt
  refine Wp.var (h := 4) rfl (fun v4 => ?_)
  have q4 := v4.lt
  have hz1 := lz.size
  refine wQ 1 ?_
  refine sT (cnew_no t hb hu he (hv.later lz)) ?_
  rintro v w13 rfl lw13
  try replace lz := lz.trans lw13
  try replace hL := hL.later lw13
  try replace hvl := hvl.later lw13
  refine sZ 5 ?_
  refine Wp.seq ?_
  refine qQ 1 ?_
  refine t_neq rfl rfl rfl rfl rfl (by omega) ?_
  refine vOrd_nil ?_
  refine Wp.condT rfl rfl ?_
  refine Wp.seq ?_
  refine wR [0, 1] ?_
  refine sT (ckanswers_any) ?_
  rintro v w14 rfl lw14
  try replace lz := lz.trans lw14
  try replace hL := hL.later lw14
  try replace hvl := hvl.later lw14
  refine sZ 1 ?_
  refine Wp.ret ⟨.inr rfl, fun lW => ⟨_, res_tmp (P := Tryz.prog) rfl rfl, _, rfl, ?_, lW⟩⟩
  clear lW
  rfl
 | true =>
  have hpos := (can_num hb).2.2
  have hn := can_len hb
  obtain ⟨x0, hx0⟩ : ∃ x, t.es[0]? = some x := ⟨_, List.getElem?_eq_getElem hpos⟩
  obtain ⟨J, hJ⟩ := cutS_day pub_may15 d
  obtain ⟨K, hK⟩ := cut_day hb d
  have hfar := ck_far (lax := lax) (s := s) (a := a) hb hJ hK
  have hlx := ck_lax (t := t) (lax := lax) (J := J) (K := K) (d := d) (s := s) (a := a)
  obtain ⟨E, hE⟩ : ∃ E, ckE t lax J K d s a = E := ⟨_, rfl⟩
  obtain ⟨F, hF⟩ : ∃ F, ckE t true J K d s a = F := ⟨_, rfl⟩
  obtain ⟨Z, hZ⟩ : ∃ Z, ckT t lax J K d s a = Z := ⟨_, rfl⟩
  rw [hE, hZ] at hfar
  rw [hE, hF] at hlx
  by_cases h0 : E = 0
  ·have hf0 := hlx h0
   refine calls_Wp (args := [_, _, _]) (n := 74) Tryz.func4 rfl rfl (by simp) ?_
   refine Wp.seq ?_
   refine wR [0, 1, 2] ?_
   refine sE (fun bs3 ws3 ks3 ls3 => ?_)
   try have kz3 := Nat.le_trans lz.size ks3
   try have nL3 := hL.ne ks3
   try replace lz := lz.trans ls3
   try replace hL := hL.later ls3
   try replace hvl := hvl.later ls3
   refine sE (fun bs4 ws4 ks4 ls4 => ?_)
   try have kz4 := Nat.le_trans lz.size ks4
   try have nL4 := hL.ne ks4
   try replace lz := lz.trans ls4
   try replace hL := hL.later ls4
   try replace hvl := hvl.later ls4
   refine sZ 1 ?_
   refine Wp.seq ?_
   refine Wp.var (h := 3) rfl (fun v3 => ?_)
   have q3 := v3.lt
   refine Wp.var (h := 4) rfl (fun v4 => ?_)
   have q4 := v4.lt
   have hz1 := lz.size
   refine wQ 1 ?_
   refine sT (cnew_yes t hb hu he (hv.later lz)) ?_
   rintro v w13 ⟨h1, b1, c1, R1, hs1, k1, rfl, hh1, hb1, hk1, hL⟩ lw13
   try replace lz := lz.trans lw13
   try replace hL := hL.later lw13
   try replace hvl := hvl.later lw13
   refine sZ 5 ?_
   refine Wp.seq ?_
   refine qQ 1 ?_
   refine f_neq rfl rfl rfl rfl rfl (by omega) ?_
   refine vOrd_nil ?_
   refine Wp.condF rfl rfl ?_
   refine Wp.skip ?_
   refine Wp.seq ?_
   have hbz : w.heap.size ≤ b1 := by omega
   obtain ⟨cs1, hvb⟩ := hL.var
   refine Wp.adopt 1007 hvb hbz rfl (show AllMem (fun d => d ≠ b1) _ from (by repeat (first | exact AllMem.args | exact AllMem.of (by simp only [AllL, and_true]; omega) | refine AllMem.put ?_ | refine AllMem.new ?_ (by omega) | refine AllMem.set ?_ (by omega)))) ?_
   refine wQ 3 ?_
   refine s_callH 1007 rfl rfl rfl (by kernel_rfl) rfl rfl (fun vr => (ctai_any hb hL ⟨by omega, by omega⟩ hd hs ha lax hJ hK)) ?_
   rintro v cs14 w14 ⟨⟨nu, rfl, nh, nl, rfl, hn⟩, R14, k14, _, hk14, hLq⟩ gw14 vw14
   try replace lz := lz.past gw14 hbz
   clear hL
   have hL := hLq
   clear hLq
   rw [hE]
   rw [hZ] at hn
   refine sQ 3 ?_
   refine sO (fun bk15 w15 kb15 lw15 => ?_)
   try have kz9 := Nat.le_trans lz.size kb15
   try have nL9 := hL.ne kb15
   try replace lz := lz.trans lw15
   try replace hL := hL.later lw15
   try replace hvl := hvl.later lw15
   refine sS (fun w16 sw16 vw16 => ?_)
   try replace lz := lz.sto sw16 kz9
   try replace hL := hL.sto sw16 nL9
   refine sZ 1 ?_
   refine qQ 3 ?_
   refine sT (r15tai_any t hb (hv.later lz) hd hs ha lax hJ hK) ?_
   rintro v w17 ⟨sb, ua, ul, uc, rfl, hbig⟩ lw17
   try replace lz := lz.trans lw17
   try replace hL := hL.later lw17
   try replace hvl := hvl.later lw17
   rw [hE]
   rw [hE, hZ] at hbig
   replace hbig := hbig h0
   refine sQ 3 ?_
   refine sO (fun bk18 w18 kb18 lw18 => ?_)
   try have kz11 := Nat.le_trans lz.size kb18
   try have nL11 := hL.ne kb18
   try replace lz := lz.trans lw18
   try replace hL := hL.later lw18
   try replace hvl := hvl.later lw18
   refine sS (fun w19 sw19 vw19 => ?_)
   try replace lz := lz.sto sw19 kz11
   try replace hL := hL.sto sw19 nL11
   refine sZ 1 ?_
   refine qQ 2 ?_
   refine sT (r15tai_any t hb (hv.later lz) hd hs ha true hJ hK) ?_
   rintro v w20 ⟨sb2, ua2, ul2, uc2, rfl, -⟩ lw20
   try replace lz := lz.trans lw20
   try replace hL := hL.later lw20
   try replace hvl := hvl.later lw20
   rw [hF]
   refine sQ 3 ?_
   refine sO (fun bk21 w21 kb21 lw21 => ?_)
   try have kz13 := Nat.le_trans lz.size kb21
   try have nL13 := hL.ne kb21
   try replace lz := lz.trans lw21
   try replace hL := hL.later lw21
   try replace hvl := hvl.later lw21
   refine sS (fun w22 sw22 vw22 => ?_)
   try replace lz := lz.sto sw22 kz13
   try replace hL := hL.sto sw22 nL13
   refine sZ 1 ?_
   refine Wp.seq ?_
   refine Wp.seq ?_
   have pz := And.intro lz trivial
   clear lz
   refine wQ 2 ?_
   refine f_neq rfl rfl rfl rfl rfl (by omega) ?_
   refine sQ 3 ?_
   refine s_callH 1007 rfl rfl rfl (by kernel_rfl) rfl rfl (fun vr => (cexists_any hb hL ⟨by omega, by omega⟩ hd hs ha hJ hK)) ?_
   rintro v cs23 w23 ⟨rfl, R23, k23, _, hk23, hLq⟩ gw23 vw23
   try replace lz := lz.past gw23 hbz
   have hbig7 := (hbig.kp).turned (hfar h0) hL.lp gw23
   clear hbig
   clear hL
   have hL := hLq
   clear hLq
   rw [hF]
   refine sM ?_
   refine t_eql rfl rfl rfl rfl rfl (by omega) ?_
   rw [decide_eq_true hf0]
   refine s_eqv (c := false) rfl rfl rfl rfl rfl (fun _ => by kernel_rfl) (fun w => by rw [run_neq_bool]; rfl) ?_
   refine sZ 1 ?_
   refine Wp.condF rfl rfl ?_
   refine Wp.skip ?_
   refine Wp.seq ?_
   refine wD [0, 1, 2, 3, 4, 5, 6, 7, 8, 9, 10, 11, 12, 13, 15, 14, 16, 17, 18, 19, 20] [0, 0, 0, 0, 0, 95, 0, 0, 0, 0, 0, 0, 0, 40959, 32767, 0, 0, 0, 0, 0, 0] (fun | 0 => fun v _ => v = .bool true | 14 => IsBig 11 Z | 16 => fun v _ => v = .bool true | _ => fun _ _ => True) (fun wd ld => ?_)
   try replace lz := lz.trans ld
   try replace hL := hL.later ld
   try replace hvl := hvl.later ld
   refine sD (fun wc lc => ckanswers_any) ?_
   rintro v w26 u26 rfl lw26 mw26
   try replace lz := lz.trans lw26
   try replace hL := hL.later lw26
   try replace hvl := hvl.later lw26
   try replace lz := lz.trans mw26
   try replace hL := hL.later mw26
   try replace hvl := hvl.later mw26
   refine sQ 2 ?_
   refine f_neq rfl rfl rfl rfl rfl (by omega) ?_
   refine sQ 7 ?_
   refine t_eql rfl rfl rfl rfl rfl (by omega) ?_
   refine sQ 3 ?_
   refine sD (fun wc lc => c_rof ⟨_, _, rfl, hn⟩ wc) ?_
   rintro v w27 u27 hr lw27 mw27
   try replace lz := lz.trans lw27
   try replace hL := hL.later lw27
   try replace hvl := hvl.later lw27
   try replace lz := lz.trans mw27
   try replace hL := hL.later mw27
   try replace hvl := hvl.later mw27
   obtain ⟨ra, rl, rc, rfl, -⟩ := id hr
   refine s_callD rfl rfl rfl (by kernel_rfl) rfl (fun wc lc => c_same_yes (hr.kp) (hbig7.kp) (by decide) (by decide)) ?_
   rintro v w28 u28 rfl lw28 mw28
   try replace lz := lz.trans lw28
   try replace hL := hL.later lw28
   try replace hvl := hvl.later lw28
   try replace lz := lz.trans mw28
   try replace hL := hL.later mw28
   try replace hvl := hvl.later mw28
   refine sZ 4 ?_
   refine Wp.ret ⟨.inr rfl, fun lW => ⟨_, res_tmp (P := Tryz.prog) rfl rfl, _, rfl, ?_, lW⟩⟩
   clear lW
   rfl
  ·by_cases hf0 : F = 0
   ·refine calls_Wp (args := [_, _, _]) (n := 74) Tryz.func4 rfl rfl (by simp) ?_
    refine Wp.seq ?_
    refine wR [0, 1, 2] ?_
    refine sE (fun bs3 ws3 ks3 ls3 => ?_)
    try have kz3 := Nat.le_trans lz.size ks3
    try have nL3 := hL.ne ks3
    try replace lz := lz.trans ls3
    try replace hL := hL.later ls3
    try replace hvl := hvl.later ls3
    refine sE (fun bs4 ws4 ks4 ls4 => ?_)
    try have kz4 := Nat.le_trans lz.size ks4
    try have nL4 := hL.ne ks4
    try replace lz := lz.trans ls4
    try replace hL := hL.later ls4
    try replace hvl := hvl.later ls4
    refine sZ 1 ?_
    refine Wp.seq ?_
    refine Wp.var (h := 3) rfl (fun v3 => ?_)
    have q3 := v3.lt
    refine Wp.var (h := 4) rfl (fun v4 => ?_)
    have q4 := v4.lt
    have hz1 := lz.size
    refine wQ 1 ?_
    refine sT (cnew_yes t hb hu he (hv.later lz)) ?_
    rintro v w13 ⟨h1, b1, c1, R1, hs1, k1, rfl, hh1, hb1, hk1, hL⟩ lw13
    try replace lz := lz.trans lw13
    try replace hL := hL.later lw13
    try replace hvl := hvl.later lw13
    refine sZ 5 ?_
    refine Wp.seq ?_
    refine qQ 1 ?_
    refine f_neq rfl rfl rfl rfl rfl (by omega) ?_
    refine vOrd_nil ?_
    refine Wp.condF rfl rfl ?_
    refine Wp.skip ?_
    refine Wp.seq ?_
    have hbz : w.heap.size ≤ b1 := by omega
    obtain ⟨cs1, hvb⟩ := hL.var
    refine Wp.adopt 1007 hvb hbz rfl (show AllMem (fun d => d ≠ b1) _ from (by repeat (first | exact AllMem.args | exact AllMem.of (by simp only [AllL, and_true]; omega) | refine AllMem.put ?_ | refine AllMem.new ?_ (by omega) | refine AllMem.set ?_ (by omega)))) ?_
    refine wQ 3 ?_
    refine s_callH 1007 rfl rfl rfl (by kernel_rfl) rfl rfl (fun vr => (ctai_any hb hL ⟨by omega, by omega⟩ hd hs ha lax hJ hK)) ?_
    rintro v cs14 w14 ⟨⟨nu, rfl, nh, nl, rfl, hn⟩, R14, k14, _, hk14, hLq⟩ gw14 vw14
    try replace lz := lz.past gw14 hbz
    clear hL
    have hL := hLq
    clear hLq
    rw [hE]
    rw [hZ] at hn
    refine sQ 3 ?_
    refine sO (fun bk15 w15 kb15 lw15 => ?_)
    try have kz9 := Nat.le_trans lz.size kb15
    try have nL9 := hL.ne kb15
    try replace lz := lz.trans lw15
    try replace hL := hL.later lw15
    try replace hvl := hvl.later lw15
    refine sS (fun w16 sw16 vw16 => ?_)
    try replace lz := lz.sto sw16 kz9
    try replace hL := hL.sto sw16 nL9
    refine sZ 1 ?_
    refine qQ 3 ?_
    refine sT (r15tai_any t hb (hv.later lz) hd hs ha lax hJ hK) ?_
    rintro v w17 ⟨sb, ua, ul, uc, rfl, hbig⟩ lw17
    try replace lz := lz.trans lw17
    try replace hL := hL.later lw17
    try replace hvl := hvl.later lw17
    rw [hE]
    rw [hE, hZ] at hbig
    clear hbig
    refine sQ 3 ?_
    refine sO (fun bk18 w18 kb18 lw18 => ?_)
    try have kz11 := Nat.le_trans lz.size kb18
    try have nL11 := hL.ne kb18
    try replace lz := lz.trans lw18
    try replace hL := hL.later lw18
    try replace hvl := hvl.later lw18
    refine sS (fun w19 sw19 vw19 => ?_)
    try replace lz := lz.sto sw19 kz11
    try replace hL := hL.sto sw19 nL11
    refine sZ 1 ?_
    refine qQ 2 ?_
    refine sT (r15tai_any t hb (hv.later lz) hd hs ha true hJ hK) ?_
    rintro v w20 ⟨sb2, ua2, ul2, uc2, rfl, -⟩ lw20
    try replace lz := lz.trans lw20
    try replace hL := hL.later lw20
    try replace hvl := hvl.later lw20
    rw [hF]
    refine sQ 3 ?_
    refine sO (fun bk21 w21 kb21 lw21 => ?_)
    try have kz13 := Nat.le_trans lz.size kb21
    try have nL13 := hL.ne kb21
    try replace lz := lz.trans lw21
    try replace hL := hL.later lw21
    try replace hvl := hvl.later lw21
    refine sS (fun w22 sw22 vw22 => ?_)
    try replace lz := lz.sto sw22 kz13
    try replace hL := hL.sto sw22 nL13
    refine sZ 1 ?_
    refine Wp.seq ?_
    refine qQ 2 ?_
    refine f_neq rfl rfl rfl rfl rfl (by omega) ?_
    refine sQ 3 ?_
    refine s_callH 1007 rfl rfl rfl (by kernel_rfl) rfl rfl (fun vr => (cexists_any hb hL ⟨by omega, by omega⟩ hd hs ha hJ hK)) ?_
    rintro v cs23 w23 ⟨rfl, R23, k23, _, hk23, hLq⟩ gw23 vw23
    try replace lz := lz.past gw23 hbz
    clear hL
    have hL := hLq
    clear hLq
    rw [hF]
    refine sM ?_
    refine t_eql rfl rfl rfl rfl rfl (by omega) ?_
    rw [decide_eq_true hf0]
    refine s_eqv (c := false) rfl rfl rfl rfl rfl (fun _ => by kernel_rfl) (fun w => by rw [run_neq_bool]; rfl) ?_
    refine sZ 1 ?_
    refine Wp.condF rfl rfl ?_
    refine Wp.skip ?_
    refine Wp.seq ?_
    obtain rfl : Z = 0 := by rw [← hZ]; exact ckT_no (by rw [hE]; exact h0)
    refine wD [0, 1, 2, 3, 4, 5, 6, 7, 8, 9, 10, 11, 12, 13, 15, 14, 16, 17, 18, 19, 20] [0, 0, 0, 0, 0, 95, 0, 0, 0, 0, 0, 0, 0, 40959, 32767, 0, 0, 0, 0, 0, 0] (fun | 0 => fun v _ => v = .bool true | _ => fun _ _ => True) (fun wd ld => ?_)
    try replace lz := lz.trans ld
    try replace hL := hL.later ld
    try replace hvl := hvl.later ld
    refine sD (fun wc lc => ckanswers_any) ?_
    rintro v w26 u26 rfl lw26 mw26
    try replace lz := lz.trans lw26
    try replace hL := hL.later lw26
    try replace hvl := hvl.later lw26
    try replace lz := lz.trans mw26
    try replace hL := hL.later mw26
    try replace hvl := hvl.later mw26
    refine sQ 2 ?_
    refine t_neq rfl rfl rfl rfl rfl (by omega) ?_
    refine sQ 2 ?_
    refine sB ?_
    refine s_eqv (c := true) rfl rfl rfl rfl rfl (fun _ => by kernel_rfl) (fun w => by rw [run_eql_wide, eqW_same hn (show WideIs 0 0 0 by unfold WideIs; omega)]) ?_
    refine sZ 13 ?_
    refine Wp.ret ⟨.inr rfl, fun lW => ⟨_, res_tmp (P := Tryz.prog) rfl rfl, _, rfl, ?_, lW⟩⟩
    clear lW
    rfl
   ·refine calls_Wp (args := [_, _, _]) (n := 74) Tryz.func4 rfl rfl (by simp) ?_
    refine Wp.seq ?_
    refine wR [0, 1, 2] ?_
    refine sE (fun bs3 ws3 ks3 ls3 => ?_)
    try have kz3 := Nat.le_trans lz.size ks3
    try have nL3 := hL.ne ks3
    try replace lz := lz.trans ls3
    try replace hL := hL.later ls3
    try replace hvl := hvl.later ls3
    refine sE (fun bs4 ws4 ks4 ls4 => ?_)
    try have kz4 := Nat.le_trans lz.size ks4
    try have nL4 := hL.ne ks4
    try replace lz := lz.trans ls4
    try replace hL := hL.later ls4
    try replace hvl := hvl.later ls4
    refine sZ 1 ?_
    refine Wp.seq ?_
    refine Wp.var (h := 3) rfl (fun v3 => ?_)
    have q3 := v3.lt
    refine Wp.var (h := 4) rfl (fun v4 => ?_)
    have q4 := v4.lt
    have hz1 := lz.size
    refine wQ 1 ?_
    refine sT (cnew_yes t hb hu he (hv.later lz)) ?_
    rintro v w13 ⟨h1, b1, c1, R1, hs1, k1, rfl, hh1, hb1, hk1, hL⟩ lw13
    try replace lz := lz.trans lw13
    try replace hL := hL.later lw13
    try replace hvl := hvl.later lw13
    refine sZ 5 ?_
    refine Wp.seq ?_
    refine qQ 1 ?_
    refine f_neq rfl rfl rfl rfl rfl (by omega) ?_
    refine vOrd_nil ?_
    refine Wp.condF rfl rfl ?_
    refine Wp.skip ?_
    refine Wp.seq ?_
    have hbz : w.heap.size ≤ b1 := by omega
    obtain ⟨cs1, hvb⟩ := hL.var
    refine Wp.adopt 1007 hvb hbz rfl (show AllMem (fun d => d ≠ b1) _ from (by repeat (first | exact AllMem.args | exact AllMem.of (by simp only [AllL, and_true]; omega) | refine AllMem.put ?_ | refine AllMem.new ?_ (by omega) | refine AllMem.set ?_ (by omega)))) ?_
    refine wQ 3 ?_
    refine s_callH 1007 rfl rfl rfl (by kernel_rfl) rfl rfl (fun vr => (ctai_any hb hL ⟨by omega, by omega⟩ hd hs ha lax hJ hK)) ?_
    rintro v cs14 w14 ⟨⟨nu, rfl, nh, nl, rfl, hn⟩, R14, k14, _, hk14, hLq⟩ gw14 vw14
    try replace lz := lz.past gw14 hbz
    clear hL
    have hL := hLq
    clear hLq
    rw [hE]
    rw [hZ] at hn
    refine sQ 3 ?_
    refine sO (fun bk15 w15 kb15 lw15 => ?_)
    try have kz9 := Nat.le_trans lz.size kb15
    try have nL9 := hL.ne kb15
    try replace lz := lz.trans lw15
    try replace hL := hL.later lw15
    try replace hvl := hvl.later lw15
    refine sS (fun w16 sw16 vw16 => ?_)
    try replace lz := lz.sto sw16 kz9
    try replace hL := hL.sto sw16 nL9
    refine sZ 1 ?_
    refine qQ 3 ?_
    refine sT (r15tai_any t hb (hv.later lz) hd hs ha lax hJ hK) ?_
    rintro v w17 ⟨sb, ua, ul, uc, rfl, hbig⟩ lw17
    try replace lz := lz.trans lw17
    try replace hL := hL.later lw17
    try replace hvl := hvl.later lw17
    rw [hE]
    rw [hE, hZ] at hbig
    clear hbig
    refine sQ 3 ?_
    refine sO (fun bk18 w18 kb18 lw18 => ?_)
    try have kz11 := Nat.le_trans lz.size kb18
    try have nL11 := hL.ne kb18
    try replace lz := lz.trans lw18
    try replace hL := hL.later lw18
    try replace hvl := hvl.later lw18
    refine sS (fun w19 sw19 vw19 => ?_)
    try replace lz := lz.sto sw19 kz11
    try replace hL := hL.sto sw19 nL11
    refine sZ 1 ?_
    refine qQ 2 ?_
    refine sT (r15tai_any t hb (hv.later lz) hd hs ha true hJ hK) ?_
    rintro v w20 ⟨sb2, ua2, ul2, uc2, rfl, -⟩ lw20
    try replace lz := lz.trans lw20
    try replace hL := hL.later lw20
    try replace hvl := hvl.later lw20
    rw [hF]
    refine sQ 3 ?_
    refine sO (fun bk21 w21 kb21 lw21 => ?_)
    try have kz13 := Nat.le_trans lz.size kb21
    try have nL13 := hL.ne kb21
    try replace lz := lz.trans lw21
    try replace hL := hL.later lw21
    try replace hvl := hvl.later lw21
    refine sS (fun w22 sw22 vw22 => ?_)
    try replace lz := lz.sto sw22 kz13
    try replace hL := hL.sto sw22 nL13
    refine sZ 1 ?_
    refine Wp.seq ?_
    refine qQ 2 ?_
    refine f_neq rfl rfl rfl rfl rfl (by omega) ?_
    refine sQ 3 ?_
    refine s_callH 1007 rfl rfl rfl (by kernel_rfl) rfl rfl (fun vr => (cexists_any hb hL ⟨by omega, by omega⟩ hd hs ha hJ hK)) ?_
    rintro v cs23 w23 ⟨rfl, R23, k23, _, hk23, hLq⟩ gw23 vw23
    try replace lz := lz.past gw23 hbz
    clear hL
    have hL := hLq
    clear hLq
    rw [hF]
    refine sM ?_
    refine f_eql rfl rfl rfl rfl rfl (by omega) ?_
    rw [decide_eq_false hf0]
    refine s_eqv (c := false) rfl rfl rfl rfl rfl (fun _ => by kernel_rfl) (fun w => by rw [run_neq_bool]; rfl) ?_
    refine sZ 1 ?_
    refine Wp.condF rfl rfl ?_
    refine Wp.skip ?_
    refine Wp.seq ?_
    obtain rfl : Z = 0 := by rw [← hZ]; exact ckT_no (by rw [hE]; exact h0)
    refine wD [0, 1, 2, 3, 4, 5, 6, 7, 8, 9, 10, 11, 12, 13, 15, 14, 16, 17, 18, 19, 20] [0, 0, 0, 0, 0, 95, 0, 0, 0, 0, 0, 0, 0, 40959, 32767, 0, 0, 0, 0, 0, 0] (fun | 0 => fun v _ => v = .bool true | _ => fun _ _ => True) (fun wd ld => ?_)
    try replace lz := lz.trans ld
    try replace hL := hL.later ld
    try replace hvl := hvl.later ld
    refine sD (fun wc lc => ckanswers_any) ?_
    rintro v w26 u26 rfl lw26 mw26
    try replace lz := lz.trans lw26
    try replace hL := hL.later lw26
    try replace hvl := hvl.later lw26
    try replace lz := lz.trans mw26
    try replace hL := hL.later mw26
    try replace hvl := hvl.later mw26
    refine sQ 2 ?_
    refine t_neq rfl rfl rfl rfl rfl (by omega) ?_
    refine sQ 2 ?_
    refine sB ?_
    refine s_eqv (c := true) rfl rfl rfl rfl rfl (fun _ => by kernel_rfl) (fun w => by rw [run_eql_wide, eqW_same hn (show WideIs 0 0 0 by unfold WideIs; omega)]) ?_
    refine sZ 13 ?_
    refine Wp.ret ⟨.inr rfl, fun lW => ⟨_, res_tmp (P := Tryz.prog) rfl rfl, _, rfl, ?_, lW⟩⟩
    clear lW
    rfl

set_option maxHeartbeats 2000000 in
theorem law_cklabels (t : Tb) (hu : I64 t.u) (he : I64 t.e) {v : Value} {w : World} (hv : EntAt w v t.es) {nh nl z : Int} (hz : WideIs nh nl z) (lax : Bool) : Calls Tryz.prog 5 #[tbV t v, .agg #[.int .i64 nh, .int .u64 nl], .bool lax] w fun e w' => ∃ r, e = .returned r ∧ r = .bool true ∧ Below w.heap.size w w' := by
 obtain ⟨va, vc, rfl⟩ := hv.formL
 have lz := Later.refl w
 cases hb : canBe t with
 | false =>
  refine calls_Wp (args := [_, _, _]) (n := 47) Tryz.func5 rfl rfl (by simp) ?_
  refine Wp.seq ?_
  refine wR [0, 1, 2] ?_
  refine sE (fun bs3 ws3 ks3 ls3 => ?_)
  try have kz3 := Nat.le_trans lz.size ks3
  try have nL3 := hL.ne ks3
  try replace lz := lz.trans ls3
  try replace hL := hL.later ls3
  try replace hvl := hvl.later ls3
  refine sE (fun bs4 ws4 ks4 ls4 => ?_)
  try have kz4 := Nat.le_trans lz.size ks4
  try have nL4 := hL.ne ks4
  try replace lz := lz.trans ls4
  try replace hL := hL.later ls4
  try replace hvl := hvl.later ls4
  refine sZ 1 ?_
  refine Wp.seq ?_
  refine Wp.var (h := 3) rfl (fun v3 => ?_)
  have q3 := v3.lt
  refine Wp.var (h := 4) rfl (fun v4 => ?_)
  have q4 := v4.lt
  have hz1 := lz.size
  refine wQ 1 ?_
  refine sT (cnew_no t hb hu he (hv.later lz)) ?_
  rintro v w13 rfl lw13
  try replace lz := lz.trans lw13
  try replace hL := hL.later lw13
  try replace hvl := hvl.later lw13
  refine sZ 5 ?_
  refine Wp.seq ?_
  refine qQ 1 ?_
  refine t_neq rfl rfl rfl rfl rfl (by omega) ?_
  refine vOrd_nil ?_
  refine Wp.condT rfl rfl ?_
  refine Wp.seq ?_
  refine wR [0, 1] ?_
  refine sT (ckanswers_any) ?_
  rintro v w14 rfl lw14
  try replace lz := lz.trans lw14
  try replace hL := hL.later lw14
  try replace hvl := hvl.later lw14
  refine sZ 1 ?_
  refine Wp.ret ⟨.inr rfl, fun lW => ⟨_, res_tmp (P := Tryz.prog) rfl rfl, _, rfl, ?_, lW⟩⟩
  clear lW
  rfl
 | true =>
  have hpos := (can_num hb).2.2
  have hn := can_len hb
  obtain ⟨x0, hx0⟩ : ∃ x, t.es[0]? = some x := ⟨_, List.getElem?_eq_getElem hpos⟩
  obtain ⟨J, hJ⟩ := cutS_at pub_may15 z
  obtain ⟨K, hK⟩ := cut_at hb (z / 1000000000000000000)
  have hzr : -170141183460469231731687303715884105728 ≤ z ∧ z < 170141183460469231731687303715884105728 := hz.range
  obtain ⟨lu, hlu⟩ : ∃ lu, ckU t lax J K z = lu := ⟨_, rfl⟩
  obtain ⟨x, y, q, hxyz⟩ : ∃ x y q, lu = .agg #[.int .i64 x, .int .i64 y, .int .i64 q] := by
   rw [← hlu]
   unfold ckU
   split <;> exact ⟨_, _, _, rfl⟩
  subst hxyz
  refine calls_Wp (args := [_, _, _]) (n := 47) Tryz.func5 rfl rfl (by simp) ?_
  refine Wp.seq ?_
  refine wR [0, 1, 2] ?_
  refine sE (fun bs3 ws3 ks3 ls3 => ?_)
  try have kz3 := Nat.le_trans lz.size ks3
  try have nL3 := hL.ne ks3
  try replace lz := lz.trans ls3
  try replace hL := hL.later ls3
  try replace hvl := hvl.later ls3
  refine sE (fun bs4 ws4 ks4 ls4 => ?_)
  try have kz4 := Nat.le_trans lz.size ks4
  try have nL4 := hL.ne ks4
  try replace lz := lz.trans ls4
  try replace hL := hL.later ls4
  try replace hvl := hvl.later ls4
  refine sZ 1 ?_
  refine Wp.seq ?_
  refine Wp.var (h := 3) rfl (fun v3 => ?_)
  have q3 := v3.lt
  refine Wp.var (h := 4) rfl (fun v4 => ?_)
  have q4 := v4.lt
  have hz1 := lz.size
  refine wQ 1 ?_
  refine sT (cnew_yes t hb hu he (hv.later lz)) ?_
  rintro v w13 ⟨h1, b1, c1, R1, hs1, k1, rfl, hh1, hb1, hk1, hL⟩ lw13
  try replace lz := lz.trans lw13
  try replace hL := hL.later lw13
  try replace hvl := hvl.later lw13
  refine sZ 5 ?_
  refine Wp.seq ?_
  refine qQ 1 ?_
  refine f_neq rfl rfl rfl rfl rfl (by omega) ?_
  refine vOrd_nil ?_
  refine Wp.condF rfl rfl ?_
  refine Wp.skip ?_
  refine Wp.seq ?_
  have hbz : w.heap.size ≤ b1 := by omega
  obtain ⟨cs1, hvb⟩ := hL.var
  refine Wp.adopt 1007 hvb hbz rfl (show AllMem (fun d => d ≠ b1) _ from (by repeat (first | exact AllMem.args | exact AllMem.of (by simp only [AllL, and_true]; omega) | refine AllMem.put ?_ | refine AllMem.new ?_ (by omega) | refine AllMem.set ?_ (by omega)))) ?_
  refine wQ 3 ?_
  refine s_callH 1007 rfl rfl rfl (by kernel_rfl) rfl rfl (fun vr => (clabel_any hb hL ⟨by omega, by omega⟩ ⟨_, _, rfl, hz⟩ lax hJ hK)) ?_
  rintro v cs14 w14 ⟨rfl, R14, k14, _, hk14, hLq⟩ gw14 vw14
  try replace lz := lz.past gw14 hbz
  clear hL
  have hL := hLq
  clear hLq
  rw [hlu]
  refine sQ 3 ?_
  refine sO (fun bk15 w15 kb15 lw15 => ?_)
  try have kz9 := Nat.le_trans lz.size kb15
  try have nL9 := hL.ne kb15
  try replace lz := lz.trans lw15
  try replace hL := hL.later lw15
  try replace hvl := hvl.later lw15
  refine sS (fun w16 sw16 vw16 => ?_)
  try replace lz := lz.sto sw16 kz9
  try replace hL := hL.sto sw16 nL9
  refine sZ 1 ?_
  refine Wp.seq ?_
  have hvl := hv.later lz
  clear lz
  refine wD [0, 1, 3, 8, 2, 4, 5, 6, 7, 9, 10] [270, 265, 263, 255, 0, 0, 0, 447, 895, 0, 0] (fun | 2 => IsBig 11 z | 4 => fun v _ => v = .tuple #[ckU t lax J K z, .int .i64 (ckF t lax J K z)] | _ => fun _ _ => True) (fun wd ld => ?_)
  try replace lz := lz.trans ld
  try replace hL := hL.later ld
  try replace hvl := hvl.later ld
  refine sQ 3 ?_
  refine sO (fun bk17 w17 kb17 lw17 => ?_)
  try have kz11 := Nat.le_trans lz.size kb17
  try have nL11 := hL.ne kb17
  try replace lz := lz.trans lw17
  try replace hL := hL.later lw17
  try replace hvl := hvl.later lw17
  refine sD (fun wc lc => c_rof ⟨_, _, rfl, hz⟩ wc) ?_
  rintro v w18 u18 hr lw18 mw18
  try replace lz := lz.trans lw18
  try replace hL := hL.later lw18
  try replace hvl := hvl.later lw18
  try replace lz := lz.trans mw18
  try replace hL := hL.later mw18
  try replace hvl := hvl.later mw18
  obtain ⟨ra, rl, rc, rfl, -⟩ := id hr
  refine s_callD rfl rfl rfl (by kernel_rfl) rfl (fun wc lc => r15label_any t hb (hvl.later lc) (hr.kp) (by decide) hzr lax hJ hK) ?_
  rintro v w19 u19 rfl lw19 mw19
  try replace lz := lz.trans lw19
  try replace hL := hL.later lw19
  try replace hvl := hvl.later lw19
  try replace lz := lz.trans mw19
  try replace hL := hL.later mw19
  try replace hvl := hvl.later mw19
  rw [hlu]
  refine sQ 3 ?_
  refine sS (fun w20 sw20 vw20 => ?_)
  try replace lz := lz.sto sw20 kz11
  try replace hL := hL.sto sw20 nL11
  refine sZ 1 ?_
  refine Wp.seq ?_
  refine wR [0, 1, 2, 3, 4, 5, 6, 7, 8, 9, 10, 11] ?_
  refine sT (ckanswers_any) ?_
  rintro v w21 rfl lw21
  try replace lz := lz.trans lw21
  try replace hL := hL.later lw21
  try replace hvl := hvl.later lw21
  refine sQ 3 ?_
  refine s_eqv (c := true) rfl rfl rfl rfl rfl (fun _ => by kernel_rfl) (fun w => by rw [run_eql_label, eqD_same]) ?_
  refine sQ 4 ?_
  refine t_eql rfl rfl rfl rfl rfl (by rfl) ?_
  refine sZ 2 ?_
  refine Wp.ret ⟨.inr rfl, fun lW => ⟨_, res_tmp (P := Tryz.prog) rfl rfl, _, rfl, ?_, lW⟩⟩
  clear lW
  rfl

end Go.Proofs.YtdpodbfamgafiaaGreat
