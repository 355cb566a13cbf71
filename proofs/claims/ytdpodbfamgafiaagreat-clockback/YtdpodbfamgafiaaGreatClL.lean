/-
 A clock: what the laws of layer 15 share, and the walks of ClockNone and ClockNews.
-/
import Derived.Test.YtdpodbfamgafiaaGreatClB
import Derived.Test.YtdpodbfamgafiaaGreatLpL
import Derived.Test.YtdpodbfamgafiaaGreatClR
namespace Go.Proofs.YtdpodbfamgafiaaGreat
open Go.RowKit
set_option maxRecDepth 100000

theorem cutJ_dec {p : Sg → Bool} {es : List Sg} {k : Nat} (hk : k ≤ es.length) (h : (List.range es.length).all (fun j => match es[j]? with | some e => p e == decide (j < k) | none => true) = true) : CutP p es k :=
 ⟨hk, fun j e he => by
  have hl := (List.getElem?_eq_some_iff.1 he).1
  have := List.all_eq_true.1 h j (by simpa using hl)
  rw [he] at this
  simpa using this⟩
def tC : Tb := ⟨0, 3155673600, [(2272060800, 10)]⟩
theorem tC_can : canBe tC = true := by decide
theorem rowC {w : World} {c : Nat} (h : RowIs w c 68 [.int .i64 2272060800, .int .i64 10]) : EntAt w (.slice (some ⟨c, 0, none⟩) tC.es.length 1) tC.es :=
 ents_own (base := 0) (own_of_row (xs := entC tC.es) h (Nat.zero_le _) rfl (by decide)) (fun j hj => can_all tC_can hj)
theorem tC_K0 : Cut (pDay 41000) tC.es 0 := cut_dec (by decide) (by decide)
theorem tC_J0 : CutP (pSD 41000) pubS 13 := cutJ_dec (by decide) (by decide)
theorem tC_K1 : Cut (pDay 51544) tC.es 1 := cut_dec (by decide) (by decide)
theorem tC_J1 : CutP (pSD 51544) pubS 13 := cutJ_dec (by decide) (by decide)
theorem tC_e0 : ckE tC false 13 0 41000 5 0 = 0 := by decide +kernel
def zC : Int := ckT tC false 13 0 41000 5 0
theorem tC_K2 : Cut (pAt (zC / 1000000000000000000)) tC.es 0 := cut_dec (by decide) (by decide +kernel)
theorem tC_J2 : CutP (pSB zC) pubS 13 := cutJ_dec (by decide) (by decide +kernel)
theorem tC_f0 : ckF tC false 13 0 zC = 0 := by decide +kernel
theorem tC_u0 : ckU tC false 13 0 zC = .agg #[.int .i64 41000, .int .i64 5, .int .i64 0] := by
 unfold ckU
 rw [if_pos tC_f0, show ckD tC.es 13 0 zC = 41000 by decide +kernel, show ckS tC.es 13 0 zC = 5 by decide +kernel, show ckA tC.es 13 0 zC = 0 by decide +kernel]
theorem ctable_any {t : Tb} {b c : Nat} {R : Option Nat} {k : Int} {w : World} (hb : canBe t = true) (hL : Lp w b c R t k) : Calls Tryz.prog 15 #[.pointer (some ⟨b, 0, none⟩)] w fun e w' => ∃ r, e = .returned r ∧ (∃ q, r = tbV t (.slice (some ⟨q, 0, none⟩) t.es.length t.es.length) ∧ EntAt w' (.slice (some ⟨q, 0, none⟩) t.es.length t.es.length) t.es) ∧ Below w.heap.size w w' := by
 refine (table_any hb hL).mono ?_
 rintro e w' ⟨r, rfl, ⟨q, h1, _, h3⟩, h4⟩
 exact ⟨r, rfl, ⟨q, h1, ents_var h3 (fun j hj => can_all hb hj)⟩, h4⟩
theorem tC_e1 : ckE tC false 13 1 51544 0 0 = 9 := by decide +kernel
theorem tC_e2 : ckE tC true 13 1 51544 0 0 = 0 := by decide +kernel
theorem tC_o : ckOld tC.es = true := by decide
theorem tC_1 : dayA tC.es 1 = 41317 := by decide
set_option maxHeartbeats 1000000 in
theorem ckanswers_any {w : World} : Calls Tryz.prog 10 #[] w fun e w' => ∃ r, e = .returned r ∧ r = .bool true ∧ Below w.heap.size w w' := by
 have lz := Later.refl w
 refine calls_Wp (args := []) (n := 68) Tryz.func10 rfl rfl (by simp) ?_
 refine qZ ?_
 refine Wp.seq ?_
 refine wR [0, 1, 2, 3, 4, 5, 6, 7, 8] ?_
 refine sB ?_
 refine s_bs (e := 68) (cs := [.int .i64 2272060800, .int .i64 10]) rfl rfl rfl (fun _ => by kernel_rfl) ?_
 intro cb wb hcb lb hrow
 have hv := rowC hrow
 clear hrow
 try replace lz := lz.trans lb
 try replace hL := hL.later lb
 try replace hvl := hvl.later lb
 have hz1 := lz.size
 refine sB ?_
 refine sT (cnew_yes tC tC_can in0 (show I64 3155673600 by unfold I64; decide) hv) ?_
 rintro v w9 ⟨h1, b1, c1, R1, hs1, k1, rfl, hh1, hb1, hk1, hL⟩ lw9
 try replace lz := lz.trans lw9
 try replace hL := hL.later lw9
 try replace hvl := hvl.later lw9
 refine sZ 5 ?_
 refine Wp.seq ?_
 have hbz : w.heap.size ≤ b1 := by omega
 obtain ⟨cs1, hvb⟩ := hL.var
 refine Wp.adopt 1007 hvb hbz rfl (show AllMem (fun d => d ≠ b1) _ from (by repeat (first | exact AllMem.args | exact AllMem.of (by simp only [AllL, and_true]; omega) | refine AllMem.put ?_ | refine AllMem.new ?_ (by omega) | refine AllMem.set ?_ (by omega)))) ?_
 refine wQ 1 ?_
 refine sB ?_
 refine s_callH 1007 rfl rfl rfl (by kernel_rfl) rfl rfl (fun vr => (ctai_any (d := 41000) (s := 5) (a := 0) tC_can hL ⟨by omega, by omega⟩ ⟨by decide, by decide⟩ ⟨by decide, by decide⟩ ⟨by decide, by decide⟩ false tC_J0 tC_K0)) ?_
 rintro v cs10 w10 ⟨⟨tu, rfl, th, tl, rfl, ht⟩, R10, k10, _, hk10, hLq⟩ gw10 vw10
 try replace lz := lz.past gw10 hbz
 clear hL
 have hL := hLq
 clear hLq
 rw [tC_e0]
 refine sQ 3 ?_
 refine sO (fun bk11 w11 kb11 lw11 => ?_)
 try have kz3 := Nat.le_trans lz.size kb11
 try have nL3 := hL.ne kb11
 try replace lz := lz.trans lw11
 try replace hL := hL.later lw11
 try replace hvl := hvl.later lw11
 refine sS (fun w12 sw12 vw12 => ?_)
 try replace lz := lz.sto sw12 kz3
 try replace hL := hL.sto sw12 nL3
 refine sZ 1 ?_
 refine qQ 2 ?_
 refine s_callH 1007 rfl rfl rfl (by kernel_rfl) rfl rfl (fun vr => (clabel_any (z := zC) tC_can hL ⟨by omega, by omega⟩ ⟨_, _, rfl, ht⟩ false tC_J2 tC_K2)) ?_
 rintro v cs13 w13 ⟨rfl, R13, k13, _, hk13, hLq⟩ gw13 vw13
 try replace lz := lz.past gw13 hbz
 clear hL
 have hL := hLq
 clear hLq
 rw [tC_u0, tC_f0]
 refine sQ 3 ?_
 refine sO (fun bk14 w14 kb14 lw14 => ?_)
 try have kz5 := Nat.le_trans lz.size kb14
 try have nL5 := hL.ne kb14
 try replace lz := lz.trans lw14
 try replace hL := hL.later lw14
 try replace hvl := hvl.later lw14
 refine sS (fun w15 sw15 vw15 => ?_)
 try replace lz := lz.sto sw15 kz5
 try replace hL := hL.sto sw15 nL5
 refine sZ 1 ?_
 refine qQ 1 ?_
 refine sB ?_
 refine s_callH 1007 rfl rfl rfl (by kernel_rfl) rfl rfl (fun vr => (ctai_any (d := 51544) (s := 0) (a := 0) tC_can hL ⟨by omega, by omega⟩ ⟨by decide, by decide⟩ ⟨by decide, by decide⟩ ⟨by decide, by decide⟩ false tC_J1 tC_K1)) ?_
 rintro v cs16 w16 ⟨⟨tu16, rfl, th16, tl16, rfl, ht16⟩, R16, k16, _, hk16, hLq⟩ gw16 vw16
 try replace lz := lz.past gw16 hbz
 clear hL
 have hL := hLq
 clear hLq
 rw [tC_e1]
 refine sQ 3 ?_
 refine sO (fun bk17 w17 kb17 lw17 => ?_)
 try have kz7 := Nat.le_trans lz.size kb17
 try have nL7 := hL.ne kb17
 try replace lz := lz.trans lw17
 try replace hL := hL.later lw17
 try replace hvl := hvl.later lw17
 refine sS (fun w18 sw18 vw18 => ?_)
 try replace lz := lz.sto sw18 kz7
 try replace hL := hL.sto sw18 nL7
 refine sZ 1 ?_
 refine qQ 1 ?_
 refine t_eql rfl rfl rfl rfl rfl (by omega) ?_
 refine sQ 2 ?_
 refine sT (cold_any tC_can hL) ?_
 rintro v w19 rfl lw19
 try replace lz := lz.trans lw19
 try replace hL := hL.later lw19
 try replace hvl := hvl.later lw19
 rw [tC_o]
 refine sQ 3 ?_
 refine t_eql rfl rfl rfl rfl rfl (by decide) ?_
 refine sQ 3 ?_
 refine t_eql rfl rfl rfl rfl rfl (by decide) ?_
 refine sQ 3 ?_
 refine sB ?_
 refine s_eqv (c := true) rfl rfl rfl rfl rfl (fun _ => by kernel_rfl) (fun w => by rw [run_eql_label, eqD_same]) ?_
 refine sQ 3 ?_
 refine t_eql rfl rfl rfl rfl rfl (by decide) ?_
 refine sQ 3 ?_
 refine sB ?_
 refine s_callH 1007 rfl rfl rfl (by kernel_rfl) rfl rfl (fun vr => (cexists_any (d := 51544) (s := 0) (a := 0) tC_can hL ⟨by omega, by omega⟩ ⟨by decide, by decide⟩ ⟨by decide, by decide⟩ ⟨by decide, by decide⟩ tC_J1 tC_K1)) ?_
 rintro v cs21 w21 ⟨rfl, R21, k21, _, hk21, hLq⟩ gw21 vw21
 try replace lz := lz.past gw21 hbz
 clear hL
 have hL := hLq
 clear hLq
 rw [decide_eq_true tC_e2]
 refine sQ 3 ?_
 refine sT (cleaps_any hL) ?_
 rintro v w22 rfl lw22
 try replace lz := lz.trans lw22
 try replace hL := hL.later lw22
 try replace hvl := hvl.later lw22
 refine s_callH 1007 rfl rfl rfl (by kernel_rfl) rfl rfl (fun vr => (first_any tC_can hL.lp)) ?_
 rintro v cs23 w23 ⟨rfl, R23, _, hLq⟩ gw23 vw23
 try replace lz := lz.past gw23 hbz
 clear hL
 have hL := hLq
 rw [tC_1]
 refine t_eql rfl rfl rfl rfl rfl (by omega) ?_
 refine sZ 2 ?_
 refine Wp.ret ⟨.inr rfl, fun lW => ⟨_, res_tmp (P := Tryz.prog) rfl rfl, _, rfl, ?_, lW⟩⟩
 clear lW
 rfl
theorem law_cknone {d s a nh nl z : Int} (hz : WideIs nh nl z) {lax : Bool} {w : World} : Calls Tryz.prog 7 #[.agg #[.int .i64 d, .int .i64 s, .int .i64 a], .agg #[.int .i64 nh, .int .u64 nl], .bool lax] w fun e w' => ∃ r, e = .returned r ∧ r = .bool true ∧ Below w.heap.size w w' := by
 refine calls_Wp (args := [_, _, _]) (n := 61) Tryz.func7 rfl rfl (by simp) ?_
 refine Wp.seq ?_
 refine wR [0, 1, 2] ?_
 refine sE (fun bk1 w1 kb1 lw1 => ?_)
 refine sE (fun bk2 w2 kb2 lw2 => ?_)
 refine sZ 1 ?_
 refine qZ ?_
 refine qQ 3 ?_
 refine sT (ctai_nil) ?_
 rintro v w3 rfl lw3
 refine sQ 3 ?_
 refine sO (fun bk4 w4 kb4 lw4 => ?_)
 refine sS (fun w5 sw5 vw5 => ?_)
 refine sZ 1 ?_
 refine qQ 3 ?_
 refine sT (clabel_nil ⟨_, _, rfl, hz⟩) ?_
 rintro v w6 rfl lw6
 refine sQ 3 ?_
 refine sO (fun bk7 w7 kb7 lw7 => ?_)
 refine sS (fun w8 sw8 vw8 => ?_)
 refine sZ 1 ?_
 refine Wp.seq ?_
 refine wR [0, 1, 2, 3, 4, 5, 6, 7, 8, 9, 10, 11, 12, 13, 14, 15, 16, 17, 18, 19, 20, 21, 22, 23, 24, 25, 26, 27, 28, 29, 30, 31, 32, 33, 34, 35] ?_
 refine sT (ckanswers_any) ?_
 rintro v w9 rfl lw9
 refine sQ 2 ?_
 refine t_eql rfl rfl rfl rfl rfl (by omega) ?_
 refine sQ 3 ?_
 refine sB ?_
 refine s_eqv (c := true) rfl rfl rfl rfl rfl (fun _ => by kernel_rfl) (fun w => by rw [run_eql_wide, eqW_same (show WideIs 0 0 0 by unfold WideIs; omega) (show WideIs 0 0 0 by unfold WideIs; omega)]) ?_
 refine sQ 3 ?_
 refine t_eql rfl rfl rfl rfl rfl (by omega) ?_
 refine sQ 3 ?_
 refine sB ?_
 refine s_eqv (c := true) rfl rfl rfl rfl rfl (fun _ => by kernel_rfl) (fun w => by rw [run_eql_label, eqD_same]) ?_
 refine sQ 3 ?_
 refine sT (cold_nil) ?_
 rintro v w12 rfl lw12
 refine sQ 5 ?_
 refine sT (cexists_nil) ?_
 rintro v w13 rfl lw13
 refine sQ 4 ?_
 refine sT (cleaps_nil) ?_
 rintro v w14 rfl lw14
 refine s_nilEq none rfl rfl rfl rfl rfl ?_
 refine sZ 2 ?_
 refine Wp.ret ⟨.inr rfl, fun lW => ⟨_, res_tmp (P := Tryz.prog) rfl rfl, _, rfl, ?_, lW⟩⟩
 clear lW
 rfl
set_option maxHeartbeats 2000000 in
theorem law_cknews (t : Tb) (hu : I64 t.u) (he : I64 t.e) {v : Value} {w : World} (hv : EntAt w v t.es) : Calls Tryz.prog 3 #[tbV t v] w fun e w' => ∃ r, e = .returned r ∧ r = .bool true ∧ Below w.heap.size w w' := by
 obtain ⟨va, vc, rfl⟩ := hv.formL
 have lz := Later.refl w
 cases hb : canBe t with
 | false =>
  refine calls_Wp (args := [_]) (n := 51) Tryz.func3 rfl rfl (by simp) ?_
  refine Wp.seq ?_
  refine wR [0, 1] ?_
  refine sE (fun bs1 ws1 ks1 ls1 => ?_)
  try have kz1 := Nat.le_trans lz.size ks1
  try have nL1 := hL.ne ks1
  try replace lz := lz.trans ls1
  try replace hL := hL.later ls1
  try replace hvl := hvl.later ls1
  refine sZ 1 ?_
  refine Wp.seq ?_
  refine Wp.var (h := 1) rfl (fun v1 => ?_)
  have q1 := v1.lt
  have hz1 := lz.size
  refine wQ 1 ?_
  refine sT (cnew_no t hb hu he (hv.later lz)) ?_
  rintro v w7 rfl lw7
  try replace lz := lz.trans lw7
  try replace hL := hL.later lw7
  try replace hvl := hvl.later lw7
  refine sZ 5 ?_
  refine Wp.seq ?_
  refine qQ 1 ?_
  refine sT (rtable_no hb hu he (hv.later lz)) ?_
  rintro v w8 rfl lw8
  try replace lz := lz.trans lw8
  try replace hL := hL.later lw8
  try replace hvl := hvl.later lw8
  refine sZ 5 ?_
  refine qZ ?_
  refine Wp.condT rfl rfl ?_
  refine Wp.seq ?_
  refine wR [0, 1, 2, 3, 4, 5, 6, 7, 8, 9] ?_
  refine sT (ckanswers_any) ?_
  rintro v w9 rfl lw9
  try replace lz := lz.trans lw9
  try replace hL := hL.later lw9
  try replace hvl := hvl.later lw9
  refine sQ 2 ?_
  refine s_nilEq none rfl rfl rfl rfl rfl ?_
  refine sQ 3 ?_
  refine t_eql rfl rfl rfl rfl rfl (by omega) ?_
  refine sZ 2 ?_
  refine Wp.ret ⟨.inr rfl, fun lW => ⟨_, res_tmp (P := Tryz.prog) rfl rfl, _, rfl, ?_, lW⟩⟩
  clear lW
  rfl
 | true =>
  have hpos := (can_num hb).2.2
  have hn := can_len hb
  obtain ⟨x0, hx0⟩ : ∃ x, t.es[0]? = some x := ⟨_, List.getElem?_eq_getElem hpos⟩
  refine calls_Wp (args := [_]) (n := 51) Tryz.func3 rfl rfl (by simp) ?_
  refine Wp.seq ?_
  refine wR [0, 1] ?_
  refine sE (fun bs1 ws1 ks1 ls1 => ?_)
  try have kz1 := Nat.le_trans lz.size ks1
  try have nL1 := hL.ne ks1
  try replace lz := lz.trans ls1
  try replace hL := hL.later ls1
  try replace hvl := hvl.later ls1
  refine sZ 1 ?_
  refine Wp.seq ?_
  refine Wp.var (h := 1) rfl (fun v1 => ?_)
  have q1 := v1.lt
  have hz1 := lz.size
  refine wQ 1 ?_
  refine sT (cnew_yes t hb hu he (hv.later lz)) ?_
  rintro v w7 ⟨h1, b1, c1, R1, hs1, k1, rfl, hh1, hb1, hk1, hL⟩ lw7
  try replace lz := lz.trans lw7
  try replace hL := hL.later lw7
  try replace hvl := hvl.later lw7
  refine sZ 5 ?_
  refine Wp.seq ?_
  refine qQ 1 ?_
  refine sT (rtable_yes hb hu he (hv.later lz)) ?_
  rintro v w8 rfl lw8
  try replace lz := lz.trans lw8
  try replace hL := hL.later lw8
  try replace hvl := hvl.later lw8
  refine sZ 5 ?_
  refine qZ ?_
  refine Wp.condF rfl rfl ?_
  refine Wp.skip ?_
  refine Wp.seq ?_
  have hvl := hv.later lz
  clear lz
  refine wD [0, 1, 2, 3, 4, 5, 6, 7, 8, 9, 10, 12, 11, 13, 14, 15, 16, 17, 20, 18, 19, 21, 22, 23] [0, 0, 0, 0, 0, 0, 0, 0, 0, 0, 5119, 4095, 0, 0, 0, 0, 0, 1179647, 1048575, 0, 0, 0, 0, 0] (fun | 0 => fun v _ => v = .bool true | 11 => fun v _ => v = .bool (ckOld t.es) | 13 => fun v _ => v = .bool (ckOld t.es) | 18 => fun v _ => v = .pointer (some ⟨b1, 0, none⟩) | 19 => fun v w => ∃ q, v = tbV t (.slice (some ⟨q, 0, none⟩) t.es.length t.es.length) ∧ EntAt w (.slice (some ⟨q, 0, none⟩) t.es.length t.es.length) t.es | 21 => fun v _ => v = .bool true | _ => fun _ _ => True) (fun wd ld => ?_)
  try replace lz := lz.trans ld
  try replace hL := hL.later ld
  try replace hvl := hvl.later ld
  refine sD (fun wc lc => ckanswers_any) ?_
  rintro v w9 u9 rfl lw9 mw9
  try replace lz := lz.trans lw9
  try replace hL := hL.later lw9
  try replace hvl := hvl.later lw9
  try replace lz := lz.trans mw9
  try replace hL := hL.later mw9
  try replace hvl := hvl.later mw9
  refine sQ 2 ?_
  refine t_eql rfl rfl rfl rfl rfl (by omega) ?_
  refine sQ 3 ?_
  refine s_nilNe (some ⟨h1, 0, none⟩) rfl rfl rfl rfl rfl ?_
  refine sQ 4 ?_
  refine sD (fun wc lc => cold_any hb (hL.later lc)) ?_
  rintro v w11 u11 rfl lw11 mw11
  try replace lz := lz.trans lw11
  try replace hL := hL.later lw11
  try replace hvl := hvl.later lw11
  try replace lz := lz.trans mw11
  try replace hL := hL.later mw11
  try replace hvl := hvl.later mw11
  refine sD (fun wc lc => r15old_any t hb (hvl.later lc)) ?_
  rintro v w12 u12 rfl lw12 mw12
  try replace lz := lz.trans lw12
  try replace hL := hL.later lw12
  try replace hvl := hvl.later lw12
  try replace lz := lz.trans mw12
  try replace hL := hL.later mw12
  try replace hvl := hvl.later mw12
  refine s_eqv (c := true) rfl rfl rfl rfl rfl (fun _ => by kernel_rfl) (fun w => by rw [run_eql_bool, beq_self_eq_true]) ?_
  refine sQ 4 ?_
  refine sD (fun wc lc => cleaps_any (hL.later lc)) ?_
  rintro v w14 u14 rfl lw14 mw14
  try replace lz := lz.trans lw14
  try replace hL := hL.later lw14
  try replace hvl := hvl.later lw14
  try replace lz := lz.trans mw14
  try replace hL := hL.later mw14
  try replace hvl := hvl.later mw14
  refine sD (fun wc lc => ctable_any hb (hL.lp.later lc)) ?_
  rintro v w15 u15 ⟨q9, rfl, hq9⟩ lw15 mw15
  try replace lz := lz.trans lw15
  try replace hL := hL.later lw15
  try replace hvl := hvl.later lw15
  try replace lz := lz.trans mw15
  try replace hL := hL.later mw15
  try replace hvl := hvl.later mw15
  replace hq9 := hq9.later mw15
  refine s_callD rfl rfl rfl (by kernel_rfl) rfl (fun wc lc => tsame_any t hu he (hq9.later lc) (hvl.later lc) (by omega)) ?_
  rintro v w16 u16 rfl lw16 mw16
  try replace lz := lz.trans lw16
  try replace hL := hL.later lw16
  try replace hvl := hvl.later lw16
  try replace lz := lz.trans mw16
  try replace hL := hL.later mw16
  try replace hvl := hvl.later mw16
  refine sZ 2 ?_
  refine Wp.ret ⟨.inr rfl, fun lW => ⟨_, res_tmp (P := Tryz.prog) rfl rfl, _, rfl, ?_, lW⟩⟩
  clear lW
  rfl

end Go.Proofs.YtdpodbfamgafiaaGreat
