/-
 Unix time: the walk of UnixLabels of layer 17.
-/
import Derived.Test.YthihioakjpmnbaaGreatUnL
namespace Go.Proofs.YthihioakjpmnbaaGreat
open Go.RowKit
set_option maxRecDepth 100000

theorem take_at {cs vs : List Value} {m : Nat} (h : cs.take m = vs) {k : Nat} {u : Value} (hk : vs[k]? = some u) : cs[k]? = some u := by
 subst h
 rw [List.getElem?_take] at hk
 split at hk
 ·exact hk
 ·cases hk
theorem rulabels_B (t : Tb) (hb : canBe t = true) {a0 : Option Addr} {c0 : Nat} {w : World} (hv : EntAt w (.slice a0 t.es.length c0) t.es) {z : Int} {u : Value} (hu : IsBig 11 z u w) (hB : inB (dayZ (ulZ z)) = true) {J K J' K' : Nat} (hJ : CutP (pSD (dayZ (ulZ z))) pubS J) (hK : Cut (pDay (dayZ (ulZ z))) t.es K) (hJ' : CutP (pSD (dayZ (ulZ z) - 1)) pubS J') (hK' : Cut (pDay (dayZ (ulZ z) - 1)) t.es K') {p q : Bool} (hp : ulP t J' K' z = p) (hq : ulQ t J K z = q) {D S A e0 : Int} (hD : dayZ (ulZ z) = D) (hS : secZ (ulZ z) = S) (hA : attZ (ulZ z) = A) (he : (if (p || q) = true then 0 else ckE t true J K D S A) = e0) : Calls Tryz.prog 19 #[tbV t (.slice a0 t.es.length c0), u] w fun e w' => ∃ r, e = .returned r ∧ (∃ lv base, r = .tuple #[lv, .int .i64 e0] ∧ w'.ownsRow base 23 3 lv (ulN p q) (ulC p q D S A)) ∧ Below w.heap.size w w' := by
 refine (rulabels_any t hb hv hu hB hJ hK hJ' hK' hp hq).mono ?_
 rintro e w' ⟨r, rfl, ⟨v, base, rfl, -, h⟩, h2⟩
 rw [hD, hS, hA] at h ⊢
 rw [he]
 exact ⟨_, rfl, ⟨v, base, rfl, h⟩, h2⟩

set_option maxHeartbeats 2000000 in
theorem law_unlabels (t : Tb) (hu : I64 t.u) (he : I64 t.e) {v : Value} {w : World} (hv : EntAt w v t.es) {nh nl z : Int} (hz : WideIs nh nl z) (pick : Int) : Calls Tryz.prog 4 #[tbV t v, .agg #[.int .i64 nh, .int .u64 nl], .int .i64 pick] w fun e w' => ∃ r, e = .returned r ∧ r = .bool true ∧ Below w.heap.size w w' := by
 obtain ⟨va, vc, rfl⟩ := hv.formL
 have lz := Later.refl w
 cases hb : canBe t with
 | false =>
  refine calls_Wp (args := [_, _, _]) (n := 193) Tryz.func4 rfl rfl (by simp) ?_
  refine Wp.seq ?_
  refine wR [0, 1, 2] ?_
  refine sE (fun bs3 ws3 ks3 ls3 => ?_)
  try have kz3 := Nat.le_trans lz.size ks3
  try have nL3 := hL.ne ks3
  try replace lz := lz.trans ls3
  try replace hL := hL.later ls3
  try replace hvl := hvl.later ls3
  refine sE (fun bs4 ws4 ks4 ls4 => ?_)
  try have kz4 := Nat.le_trans lz.size ks4
  try have nL4 := hL.ne ks4
  try replace lz := lz.trans ls4
  try replace hL := hL.later ls4
  try replace hvl := hvl.later ls4
  refine sZ 1 ?_
  refine Wp.seq ?_
  refine Wp.var (h := 3) rfl (fun v3 => ?_)
  have q3 := v3.lt
  refine Wp.var (h := 4) rfl (fun v4 => ?_)
  have q4 := v4.lt
  have hz1 := lz.size
  refine wQ 1 ?_
  refine sT (cnew_no t hb hu he (hv.later lz)) ?_
  rintro v w13 rfl lw13
  try replace lz := lz.trans lw13
  try replace hL := hL.later lw13
  try replace hvl := hvl.later lw13
  try replace hown := own_later hown lw13
  try replace hrow := hrow.late lw13
  refine sZ 5 ?_
  refine Wp.seq ?_
  refine qQ 1 ?_
  refine t_neq rfl rfl rfl rfl rfl (by omega) ?_
  refine vOrd_nil ?_
  refine Wp.condT rfl rfl ?_
  refine Wp.seq ?_
  refine wR [0, 1] ?_
  refine sT (unanswers_any) ?_
  rintro v w14 rfl lw14
  try replace lz := lz.trans lw14
  try replace hL := hL.later lw14
  try replace hvl := hvl.later lw14
  try replace hown := own_later hown lw14
  try replace hrow := hrow.late lw14
  refine sZ 1 ?_
  refine Wp.ret ⟨.inr rfl, fun lW => ⟨_, res_tmp (P := Tryz.prog) rfl rfl, _, rfl, ?_, lW⟩⟩
  clear lW
  rfl
 | true =>
  have hpos := (can_num hb).2.2
  have hn := can_len hb
  obtain ⟨x0, hx0⟩ : ∃ x, t.es[0]? = some x := ⟨_, List.getElem?_eq_getElem hpos⟩
  obtain ⟨D, hD⟩ : ∃ D, dayZ (ulZ z) = D := ⟨_, rfl⟩
  obtain ⟨S, hS⟩ : ∃ S, secZ (ulZ z) = S := ⟨_, rfl⟩
  obtain ⟨A, hA⟩ : ∃ A, attZ (ulZ z) = A := ⟨_, rfl⟩
  cases hB : inB (dayZ (ulZ z)) with
  | false =>
   refine calls_Wp (args := [_, _, _]) (n := 193) Tryz.func4 rfl rfl (by simp) ?_
   refine Wp.seq ?_
   refine wR [0, 1, 2] ?_
   refine sE (fun bs3 ws3 ks3 ls3 => ?_)
   try have kz3 := Nat.le_trans lz.size ks3
   try have nL3 := hL.ne ks3
   try replace lz := lz.trans ls3
   try replace hL := hL.later ls3
   try replace hvl := hvl.later ls3
   refine sE (fun bs4 ws4 ks4 ls4 => ?_)
   try have kz4 := Nat.le_trans lz.size ks4
   try have nL4 := hL.ne ks4
   try replace lz := lz.trans ls4
   try replace hL := hL.later ls4
   try replace hvl := hvl.later ls4
   refine sZ 1 ?_
   refine Wp.seq ?_
   refine Wp.var (h := 3) rfl (fun v3 => ?_)
   have q3 := v3.lt
   refine Wp.var (h := 4) rfl (fun v4 => ?_)
   have q4 := v4.lt
   have hz1 := lz.size
   refine wQ 1 ?_
   refine sT (cnew_yes t hb hu he (hv.later lz)) ?_
   rintro v w13 ⟨h1, b1, c1, R1, hs1, k1, rfl, hh1, hb1, hk1, hL⟩ lw13
   try replace lz := lz.trans lw13
   try replace hL := hL.later lw13
   try replace hvl := hvl.later lw13
   try replace hown := own_later hown lw13
   try replace hrow := hrow.late lw13
   refine sZ 5 ?_
   refine Wp.seq ?_
   refine qQ 1 ?_
   refine f_neq rfl rfl rfl rfl rfl (by omega) ?_
   refine vOrd_nil ?_
   refine Wp.condF rfl rfl ?_
   refine Wp.skip ?_
   refine Wp.seq ?_
   have hbz : w.heap.size ≤ b1 := by omega
   obtain ⟨cs1, hvb⟩ := hL.var
   refine Wp.adopt 1007 hvb hbz rfl (show AllMem (fun d => d ≠ b1) _ from (by repeat (first | exact AllMem.args | exact AllMem.of (by simp only [AllL, and_true]; omega) | refine AllMem.put ?_ | refine AllMem.new ?_ (by omega) | refine AllMem.set ?_ (by omega)))) ?_
   refine wQ 2 ?_
   refine s_callH 1007 rfl rfl rfl (by kernel_rfl) rfl rfl (fun vr => (unlabels_far hb hL ⟨by omega, by omega⟩ ⟨_, _, rfl, hz⟩ hB)) ?_
   rintro v cs14 w14 ⟨rfl, R14, k14, _, hk14, hLq⟩ gw14 vw14
   try replace lz := lz.past gw14 hbz
   clear hL
   have hL := hLq
   clear hLq
   refine sQ 5 ?_
   refine sO (fun bk15 w15 kb15 lw15 => ?_)
   try have kz9 := Nat.le_trans lz.size kb15
   try have nL9 := hL.ne kb15
   try replace lz := lz.trans lw15
   try replace hL := hL.later lw15
   try replace hvl := hvl.later lw15
   try have nO9 := own_ne hown (.inr kb15)
   try replace hown := own_later hown lw15
   refine sO (fun bk16 w16 kb16 lw16 => ?_)
   try have kz10 := Nat.le_trans lz.size kb16
   try have nL10 := hL.ne kb16
   try replace lz := lz.trans lw16
   try replace hL := hL.later lw16
   try replace hvl := hvl.later lw16
   try have nO10 := own_ne hown (.inr kb16)
   try replace hown := own_later hown lw16
   refine sS (fun w17 sw17 vw17 => ?_)
   try replace lz := lz.sto sw17 kz9
   try replace hL := hL.sto sw17 nL9
   try replace hown := own_sto hown sw17 nO9
   refine sS (fun w18 sw18 vw18 => ?_)
   try replace lz := lz.sto sw18 kz10
   try replace hL := hL.sto sw18 nL10
   try replace hown := own_sto hown sw18 nO10
   refine sZ 2 ?_
   refine qQ 3 ?_
   refine s_callH 1007 rfl rfl rfl (by kernel_rfl) rfl rfl (fun vr => (unfind_far hb hL ⟨by omega, by omega⟩ ⟨_, _, rfl, hz⟩ hB pick)) ?_
   rintro v cs19 w19 ⟨rfl, R19, k19, _, hk19, hLq⟩ gw19 vw19
   try replace lz := lz.past gw19 hbz
   clear hL
   have hL := hLq
   clear hLq
   refine sQ 3 ?_
   refine sO (fun bk20 w20 kb20 lw20 => ?_)
   try have kz13 := Nat.le_trans lz.size kb20
   try have nL13 := hL.ne kb20
   try replace lz := lz.trans lw20
   try replace hL := hL.later lw20
   try replace hvl := hvl.later lw20
   try have nO13 := own_ne hown (.inr kb20)
   try replace hown := own_later hown lw20
   refine sS (fun w21 sw21 vw21 => ?_)
   try replace lz := lz.sto sw21 kz13
   try replace hL := hL.sto sw21 nL13
   try replace hown := own_sto hown sw21 nO13
   refine sZ 1 ?_
   refine Wp.seq ?_
   have hvl := hv.later lz
   clear lz
   refine wD [0, 1, 2, 3, 4, 5, 6, 7, 8] [6, 0, 0, 0, 0, 95, 191, 0, 0] (fun | 2 => IsBig 11 z | 3 => fun v _ => v = .tuple #[.slice none 0 0, .int .i64 2] | _ => fun _ _ => True) (fun wd ld => ?_)
   try replace lz := lz.trans ld
   try replace hL := hL.later ld
   try replace hvl := hvl.later ld
   try replace hown := own_later hown ld
   try replace hrow := hrow.late ld
   refine sQ 2 ?_
   refine sD (fun wc lc => c_rof ⟨_, _, rfl, hz⟩ wc) ?_
   rintro v w22 u22 hr lw22 mw22
   try replace lz := lz.trans lw22
   try replace hL := hL.later lw22
   try replace hvl := hvl.later lw22
   try replace hown := own_later hown lw22
   try replace hrow := hrow.late lw22
   try replace lz := lz.trans mw22
   try replace hL := hL.later mw22
   try replace hvl := hvl.later mw22
   try replace hown := own_later hown mw22
   try replace hrow := hrow.late mw22
   obtain ⟨ra, rl, rc, rfl, -⟩ := id hr
   refine s_callD rfl rfl rfl (by kernel_rfl) rfl (fun wc lc => rulabels_far t (hr.kp) hB) ?_
   rintro v w23 u23 rfl lw23 mw23
   try replace lz := lz.trans lw23
   try replace hL := hL.later lw23
   try replace hvl := hvl.later lw23
   try replace hown := own_later hown lw23
   try replace hrow := hrow.late lw23
   try replace lz := lz.trans mw23
   try replace hL := hL.later mw23
   try replace hvl := hvl.later mw23
   try replace hown := own_later hown mw23
   try replace hrow := hrow.late mw23
   refine sZ 5 ?_
   refine Wp.seq ?_
   refine qQ 2 ?_
   refine x_len rfl rfl rfl rfl rfl ?_
   refine f_neq rfl rfl rfl rfl rfl (by omega) ?_
   refine sQ 3 ?_
   refine f_neq rfl rfl rfl rfl rfl (by omega) ?_
   refine sZ 1 ?_
   refine Wp.condF rfl rfl ?_
   refine Wp.skip ?_
   refine Wp.seq ?_
   refine wR [0, 1, 2] ?_
   refine sB ?_
   refine sO (fun bk24 w24 kb24 lw24 => ?_)
   try have kz17 := Nat.le_trans lz.size kb24
   try have nL17 := hL.ne kb24
   try replace lz := lz.trans lw24
   try replace hL := hL.later lw24
   try replace hvl := hvl.later lw24
   try have nO17 := own_ne hown (.inr kb24)
   try replace hown := own_later hown lw24
   refine sS (fun w25 sw25 vw25 => ?_)
   try replace lz := lz.sto sw25 kz17
   try replace hL := hL.sto sw25 nL17
   try replace hown := own_sto hown sw25 nO17
   refine vOrd_nil ?_
   refine Wp.seq ?_
   refine Wp.block ?_
   refine qQ 1 ?_
   refine t_eql rfl rfl rfl rfl rfl (by omega) ?_
   refine sZ 1 ?_
   refine Wp.condT rfl rfl ?_
   refine Wp.seq ?_
   refine wR [0, 1, 2, 3, 4, 5, 6, 7, 8, 9, 10, 11, 12, 13, 14, 15, 16, 17, 18, 19, 20, 21] ?_
   refine sT (unanswers_any) ?_
   rintro v w26 rfl lw26
   try replace lz := lz.trans lw26
   try replace hL := hL.later lw26
   try replace hvl := hvl.later lw26
   try replace hown := own_later hown lw26
   try replace hrow := hrow.late lw26
   refine sQ 3 ?_
   refine s_eqv (c := true) rfl rfl rfl rfl rfl (fun _ => by kernel_rfl) (fun w => by rw [run_eql_label, eqD_same]) ?_
   refine sQ 4 ?_
   refine s_eqv (c := true) rfl rfl rfl rfl rfl (fun _ => by kernel_rfl) (fun w => by rw [run_eql_label, eqD_same]) ?_
   refine sQ 4 ?_
   refine s_eqv (c := true) rfl rfl rfl rfl rfl (fun _ => by kernel_rfl) (fun w => by rw [run_eql_label, eqD_same]) ?_
   refine sQ 4 ?_
   refine t_eql rfl rfl rfl rfl rfl (by omega) ?_
   refine sZ 2 ?_
   refine Wp.ret ⟨.inr rfl, fun lW => ⟨_, res_tmp (P := Tryz.prog) rfl rfl, _, rfl, ?_, lW⟩⟩
   clear lW
   rfl
  | true =>
   obtain ⟨J, hJ⟩ := cutS_day pub_may15 (dayZ (ulZ z))
   obtain ⟨K, hK⟩ := cut_day hb (dayZ (ulZ z))
   obtain ⟨J', hJ'⟩ := cutS_day pub_may15 (dayZ (ulZ z) - 1)
   obtain ⟨K', hK'⟩ := cut_day hb (dayZ (ulZ z) - 1)
   obtain ⟨E, hE⟩ : ∃ E, ckE t true J K D S A = E := ⟨_, rfl⟩
   cases hp : ulP t J' K' z with
   | false =>
    cases hq : ulQ t J K z with
    | false =>
     have hne : E ≠ 0 := fun e => by have := ulQ_iff.2 (show ckE t true J K (dayZ (ulZ z)) (secZ (ulZ z)) (attZ (ulZ z)) = 0 by rw [hD, hS, hA, hE]; exact e); rw [hq] at this; cases this
     refine calls_Wp (args := [_, _, _]) (n := 193) Tryz.func4 rfl rfl (by simp) ?_
     refine Wp.seq ?_
     refine wR [0, 1, 2] ?_
     refine sE (fun bs3 ws3 ks3 ls3 => ?_)
     try have kz3 := Nat.le_trans lz.size ks3
     try have nL3 := hL.ne ks3
     try replace lz := lz.trans ls3
     try replace hL := hL.later ls3
     try replace hvl := hvl.later ls3
     refine sE (fun bs4 ws4 ks4 ls4 => ?_)
     try have kz4 := Nat.le_trans lz.size ks4
     try have nL4 := hL.ne ks4
     try replace lz := lz.trans ls4
     try replace hL := hL.later ls4
     try replace hvl := hvl.later ls4
     refine sZ 1 ?_
     refine Wp.seq ?_
     refine Wp.var (h := 3) rfl (fun v3 => ?_)
     have q3 := v3.lt
     refine Wp.var (h := 4) rfl (fun v4 => ?_)
     have q4 := v4.lt
     have hz1 := lz.size
     refine wQ 1 ?_
     refine sT (cnew_yes t hb hu he (hv.later lz)) ?_
     rintro v w13 ⟨h1, b1, c1, R1, hs1, k1, rfl, hh1, hb1, hk1, hL⟩ lw13
     try replace lz := lz.trans lw13
     try replace hL := hL.later lw13
     try replace hvl := hvl.later lw13
     try replace hown := own_later hown lw13
     try replace hrow := hrow.late lw13
     refine sZ 5 ?_
     refine Wp.seq ?_
     refine qQ 1 ?_
     refine f_neq rfl rfl rfl rfl rfl (by omega) ?_
     refine vOrd_nil ?_
     refine Wp.condF rfl rfl ?_
     refine Wp.skip ?_
     refine Wp.seq ?_
     have hbz : w.heap.size ≤ b1 := by omega
     obtain ⟨cs1, hvb⟩ := hL.var
     refine Wp.adopt 1007 hvb hbz rfl (show AllMem (fun d => d ≠ b1) _ from (by repeat (first | exact AllMem.args | exact AllMem.of (by simp only [AllL, and_true]; omega) | refine AllMem.put ?_ | refine AllMem.new ?_ (by omega) | refine AllMem.set ?_ (by omega)))) ?_
     refine wQ 2 ?_
     refine s_callH 1007 rfl rfl rfl (by kernel_rfl) rfl rfl (fun vr => (unlabels_any hb hL ⟨by omega, by omega⟩ ⟨_, _, rfl, hz⟩ hB hJ hK hJ' hK' hp hq)) ?_
     rintro v cs14 w14 ⟨rfl, R14, k14, _, hk14, hLq⟩ gw14 vw14
     try replace lz := lz.past gw14 hbz
     clear hL
     have hL := hLq
     clear hLq
     rw [hD, hS, hA, ulV_ff, hE]
     refine sQ 5 ?_
     refine sO (fun bk15 w15 kb15 lw15 => ?_)
     try have kz9 := Nat.le_trans lz.size kb15
     try have nL9 := hL.ne kb15
     try replace lz := lz.trans lw15
     try replace hL := hL.later lw15
     try replace hvl := hvl.later lw15
     try have nO9 := own_ne hown (.inr kb15)
     try replace hown := own_later hown lw15
     refine sO (fun bk16 w16 kb16 lw16 => ?_)
     try have kz10 := Nat.le_trans lz.size kb16
     try have nL10 := hL.ne kb16
     try replace lz := lz.trans lw16
     try replace hL := hL.later lw16
     try replace hvl := hvl.later lw16
     try have nO10 := own_ne hown (.inr kb16)
     try replace hown := own_later hown lw16
     refine sS (fun w17 sw17 vw17 => ?_)
     try replace lz := lz.sto sw17 kz9
     try replace hL := hL.sto sw17 nL9
     try replace hown := own_sto hown sw17 nO9
     refine sS (fun w18 sw18 vw18 => ?_)
     try replace lz := lz.sto sw18 kz10
     try replace hL := hL.sto sw18 nL10
     try replace hown := own_sto hown sw18 nO10
     refine sZ 2 ?_
     refine qQ 3 ?_
     refine s_callH 1007 rfl rfl rfl (by kernel_rfl) rfl rfl (fun vr => (unfind_any hb hL ⟨by omega, by omega⟩ ⟨_, _, rfl, hz⟩ hB hJ hK hJ' hK' hp hq pick)) ?_
     rintro v cs19 w19 ⟨rfl, R19, k19, _, hk19, hLq⟩ gw19 vw19
     try replace lz := lz.past gw19 hbz
     clear hL
     have hL := hLq
     clear hLq
     rw [hD, hS, hA, ufV_ff, hE]
     refine sQ 3 ?_
     refine sO (fun bk20 w20 kb20 lw20 => ?_)
     try have kz13 := Nat.le_trans lz.size kb20
     try have nL13 := hL.ne kb20
     try replace lz := lz.trans lw20
     try replace hL := hL.later lw20
     try replace hvl := hvl.later lw20
     try have nO13 := own_ne hown (.inr kb20)
     try replace hown := own_later hown lw20
     refine sS (fun w21 sw21 vw21 => ?_)
     try replace lz := lz.sto sw21 kz13
     try replace hL := hL.sto sw21 nL13
     try replace hown := own_sto hown sw21 nO13
     refine sZ 1 ?_
     refine Wp.seq ?_
     have hvl := hv.later lz
     clear lz
     refine wD [0, 1, 2, 3, 4, 5, 6, 7, 8] [6, 0, 0, 0, 0, 95, 191, 0, 0] (fun | 2 => IsBig 11 z | 3 => fun v w' => ∃ lv base, v = .tuple #[lv, .int .i64 E] ∧ w'.ownsRow base 23 3 lv (ulN false false) (ulC false false D S A) | _ => fun _ _ => True) (fun wd ld => ?_)
     try replace lz := lz.trans ld
     try replace hL := hL.later ld
     try replace hvl := hvl.later ld
     try replace hown := own_later hown ld
     try replace hrow := hrow.late ld
     refine sQ 2 ?_
     refine sD (fun wc lc => c_rof ⟨_, _, rfl, hz⟩ wc) ?_
     rintro v w22 u22 hr lw22 mw22
     try replace lz := lz.trans lw22
     try replace hL := hL.later lw22
     try replace hvl := hvl.later lw22
     try replace hown := own_later hown lw22
     try replace hrow := hrow.late lw22
     try replace lz := lz.trans mw22
     try replace hL := hL.later mw22
     try replace hvl := hvl.later mw22
     try replace hown := own_later hown mw22
     try replace hrow := hrow.late mw22
     obtain ⟨ra, rl, rc, rfl, -⟩ := id hr
     refine s_callD rfl rfl rfl (by kernel_rfl) rfl (fun wc lc => rulabels_B t hb (hvl.later lc) (hr.kp) hB hJ hK hJ' hK' hp hq (e0 := E) hD hS hA (hE)) ?_
     rintro v w23 u23 ⟨lv, base, rfl, hown⟩ lw23 mw23
     try replace lz := lz.trans lw23
     try replace hL := hL.later lw23
     try replace hvl := hvl.later lw23
     try replace hown := own_later hown lw23
     try replace hrow := hrow.late lw23
     try replace lz := lz.trans mw23
     try replace hL := hL.later mw23
     try replace hvl := hvl.later mw23
     try replace hown := own_later hown mw23
     try replace hrow := hrow.late mw23
     replace hown := (show World.ownsRow _ base 23 3 lv 0 [] from hown)
     obtain ⟨la, lc2, rfl⟩ := own_sliceK hown
     refine sZ 5 ?_
     refine Wp.seq ?_
     refine qQ 2 ?_
     refine x_len rfl rfl rfl rfl rfl ?_
     refine f_neq rfl rfl rfl rfl rfl (by omega) ?_
     refine sQ 3 ?_
     refine f_neq rfl rfl rfl rfl rfl (by omega) ?_
     refine sZ 1 ?_
     refine Wp.condF rfl rfl ?_
     refine Wp.skip ?_
     refine Wp.seq ?_
     refine wR [0, 1, 2] ?_
     refine sB ?_
     refine sO (fun bk24 w24 kb24 lw24 => ?_)
     try have kz17 := Nat.le_trans lz.size kb24
     try have nL17 := hL.ne kb24
     try replace lz := lz.trans lw24
     try replace hL := hL.later lw24
     try replace hvl := hvl.later lw24
     try have nO17 := own_ne hown (.inr kb24)
     try replace hown := own_later hown lw24
     refine sS (fun w25 sw25 vw25 => ?_)
     try replace lz := lz.sto sw25 kz17
     try replace hL := hL.sto sw25 nL17
     try replace hown := own_sto hown sw25 nO17
     refine vOrd_nil ?_
     refine Wp.seq ?_
     refine Wp.block ?_
     refine qQ 1 ?_
     refine t_eql rfl rfl rfl rfl rfl (by omega) ?_
     refine sZ 1 ?_
     refine Wp.condT rfl rfl ?_
     refine Wp.seq ?_
     refine wR [0, 1, 2, 3, 4, 5, 6, 7, 8, 9, 10, 11, 12, 13, 14, 15, 16, 17, 18, 19, 20, 21] ?_
     refine sT (unanswers_any) ?_
     rintro v w26 rfl lw26
     try replace lz := lz.trans lw26
     try replace hL := hL.later lw26
     try replace hvl := hvl.later lw26
     try replace hown := own_later hown lw26
     try replace hrow := hrow.late lw26
     refine sQ 3 ?_
     refine s_eqv (c := true) rfl rfl rfl rfl rfl (fun _ => by kernel_rfl) (fun w => by rw [run_eql_label, eqD_same]) ?_
     refine sQ 4 ?_
     refine s_eqv (c := true) rfl rfl rfl rfl rfl (fun _ => by kernel_rfl) (fun w => by rw [run_eql_label, eqD_same]) ?_
     refine sQ 4 ?_
     refine s_eqv (c := true) rfl rfl rfl rfl rfl (fun _ => by kernel_rfl) (fun w => by rw [run_eql_label, eqD_same]) ?_
     refine sQ 4 ?_
     refine t_eql rfl rfl rfl rfl rfl (by omega) ?_
     refine sZ 2 ?_
     refine Wp.ret ⟨.inr rfl, fun lW => ⟨_, res_tmp (P := Tryz.prog) rfl rfl, _, rfl, ?_, lW⟩⟩
     clear lW
     rfl
    | true =>
     refine calls_Wp (args := [_, _, _]) (n := 193) Tryz.func4 rfl rfl (by simp) ?_
     refine Wp.seq ?_
     refine wR [0, 1, 2] ?_
     refine sE (fun bs3 ws3 ks3 ls3 => ?_)
     try have kz3 := Nat.le_trans lz.size ks3
     try have nL3 := hL.ne ks3
     try replace lz := lz.trans ls3
     try replace hL := hL.later ls3
     try replace hvl := hvl.later ls3
     refine sE (fun bs4 ws4 ks4 ls4 => ?_)
     try have kz4 := Nat.le_trans lz.size ks4
     try have nL4 := hL.ne ks4
     try replace lz := lz.trans ls4
     try replace hL := hL.later ls4
     try replace hvl := hvl.later ls4
     refine sZ 1 ?_
     refine Wp.seq ?_
     refine Wp.var (h := 3) rfl (fun v3 => ?_)
     have q3 := v3.lt
     refine Wp.var (h := 4) rfl (fun v4 => ?_)
     have q4 := v4.lt
     have hz1 := lz.size
     refine wQ 1 ?_
     refine sT (cnew_yes t hb hu he (hv.later lz)) ?_
     rintro v w13 ⟨h1, b1, c1, R1, hs1, k1, rfl, hh1, hb1, hk1, hL⟩ lw13
     try replace lz := lz.trans lw13
     try replace hL := hL.later lw13
     try replace hvl := hvl.later lw13
     try replace hown := own_later hown lw13
     try replace hrow := hrow.late lw13
     refine sZ 5 ?_
     refine Wp.seq ?_
     refine qQ 1 ?_
     refine f_neq rfl rfl rfl rfl rfl (by omega) ?_
     refine vOrd_nil ?_
     refine Wp.condF rfl rfl ?_
     refine Wp.skip ?_
     refine Wp.seq ?_
     have hbz : w.heap.size ≤ b1 := by omega
     obtain ⟨cs1, hvb⟩ := hL.var
     refine Wp.adopt 1007 hvb hbz rfl (show AllMem (fun d => d ≠ b1) _ from (by repeat (first | exact AllMem.args | exact AllMem.of (by simp only [AllL, and_true]; omega) | refine AllMem.put ?_ | refine AllMem.new ?_ (by omega) | refine AllMem.set ?_ (by omega)))) ?_
     refine wQ 2 ?_
     refine s_callH 1007 rfl rfl rfl (by kernel_rfl) rfl rfl (fun vr => (unlabels_any hb hL ⟨by omega, by omega⟩ ⟨_, _, rfl, hz⟩ hB hJ hK hJ' hK' hp hq)) ?_
     rintro v cs14 w14 ⟨rfl, R14, k14, _, hk14, hLq⟩ gw14 vw14
     try replace lz := lz.past gw14 hbz
     clear hL
     have hL := hLq
     clear hLq
     rw [hD, hS, hA, ulV_ft]
     refine sQ 5 ?_
     refine sO (fun bk15 w15 kb15 lw15 => ?_)
     try have kz9 := Nat.le_trans lz.size kb15
     try have nL9 := hL.ne kb15
     try replace lz := lz.trans lw15
     try replace hL := hL.later lw15
     try replace hvl := hvl.later lw15
     try have nO9 := own_ne hown (.inr kb15)
     try replace hown := own_later hown lw15
     refine sO (fun bk16 w16 kb16 lw16 => ?_)
     try have kz10 := Nat.le_trans lz.size kb16
     try have nL10 := hL.ne kb16
     try replace lz := lz.trans lw16
     try replace hL := hL.later lw16
     try replace hvl := hvl.later lw16
     try have nO10 := own_ne hown (.inr kb16)
     try replace hown := own_later hown lw16
     refine sS (fun w17 sw17 vw17 => ?_)
     try replace lz := lz.sto sw17 kz9
     try replace hL := hL.sto sw17 nL9
     try replace hown := own_sto hown sw17 nO9
     refine sS (fun w18 sw18 vw18 => ?_)
     try replace lz := lz.sto sw18 kz10
     try replace hL := hL.sto sw18 nL10
     try replace hown := own_sto hown sw18 nO10
     refine sZ 2 ?_
     refine qQ 3 ?_
     refine s_callH 1007 rfl rfl rfl (by kernel_rfl) rfl rfl (fun vr => (unfind_any hb hL ⟨by omega, by omega⟩ ⟨_, _, rfl, hz⟩ hB hJ hK hJ' hK' hp hq pick)) ?_
     rintro v cs19 w19 ⟨rfl, R19, k19, _, hk19, hLq⟩ gw19 vw19
     try replace lz := lz.past gw19 hbz
     clear hL
     have hL := hLq
     clear hLq
     rw [hD, hS, hA, ufV_ft]
     refine sQ 3 ?_
     refine sO (fun bk20 w20 kb20 lw20 => ?_)
     try have kz13 := Nat.le_trans lz.size kb20
     try have nL13 := hL.ne kb20
     try replace lz := lz.trans lw20
     try replace hL := hL.later lw20
     try replace hvl := hvl.later lw20
     try have nO13 := own_ne hown (.inr kb20)
     try replace hown := own_later hown lw20
     refine sS (fun w21 sw21 vw21 => ?_)
     try replace lz := lz.sto sw21 kz13
     try replace hL := hL.sto sw21 nL13
     try replace hown := own_sto hown sw21 nO13
     refine sZ 1 ?_
     refine Wp.seq ?_
     have hvl := hv.later lz
     clear lz
     refine wD [0, 1, 2, 3, 4, 5, 6, 7, 8] [6, 0, 0, 0, 0, 95, 191, 0, 0] (fun | 2 => IsBig 11 z | 3 => fun v w' => ∃ lv base, v = .tuple #[lv, .int .i64 0] ∧ w'.ownsRow base 23 3 lv (ulN false true) (ulC false true D S A) | _ => fun _ _ => True) (fun wd ld => ?_)
     try replace lz := lz.trans ld
     try replace hL := hL.later ld
     try replace hvl := hvl.later ld
     try replace hown := own_later hown ld
     try replace hrow := hrow.late ld
     refine sQ 2 ?_
     refine sD (fun wc lc => c_rof ⟨_, _, rfl, hz⟩ wc) ?_
     rintro v w22 u22 hr lw22 mw22
     try replace lz := lz.trans lw22
     try replace hL := hL.later lw22
     try replace hvl := hvl.later lw22
     try replace hown := own_later hown lw22
     try replace hrow := hrow.late lw22
     try replace lz := lz.trans mw22
     try replace hL := hL.later mw22
     try replace hvl := hvl.later mw22
     try replace hown := own_later hown mw22
     try replace hrow := hrow.late mw22
     obtain ⟨ra, rl, rc, rfl, -⟩ := id hr
     refine s_callD rfl rfl rfl (by kernel_rfl) rfl (fun wc lc => rulabels_B t hb (hvl.later lc) (hr.kp) hB hJ hK hJ' hK' hp hq (e0 := 0) hD hS hA (rfl)) ?_
     rintro v w23 u23 ⟨lv, base, rfl, hown⟩ lw23 mw23
     try replace lz := lz.trans lw23
     try replace hL := hL.later lw23
     try replace hvl := hvl.later lw23
     try replace hown := own_later hown lw23
     try replace hrow := hrow.late lw23
     try replace lz := lz.trans mw23
     try replace hL := hL.later mw23
     try replace hvl := hvl.later mw23
     try replace hown := own_later hown mw23
     try replace hrow := hrow.late mw23
     replace hown := (show World.ownsRow _ base 23 3 lv 1 [.int .i64 D, .int .i64 S, .int .i64 A] from hown)
     obtain ⟨la, lc2, rfl⟩ := own_sliceK hown
     refine sZ 5 ?_
     refine Wp.seq ?_
     refine qQ 2 ?_
     refine x_len rfl rfl rfl rfl rfl ?_
     refine f_neq rfl rfl rfl rfl rfl (by omega) ?_
     refine sQ 3 ?_
     refine f_neq rfl rfl rfl rfl rfl (by omega) ?_
     refine sZ 1 ?_
     refine Wp.condF rfl rfl ?_
     refine Wp.skip ?_
     refine Wp.seq ?_
     refine wR [0, 1, 2] ?_
     refine sB ?_
     refine sO (fun bk24 w24 kb24 lw24 => ?_)
     try have kz17 := Nat.le_trans lz.size kb24
     try have nL17 := hL.ne kb24
     try replace lz := lz.trans lw24
     try replace hL := hL.later lw24
     try replace hvl := hvl.later lw24
     try have nO17 := own_ne hown (.inr kb24)
     try replace hown := own_later hown lw24
     refine sS (fun w25 sw25 vw25 => ?_)
     try replace lz := lz.sto sw25 kz17
     try replace hL := hL.sto sw25 nL17
     try replace hown := own_sto hown sw25 nO17
     refine vOrd_nil ?_
     refine Wp.seq ?_
     refine Wp.block ?_
     refine qQ 1 ?_
     refine f_eql rfl rfl rfl rfl rfl (by omega) ?_
     refine sZ 1 ?_
     refine Wp.condF rfl rfl ?_
     refine qQ 1 ?_
     refine t_eql rfl rfl rfl rfl rfl (by omega) ?_
     refine sZ 1 ?_
     refine Wp.condT rfl rfl ?_
     refine Wp.seq ?_
     obtain ⟨g, cap, cs, hveq, -, hrow, hcap, hlen, htake, -⟩ := own_rowK hown (by omega)
     cases hveq
     clear hown
     refine wD [0, 1, 2, 3, 4, 5, 6, 7, 8, 9, 10, 11, 12, 13, 14, 15, 16, 17, 18, 19, 20, 21, 22, 23, 24, 25, 26] [0, 0, 59, 0, 0, 0, 0, 0, 0, 7679, 0, 0, 0, 0, 0, 0, 983039, 0, 0, 0, 0, 0, 0, 0, 0, 0, 0] (fun | 0 => fun v _ => v = .bool true | _ => fun _ _ => True) (fun wd ld => ?_)
     try replace lz := lz.trans ld
     try replace hL := hL.later ld
     try replace hvl := hvl.later ld
     try replace hown := own_later hown ld
     try replace hrow := hrow.late ld
     refine sD (fun wc lc => unanswers_any) ?_
     rintro v w26 u26 rfl lw26 mw26
     try replace lz := lz.trans lw26
     try replace hL := hL.later lw26
     try replace hvl := hvl.later lw26
     try replace hown := own_later hown lw26
     try replace hrow := hrow.late lw26
     try replace lz := lz.trans mw26
     try replace hL := hL.later mw26
     try replace hvl := hvl.later mw26
     try replace hown := own_later hown mw26
     try replace hrow := hrow.late mw26
     refine sQ 3 ?_
     refine sI (sz := 3) (0 * 3) ?_
     refine x_ldA [.int .i64 D, .int .i64 S, .int .i64 A] rfl rfl rfl rfl rfl rfl hrow.var.lt (fun j u hj => ?_) ?_
     ·match j, hj with
      | 0, hj => cases hj; exact (cell_var hrow.var 0).trans (take_at htake rfl)
      | 1, hj => cases hj; exact (cell_var hrow.var 1).trans (take_at htake rfl)
      | 2, hj => cases hj; exact (cell_var hrow.var 2).trans (take_at htake rfl)
     refine s_eqv (c := true) rfl rfl rfl rfl rfl (fun _ => by kernel_rfl) (fun w => by rw [run_eql_label, eqD_same]) ?_
     refine sQ 4 ?_
     refine sI (sz := 3) (0 * 3) ?_
     refine x_ldA [.int .i64 D, .int .i64 S, .int .i64 A] rfl rfl rfl rfl rfl rfl hrow.var.lt (fun j u hj => ?_) ?_
     ·match j, hj with
      | 0, hj => cases hj; exact (cell_var hrow.var 0).trans (take_at htake rfl)
      | 1, hj => cases hj; exact (cell_var hrow.var 1).trans (take_at htake rfl)
      | 2, hj => cases hj; exact (cell_var hrow.var 2).trans (take_at htake rfl)
     refine s_eqv (c := true) rfl rfl rfl rfl rfl (fun _ => by kernel_rfl) (fun w => by rw [run_eql_label, eqD_same]) ?_
     refine sQ 4 ?_
     refine sI (sz := 3) (0 * 3) ?_
     refine x_ldA [.int .i64 D, .int .i64 S, .int .i64 A] rfl rfl rfl rfl rfl rfl hrow.var.lt (fun j u hj => ?_) ?_
     ·match j, hj with
      | 0, hj => cases hj; exact (cell_var hrow.var 0).trans (take_at htake rfl)
      | 1, hj => cases hj; exact (cell_var hrow.var 1).trans (take_at htake rfl)
      | 2, hj => cases hj; exact (cell_var hrow.var 2).trans (take_at htake rfl)
     refine s_eqv (c := true) rfl rfl rfl rfl rfl (fun _ => by kernel_rfl) (fun w => by rw [run_eql_label, eqD_same]) ?_
     refine sQ 3 ?_
     refine t_eql rfl rfl rfl rfl rfl (by omega) ?_
     refine sZ 2 ?_
     refine Wp.ret ⟨.inr rfl, fun lW => ⟨_, res_tmp (P := Tryz.prog) rfl rfl, _, rfl, ?_, lW⟩⟩
     clear lW
     rfl
   | true =>
    cases hq : ulQ t J K z with
    | false =>
     refine calls_Wp (args := [_, _, _]) (n := 193) Tryz.func4 rfl rfl (by simp) ?_
     refine Wp.seq ?_
     refine wR [0, 1, 2] ?_
     refine sE (fun bs3 ws3 ks3 ls3 => ?_)
     try have kz3 := Nat.le_trans lz.size ks3
     try have nL3 := hL.ne ks3
     try replace lz := lz.trans ls3
     try replace hL := hL.later ls3
     try replace hvl := hvl.later ls3
     refine sE (fun bs4 ws4 ks4 ls4 => ?_)
     try have kz4 := Nat.le_trans lz.size ks4
     try have nL4 := hL.ne ks4
     try replace lz := lz.trans ls4
     try replace hL := hL.later ls4
     try replace hvl := hvl.later ls4
     refine sZ 1 ?_
     refine Wp.seq ?_
     refine Wp.var (h := 3) rfl (fun v3 => ?_)
     have q3 := v3.lt
     refine Wp.var (h := 4) rfl (fun v4 => ?_)
     have q4 := v4.lt
     have hz1 := lz.size
     refine wQ 1 ?_
     refine sT (cnew_yes t hb hu he (hv.later lz)) ?_
     rintro v w13 ⟨h1, b1, c1, R1, hs1, k1, rfl, hh1, hb1, hk1, hL⟩ lw13
     try replace lz := lz.trans lw13
     try replace hL := hL.later lw13
     try replace hvl := hvl.later lw13
     try replace hown := own_later hown lw13
     try replace hrow := hrow.late lw13
     refine sZ 5 ?_
     refine Wp.seq ?_
     refine qQ 1 ?_
     refine f_neq rfl rfl rfl rfl rfl (by omega) ?_
     refine vOrd_nil ?_
     refine Wp.condF rfl rfl ?_
     refine Wp.skip ?_
     refine Wp.seq ?_
     have hbz : w.heap.size ≤ b1 := by omega
     obtain ⟨cs1, hvb⟩ := hL.var
     refine Wp.adopt 1007 hvb hbz rfl (show AllMem (fun d => d ≠ b1) _ from (by repeat (first | exact AllMem.args | exact AllMem.of (by simp only [AllL, and_true]; omega) | refine AllMem.put ?_ | refine AllMem.new ?_ (by omega) | refine AllMem.set ?_ (by omega)))) ?_
     refine wQ 2 ?_
     refine s_callH 1007 rfl rfl rfl (by kernel_rfl) rfl rfl (fun vr => (unlabels_any hb hL ⟨by omega, by omega⟩ ⟨_, _, rfl, hz⟩ hB hJ hK hJ' hK' hp hq)) ?_
     rintro v cs14 w14 ⟨rfl, R14, k14, _, hk14, hLq⟩ gw14 vw14
     try replace lz := lz.past gw14 hbz
     clear hL
     have hL := hLq
     clear hLq
     rw [hD, hS, hA, ulV_tf]
     refine sQ 5 ?_
     refine sO (fun bk15 w15 kb15 lw15 => ?_)
     try have kz9 := Nat.le_trans lz.size kb15
     try have nL9 := hL.ne kb15
     try replace lz := lz.trans lw15
     try replace hL := hL.later lw15
     try replace hvl := hvl.later lw15
     try have nO9 := own_ne hown (.inr kb15)
     try replace hown := own_later hown lw15
     refine sO (fun bk16 w16 kb16 lw16 => ?_)
     try have kz10 := Nat.le_trans lz.size kb16
     try have nL10 := hL.ne kb16
     try replace lz := lz.trans lw16
     try replace hL := hL.later lw16
     try replace hvl := hvl.later lw16
     try have nO10 := own_ne hown (.inr kb16)
     try replace hown := own_later hown lw16
     refine sS (fun w17 sw17 vw17 => ?_)
     try replace lz := lz.sto sw17 kz9
     try replace hL := hL.sto sw17 nL9
     try replace hown := own_sto hown sw17 nO9
     refine sS (fun w18 sw18 vw18 => ?_)
     try replace lz := lz.sto sw18 kz10
     try replace hL := hL.sto sw18 nL10
     try replace hown := own_sto hown sw18 nO10
     refine sZ 2 ?_
     refine qQ 3 ?_
     refine s_callH 1007 rfl rfl rfl (by kernel_rfl) rfl rfl (fun vr => (unfind_any hb hL ⟨by omega, by omega⟩ ⟨_, _, rfl, hz⟩ hB hJ hK hJ' hK' hp hq pick)) ?_
     rintro v cs19 w19 ⟨rfl, R19, k19, _, hk19, hLq⟩ gw19 vw19
     try replace lz := lz.past gw19 hbz
     clear hL
     have hL := hLq
     clear hLq
     rw [hD, hS, hA, ufV_tf]
     refine sQ 3 ?_
     refine sO (fun bk20 w20 kb20 lw20 => ?_)
     try have kz13 := Nat.le_trans lz.size kb20
     try have nL13 := hL.ne kb20
     try replace lz := lz.trans lw20
     try replace hL := hL.later lw20
     try replace hvl := hvl.later lw20
     try have nO13 := own_ne hown (.inr kb20)
     try replace hown := own_later hown lw20
     refine sS (fun w21 sw21 vw21 => ?_)
     try replace lz := lz.sto sw21 kz13
     try replace hL := hL.sto sw21 nL13
     try replace hown := own_sto hown sw21 nO13
     refine sZ 1 ?_
     refine Wp.seq ?_
     have hvl := hv.later lz
     clear lz
     refine wD [0, 1, 2, 3, 4, 5, 6, 7, 8] [6, 0, 0, 0, 0, 95, 191, 0, 0] (fun | 2 => IsBig 11 z | 3 => fun v w' => ∃ lv base, v = .tuple #[lv, .int .i64 0] ∧ w'.ownsRow base 23 3 lv (ulN true false) (ulC true false D S A) | _ => fun _ _ => True) (fun wd ld => ?_)
     try replace lz := lz.trans ld
     try replace hL := hL.later ld
     try replace hvl := hvl.later ld
     try replace hown := own_later hown ld
     try replace hrow := hrow.late ld
     refine sQ 2 ?_
     refine sD (fun wc lc => c_rof ⟨_, _, rfl, hz⟩ wc) ?_
     rintro v w22 u22 hr lw22 mw22
     try replace lz := lz.trans lw22
     try replace hL := hL.later lw22
     try replace hvl := hvl.later lw22
     try replace hown := own_later hown lw22
     try replace hrow := hrow.late lw22
     try replace lz := lz.trans mw22
     try replace hL := hL.later mw22
     try replace hvl := hvl.later mw22
     try replace hown := own_later hown mw22
     try replace hrow := hrow.late mw22
     obtain ⟨ra, rl, rc, rfl, -⟩ := id hr
     refine s_callD rfl rfl rfl (by kernel_rfl) rfl (fun wc lc => rulabels_B t hb (hvl.later lc) (hr.kp) hB hJ hK hJ' hK' hp hq (e0 := 0) hD hS hA (rfl)) ?_
     rintro v w23 u23 ⟨lv, base, rfl, hown⟩ lw23 mw23
     try replace lz := lz.trans lw23
     try replace hL := hL.later lw23
     try replace hvl := hvl.later lw23
     try replace hown := own_later hown lw23
     try replace hrow := hrow.late lw23
     try replace lz := lz.trans mw23
     try replace hL := hL.later mw23
     try replace hvl := hvl.later mw23
     try replace hown := own_later hown mw23
     try replace hrow := hrow.late mw23
     replace hown := (show World.ownsRow _ base 23 3 lv 1 [.int .i64 (D - 1), .int .i64 86400, .int .i64 A] from hown)
     obtain ⟨la, lc2, rfl⟩ := own_sliceK hown
     refine sZ 5 ?_
     refine Wp.seq ?_
     refine qQ 2 ?_
     refine x_len rfl rfl rfl rfl rfl ?_
     refine f_neq rfl rfl rfl rfl rfl (by omega) ?_
     refine sQ 3 ?_
     refine f_neq rfl rfl rfl rfl rfl (by omega) ?_
     refine sZ 1 ?_
     refine Wp.condF rfl rfl ?_
     refine Wp.skip ?_
     refine Wp.seq ?_
     refine wR [0, 1, 2] ?_
     refine sB ?_
     refine sO (fun bk24 w24 kb24 lw24 => ?_)
     try have kz17 := Nat.le_trans lz.size kb24
     try have nL17 := hL.ne kb24
     try replace lz := lz.trans lw24
     try replace hL := hL.later lw24
     try replace hvl := hvl.later lw24
     try have nO17 := own_ne hown (.inr kb24)
     try replace hown := own_later hown lw24
     refine sS (fun w25 sw25 vw25 => ?_)
     try replace lz := lz.sto sw25 kz17
     try replace hL := hL.sto sw25 nL17
     try replace hown := own_sto hown sw25 nO17
     refine vOrd_nil ?_
     refine Wp.seq ?_
     refine Wp.block ?_
     refine qQ 1 ?_
     refine f_eql rfl rfl rfl rfl rfl (by omega) ?_
     refine sZ 1 ?_
     refine Wp.condF rfl rfl ?_
     refine qQ 1 ?_
     refine t_eql rfl rfl rfl rfl rfl (by omega) ?_
     refine sZ 1 ?_
     refine Wp.condT rfl rfl ?_
     refine Wp.seq ?_
     obtain ⟨g, cap, cs, hveq, -, hrow, hcap, hlen, htake, -⟩ := own_rowK hown (by omega)
     cases hveq
     clear hown
     refine wD [0, 1, 2, 3, 4, 5, 6, 7, 8, 9, 10, 11, 12, 13, 14, 15, 16, 17, 18, 19, 20, 21, 22, 23, 24, 25, 26] [0, 0, 59, 0, 0, 0, 0, 0, 0, 7679, 0, 0, 0, 0, 0, 0, 983039, 0, 0, 0, 0, 0, 0, 0, 0, 0, 0] (fun | 0 => fun v _ => v = .bool true | _ => fun _ _ => True) (fun wd ld => ?_)
     try replace lz := lz.trans ld
     try replace hL := hL.later ld
     try replace hvl := hvl.later ld
     try replace hown := own_later hown ld
     try replace hrow := hrow.late ld
     refine sD (fun wc lc => unanswers_any) ?_
     rintro v w26 u26 rfl lw26 mw26
     try replace lz := lz.trans lw26
     try replace hL := hL.later lw26
     try replace hvl := hvl.later lw26
     try replace hown := own_later hown lw26
     try replace hrow := hrow.late lw26
     try replace lz := lz.trans mw26
     try replace hL := hL.later mw26
     try replace hvl := hvl.later mw26
     try replace hown := own_later hown mw26
     try replace hrow := hrow.late mw26
     refine sQ 3 ?_
     refine sI (sz := 3) (0 * 3) ?_
     refine x_ldA [.int .i64 (D - 1), .int .i64 86400, .int .i64 A] rfl rfl rfl rfl rfl rfl hrow.var.lt (fun j u hj => ?_) ?_
     ·match j, hj with
      | 0, hj => cases hj; exact (cell_var hrow.var 0).trans (take_at htake rfl)
      | 1, hj => cases hj; exact (cell_var hrow.var 1).trans (take_at htake rfl)
      | 2, hj => cases hj; exact (cell_var hrow.var 2).trans (take_at htake rfl)
     refine s_eqv (c := true) rfl rfl rfl rfl rfl (fun _ => by kernel_rfl) (fun w => by rw [run_eql_label, eqD_same]) ?_
     refine sQ 4 ?_
     refine sI (sz := 3) (0 * 3) ?_
     refine x_ldA [.int .i64 (D - 1), .int .i64 86400, .int .i64 A] rfl rfl rfl rfl rfl rfl hrow.var.lt (fun j u hj => ?_) ?_
     ·match j, hj with
      | 0, hj => cases hj; exact (cell_var hrow.var 0).trans (take_at htake rfl)
      | 1, hj => cases hj; exact (cell_var hrow.var 1).trans (take_at htake rfl)
      | 2, hj => cases hj; exact (cell_var hrow.var 2).trans (take_at htake rfl)
     refine s_eqv (c := true) rfl rfl rfl rfl rfl (fun _ => by kernel_rfl) (fun w => by rw [run_eql_label, eqD_same]) ?_
     refine sQ 4 ?_
     refine sI (sz := 3) (0 * 3) ?_
     refine x_ldA [.int .i64 (D - 1), .int .i64 86400, .int .i64 A] rfl rfl rfl rfl rfl rfl hrow.var.lt (fun j u hj => ?_) ?_
     ·match j, hj with
      | 0, hj => cases hj; exact (cell_var hrow.var 0).trans (take_at htake rfl)
      | 1, hj => cases hj; exact (cell_var hrow.var 1).trans (take_at htake rfl)
      | 2, hj => cases hj; exact (cell_var hrow.var 2).trans (take_at htake rfl)
     refine s_eqv (c := true) rfl rfl rfl rfl rfl (fun _ => by kernel_rfl) (fun w => by rw [run_eql_label, eqD_same]) ?_
     refine sQ 3 ?_
     refine t_eql rfl rfl rfl rfl rfl (by omega) ?_
     refine sZ 2 ?_
     refine Wp.ret ⟨.inr rfl, fun lW => ⟨_, res_tmp (P := Tryz.prog) rfl rfl, _, rfl, ?_, lW⟩⟩
     clear lW
     rfl
    | true =>
     by_cases y1 : pick = 1
     ·refine calls_Wp (args := [_, _, _]) (n := 193) Tryz.func4 rfl rfl (by simp) ?_
      refine Wp.seq ?_
      refine wR [0, 1, 2] ?_
      refine sE (fun bs3 ws3 ks3 ls3 => ?_)
      try have kz3 := Nat.le_trans lz.size ks3
      try have nL3 := hL.ne ks3
      try replace lz := lz.trans ls3
      try replace hL := hL.later ls3
      try replace hvl := hvl.later ls3
      refine sE (fun bs4 ws4 ks4 ls4 => ?_)
      try have kz4 := Nat.le_trans lz.size ks4
      try have nL4 := hL.ne ks4
      try replace lz := lz.trans ls4
      try replace hL := hL.later ls4
      try replace hvl := hvl.later ls4
      refine sZ 1 ?_
      refine Wp.seq ?_
      refine Wp.var (h := 3) rfl (fun v3 => ?_)
      have q3 := v3.lt
      refine Wp.var (h := 4) rfl (fun v4 => ?_)
      have q4 := v4.lt
      have hz1 := lz.size
      refine wQ 1 ?_
      refine sT (cnew_yes t hb hu he (hv.later lz)) ?_
      rintro v w13 ⟨h1, b1, c1, R1, hs1, k1, rfl, hh1, hb1, hk1, hL⟩ lw13
      try replace lz := lz.trans lw13
      try replace hL := hL.later lw13
      try replace hvl := hvl.later lw13
      try replace hown := own_later hown lw13
      try replace hrow := hrow.late lw13
      refine sZ 5 ?_
      refine Wp.seq ?_
      refine qQ 1 ?_
      refine f_neq rfl rfl rfl rfl rfl (by omega) ?_
      refine vOrd_nil ?_
      refine Wp.condF rfl rfl ?_
      refine Wp.skip ?_
      refine Wp.seq ?_
      have hbz : w.heap.size ≤ b1 := by omega
      obtain ⟨cs1, hvb⟩ := hL.var
      refine Wp.adopt 1007 hvb hbz rfl (show AllMem (fun d => d ≠ b1) _ from (by repeat (first | exact AllMem.args | exact AllMem.of (by simp only [AllL, and_true]; omega) | refine AllMem.put ?_ | refine AllMem.new ?_ (by omega) | refine AllMem.set ?_ (by omega)))) ?_
      refine wQ 2 ?_
      refine s_callH 1007 rfl rfl rfl (by kernel_rfl) rfl rfl (fun vr => (unlabels_any hb hL ⟨by omega, by omega⟩ ⟨_, _, rfl, hz⟩ hB hJ hK hJ' hK' hp hq)) ?_
      rintro v cs14 w14 ⟨rfl, R14, k14, _, hk14, hLq⟩ gw14 vw14
      try replace lz := lz.past gw14 hbz
      clear hL
      have hL := hLq
      clear hLq
      rw [hD, hS, hA, ulV_tt]
      refine sQ 5 ?_
      refine sO (fun bk15 w15 kb15 lw15 => ?_)
      try have kz9 := Nat.le_trans lz.size kb15
      try have nL9 := hL.ne kb15
      try replace lz := lz.trans lw15
      try replace hL := hL.later lw15
      try replace hvl := hvl.later lw15
      try have nO9 := own_ne hown (.inr kb15)
      try replace hown := own_later hown lw15
      refine sO (fun bk16 w16 kb16 lw16 => ?_)
      try have kz10 := Nat.le_trans lz.size kb16
      try have nL10 := hL.ne kb16
      try replace lz := lz.trans lw16
      try replace hL := hL.later lw16
      try replace hvl := hvl.later lw16
      try have nO10 := own_ne hown (.inr kb16)
      try replace hown := own_later hown lw16
      refine sS (fun w17 sw17 vw17 => ?_)
      try replace lz := lz.sto sw17 kz9
      try replace hL := hL.sto sw17 nL9
      try replace hown := own_sto hown sw17 nO9
      refine sS (fun w18 sw18 vw18 => ?_)
      try replace lz := lz.sto sw18 kz10
      try replace hL := hL.sto sw18 nL10
      try replace hown := own_sto hown sw18 nO10
      refine sZ 2 ?_
      refine qQ 3 ?_
      refine s_callH 1007 rfl rfl rfl (by kernel_rfl) rfl rfl (fun vr => (unfind_any hb hL ⟨by omega, by omega⟩ ⟨_, _, rfl, hz⟩ hB hJ hK hJ' hK' hp hq pick)) ?_
      rintro v cs19 w19 ⟨rfl, R19, k19, _, hk19, hLq⟩ gw19 vw19
      try replace lz := lz.past gw19 hbz
      clear hL
      have hL := hLq
      clear hLq
      rw [hD, hS, hA, ufV_tt]
      rw [if_pos y1]
      refine sQ 3 ?_
      refine sO (fun bk20 w20 kb20 lw20 => ?_)
      try have kz13 := Nat.le_trans lz.size kb20
      try have nL13 := hL.ne kb20
      try replace lz := lz.trans lw20
      try replace hL := hL.later lw20
      try replace hvl := hvl.later lw20
      try have nO13 := own_ne hown (.inr kb20)
      try replace hown := own_later hown lw20
      refine sS (fun w21 sw21 vw21 => ?_)
      try replace lz := lz.sto sw21 kz13
      try replace hL := hL.sto sw21 nL13
      try replace hown := own_sto hown sw21 nO13
      refine sZ 1 ?_
      refine Wp.seq ?_
      have hvl := hv.later lz
      clear lz
      refine wD [0, 1, 2, 3, 4, 5, 6, 7, 8] [6, 0, 0, 0, 0, 95, 191, 0, 0] (fun | 2 => IsBig 11 z | 3 => fun v w' => ∃ lv base, v = .tuple #[lv, .int .i64 0] ∧ w'.ownsRow base 23 3 lv (ulN true true) (ulC true true D S A) | _ => fun _ _ => True) (fun wd ld => ?_)
      try replace lz := lz.trans ld
      try replace hL := hL.later ld
      try replace hvl := hvl.later ld
      try replace hown := own_later hown ld
      try replace hrow := hrow.late ld
      refine sQ 2 ?_
      refine sD (fun wc lc => c_rof ⟨_, _, rfl, hz⟩ wc) ?_
      rintro v w22 u22 hr lw22 mw22
      try replace lz := lz.trans lw22
      try replace hL := hL.later lw22
      try replace hvl := hvl.later lw22
      try replace hown := own_later hown lw22
      try replace hrow := hrow.late lw22
      try replace lz := lz.trans mw22
      try replace hL := hL.later mw22
      try replace hvl := hvl.later mw22
      try replace hown := own_later hown mw22
      try replace hrow := hrow.late mw22
      obtain ⟨ra, rl, rc, rfl, -⟩ := id hr
      refine s_callD rfl rfl rfl (by kernel_rfl) rfl (fun wc lc => rulabels_B t hb (hvl.later lc) (hr.kp) hB hJ hK hJ' hK' hp hq (e0 := 0) hD hS hA (rfl)) ?_
      rintro v w23 u23 ⟨lv, base, rfl, hown⟩ lw23 mw23
      try replace lz := lz.trans lw23
      try replace hL := hL.later lw23
      try replace hvl := hvl.later lw23
      try replace hown := own_later hown lw23
      try replace hrow := hrow.late lw23
      try replace lz := lz.trans mw23
      try replace hL := hL.later mw23
      try replace hvl := hvl.later mw23
      try replace hown := own_later hown mw23
      try replace hrow := hrow.late mw23
      replace hown := (show World.ownsRow _ base 23 3 lv 2 [.int .i64 (D - 1), .int .i64 86400, .int .i64 A, .int .i64 D, .int .i64 S, .int .i64 A] from hown)
      obtain ⟨la, lc2, rfl⟩ := own_sliceK hown
      refine sZ 5 ?_
      refine Wp.seq ?_
      refine qQ 2 ?_
      refine x_len rfl rfl rfl rfl rfl ?_
      refine f_neq rfl rfl rfl rfl rfl (by omega) ?_
      refine sQ 3 ?_
      refine f_neq rfl rfl rfl rfl rfl (by omega) ?_
      refine sZ 1 ?_
      refine Wp.condF rfl rfl ?_
      refine Wp.skip ?_
      refine Wp.seq ?_
      refine wR [0, 1, 2] ?_
      refine sB ?_
      refine sO (fun bk24 w24 kb24 lw24 => ?_)
      try have kz17 := Nat.le_trans lz.size kb24
      try have nL17 := hL.ne kb24
      try replace lz := lz.trans lw24
      try replace hL := hL.later lw24
      try replace hvl := hvl.later lw24
      try have nO17 := own_ne hown (.inr kb24)
      try replace hown := own_later hown lw24
      refine sS (fun w25 sw25 vw25 => ?_)
      try replace lz := lz.sto sw25 kz17
      try replace hL := hL.sto sw25 nL17
      try replace hown := own_sto hown sw25 nO17
      refine vOrd_nil ?_
      refine Wp.seq ?_
      refine Wp.block ?_
      refine qQ 1 ?_
      refine f_eql rfl rfl rfl rfl rfl (by omega) ?_
      refine sZ 1 ?_
      refine Wp.condF rfl rfl ?_
      refine qQ 1 ?_
      refine f_eql rfl rfl rfl rfl rfl (by omega) ?_
      refine sZ 1 ?_
      refine Wp.condF rfl rfl ?_
      refine qQ 1 ?_
      refine t_eql rfl rfl rfl rfl rfl (by omega) ?_
      refine sZ 1 ?_
      refine Wp.condT rfl rfl ?_
      refine Wp.seq ?_
      obtain ⟨g, cap, cs, hveq, -, hrow, hcap, hlen, htake, -⟩ := own_rowK hown (by omega)
      cases hveq
      clear hown
      refine wD [0, 1, 2, 3, 4, 5, 6, 7, 8, 9, 10, 11, 12, 13, 14, 15, 16, 17, 18, 19, 20, 21, 22, 23, 24, 25, 26] [0, 0, 59, 0, 0, 0, 0, 0, 0, 7679, 0, 0, 0, 0, 0, 0, 983039, 0, 0, 0, 0, 0, 0, 0, 0, 0, 0] (fun | 0 => fun v _ => v = .bool true | _ => fun _ _ => True) (fun wd ld => ?_)
      try replace lz := lz.trans ld
      try replace hL := hL.later ld
      try replace hvl := hvl.later ld
      try replace hown := own_later hown ld
      try replace hrow := hrow.late ld
      refine sD (fun wc lc => unanswers_any) ?_
      rintro v w26 u26 rfl lw26 mw26
      try replace lz := lz.trans lw26
      try replace hL := hL.later lw26
      try replace hvl := hvl.later lw26
      try replace hown := own_later hown lw26
      try replace hrow := hrow.late lw26
      try replace lz := lz.trans mw26
      try replace hL := hL.later mw26
      try replace hvl := hvl.later mw26
      try replace hown := own_later hown mw26
      try replace hrow := hrow.late mw26
      refine sQ 3 ?_
      refine sI (sz := 3) (0 * 3) ?_
      refine x_ldA [.int .i64 (D - 1), .int .i64 86400, .int .i64 A] rfl rfl rfl rfl rfl rfl hrow.var.lt (fun j u hj => ?_) ?_
      ·match j, hj with
       | 0, hj => cases hj; exact (cell_var hrow.var 0).trans (take_at htake rfl)
       | 1, hj => cases hj; exact (cell_var hrow.var 1).trans (take_at htake rfl)
       | 2, hj => cases hj; exact (cell_var hrow.var 2).trans (take_at htake rfl)
      refine s_eqv (c := true) rfl rfl rfl rfl rfl (fun _ => by kernel_rfl) (fun w => by rw [run_eql_label, eqD_same]) ?_
      refine sQ 4 ?_
      refine sI (sz := 3) (1 * 3) ?_
      refine x_ldA [.int .i64 D, .int .i64 S, .int .i64 A] rfl rfl rfl rfl rfl rfl hrow.var.lt (fun j u hj => ?_) ?_
      ·match j, hj with
       | 0, hj => cases hj; exact (cell_var hrow.var 3).trans (take_at htake rfl)
       | 1, hj => cases hj; exact (cell_var hrow.var 4).trans (take_at htake rfl)
       | 2, hj => cases hj; exact (cell_var hrow.var 5).trans (take_at htake rfl)
      refine s_eqv (c := true) rfl rfl rfl rfl rfl (fun _ => by kernel_rfl) (fun w => by rw [run_eql_label, eqD_same]) ?_
      refine sQ 4 ?_
      refine sI (sz := 3) (0 * 3) ?_
      refine x_ldA [.int .i64 (D - 1), .int .i64 86400, .int .i64 A] rfl rfl rfl rfl rfl rfl hrow.var.lt (fun j u hj => ?_) ?_
      ·match j, hj with
       | 0, hj => cases hj; exact (cell_var hrow.var 0).trans (take_at htake rfl)
       | 1, hj => cases hj; exact (cell_var hrow.var 1).trans (take_at htake rfl)
       | 2, hj => cases hj; exact (cell_var hrow.var 2).trans (take_at htake rfl)
      refine s_eqv (c := true) rfl rfl rfl rfl rfl (fun _ => by kernel_rfl) (fun w => by rw [run_eql_label, eqD_same]) ?_
      refine sQ 3 ?_
      refine t_eql rfl rfl rfl rfl rfl (by omega) ?_
      refine sZ 2 ?_
      refine Wp.ret ⟨.inr rfl, fun lW => ⟨_, res_tmp (P := Tryz.prog) rfl rfl, _, rfl, ?_, lW⟩⟩
      clear lW
      rfl
     by_cases y2 : pick = 2
     ·refine calls_Wp (args := [_, _, _]) (n := 193) Tryz.func4 rfl rfl (by simp) ?_
      refine Wp.seq ?_
      refine wR [0, 1, 2] ?_
      refine sE (fun bs3 ws3 ks3 ls3 => ?_)
      try have kz3 := Nat.le_trans lz.size ks3
      try have nL3 := hL.ne ks3
      try replace lz := lz.trans ls3
      try replace hL := hL.later ls3
      try replace hvl := hvl.later ls3
      refine sE (fun bs4 ws4 ks4 ls4 => ?_)
      try have kz4 := Nat.le_trans lz.size ks4
      try have nL4 := hL.ne ks4
      try replace lz := lz.trans ls4
      try replace hL := hL.later ls4
      try replace hvl := hvl.later ls4
      refine sZ 1 ?_
      refine Wp.seq ?_
      refine Wp.var (h := 3) rfl (fun v3 => ?_)
      have q3 := v3.lt
      refine Wp.var (h := 4) rfl (fun v4 => ?_)
      have q4 := v4.lt
      have hz1 := lz.size
      refine wQ 1 ?_
      refine sT (cnew_yes t hb hu he (hv.later lz)) ?_
      rintro v w13 ⟨h1, b1, c1, R1, hs1, k1, rfl, hh1, hb1, hk1, hL⟩ lw13
      try replace lz := lz.trans lw13
      try replace hL := hL.later lw13
      try replace hvl := hvl.later lw13
      try replace hown := own_later hown lw13
      try replace hrow := hrow.late lw13
      refine sZ 5 ?_
      refine Wp.seq ?_
      refine qQ 1 ?_
      refine f_neq rfl rfl rfl rfl rfl (by omega) ?_
      refine vOrd_nil ?_
      refine Wp.condF rfl rfl ?_
      refine Wp.skip ?_
      refine Wp.seq ?_
      have hbz : w.heap.size ≤ b1 := by omega
      obtain ⟨cs1, hvb⟩ := hL.var
      refine Wp.adopt 1007 hvb hbz rfl (show AllMem (fun d => d ≠ b1) _ from (by repeat (first | exact AllMem.args | exact AllMem.of (by simp only [AllL, and_true]; omega) | refine AllMem.put ?_ | refine AllMem.new ?_ (by omega) | refine AllMem.set ?_ (by omega)))) ?_
      refine wQ 2 ?_
      refine s_callH 1007 rfl rfl rfl (by kernel_rfl) rfl rfl (fun vr => (unlabels_any hb hL ⟨by omega, by omega⟩ ⟨_, _, rfl, hz⟩ hB hJ hK hJ' hK' hp hq)) ?_
      rintro v cs14 w14 ⟨rfl, R14, k14, _, hk14, hLq⟩ gw14 vw14
      try replace lz := lz.past gw14 hbz
      clear hL
      have hL := hLq
      clear hLq
      rw [hD, hS, hA, ulV_tt]
      refine sQ 5 ?_
      refine sO (fun bk15 w15 kb15 lw15 => ?_)
      try have kz9 := Nat.le_trans lz.size kb15
      try have nL9 := hL.ne kb15
      try replace lz := lz.trans lw15
      try replace hL := hL.later lw15
      try replace hvl := hvl.later lw15
      try have nO9 := own_ne hown (.inr kb15)
      try replace hown := own_later hown lw15
      refine sO (fun bk16 w16 kb16 lw16 => ?_)
      try have kz10 := Nat.le_trans lz.size kb16
      try have nL10 := hL.ne kb16
      try replace lz := lz.trans lw16
      try replace hL := hL.later lw16
      try replace hvl := hvl.later lw16
      try have nO10 := own_ne hown (.inr kb16)
      try replace hown := own_later hown lw16
      refine sS (fun w17 sw17 vw17 => ?_)
      try replace lz := lz.sto sw17 kz9
      try replace hL := hL.sto sw17 nL9
      try replace hown := own_sto hown sw17 nO9
      refine sS (fun w18 sw18 vw18 => ?_)
      try replace lz := lz.sto sw18 kz10
      try replace hL := hL.sto sw18 nL10
      try replace hown := own_sto hown sw18 nO10
      refine sZ 2 ?_
      refine qQ 3 ?_
      refine s_callH 1007 rfl rfl rfl (by kernel_rfl) rfl rfl (fun vr => (unfind_any hb hL ⟨by omega, by omega⟩ ⟨_, _, rfl, hz⟩ hB hJ hK hJ' hK' hp hq pick)) ?_
      rintro v cs19 w19 ⟨rfl, R19, k19, _, hk19, hLq⟩ gw19 vw19
      try replace lz := lz.past gw19 hbz
      clear hL
      have hL := hLq
      clear hLq
      rw [hD, hS, hA, ufV_tt]
      rw [if_neg y1, if_pos y2]
      refine sQ 3 ?_
      refine sO (fun bk20 w20 kb20 lw20 => ?_)
      try have kz13 := Nat.le_trans lz.size kb20
      try have nL13 := hL.ne kb20
      try replace lz := lz.trans lw20
      try replace hL := hL.later lw20
      try replace hvl := hvl.later lw20
      try have nO13 := own_ne hown (.inr kb20)
      try replace hown := own_later hown lw20
      refine sS (fun w21 sw21 vw21 => ?_)
      try replace lz := lz.sto sw21 kz13
      try replace hL := hL.sto sw21 nL13
      try replace hown := own_sto hown sw21 nO13
      refine sZ 1 ?_
      refine Wp.seq ?_
      have hvl := hv.later lz
      clear lz
      refine wD [0, 1, 2, 3, 4, 5, 6, 7, 8] [6, 0, 0, 0, 0, 95, 191, 0, 0] (fun | 2 => IsBig 11 z | 3 => fun v w' => ∃ lv base, v = .tuple #[lv, .int .i64 0] ∧ w'.ownsRow base 23 3 lv (ulN true true) (ulC true true D S A) | _ => fun _ _ => True) (fun wd ld => ?_)
      try replace lz := lz.trans ld
      try replace hL := hL.later ld
      try replace hvl := hvl.later ld
      try replace hown := own_later hown ld
      try replace hrow := hrow.late ld
      refine sQ 2 ?_
      refine sD (fun wc lc => c_rof ⟨_, _, rfl, hz⟩ wc) ?_
      rintro v w22 u22 hr lw22 mw22
      try replace lz := lz.trans lw22
      try replace hL := hL.later lw22
      try replace hvl := hvl.later lw22
      try replace hown := own_later hown lw22
      try replace hrow := hrow.late lw22
      try replace lz := lz.trans mw22
      try replace hL := hL.later mw22
      try replace hvl := hvl.later mw22
      try replace hown := own_later hown mw22
      try replace hrow := hrow.late mw22
      obtain ⟨ra, rl, rc, rfl, -⟩ := id hr
      refine s_callD rfl rfl rfl (by kernel_rfl) rfl (fun wc lc => rulabels_B t hb (hvl.later lc) (hr.kp) hB hJ hK hJ' hK' hp hq (e0 := 0) hD hS hA (rfl)) ?_
      rintro v w23 u23 ⟨lv, base, rfl, hown⟩ lw23 mw23
      try replace lz := lz.trans lw23
      try replace hL := hL.later lw23
      try replace hvl := hvl.later lw23
      try replace hown := own_later hown lw23
      try replace hrow := hrow.late lw23
      try replace lz := lz.trans mw23
      try replace hL := hL.later mw23
      try replace hvl := hvl.later mw23
      try replace hown := own_later hown mw23
      try replace hrow := hrow.late mw23
      replace hown := (show World.ownsRow _ base 23 3 lv 2 [.int .i64 (D - 1), .int .i64 86400, .int .i64 A, .int .i64 D, .int .i64 S, .int .i64 A] from hown)
      obtain ⟨la, lc2, rfl⟩ := own_sliceK hown
      refine sZ 5 ?_
      refine Wp.seq ?_
      refine qQ 2 ?_
      refine x_len rfl rfl rfl rfl rfl ?_
      refine f_neq rfl rfl rfl rfl rfl (by omega) ?_
      refine sQ 3 ?_
      refine f_neq rfl rfl rfl rfl rfl (by omega) ?_
      refine sZ 1 ?_
      refine Wp.condF rfl rfl ?_
      refine Wp.skip ?_
      refine Wp.seq ?_
      refine wR [0, 1, 2] ?_
      refine sB ?_
      refine sO (fun bk24 w24 kb24 lw24 => ?_)
      try have kz17 := Nat.le_trans lz.size kb24
      try have nL17 := hL.ne kb24
      try replace lz := lz.trans lw24
      try replace hL := hL.later lw24
      try replace hvl := hvl.later lw24
      try have nO17 := own_ne hown (.inr kb24)
      try replace hown := own_later hown lw24
      refine sS (fun w25 sw25 vw25 => ?_)
      try replace lz := lz.sto sw25 kz17
      try replace hL := hL.sto sw25 nL17
      try replace hown := own_sto hown sw25 nO17
      refine vOrd_nil ?_
      refine Wp.seq ?_
      refine Wp.block ?_
      refine qQ 1 ?_
      refine f_eql rfl rfl rfl rfl rfl (by omega) ?_
      refine sZ 1 ?_
      refine Wp.condF rfl rfl ?_
      refine qQ 1 ?_
      refine f_eql rfl rfl rfl rfl rfl (by omega) ?_
      refine sZ 1 ?_
      refine Wp.condF rfl rfl ?_
      refine qQ 1 ?_
      refine f_eql rfl rfl rfl rfl rfl (by omega) ?_
      refine sZ 1 ?_
      refine Wp.condF rfl rfl ?_
      refine qQ 1 ?_
      refine t_eql rfl rfl rfl rfl rfl (by omega) ?_
      refine sZ 1 ?_
      refine Wp.condT rfl rfl ?_
      refine Wp.seq ?_
      obtain ⟨g, cap, cs, hveq, -, hrow, hcap, hlen, htake, -⟩ := own_rowK hown (by omega)
      cases hveq
      clear hown
      refine wD [0, 1, 2, 3, 4, 5, 6, 7, 8, 9, 10, 11, 12, 13, 14, 15, 16, 17, 18, 19, 20, 21, 22, 23, 24, 25, 26] [0, 0, 59, 0, 0, 0, 0, 0, 0, 7679, 0, 0, 0, 0, 0, 0, 983039, 0, 0, 0, 0, 0, 0, 0, 0, 0, 0] (fun | 0 => fun v _ => v = .bool true | _ => fun _ _ => True) (fun wd ld => ?_)
      try replace lz := lz.trans ld
      try replace hL := hL.later ld
      try replace hvl := hvl.later ld
      try replace hown := own_later hown ld
      try replace hrow := hrow.late ld
      refine sD (fun wc lc => unanswers_any) ?_
      rintro v w26 u26 rfl lw26 mw26
      try replace lz := lz.trans lw26
      try replace hL := hL.later lw26
      try replace hvl := hvl.later lw26
      try replace hown := own_later hown lw26
      try replace hrow := hrow.late lw26
      try replace lz := lz.trans mw26
      try replace hL := hL.later mw26
      try replace hvl := hvl.later mw26
      try replace hown := own_later hown mw26
      try replace hrow := hrow.late mw26
      refine sQ 3 ?_
      refine sI (sz := 3) (0 * 3) ?_
      refine x_ldA [.int .i64 (D - 1), .int .i64 86400, .int .i64 A] rfl rfl rfl rfl rfl rfl hrow.var.lt (fun j u hj => ?_) ?_
      ·match j, hj with
       | 0, hj => cases hj; exact (cell_var hrow.var 0).trans (take_at htake rfl)
       | 1, hj => cases hj; exact (cell_var hrow.var 1).trans (take_at htake rfl)
       | 2, hj => cases hj; exact (cell_var hrow.var 2).trans (take_at htake rfl)
      refine s_eqv (c := true) rfl rfl rfl rfl rfl (fun _ => by kernel_rfl) (fun w => by rw [run_eql_label, eqD_same]) ?_
      refine sQ 4 ?_
      refine sI (sz := 3) (1 * 3) ?_
      refine x_ldA [.int .i64 D, .int .i64 S, .int .i64 A] rfl rfl rfl rfl rfl rfl hrow.var.lt (fun j u hj => ?_) ?_
      ·match j, hj with
       | 0, hj => cases hj; exact (cell_var hrow.var 3).trans (take_at htake rfl)
       | 1, hj => cases hj; exact (cell_var hrow.var 4).trans (take_at htake rfl)
       | 2, hj => cases hj; exact (cell_var hrow.var 5).trans (take_at htake rfl)
      refine s_eqv (c := true) rfl rfl rfl rfl rfl (fun _ => by kernel_rfl) (fun w => by rw [run_eql_label, eqD_same]) ?_
      refine sQ 4 ?_
      refine sI (sz := 3) (1 * 3) ?_
      refine x_ldA [.int .i64 D, .int .i64 S, .int .i64 A] rfl rfl rfl rfl rfl rfl hrow.var.lt (fun j u hj => ?_) ?_
      ·match j, hj with
       | 0, hj => cases hj; exact (cell_var hrow.var 3).trans (take_at htake rfl)
       | 1, hj => cases hj; exact (cell_var hrow.var 4).trans (take_at htake rfl)
       | 2, hj => cases hj; exact (cell_var hrow.var 5).trans (take_at htake rfl)
      refine s_eqv (c := true) rfl rfl rfl rfl rfl (fun _ => by kernel_rfl) (fun w => by rw [run_eql_label, eqD_same]) ?_
      refine sQ 3 ?_
      refine t_eql rfl rfl rfl rfl rfl (by omega) ?_
      refine sZ 2 ?_
      refine Wp.ret ⟨.inr rfl, fun lW => ⟨_, res_tmp (P := Tryz.prog) rfl rfl, _, rfl, ?_, lW⟩⟩
      clear lW
      rfl
     ·refine calls_Wp (args := [_, _, _]) (n := 193) Tryz.func4 rfl rfl (by simp) ?_
      refine Wp.seq ?_
      refine wR [0, 1, 2] ?_
      refine sE (fun bs3 ws3 ks3 ls3 => ?_)
      try have kz3 := Nat.le_trans lz.size ks3
      try have nL3 := hL.ne ks3
      try replace lz := lz.trans ls3
      try replace hL := hL.later ls3
      try replace hvl := hvl.later ls3
      refine sE (fun bs4 ws4 ks4 ls4 => ?_)
      try have kz4 := Nat.le_trans lz.size ks4
      try have nL4 := hL.ne ks4
      try replace lz := lz.trans ls4
      try replace hL := hL.later ls4
      try replace hvl := hvl.later ls4
      refine sZ 1 ?_
      refine Wp.seq ?_
      refine Wp.var (h := 3) rfl (fun v3 => ?_)
      have q3 := v3.lt
      refine Wp.var (h := 4) rfl (fun v4 => ?_)
      have q4 := v4.lt
      have hz1 := lz.size
      refine wQ 1 ?_
      refine sT (cnew_yes t hb hu he (hv.later lz)) ?_
      rintro v w13 ⟨h1, b1, c1, R1, hs1, k1, rfl, hh1, hb1, hk1, hL⟩ lw13
      try replace lz := lz.trans lw13
      try replace hL := hL.later lw13
      try replace hvl := hvl.later lw13
      try replace hown := own_later hown lw13
      try replace hrow := hrow.late lw13
      refine sZ 5 ?_
      refine Wp.seq ?_
      refine qQ 1 ?_
      refine f_neq rfl rfl rfl rfl rfl (by omega) ?_
      refine vOrd_nil ?_
      refine Wp.condF rfl rfl ?_
      refine Wp.skip ?_
      refine Wp.seq ?_
      have hbz : w.heap.size ≤ b1 := by omega
      obtain ⟨cs1, hvb⟩ := hL.var
      refine Wp.adopt 1007 hvb hbz rfl (show AllMem (fun d => d ≠ b1) _ from (by repeat (first | exact AllMem.args | exact AllMem.of (by simp only [AllL, and_true]; omega) | refine AllMem.put ?_ | refine AllMem.new ?_ (by omega) | refine AllMem.set ?_ (by omega)))) ?_
      refine wQ 2 ?_
      refine s_callH 1007 rfl rfl rfl (by kernel_rfl) rfl rfl (fun vr => (unlabels_any hb hL ⟨by omega, by omega⟩ ⟨_, _, rfl, hz⟩ hB hJ hK hJ' hK' hp hq)) ?_
      rintro v cs14 w14 ⟨rfl, R14, k14, _, hk14, hLq⟩ gw14 vw14
      try replace lz := lz.past gw14 hbz
      clear hL
      have hL := hLq
      clear hLq
      rw [hD, hS, hA, ulV_tt]
      refine sQ 5 ?_
      refine sO (fun bk15 w15 kb15 lw15 => ?_)
      try have kz9 := Nat.le_trans lz.size kb15
      try have nL9 := hL.ne kb15
      try replace lz := lz.trans lw15
      try replace hL := hL.later lw15
      try replace hvl := hvl.later lw15
      try have nO9 := own_ne hown (.inr kb15)
      try replace hown := own_later hown lw15
      refine sO (fun bk16 w16 kb16 lw16 => ?_)
      try have kz10 := Nat.le_trans lz.size kb16
      try have nL10 := hL.ne kb16
      try replace lz := lz.trans lw16
      try replace hL := hL.later lw16
      try replace hvl := hvl.later lw16
      try have nO10 := own_ne hown (.inr kb16)
      try replace hown := own_later hown lw16
      refine sS (fun w17 sw17 vw17 => ?_)
      try replace lz := lz.sto sw17 kz9
      try replace hL := hL.sto sw17 nL9
      try replace hown := own_sto hown sw17 nO9
      refine sS (fun w18 sw18 vw18 => ?_)
      try replace lz := lz.sto sw18 kz10
      try replace hL := hL.sto sw18 nL10
      try replace hown := own_sto hown sw18 nO10
      refine sZ 2 ?_
      refine qQ 3 ?_
      refine s_callH 1007 rfl rfl rfl (by kernel_rfl) rfl rfl (fun vr => (unfind_any hb hL ⟨by omega, by omega⟩ ⟨_, _, rfl, hz⟩ hB hJ hK hJ' hK' hp hq pick)) ?_
      rintro v cs19 w19 ⟨rfl, R19, k19, _, hk19, hLq⟩ gw19 vw19
      try replace lz := lz.past gw19 hbz
      clear hL
      have hL := hLq
      clear hLq
      rw [hD, hS, hA, ufV_tt]
      rw [if_neg y1, if_neg y2]
      refine sQ 3 ?_
      refine sO (fun bk20 w20 kb20 lw20 => ?_)
      try have kz13 := Nat.le_trans lz.size kb20
      try have nL13 := hL.ne kb20
      try replace lz := lz.trans lw20
      try replace hL := hL.later lw20
      try replace hvl := hvl.later lw20
      try have nO13 := own_ne hown (.inr kb20)
      try replace hown := own_later hown lw20
      refine sS (fun w21 sw21 vw21 => ?_)
      try replace lz := lz.sto sw21 kz13
      try replace hL := hL.sto sw21 nL13
      try replace hown := own_sto hown sw21 nO13
      refine sZ 1 ?_
      refine Wp.seq ?_
      have hvl := hv.later lz
      clear lz
      refine wD [0, 1, 2, 3, 4, 5, 6, 7, 8] [6, 0, 0, 0, 0, 95, 191, 0, 0] (fun | 2 => IsBig 11 z | 3 => fun v w' => ∃ lv base, v = .tuple #[lv, .int .i64 0] ∧ w'.ownsRow base 23 3 lv (ulN true true) (ulC true true D S A) | _ => fun _ _ => True) (fun wd ld => ?_)
      try replace lz := lz.trans ld
      try replace hL := hL.later ld
      try replace hvl := hvl.later ld
      try replace hown := own_later hown ld
      try replace hrow := hrow.late ld
      refine sQ 2 ?_
      refine sD (fun wc lc => c_rof ⟨_, _, rfl, hz⟩ wc) ?_
      rintro v w22 u22 hr lw22 mw22
      try replace lz := lz.trans lw22
      try replace hL := hL.later lw22
      try replace hvl := hvl.later lw22
      try replace hown := own_later hown lw22
      try replace hrow := hrow.late lw22
      try replace lz := lz.trans mw22
      try replace hL := hL.later mw22
      try replace hvl := hvl.later mw22
      try replace hown := own_later hown mw22
      try replace hrow := hrow.late mw22
      obtain ⟨ra, rl, rc, rfl, -⟩ := id hr
      refine s_callD rfl rfl rfl (by kernel_rfl) rfl (fun wc lc => rulabels_B t hb (hvl.later lc) (hr.kp) hB hJ hK hJ' hK' hp hq (e0 := 0) hD hS hA (rfl)) ?_
      rintro v w23 u23 ⟨lv, base, rfl, hown⟩ lw23 mw23
      try replace lz := lz.trans lw23
      try replace hL := hL.later lw23
      try replace hvl := hvl.later lw23
      try replace hown := own_later hown lw23
      try replace hrow := hrow.late lw23
      try replace lz := lz.trans mw23
      try replace hL := hL.later mw23
      try replace hvl := hvl.later mw23
      try replace hown := own_later hown mw23
      try replace hrow := hrow.late mw23
      replace hown := (show World.ownsRow _ base 23 3 lv 2 [.int .i64 (D - 1), .int .i64 86400, .int .i64 A, .int .i64 D, .int .i64 S, .int .i64 A] from hown)
      obtain ⟨la, lc2, rfl⟩ := own_sliceK hown
      refine sZ 5 ?_
      refine Wp.seq ?_
      refine qQ 2 ?_
      refine x_len rfl rfl rfl rfl rfl ?_
      refine f_neq rfl rfl rfl rfl rfl (by omega) ?_
      refine sQ 3 ?_
      refine f_neq rfl rfl rfl rfl rfl (by omega) ?_
      refine sZ 1 ?_
      refine Wp.condF rfl rfl ?_
      refine Wp.skip ?_
      refine Wp.seq ?_
      refine wR [0, 1, 2] ?_
      refine sB ?_
      refine sO (fun bk24 w24 kb24 lw24 => ?_)
      try have kz17 := Nat.le_trans lz.size kb24
      try have nL17 := hL.ne kb24
      try replace lz := lz.trans lw24
      try replace hL := hL.later lw24
      try replace hvl := hvl.later lw24
      try have nO17 := own_ne hown (.inr kb24)
      try replace hown := own_later hown lw24
      refine sS (fun w25 sw25 vw25 => ?_)
      try replace lz := lz.sto sw25 kz17
      try replace hL := hL.sto sw25 nL17
      try replace hown := own_sto hown sw25 nO17
      refine vOrd_nil ?_
      refine Wp.seq ?_
      refine Wp.block ?_
      refine qQ 1 ?_
      refine f_eql rfl rfl rfl rfl rfl (by omega) ?_
      refine sZ 1 ?_
      refine Wp.condF rfl rfl ?_
      refine qQ 1 ?_
      refine f_eql rfl rfl rfl rfl rfl (by omega) ?_
      refine sZ 1 ?_
      refine Wp.condF rfl rfl ?_
      refine qQ 1 ?_
      refine f_eql rfl rfl rfl rfl rfl (by omega) ?_
      refine sZ 1 ?_
      refine Wp.condF rfl rfl ?_
      refine qQ 1 ?_
      refine f_eql rfl rfl rfl rfl rfl (by omega) ?_
      refine sZ 1 ?_
      refine Wp.condF rfl rfl ?_
      refine Wp.skip ?_
      refine Wp.seq ?_
      obtain ⟨g, cap, cs, hveq, -, hrow, hcap, hlen, htake, -⟩ := own_rowK hown (by omega)
      cases hveq
      clear hown
      refine wD [0, 1, 2, 3, 4, 5, 6, 7, 8, 9, 10, 11, 12, 13, 14, 15, 16, 17, 18, 19, 20, 21, 22, 23, 24] [0, 0, 59, 0, 0, 0, 0, 0, 0, 7679, 0, 0, 0, 0, 0, 0, 196607, 0, 0, 0, 0, 0, 0, 0, 0] (fun | 0 => fun v _ => v = .bool true | _ => fun _ _ => True) (fun wd ld => ?_)
      try replace lz := lz.trans ld
      try replace hL := hL.later ld
      try replace hvl := hvl.later ld
      try replace hown := own_later hown ld
      try replace hrow := hrow.late ld
      refine sD (fun wc lc => unanswers_any) ?_
      rintro v w26 u26 rfl lw26 mw26
      try replace lz := lz.trans lw26
      try replace hL := hL.later lw26
      try replace hvl := hvl.later lw26
      try replace hown := own_later hown lw26
      try replace hrow := hrow.late lw26
      try replace lz := lz.trans mw26
      try replace hL := hL.later mw26
      try replace hvl := hvl.later mw26
      try replace hown := own_later hown mw26
      try replace hrow := hrow.late mw26
      refine sQ 3 ?_
      refine sI (sz := 3) (0 * 3) ?_
      refine x_ldA [.int .i64 (D - 1), .int .i64 86400, .int .i64 A] rfl rfl rfl rfl rfl rfl hrow.var.lt (fun j u hj => ?_) ?_
      ·match j, hj with
       | 0, hj => cases hj; exact (cell_var hrow.var 0).trans (take_at htake rfl)
       | 1, hj => cases hj; exact (cell_var hrow.var 1).trans (take_at htake rfl)
       | 2, hj => cases hj; exact (cell_var hrow.var 2).trans (take_at htake rfl)
      refine s_eqv (c := true) rfl rfl rfl rfl rfl (fun _ => by kernel_rfl) (fun w => by rw [run_eql_label, eqD_same]) ?_
      refine sQ 4 ?_
      refine sI (sz := 3) (1 * 3) ?_
      refine x_ldA [.int .i64 D, .int .i64 S, .int .i64 A] rfl rfl rfl rfl rfl rfl hrow.var.lt (fun j u hj => ?_) ?_
      ·match j, hj with
       | 0, hj => cases hj; exact (cell_var hrow.var 3).trans (take_at htake rfl)
       | 1, hj => cases hj; exact (cell_var hrow.var 4).trans (take_at htake rfl)
       | 2, hj => cases hj; exact (cell_var hrow.var 5).trans (take_at htake rfl)
      refine s_eqv (c := true) rfl rfl rfl rfl rfl (fun _ => by kernel_rfl) (fun w => by rw [run_eql_label, eqD_same]) ?_
      refine sQ 4 ?_
      refine s_eqv (c := true) rfl rfl rfl rfl rfl (fun _ => by kernel_rfl) (fun w => by rw [run_eql_label, eqD_same]) ?_
      refine sQ 3 ?_
      refine t_eql rfl rfl rfl rfl rfl (by omega) ?_
      refine sZ 2 ?_
      refine Wp.ret ⟨.inr rfl, fun lW => ⟨_, res_tmp (P := Tryz.prog) rfl rfl, _, rfl, ?_, lW⟩⟩
      clear lW
      rfl

end Go.Proofs.YthihioakjpmnbaaGreat
