/-
 Unix time: what the laws of layer 17 share, and the walks of UnixCounts, UnixNtp, UnixNone, UnixBack.
-/
import Derived.Test.YthihioakjpmnbaaGreatUnB
import Derived.Test.YthihioakjpmnbaaGreatUnR
import Derived.Test.YthihioakjpmnbaaGreatLpL
namespace Go.Proofs.YthihioakjpmnbaaGreat
open Go.RowKit
set_option maxRecDepth 100000

theorem cutJ_dec {p : Sg → Bool} {es : List Sg} {k : Nat} (hk : k ≤ es.length) (h : (List.range es.length).all (fun j => match es[j]? with | some e => p e == decide (j < k) | none => true) = true) : CutP p es k :=
 ⟨hk, fun j e he => by
  have hl := (List.getElem?_eq_some_iff.1 he).1
  have := List.all_eq_true.1 h j (by simpa using hl)
  rw [he] at this
  simpa using this⟩
def tU : Tb := ⟨0, 0, [(2272060800, 10), (2287785600, 11)]⟩
theorem tU_can : canBe tU = true := by decide
theorem rowU {w : World} {c : Nat} (h : RowIs w c 56 [.int .i64 2272060800, .int .i64 10, .int .i64 2287785600, .int .i64 11]) : EntAt w (.slice (some ⟨c, 0, none⟩) tU.es.length 2) tU.es :=
 ents_own (base := 0) (own_of_row (xs := entC tU.es) h (Nat.zero_le _) rfl (by decide)) (fun j hj => can_all tU_can hj)
def zU : Int := cnt 41498 86400 5 - cnt 40587 0 0
theorem zU_E : unE 41498 86400 5 = 0 ∧ unV 41498 86400 5 = zU := by decide +kernel
theorem zU_D : dayZ (ulZ zU) = 41499 := by decide +kernel
theorem zU_S : secZ (ulZ zU) = 0 := by decide +kernel
theorem zU_A : attZ (ulZ zU) = 5 := by decide +kernel
theorem zU_B : inB (dayZ (ulZ zU)) = true := by rw [zU_D]; decide
theorem zU_J : CutP (pSD (dayZ (ulZ zU))) pubS 13 := by rw [zU_D]; exact cutJ_dec (by decide) (by decide)
theorem zU_K : Cut (pDay (dayZ (ulZ zU))) tU.es 2 := by rw [zU_D]; exact cut_dec (by decide) (by decide)
theorem zU_J' : CutP (pSD (dayZ (ulZ zU) - 1)) pubS 13 := by rw [zU_D]; exact cutJ_dec (by decide) (by decide)
theorem zU_K' : Cut (pDay (dayZ (ulZ zU) - 1)) tU.es 1 := by rw [zU_D]; exact cut_dec (by decide) (by decide)
theorem zU_p : ulP tU 13 1 zU = true := by decide +kernel
theorem zU_q : ulQ tU 13 2 zU = true := by decide +kernel
set_option maxHeartbeats 1000000 in
theorem unanswers_any {w : World} : Calls Tryz.prog 11 #[] w fun e w' => ∃ r, e = .returned r ∧ r = .bool true ∧ Below w.heap.size w w' := by
 have lz := Later.refl w
 refine calls_Wp (args := []) (n := 62) Tryz.func11 rfl rfl (by simp) ?_
 refine qZ ?_
 refine Wp.seq ?_
 refine wR [0, 1, 2, 3, 4, 5, 6, 7, 8, 9] ?_
 refine sB ?_
 refine sB ?_
 refine s_bs (e := 56) (cs := [.int .i64 2272060800, .int .i64 10, .int .i64 2287785600, .int .i64 11]) rfl rfl rfl (fun _ => by kernel_rfl) ?_
 intro cb wb hcb lb hrow
 have hv := rowU hrow
 clear hrow
 try replace lz := lz.trans lb
 try replace hL := hL.later lb
 try replace hvl := hvl.later lb
 have hz1 := lz.size
 refine sB ?_
 refine sT (cnew_yes tU tU_can in0 in0 hv) ?_
 rintro v w9 ⟨h1, b1, c1, R1, hs1, k1, rfl, hh1, hb1, hk1, hL⟩ lw9
 try replace lz := lz.trans lw9
 try replace hL := hL.later lw9
 try replace hvl := hvl.later lw9
 refine sZ 5 ?_
 refine Wp.seq ?_
 refine wR [0, 1, 2, 3, 4, 5, 6, 7] ?_
 refine sB ?_
 refine sT (uncount_any (d := 41498) (s := 86400) (a := 5) ⟨by decide, by decide⟩ ⟨by decide, by decide⟩ ⟨by decide, by decide⟩) ?_
 rintro v w10 ⟨nu, rfl, nh, nl, rfl, hn⟩ lw10
 try replace lz := lz.trans lw10
 try replace hL := hL.later lw10
 try replace hvl := hvl.later lw10
 rw [zU_E.1]
 rw [zU_E.2] at hn
 refine sQ 3 ?_
 refine sO (fun bk11 w11 kb11 lw11 => ?_)
 try have kz3 := Nat.le_trans lz.size kb11
 try have nL3 := hL.ne kb11
 try replace lz := lz.trans lw11
 try replace hL := hL.later lw11
 try replace hvl := hvl.later lw11
 refine sS (fun w12 sw12 vw12 => ?_)
 try replace lz := lz.sto sw12 kz3
 try replace hL := hL.sto sw12 nL3
 refine sZ 1 ?_
 refine Wp.seq ?_
 have n3 := nL3.1.1
 have hbz : w.heap.size ≤ b1 := by omega
 obtain ⟨cs1, hvb⟩ := hL.var
 refine Wp.adopt 1007 hvb hbz rfl (show AllMem (fun d => d ≠ b1) _ from (by repeat (first | exact AllMem.args | exact AllMem.of (by simp only [AllL, and_true]; omega) | refine AllMem.put ?_ | refine AllMem.new ?_ (by omega) | refine AllMem.set ?_ (by omega)))) ?_
 refine wQ 2 ?_
 refine s_callH 1007 rfl rfl rfl (by kernel_rfl) rfl rfl (fun vr => (unlabels_any tU_can hL ⟨by omega, by omega⟩ ⟨_, _, rfl, hn⟩ zU_B zU_J zU_K zU_J' zU_K' zU_p zU_q)) ?_
 rintro v cs13 w13 ⟨rfl, R13, k13, _, hk13, hLq⟩ gw13 vw13
 try replace lz := lz.past gw13 hbz
 clear hL
 have hL := hLq
 clear hLq
 rw [zU_D, zU_S, zU_A, ulV_tt, show (41499 : Int) - 1 = 41498 from rfl]
 refine sQ 5 ?_
 refine sO (fun bk14 w14 kb14 lw14 => ?_)
 try have kz5 := Nat.le_trans lz.size kb14
 try have nL5 := hL.ne kb14
 try replace lz := lz.trans lw14
 try replace hL := hL.later lw14
 try replace hvl := hvl.later lw14
 refine sO (fun bk15 w15 kb15 lw15 => ?_)
 try have kz6 := Nat.le_trans lz.size kb15
 try have nL6 := hL.ne kb15
 try replace lz := lz.trans lw15
 try replace hL := hL.later lw15
 try replace hvl := hvl.later lw15
 refine sS (fun w16 sw16 vw16 => ?_)
 try replace lz := lz.sto sw16 kz5
 try replace hL := hL.sto sw16 nL5
 refine sS (fun w17 sw17 vw17 => ?_)
 try replace lz := lz.sto sw17 kz6
 try replace hL := hL.sto sw17 nL6
 refine sZ 2 ?_
 refine qQ 2 ?_
 refine s_callH 1007 rfl rfl rfl (by kernel_rfl) rfl rfl (fun vr => (unfind_any tU_can hL ⟨by omega, by omega⟩ ⟨_, _, rfl, hn⟩ zU_B zU_J zU_K zU_J' zU_K' zU_p zU_q 0)) ?_
 rintro v cs18 w18 ⟨rfl, R18, k18, _, hk18, hLq⟩ gw18 vw18
 try replace lz := lz.past gw18 hbz
 clear hL
 have hL := hLq
 clear hLq
 rw [zU_D, zU_S, zU_A, ufV_tt, if_neg (by decide), if_neg (by decide)]
 refine sQ 3 ?_
 refine sO (fun bk19 w19 kb19 lw19 => ?_)
 try have kz9 := Nat.le_trans lz.size kb19
 try have nL9 := hL.ne kb19
 try replace lz := lz.trans lw19
 try replace hL := hL.later lw19
 try replace hvl := hvl.later lw19
 refine sS (fun w20 sw20 vw20 => ?_)
 try replace lz := lz.sto sw20 kz9
 try replace hL := hL.sto sw20 nL9
 refine sZ 1 ?_
 refine qQ 1 ?_
 refine t_eql rfl rfl rfl rfl rfl (by omega) ?_
 refine sQ 2 ?_
 refine t_eql rfl rfl rfl rfl rfl (by omega) ?_
 refine sQ 3 ?_
 refine t_eql rfl rfl rfl rfl rfl (by decide) ?_
 refine sQ 3 ?_
 refine sB ?_
 refine s_eqv (c := true) rfl rfl rfl rfl rfl (fun _ => by kernel_rfl) (fun w => by rw [run_eql_label, eqD_same]) ?_
 refine sQ 3 ?_
 refine sB ?_
 refine s_eqv (c := true) rfl rfl rfl rfl rfl (fun _ => by kernel_rfl) (fun w => by rw [run_eql_label, eqD_same]) ?_
 refine sQ 3 ?_
 refine t_eql rfl rfl rfl rfl rfl (by decide) ?_
 refine sZ 2 ?_
 refine Wp.ret ⟨.inr rfl, fun lW => ⟨_, res_tmp (P := Tryz.prog) rfl rfl, _, rfl, ?_, lW⟩⟩
 clear lW
 rfl
theorem law_uncounts {d s a : Int} (hd : I64 d) (hs : I64 s) (ha : I64 a) {w : World} : Calls Tryz.prog 3 #[.agg #[.int .i64 d, .int .i64 s, .int .i64 a]] w fun e w' => ∃ r, e = .returned r ∧ r = .bool true ∧ Below w.heap.size w w' := by
 cases hU : isU s a with
 | false =>
  obtain ⟨e1, e2⟩ := un_bad (d := d) hU
  refine calls_Wp (args := [_]) (n := 49) Tryz.func3 rfl rfl (by simp) ?_
  refine Wp.seq ?_
  refine wR [0, 1] ?_
  refine sE (fun bk1 w1 kb1 lw1 => ?_)
  refine sZ 1 ?_
  refine qQ 1 ?_
  refine sT (uncount_any hd hs ha) ?_
  rintro v w2 ⟨nu, rfl, nh, nl, rfl, hn⟩ lw2
  rw [e1]
  rw [e2] at hn
  refine sQ 3 ?_
  refine sO (fun bk3 w3 kb3 lw3 => ?_)
  refine sS (fun w4 sw4 vw4 => ?_)
  refine sZ 1 ?_
  refine Wp.seq ?_
  refine qQ 1 ?_
  refine sT (r15form_any d s a) ?_
  rintro v w5 rfl lw5
  rw [hU]
  refine sZ 1 ?_
  refine Wp.condT rfl rfl ?_
  refine Wp.seq ?_
  refine wR [0, 1, 2, 3, 4, 5, 6, 7, 8, 9, 10] ?_
  refine sT (unanswers_any) ?_
  rintro v w6 rfl lw6
  refine sQ 2 ?_
  refine t_eql rfl rfl rfl rfl rfl (by omega) ?_
  refine sQ 3 ?_
  refine sB ?_
  refine s_eqv (c := true) rfl rfl rfl rfl rfl (fun _ => by kernel_rfl) (fun w => by rw [run_eql_wide, eqW_same hn (show WideIs 0 0 0 by unfold WideIs; omega)]) ?_
  refine sZ 2 ?_
  refine Wp.ret ⟨.inr rfl, fun lW => ⟨_, res_tmp (P := Tryz.prog) rfl rfl, _, rfl, ?_, lW⟩⟩
  clear lW
  rfl
 | true =>
  cases hB : inB d with
  | false =>
   obtain ⟨e1, e2⟩ := un_far hU hB
   refine calls_Wp (args := [_]) (n := 49) Tryz.func3 rfl rfl (by simp) ?_
   refine Wp.seq ?_
   refine wR [0, 1] ?_
   refine sE (fun bk1 w1 kb1 lw1 => ?_)
   refine sZ 1 ?_
   refine qQ 1 ?_
   refine sT (uncount_any hd hs ha) ?_
   rintro v w2 ⟨nu, rfl, nh, nl, rfl, hn⟩ lw2
   rw [e1]
   rw [e2] at hn
   refine sQ 3 ?_
   refine sO (fun bk3 w3 kb3 lw3 => ?_)
   refine sS (fun w4 sw4 vw4 => ?_)
   refine sZ 1 ?_
   refine Wp.seq ?_
   refine qQ 1 ?_
   refine sT (r15form_any d s a) ?_
   rintro v w5 rfl lw5
   rw [hU]
   refine sZ 1 ?_
   refine Wp.condF rfl rfl ?_
   refine Wp.skip ?_
   refine Wp.seq ?_
   refine qQ 2 ?_
   refine sT (din_any d _) ?_
   rintro v w6 rfl lw6
   rw [hB]
   refine sZ 1 ?_
   refine Wp.condT rfl rfl ?_
   refine Wp.seq ?_
   refine wR [0, 1, 2, 3, 4, 5, 6, 7, 8, 9, 10] ?_
   refine sT (unanswers_any) ?_
   rintro v w7 rfl lw7
   refine sQ 2 ?_
   refine t_eql rfl rfl rfl rfl rfl (by omega) ?_
   refine sQ 3 ?_
   refine sB ?_
   refine s_eqv (c := true) rfl rfl rfl rfl rfl (fun _ => by kernel_rfl) (fun w => by rw [run_eql_wide, eqW_same hn (show WideIs 0 0 0 by unfold WideIs; omega)]) ?_
   refine sZ 2 ?_
   refine Wp.ret ⟨.inr rfl, fun lW => ⟨_, res_tmp (P := Tryz.prog) rfl rfl, _, rfl, ?_, lW⟩⟩
   clear lW
   rfl
  | true =>
   obtain ⟨e1, e2⟩ := un_ok hU hB
   refine calls_Wp (args := [_]) (n := 49) Tryz.func3 rfl rfl (by simp) ?_
   refine Wp.seq ?_
   refine wR [0, 1] ?_
   refine sE (fun bk1 w1 kb1 lw1 => ?_)
   refine sZ 1 ?_
   refine qQ 1 ?_
   refine sT (uncount_any hd hs ha) ?_
   rintro v w2 ⟨nu, rfl, nh, nl, rfl, hn⟩ lw2
   rw [e1]
   rw [e2] at hn
   refine sQ 3 ?_
   refine sO (fun bk3 w3 kb3 lw3 => ?_)
   refine sS (fun w4 sw4 vw4 => ?_)
   refine sZ 1 ?_
   refine Wp.seq ?_
   refine qQ 1 ?_
   refine sT (r15form_any d s a) ?_
   rintro v w5 rfl lw5
   rw [hU]
   refine sZ 1 ?_
   refine Wp.condF rfl rfl ?_
   refine Wp.skip ?_
   refine Wp.seq ?_
   refine qQ 2 ?_
   refine sT (din_any d _) ?_
   rintro v w6 rfl lw6
   rw [hB]
   refine sZ 1 ?_
   refine Wp.condF rfl rfl ?_
   refine Wp.skip ?_
   refine Wp.seq ?_
   refine wD [0, 1, 2, 3, 4, 5, 6, 8, 7, 9, 10, 11, 12] [0, 0, 0, 0, 0, 0, 319, 255, 0, 0, 0, 0, 0] (fun | 0 => fun v _ => v = .bool true | 7 => IsBig 11 (cnt d s a - cnt 40587 0 0) | 9 => IsBig 18 (cnt d s a - cnt 40587 0 0) | 10 => fun v _ => v = .bool true | _ => fun _ _ => True) (fun _ _ => ?_)
   refine sD (fun wc lc => unanswers_any) ?_
   rintro v w7 u7 rfl lw7 mw7
   refine sQ 2 ?_
   refine t_eql rfl rfl rfl rfl rfl (by omega) ?_
   refine sQ 4 ?_
   refine sD (fun wc lc => c_rof ⟨_, _, rfl, hn⟩ wc) ?_
   rintro v w8 u8 h1 lw8 mw8
   refine sD (fun wc lc => runix_any hd hs ha) ?_
   rintro v w9 u9 h2 lw9 mw9
   obtain ⟨h2a, h2l, h2c, rfl, -⟩ := id h2
   refine s_callD rfl rfl rfl (by kernel_rfl) rfl (fun wc lc => c_same_yes (h1.kp) (h2.kp) (by decide) (by decide)) ?_
   rintro v w10 u10 rfl lw10 mw10
   refine sZ 2 ?_
   refine Wp.ret ⟨.inr rfl, fun lW => ⟨_, res_tmp (P := Tryz.prog) rfl rfl, _, rfl, ?_, lW⟩⟩
   clear lW
   rfl
theorem law_unnone {nh nl z pick : Int} (hz : WideIs nh nl z) {w : World} : Calls Tryz.prog 8 #[.agg #[.int .i64 nh, .int .u64 nl], .int .i64 pick] w fun e w' => ∃ r, e = .returned r ∧ r = .bool true ∧ Below w.heap.size w w' := by
 refine calls_Wp (args := [_, _]) (n := 54) Tryz.func8 rfl rfl (by simp) ?_
 refine Wp.seq ?_
 refine wR [0, 1] ?_
 refine sE (fun bk1 w1 kb1 lw1 => ?_)
 refine sZ 1 ?_
 refine qQ 1 ?_
 refine sT (unlabels_nil ⟨_, _, rfl, hz⟩) ?_
 rintro v w2 rfl lw2
 refine sQ 5 ?_
 refine sO (fun bk3 w3 kb3 lw3 => ?_)
 refine sO (fun bk4 w4 kb4 lw4 => ?_)
 refine sS (fun w5 sw5 vw5 => ?_)
 refine sS (fun w6 sw6 vw6 => ?_)
 refine sZ 2 ?_
 refine qQ 2 ?_
 refine sT (unfind_nil ⟨_, _, rfl, hz⟩) ?_
 rintro v w7 rfl lw7
 refine sQ 3 ?_
 refine sO (fun bk8 w8 kb8 lw8 => ?_)
 refine sS (fun w9 sw9 vw9 => ?_)
 refine sZ 1 ?_
 refine Wp.seq ?_
 refine wR [0, 1, 2] ?_
 refine sB ?_
 refine sO (fun bk10 w10 kb10 lw10 => ?_)
 refine sS (fun w11 sw11 vw11 => ?_)
 refine vOrd_nil ?_
 refine Wp.seq ?_
 refine wR [0, 1, 2, 3, 4, 5, 6, 7, 8, 9, 10, 11, 12, 13, 14, 15, 16, 17, 18, 19, 20, 21, 22, 23, 24, 25, 26, 27, 28] ?_
 refine sT (unanswers_any) ?_
 rintro v w12 rfl lw12
 refine sQ 2 ?_
 refine t_eql rfl rfl rfl rfl rfl (by omega) ?_
 refine sQ 3 ?_
 refine t_eql rfl rfl rfl rfl rfl (by omega) ?_
 refine sQ 3 ?_
 refine t_eql rfl rfl rfl rfl rfl (by omega) ?_
 refine sQ 4 ?_
 refine s_eqv (c := true) rfl rfl rfl rfl rfl (fun _ => by kernel_rfl) (fun w => by rw [run_eql_label, eqD_same]) ?_
 refine sQ 4 ?_
 refine s_eqv (c := true) rfl rfl rfl rfl rfl (fun _ => by kernel_rfl) (fun w => by rw [run_eql_label, eqD_same]) ?_
 refine sQ 4 ?_
 refine s_eqv (c := true) rfl rfl rfl rfl rfl (fun _ => by kernel_rfl) (fun w => by rw [run_eql_label, eqD_same]) ?_
 refine sZ 2 ?_
 refine Wp.ret ⟨.inr rfl, fun lW => ⟨_, res_tmp (P := Tryz.prog) rfl rfl, _, rfl, ?_, lW⟩⟩
 clear lW
 rfl
set_option maxHeartbeats 1000000 in
theorem law_unntp {nh nl z : Int} (hz : WideIs nh nl z) {w : World} : Calls Tryz.prog 7 #[.agg #[.int .i64 nh, .int .u64 nl]] w fun e w' => ∃ r, e = .returned r ∧ r = .bool true ∧ Below w.heap.size w w' := by
 obtain ⟨X, hX⟩ : ∃ X, z + cnt 0 2208988800 0 = X := ⟨_, rfl⟩
 obtain ⟨Y, hY⟩ : ∃ Y, z - cnt 0 2208988800 0 = Y := ⟨_, rfl⟩
 cases ix : inW X with
 | false =>
  have ex : fitE X = 2 := by unfold fitE; rw [ix]; rfl
  cases iy : inW Y with
  | false =>
   have ey : fitE Y = 2 := by unfold fitE; rw [iy]; rfl
   refine calls_Wp (args := [_]) (n := 77) Tryz.func7 rfl rfl (by simp) ?_
   refine Wp.seq ?_
   refine wR [0, 1] ?_
   refine sE (fun bk1 w1 kb1 lw1 => ?_)
   refine sZ 1 ?_
   refine qQ 1 ?_
   refine sT (unntp_any ⟨_, _, rfl, hz⟩) ?_
   rintro v w2 ⟨au, rfl, ah, al, rfl, ha⟩ lw2
   rw [hX] at ha ⊢
   rw [ex]
   refine sQ 3 ?_
   refine sO (fun bk3 w3 kb3 lw3 => ?_)
   refine sS (fun w4 sw4 vw4 => ?_)
   refine sZ 1 ?_
   refine qQ 1 ?_
   refine sT (unfrom_any ⟨_, _, rfl, hz⟩) ?_
   rintro v w5 ⟨bu, rfl, bh, bl, rfl, hb⟩ lw5
   rw [hY] at hb ⊢
   rw [ey]
   refine sQ 3 ?_
   refine sO (fun bk6 w6 kb6 lw6 => ?_)
   refine sS (fun w7 sw7 vw7 => ?_)
   refine sZ 1 ?_
   refine Wp.seq ?_
   refine wR [0, 1, 2, 3] ?_
   refine sB ?_
   refine sT (rjoin_any (d := 0) (s := 2208988800) (a := 0) ⟨by decide, by decide⟩ ⟨by decide, by decide⟩ ⟨by decide, by decide⟩ _) ?_
   rintro v w8 hj lw8
   obtain ⟨hja, hjl, hjc, rfl, -⟩ := id hj
   refine sO (fun bk9 w9 kb9 lw9 => ?_)
   refine sS (fun w10 sw10 vw10 => ?_)
   refine vOrd_nil ?_
   refine Wp.seq ?_
   refine wD [0, 2, 8, 1, 3, 4, 5, 6, 7, 9, 10] [260, 259, 255, 0, 0, 0, 0, 447, 895, 0, 0] (fun | 1 => IsBig 11 (z) | 3 => IsBig 18 (z + cnt 0 2208988800 0) | 4 => fun v _ => ∃ u, v = .tuple #[u, .bool (inW X)] ∧ IsW (fitV X) u | _ => fun _ _ => True) (fun wd ld => ?_)
   refine sQ 2 ?_
   refine sO (fun bk11 w11 kb11 lw11 => ?_)
   refine sD (fun wc lc => c_rof ⟨_, _, rfl, hz⟩ wc) ?_
   rintro v w12 u12 h1 lw12 mw12
   refine s_callD rfl rfl rfl (by kernel_rfl) rfl (fun wc lc => c_add (h1.kp) (hj.kp) (by decide) (by decide)) ?_
   rintro v w13 u13 h2 lw13 mw13
   rw [hX] at h2
   refine s_callD rfl rfl rfl (by kernel_rfl) rfl (fun wc lc => c_rwide (h2.kp) (by decide)) ?_
   rintro v w14 u14 ⟨cu, rfl, ch, cl, rfl, hc⟩ lw14 mw14
   rw [ix]
   refine sQ 3 ?_
   refine sS (fun w15 sw15 vw15 => ?_)
   refine sZ 1 ?_
   replace hj := hj.keeps (Keeps.trans (by repeat (first | exact Keeps.refl _ | refine Keeps.trans ?_ (Keeps.later (by assumption)) | refine Keeps.trans ?_ (Keeps.stored (by assumption) (by assumption) rfl) | refine Keeps.trans ?_ (Keeps.fresh (by assumption) (by assumption) (by assumption)))) (Keeps.fresh' sw15 kb11 (lw11.trans (lw12.trans (mw12.trans (lw13.trans (mw13.trans (lw14.trans mw14))))))))
   refine Wp.seq ?_
   refine wD [0, 2, 8, 1, 3, 4, 5, 6, 7, 9, 10] [260, 259, 255, 0, 0, 0, 0, 447, 895, 0, 0] (fun | 1 => IsBig 11 (z) | 3 => IsBig 18 (z - cnt 0 2208988800 0) | 4 => fun v _ => ∃ u, v = .tuple #[u, .bool (inW Y)] ∧ IsW (fitV Y) u | _ => fun _ _ => True) (fun _ _ => ?_)
   refine sQ 2 ?_
   refine sO (fun bk16 w16 kb16 lw16 => ?_)
   refine sD (fun wc lc => c_rof ⟨_, _, rfl, hz⟩ wc) ?_
   rintro v w17 u17 h3 lw17 mw17
   refine s_callD rfl rfl rfl (by kernel_rfl) rfl (fun wc lc => c_rsub (h3.kp) (hj.kp) (by decide) (by decide)) ?_
   rintro v w18 u18 h4 lw18 mw18
   rw [hY] at h4
   refine s_callD rfl rfl rfl (by kernel_rfl) rfl (fun wc lc => c_rwide (h4.kp) (by decide)) ?_
   rintro v w19 u19 ⟨du, rfl, dh, dl, rfl, hd⟩ lw19 mw19
   rw [iy]
   refine sQ 3 ?_
   refine sS (fun w20 sw20 vw20 => ?_)
   refine sZ 1 ?_
   refine Wp.seq ?_
   refine wR [0, 1, 2, 3, 4, 5, 6, 7, 8, 9, 10, 11, 12, 13, 14, 15, 16, 17, 18, 19, 20, 21, 22, 23, 24, 25, 26, 27, 28, 29, 30, 31, 32, 33, 34, 35, 36, 37] ?_
   refine sT (unanswers_any) ?_
   rintro v w21 rfl lw21
   refine sQ 3 ?_
   refine s_eqv (c := true) rfl rfl rfl rfl rfl (fun _ => by kernel_rfl) (fun w => by rw [run_eql_wide, eqW_same ha hc]) ?_
   refine sQ 3 ?_
   refine f_eql rfl rfl rfl rfl rfl (by omega) ?_
   refine sM ?_
   refine s_eqv (c := true) rfl rfl rfl rfl rfl (fun _ => by kernel_rfl) (fun w => by rw [run_eql_bool]; rfl) ?_
   refine sQ 5 ?_
   refine t_eql rfl rfl rfl rfl rfl (by omega) ?_
   refine sQ 5 ?_
   refine s_eqv (c := true) rfl rfl rfl rfl rfl (fun _ => by kernel_rfl) (fun w => by rw [run_eql_wide, eqW_same hb hd]) ?_
   refine sQ 3 ?_
   refine f_eql rfl rfl rfl rfl rfl (by omega) ?_
   refine sM ?_
   refine s_eqv (c := true) rfl rfl rfl rfl rfl (fun _ => by kernel_rfl) (fun w => by rw [run_eql_bool]; rfl) ?_
   refine sQ 5 ?_
   refine t_eql rfl rfl rfl rfl rfl (by omega) ?_
   refine sZ 3 ?_
   refine Wp.ret ⟨.inr rfl, fun lW => ⟨_, res_tmp (P := Tryz.prog) rfl rfl, _, rfl, ?_, lW⟩⟩
   clear lW
   rfl
  | true =>
   have ey : fitE Y = 0 := by unfold fitE; rw [iy]; rfl
   refine calls_Wp (args := [_]) (n := 77) Tryz.func7 rfl rfl (by simp) ?_
   refine Wp.seq ?_
   refine wR [0, 1] ?_
   refine sE (fun bk1 w1 kb1 lw1 => ?_)
   refine sZ 1 ?_
   refine qQ 1 ?_
   refine sT (unntp_any ⟨_, _, rfl, hz⟩) ?_
   rintro v w2 ⟨au, rfl, ah, al, rfl, ha⟩ lw2
   rw [hX] at ha ⊢
   rw [ex]
   refine sQ 3 ?_
   refine sO (fun bk3 w3 kb3 lw3 => ?_)
   refine sS (fun w4 sw4 vw4 => ?_)
   refine sZ 1 ?_
   refine qQ 1 ?_
   refine sT (unfrom_any ⟨_, _, rfl, hz⟩) ?_
   rintro v w5 ⟨bu, rfl, bh, bl, rfl, hb⟩ lw5
   rw [hY] at hb ⊢
   rw [ey]
   refine sQ 3 ?_
   refine sO (fun bk6 w6 kb6 lw6 => ?_)
   refine sS (fun w7 sw7 vw7 => ?_)
   refine sZ 1 ?_
   refine Wp.seq ?_
   refine wR [0, 1, 2, 3] ?_
   refine sB ?_
   refine sT (rjoin_any (d := 0) (s := 2208988800) (a := 0) ⟨by decide, by decide⟩ ⟨by decide, by decide⟩ ⟨by decide, by decide⟩ _) ?_
   rintro v w8 hj lw8
   obtain ⟨hja, hjl, hjc, rfl, -⟩ := id hj
   refine sO (fun bk9 w9 kb9 lw9 => ?_)
   refine sS (fun w10 sw10 vw10 => ?_)
   refine vOrd_nil ?_
   refine Wp.seq ?_
   refine wD [0, 2, 8, 1, 3, 4, 5, 6, 7, 9, 10] [260, 259, 255, 0, 0, 0, 0, 447, 895, 0, 0] (fun | 1 => IsBig 11 (z) | 3 => IsBig 18 (z + cnt 0 2208988800 0) | 4 => fun v _ => ∃ u, v = .tuple #[u, .bool (inW X)] ∧ IsW (fitV X) u | _ => fun _ _ => True) (fun wd ld => ?_)
   refine sQ 2 ?_
   refine sO (fun bk11 w11 kb11 lw11 => ?_)
   refine sD (fun wc lc => c_rof ⟨_, _, rfl, hz⟩ wc) ?_
   rintro v w12 u12 h1 lw12 mw12
   refine s_callD rfl rfl rfl (by kernel_rfl) rfl (fun wc lc => c_add (h1.kp) (hj.kp) (by decide) (by decide)) ?_
   rintro v w13 u13 h2 lw13 mw13
   rw [hX] at h2
   refine s_callD rfl rfl rfl (by kernel_rfl) rfl (fun wc lc => c_rwide (h2.kp) (by decide)) ?_
   rintro v w14 u14 ⟨cu, rfl, ch, cl, rfl, hc⟩ lw14 mw14
   rw [ix]
   refine sQ 3 ?_
   refine sS (fun w15 sw15 vw15 => ?_)
   refine sZ 1 ?_
   replace hj := hj.keeps (Keeps.trans (by repeat (first | exact Keeps.refl _ | refine Keeps.trans ?_ (Keeps.later (by assumption)) | refine Keeps.trans ?_ (Keeps.stored (by assumption) (by assumption) rfl) | refine Keeps.trans ?_ (Keeps.fresh (by assumption) (by assumption) (by assumption)))) (Keeps.fresh' sw15 kb11 (lw11.trans (lw12.trans (mw12.trans (lw13.trans (mw13.trans (lw14.trans mw14))))))))
   refine Wp.seq ?_
   refine wD [0, 2, 8, 1, 3, 4, 5, 6, 7, 9, 10] [260, 259, 255, 0, 0, 0, 0, 447, 895, 0, 0] (fun | 1 => IsBig 11 (z) | 3 => IsBig 18 (z - cnt 0 2208988800 0) | 4 => fun v _ => ∃ u, v = .tuple #[u, .bool (inW Y)] ∧ IsW (fitV Y) u | _ => fun _ _ => True) (fun _ _ => ?_)
   refine sQ 2 ?_
   refine sO (fun bk16 w16 kb16 lw16 => ?_)
   refine sD (fun wc lc => c_rof ⟨_, _, rfl, hz⟩ wc) ?_
   rintro v w17 u17 h3 lw17 mw17
   refine s_callD rfl rfl rfl (by kernel_rfl) rfl (fun wc lc => c_rsub (h3.kp) (hj.kp) (by decide) (by decide)) ?_
   rintro v w18 u18 h4 lw18 mw18
   rw [hY] at h4
   refine s_callD rfl rfl rfl (by kernel_rfl) rfl (fun wc lc => c_rwide (h4.kp) (by decide)) ?_
   rintro v w19 u19 ⟨du, rfl, dh, dl, rfl, hd⟩ lw19 mw19
   rw [iy]
   refine sQ 3 ?_
   refine sS (fun w20 sw20 vw20 => ?_)
   refine sZ 1 ?_
   refine Wp.seq ?_
   refine wR [0, 1, 2, 3, 4, 5, 6, 7, 8, 9, 10, 11, 12, 13, 14, 15, 16, 17, 18, 19, 20, 21, 22, 23, 24, 25, 26, 27, 28, 29, 30, 31, 32, 33, 34, 35, 36, 37] ?_
   refine sT (unanswers_any) ?_
   rintro v w21 rfl lw21
   refine sQ 3 ?_
   refine s_eqv (c := true) rfl rfl rfl rfl rfl (fun _ => by kernel_rfl) (fun w => by rw [run_eql_wide, eqW_same ha hc]) ?_
   refine sQ 3 ?_
   refine f_eql rfl rfl rfl rfl rfl (by omega) ?_
   refine sM ?_
   refine s_eqv (c := true) rfl rfl rfl rfl rfl (fun _ => by kernel_rfl) (fun w => by rw [run_eql_bool]; rfl) ?_
   refine sQ 5 ?_
   refine t_eql rfl rfl rfl rfl rfl (by omega) ?_
   refine sQ 5 ?_
   refine s_eqv (c := true) rfl rfl rfl rfl rfl (fun _ => by kernel_rfl) (fun w => by rw [run_eql_wide, eqW_same hb hd]) ?_
   refine sQ 3 ?_
   refine t_eql rfl rfl rfl rfl rfl (by omega) ?_
   refine sM ?_
   refine s_eqv (c := true) rfl rfl rfl rfl rfl (fun _ => by kernel_rfl) (fun w => by rw [run_eql_bool]; rfl) ?_
   refine sZ 9 ?_
   refine Wp.ret ⟨.inr rfl, fun lW => ⟨_, res_tmp (P := Tryz.prog) rfl rfl, _, rfl, ?_, lW⟩⟩
   clear lW
   rfl
 | true =>
  have ex : fitE X = 0 := by unfold fitE; rw [ix]; rfl
  cases iy : inW Y with
  | false =>
   have ey : fitE Y = 2 := by unfold fitE; rw [iy]; rfl
   refine calls_Wp (args := [_]) (n := 77) Tryz.func7 rfl rfl (by simp) ?_
   refine Wp.seq ?_
   refine wR [0, 1] ?_
   refine sE (fun bk1 w1 kb1 lw1 => ?_)
   refine sZ 1 ?_
   refine qQ 1 ?_
   refine sT (unntp_any ⟨_, _, rfl, hz⟩) ?_
   rintro v w2 ⟨au, rfl, ah, al, rfl, ha⟩ lw2
   rw [hX] at ha ⊢
   rw [ex]
   refine sQ 3 ?_
   refine sO (fun bk3 w3 kb3 lw3 => ?_)
   refine sS (fun w4 sw4 vw4 => ?_)
   refine sZ 1 ?_
   refine qQ 1 ?_
   refine sT (unfrom_any ⟨_, _, rfl, hz⟩) ?_
   rintro v w5 ⟨bu, rfl, bh, bl, rfl, hb⟩ lw5
   rw [hY] at hb ⊢
   rw [ey]
   refine sQ 3 ?_
   refine sO (fun bk6 w6 kb6 lw6 => ?_)
   refine sS (fun w7 sw7 vw7 => ?_)
   refine sZ 1 ?_
   refine Wp.seq ?_
   refine wR [0, 1, 2, 3] ?_
   refine sB ?_
   refine sT (rjoin_any (d := 0) (s := 2208988800) (a := 0) ⟨by decide, by decide⟩ ⟨by decide, by decide⟩ ⟨by decide, by decide⟩ _) ?_
   rintro v w8 hj lw8
   obtain ⟨hja, hjl, hjc, rfl, -⟩ := id hj
   refine sO (fun bk9 w9 kb9 lw9 => ?_)
   refine sS (fun w10 sw10 vw10 => ?_)
   refine vOrd_nil ?_
   refine Wp.seq ?_
   refine wD [0, 2, 8, 1, 3, 4, 5, 6, 7, 9, 10] [260, 259, 255, 0, 0, 0, 0, 447, 895, 0, 0] (fun | 1 => IsBig 11 (z) | 3 => IsBig 18 (z + cnt 0 2208988800 0) | 4 => fun v _ => ∃ u, v = .tuple #[u, .bool (inW X)] ∧ IsW (fitV X) u | _ => fun _ _ => True) (fun wd ld => ?_)
   refine sQ 2 ?_
   refine sO (fun bk11 w11 kb11 lw11 => ?_)
   refine sD (fun wc lc => c_rof ⟨_, _, rfl, hz⟩ wc) ?_
   rintro v w12 u12 h1 lw12 mw12
   refine s_callD rfl rfl rfl (by kernel_rfl) rfl (fun wc lc => c_add (h1.kp) (hj.kp) (by decide) (by decide)) ?_
   rintro v w13 u13 h2 lw13 mw13
   rw [hX] at h2
   refine s_callD rfl rfl rfl (by kernel_rfl) rfl (fun wc lc => c_rwide (h2.kp) (by decide)) ?_
   rintro v w14 u14 ⟨cu, rfl, ch, cl, rfl, hc⟩ lw14 mw14
   rw [ix]
   refine sQ 3 ?_
   refine sS (fun w15 sw15 vw15 => ?_)
   refine sZ 1 ?_
   replace hj := hj.keeps (Keeps.trans (by repeat (first | exact Keeps.refl _ | refine Keeps.trans ?_ (Keeps.later (by assumption)) | refine Keeps.trans ?_ (Keeps.stored (by assumption) (by assumption) rfl) | refine Keeps.trans ?_ (Keeps.fresh (by assumption) (by assumption) (by assumption)))) (Keeps.fresh' sw15 kb11 (lw11.trans (lw12.trans (mw12.trans (lw13.trans (mw13.trans (lw14.trans mw14))))))))
   refine Wp.seq ?_
   refine wD [0, 2, 8, 1, 3, 4, 5, 6, 7, 9, 10] [260, 259, 255, 0, 0, 0, 0, 447, 895, 0, 0] (fun | 1 => IsBig 11 (z) | 3 => IsBig 18 (z - cnt 0 2208988800 0) | 4 => fun v _ => ∃ u, v = .tuple #[u, .bool (inW Y)] ∧ IsW (fitV Y) u | _ => fun _ _ => True) (fun _ _ => ?_)
   refine sQ 2 ?_
   refine sO (fun bk16 w16 kb16 lw16 => ?_)
   refine sD (fun wc lc => c_rof ⟨_, _, rfl, hz⟩ wc) ?_
   rintro v w17 u17 h3 lw17 mw17
   refine s_callD rfl rfl rfl (by kernel_rfl) rfl (fun wc lc => c_rsub (h3.kp) (hj.kp) (by decide) (by decide)) ?_
   rintro v w18 u18 h4 lw18 mw18
   rw [hY] at h4
   refine s_callD rfl rfl rfl (by kernel_rfl) rfl (fun wc lc => c_rwide (h4.kp) (by decide)) ?_
   rintro v w19 u19 ⟨du, rfl, dh, dl, rfl, hd⟩ lw19 mw19
   rw [iy]
   refine sQ 3 ?_
   refine sS (fun w20 sw20 vw20 => ?_)
   refine sZ 1 ?_
   refine Wp.seq ?_
   refine wR [0, 1, 2, 3, 4, 5, 6, 7, 8, 9, 10, 11, 12, 13, 14, 15, 16, 17, 18, 19, 20, 21, 22, 23, 24, 25, 26, 27, 28, 29, 30, 31, 32, 33, 34, 35, 36, 37] ?_
   refine sT (unanswers_any) ?_
   rintro v w21 rfl lw21
   refine sQ 3 ?_
   refine s_eqv (c := true) rfl rfl rfl rfl rfl (fun _ => by kernel_rfl) (fun w => by rw [run_eql_wide, eqW_same ha hc]) ?_
   refine sQ 3 ?_
   refine t_eql rfl rfl rfl rfl rfl (by omega) ?_
   refine sM ?_
   refine s_eqv (c := true) rfl rfl rfl rfl rfl (fun _ => by kernel_rfl) (fun w => by rw [run_eql_bool]; rfl) ?_
   refine sQ 11 ?_
   refine s_eqv (c := true) rfl rfl rfl rfl rfl (fun _ => by kernel_rfl) (fun w => by rw [run_eql_wide, eqW_same hb hd]) ?_
   refine sQ 3 ?_
   refine f_eql rfl rfl rfl rfl rfl (by omega) ?_
   refine sM ?_
   refine s_eqv (c := true) rfl rfl rfl rfl rfl (fun _ => by kernel_rfl) (fun w => by rw [run_eql_bool]; rfl) ?_
   refine sQ 5 ?_
   refine t_eql rfl rfl rfl rfl rfl (by omega) ?_
   refine sZ 3 ?_
   refine Wp.ret ⟨.inr rfl, fun lW => ⟨_, res_tmp (P := Tryz.prog) rfl rfl, _, rfl, ?_, lW⟩⟩
   clear lW
   rfl
  | true =>
   have ey : fitE Y = 0 := by unfold fitE; rw [iy]; rfl
   refine calls_Wp (args := [_]) (n := 77) Tryz.func7 rfl rfl (by simp) ?_
   refine Wp.seq ?_
   refine wR [0, 1] ?_
   refine sE (fun bk1 w1 kb1 lw1 => ?_)
   refine sZ 1 ?_
   refine qQ 1 ?_
   refine sT (unntp_any ⟨_, _, rfl, hz⟩) ?_
   rintro v w2 ⟨au, rfl, ah, al, rfl, ha⟩ lw2
   rw [hX] at ha ⊢
   rw [ex]
   refine sQ 3 ?_
   refine sO (fun bk3 w3 kb3 lw3 => ?_)
   refine sS (fun w4 sw4 vw4 => ?_)
   refine sZ 1 ?_
   refine qQ 1 ?_
   refine sT (unfrom_any ⟨_, _, rfl, hz⟩) ?_
   rintro v w5 ⟨bu, rfl, bh, bl, rfl, hb⟩ lw5
   rw [hY] at hb ⊢
   rw [ey]
   refine sQ 3 ?_
   refine sO (fun bk6 w6 kb6 lw6 => ?_)
   refine sS (fun w7 sw7 vw7 => ?_)
   refine sZ 1 ?_
   refine Wp.seq ?_
   refine wR [0, 1, 2, 3] ?_
   refine sB ?_
   refine sT (rjoin_any (d := 0) (s := 2208988800) (a := 0) ⟨by decide, by decide⟩ ⟨by decide, by decide⟩ ⟨by decide, by decide⟩ _) ?_
   rintro v w8 hj lw8
   obtain ⟨hja, hjl, hjc, rfl, -⟩ := id hj
   refine sO (fun bk9 w9 kb9 lw9 => ?_)
   refine sS (fun w10 sw10 vw10 => ?_)
   refine vOrd_nil ?_
   refine Wp.seq ?_
   refine wD [0, 2, 8, 1, 3, 4, 5, 6, 7, 9, 10] [260, 259, 255, 0, 0, 0, 0, 447, 895, 0, 0] (fun | 1 => IsBig 11 (z) | 3 => IsBig 18 (z + cnt 0 2208988800 0) | 4 => fun v _ => ∃ u, v = .tuple #[u, .bool (inW X)] ∧ IsW (fitV X) u | _ => fun _ _ => True) (fun wd ld => ?_)
   refine sQ 2 ?_
   refine sO (fun bk11 w11 kb11 lw11 => ?_)
   refine sD (fun wc lc => c_rof ⟨_, _, rfl, hz⟩ wc) ?_
   rintro v w12 u12 h1 lw12 mw12
   refine s_callD rfl rfl rfl (by kernel_rfl) rfl (fun wc lc => c_add (h1.kp) (hj.kp) (by decide) (by decide)) ?_
   rintro v w13 u13 h2 lw13 mw13
   rw [hX] at h2
   refine s_callD rfl rfl rfl (by kernel_rfl) rfl (fun wc lc => c_rwide (h2.kp) (by decide)) ?_
   rintro v w14 u14 ⟨cu, rfl, ch, cl, rfl, hc⟩ lw14 mw14
   rw [ix]
   refine sQ 3 ?_
   refine sS (fun w15 sw15 vw15 => ?_)
   refine sZ 1 ?_
   replace hj := hj.keeps (Keeps.trans (by repeat (first | exact Keeps.refl _ | refine Keeps.trans ?_ (Keeps.later (by assumption)) | refine Keeps.trans ?_ (Keeps.stored (by assumption) (by assumption) rfl) | refine Keeps.trans ?_ (Keeps.fresh (by assumption) (by assumption) (by assumption)))) (Keeps.fresh' sw15 kb11 (lw11.trans (lw12.trans (mw12.trans (lw13.trans (mw13.trans (lw14.trans mw14))))))))
   refine Wp.seq ?_
   refine wD [0, 2, 8, 1, 3, 4, 5, 6, 7, 9, 10] [260, 259, 255, 0, 0, 0, 0, 447, 895, 0, 0] (fun | 1 => IsBig 11 (z) | 3 => IsBig 18 (z - cnt 0 2208988800 0) | 4 => fun v _ => ∃ u, v = .tuple #[u, .bool (inW Y)] ∧ IsW (fitV Y) u | _ => fun _ _ => True) (fun _ _ => ?_)
   refine sQ 2 ?_
   refine sO (fun bk16 w16 kb16 lw16 => ?_)
   refine sD (fun wc lc => c_rof ⟨_, _, rfl, hz⟩ wc) ?_
   rintro v w17 u17 h3 lw17 mw17
   refine s_callD rfl rfl rfl (by kernel_rfl) rfl (fun wc lc => c_rsub (h3.kp) (hj.kp) (by decide) (by decide)) ?_
   rintro v w18 u18 h4 lw18 mw18
   rw [hY] at h4
   refine s_callD rfl rfl rfl (by kernel_rfl) rfl (fun wc lc => c_rwide (h4.kp) (by decide)) ?_
   rintro v w19 u19 ⟨du, rfl, dh, dl, rfl, hd⟩ lw19 mw19
   rw [iy]
   refine sQ 3 ?_
   refine sS (fun w20 sw20 vw20 => ?_)
   refine sZ 1 ?_
   refine Wp.seq ?_
   refine wR [0, 1, 2, 3, 4, 5, 6, 7, 8, 9, 10, 11, 12, 13, 14, 15, 16, 17, 18, 19, 20, 21, 22, 23, 24, 25, 26, 27, 28, 29, 30, 31, 32, 33, 34, 35, 36, 37] ?_
   refine sT (unanswers_any) ?_
   rintro v w21 rfl lw21
   refine sQ 3 ?_
   refine s_eqv (c := true) rfl rfl rfl rfl rfl (fun _ => by kernel_rfl) (fun w => by rw [run_eql_wide, eqW_same ha hc]) ?_
   refine sQ 3 ?_
   refine t_eql rfl rfl rfl rfl rfl (by omega) ?_
   refine sM ?_
   refine s_eqv (c := true) rfl rfl rfl rfl rfl (fun _ => by kernel_rfl) (fun w => by rw [run_eql_bool]; rfl) ?_
   refine sQ 11 ?_
   refine s_eqv (c := true) rfl rfl rfl rfl rfl (fun _ => by kernel_rfl) (fun w => by rw [run_eql_wide, eqW_same hb hd]) ?_
   refine sQ 3 ?_
   refine t_eql rfl rfl rfl rfl rfl (by omega) ?_
   refine sM ?_
   refine s_eqv (c := true) rfl rfl rfl rfl rfl (fun _ => by kernel_rfl) (fun w => by rw [run_eql_bool]; rfl) ?_
   refine sZ 9 ?_
   refine Wp.ret ⟨.inr rfl, fun lW => ⟨_, res_tmp (P := Tryz.prog) rfl rfl, _, rfl, ?_, lW⟩⟩
   clear lW
   rfl

set_option maxHeartbeats 2000000 in
theorem law_unback (t : Tb) (hu : I64 t.u) (he : I64 t.e) {v : Value} {w : World} (hv : EntAt w v t.es) {d s a : Int} (hd : I64 d) (hs : I64 s) (ha : I64 a) : Calls Tryz.prog 5 #[tbV t v, .agg #[.int .i64 d, .int .i64 s, .int .i64 a]] w fun e w' => ∃ r, e = .returned r ∧ r = .bool true ∧ Below w.heap.size w w' := by
 obtain ⟨va, vc, rfl⟩ := hv.formL
 have lz := Later.refl w
 cases hb : canBe t with
 | false =>
  refine calls_Wp (args := [_, _]) (n := 63) Tryz.func5 rfl rfl (by simp) ?_
  refine Wp.seq ?_
  refine wR [0, 1, 2] ?_
  refine sE (fun bs2 ws2 ks2 ls2 => ?_)
  try have kz2 := Nat.le_trans lz.size ks2
  try have nL2 := hL.ne ks2
  try replace lz := lz.trans ls2
  try replace hL := hL.later ls2
  try replace hvl := hvl.later ls2
  refine sE (fun bs3 ws3 ks3 ls3 => ?_)
  try have kz3 := Nat.le_trans lz.size ks3
  try have nL3 := hL.ne ks3
  try replace lz := lz.trans ls3
  try replace hL := hL.later ls3
  try replace hvl := hvl.later ls3
  refine sZ 1 ?_
  refine Wp.seq ?_
  refine Wp.var (h := 2) rfl (fun v2 => ?_)
  have q2 := v2.lt
  refine Wp.var (h := 3) rfl (fun v3 => ?_)
  have q3 := v3.lt
  have hz1 := lz.size
  refine wQ 1 ?_
  refine sT (cnew_no t hb hu he (hv.later lz)) ?_
  rintro v w13 rfl lw13
  try replace lz := lz.trans lw13
  try replace hL := hL.later lw13
  try replace hvl := hvl.later lw13
  refine sZ 5 ?_
  refine Wp.seq ?_
  refine qQ 1 ?_
  refine t_neq rfl rfl rfl rfl rfl (by omega) ?_
  refine sZ 6 ?_
  refine Wp.condT rfl rfl ?_
  refine Wp.seq ?_
  refine wR [0, 1] ?_
  refine sT (unanswers_any) ?_
  rintro v w14 rfl lw14
  try replace lz := lz.trans lw14
  try replace hL := hL.later lw14
  try replace hvl := hvl.later lw14
  refine sZ 1 ?_
  refine Wp.ret ⟨.inr rfl, fun lW => ⟨_, res_tmp (P := Tryz.prog) rfl rfl, _, rfl, ?_, lW⟩⟩
  clear lW
  rfl
 | true =>
  have hpos := (can_num hb).2.2
  have hn := can_len hb
  obtain ⟨x0, hx0⟩ : ∃ x, t.es[0]? = some x := ⟨_, List.getElem?_eq_getElem hpos⟩
  obtain ⟨J, hJ⟩ := cutS_day pub_may15 d
  obtain ⟨K, hK⟩ := cut_day hb d
  obtain ⟨E, hE⟩ : ∃ E, ckE t true J K d s a = E := ⟨_, rfl⟩
  by_cases h0 : E = 0
  ·have hE0 := hE.trans h0
   obtain ⟨hU, hB, hor⟩ := ul_back hb hJ hK hE0
   have hU' := isU_iff.1 hU
   obtain ⟨e1, e2⟩ := un_ok hU hB
   rcases hor with hs8 | ⟨hs8, hB1⟩
   ·obtain ⟨p1, p2, p3⟩ := ul_plain (d := d) (isL_iff.2 ⟨hU'.1, hs8, hU'.2.2⟩)
    have q1 : ulQ t J K (cnt d s a - cnt 40587 0 0) = true := ulQ_iff.2 (by rw [p1, p2, p3]; exact hE0)
    obtain ⟨J', hJ'⟩ := cutS_day pub_may15 (d - 1)
    obtain ⟨K', hK'⟩ := cut_day hb (d - 1)
    cases hp : ulP t J' K' (cnt d s a - cnt 40587 0 0) with
    | false =>
     refine calls_Wp (args := [_, _]) (n := 63) Tryz.func5 rfl rfl (by simp) ?_
     refine Wp.seq ?_
     refine wR [0, 1, 2] ?_
     refine sE (fun bs2 ws2 ks2 ls2 => ?_)
     try have kz2 := Nat.le_trans lz.size ks2
     try have nL2 := hL.ne ks2
     try replace lz := lz.trans ls2
     try replace hL := hL.later ls2
     try replace hvl := hvl.later ls2
     refine sE (fun bs3 ws3 ks3 ls3 => ?_)
     try have kz3 := Nat.le_trans lz.size ks3
     try have nL3 := hL.ne ks3
     try replace lz := lz.trans ls3
     try replace hL := hL.later ls3
     try replace hvl := hvl.later ls3
     refine sZ 1 ?_
     refine Wp.seq ?_
     refine Wp.var (h := 2) rfl (fun v2 => ?_)
     have q2 := v2.lt
     refine Wp.var (h := 3) rfl (fun v3 => ?_)
     have q3 := v3.lt
     have hz1 := lz.size
     refine wQ 1 ?_
     refine sT (cnew_yes t hb hu he (hv.later lz)) ?_
     rintro v w13 ⟨h1, b1, c1, R1, hs1, k1, rfl, hh1, hb1, hk1, hL⟩ lw13
     try replace lz := lz.trans lw13
     try replace hL := hL.later lw13
     try replace hvl := hvl.later lw13
     refine sZ 5 ?_
     refine Wp.seq ?_
     refine Wp.seq ?_
     have hbz : w.heap.size ≤ b1 := by omega
     obtain ⟨cs1, hvb⟩ := hL.var
     refine Wp.adopt 1007 hvb hbz rfl (show AllMem (fun d => d ≠ b1) _ from (by repeat (first | exact AllMem.args | exact AllMem.of (by simp only [AllL, and_true]; omega) | refine AllMem.put ?_ | refine AllMem.new ?_ (by omega) | refine AllMem.set ?_ (by omega)))) ?_
     refine wQ 1 ?_
     refine f_neq rfl rfl rfl rfl rfl (by omega) ?_
     refine sQ 3 ?_
     refine s_callH 1007 rfl rfl rfl (by kernel_rfl) rfl rfl (fun vr => (cexists_any hb hL ⟨by omega, by omega⟩ hd hs ha hJ hK)) ?_
     rintro v cs14 w14 ⟨rfl, R14, k14, _, hk14, hLq⟩ gw14 vw14
     try replace lz := lz.past gw14 hbz
     clear hL
     have hL := hLq
     clear hLq
     rw [hE, decide_eq_true h0]
     refine sZ 2 ?_
     refine Wp.condF rfl rfl ?_
     refine Wp.skip ?_
     refine qQ 1 ?_
     refine sT (uncount_any hd hs ha) ?_
     rintro v w15 ⟨nu, rfl, nh, nl, rfl, hn⟩ lw15
     try replace lz := lz.trans lw15
     try replace hL := hL.later lw15
     try replace hvl := hvl.later lw15
     rw [e1]
     rw [e2] at hn
     refine sQ 3 ?_
     refine sO (fun bk16 w16 kb16 lw16 => ?_)
     try have kz7 := Nat.le_trans lz.size kb16
     try have nL7 := hL.ne kb16
     try replace lz := lz.trans lw16
     try replace hL := hL.later lw16
     try replace hvl := hvl.later lw16
     refine sS (fun w17 sw17 vw17 => ?_)
     try replace lz := lz.sto sw17 kz7
     try replace hL := hL.sto sw17 nL7
     refine sZ 1 ?_
     refine qQ 2 ?_
     refine s_callH 1007 rfl rfl rfl (by kernel_rfl) rfl rfl (fun vr => (unlabels_any hb hL ⟨by omega, by omega⟩ ⟨_, _, rfl, hn⟩ (by rw [p1]; exact hB) (by rw [p1]; exact hJ) (by rw [p1]; exact hK) (by rw [p1]; exact hJ') (by rw [p1]; exact hK') hp q1)) ?_
     rintro v cs18 w18 ⟨rfl, R18, k18, _, hk18, hLq⟩ gw18 vw18
     try replace lz := lz.past gw18 hbz
     clear hL
     have hL := hLq
     clear hLq
     rw [p1, p2, p3, ulV_ft]
     refine sQ 5 ?_
     refine sO (fun bk19 w19 kb19 lw19 => ?_)
     try have kz9 := Nat.le_trans lz.size kb19
     try have nL9 := hL.ne kb19
     try replace lz := lz.trans lw19
     try replace hL := hL.later lw19
     try replace hvl := hvl.later lw19
     refine sO (fun bk20 w20 kb20 lw20 => ?_)
     try have kz10 := Nat.le_trans lz.size kb20
     try have nL10 := hL.ne kb20
     try replace lz := lz.trans lw20
     try replace hL := hL.later lw20
     try replace hvl := hvl.later lw20
     refine sS (fun w21 sw21 vw21 => ?_)
     try replace lz := lz.sto sw21 kz9
     try replace hL := hL.sto sw21 nL9
     refine sS (fun w22 sw22 vw22 => ?_)
     try replace lz := lz.sto sw22 kz10
     try replace hL := hL.sto sw22 nL10
     refine sZ 2 ?_
     refine Wp.seq ?_
     refine wR [0, 1, 2, 3, 4, 5, 6, 7, 8, 9, 10, 11, 12, 13, 14, 15, 16, 17, 18, 19, 20, 21, 22, 23] ?_
     refine sT (unanswers_any) ?_
     rintro v w23 rfl lw23
     try replace lz := lz.trans lw23
     try replace hL := hL.later lw23
     try replace hvl := hvl.later lw23
     refine sQ 2 ?_
     refine t_eql rfl rfl rfl rfl rfl (by omega) ?_
     refine sQ 3 ?_
     refine t_eql rfl rfl rfl rfl rfl (by omega) ?_
     refine sQ 3 ?_
     refine t_gtr rfl rfl rfl rfl rfl (by decide) ?_
     refine sQ 4 ?_
     refine s_eqv (c := true) rfl rfl rfl rfl rfl (fun _ => by kernel_rfl) (fun w => by rw [run_eql_label, eqD_same]) ?_
     refine sZ 7 ?_
     refine Wp.ret ⟨.inr rfl, fun lW => ⟨_, res_tmp (P := Tryz.prog) rfl rfl, _, rfl, ?_, lW⟩⟩
     clear lW
     rfl
    | true =>
     refine calls_Wp (args := [_, _]) (n := 63) Tryz.func5 rfl rfl (by simp) ?_
     refine Wp.seq ?_
     refine wR [0, 1, 2] ?_
     refine sE (fun bs2 ws2 ks2 ls2 => ?_)
     try have kz2 := Nat.le_trans lz.size ks2
     try have nL2 := hL.ne ks2
     try replace lz := lz.trans ls2
     try replace hL := hL.later ls2
     try replace hvl := hvl.later ls2
     refine sE (fun bs3 ws3 ks3 ls3 => ?_)
     try have kz3 := Nat.le_trans lz.size ks3
     try have nL3 := hL.ne ks3
     try replace lz := lz.trans ls3
     try replace hL := hL.later ls3
     try replace hvl := hvl.later ls3
     refine sZ 1 ?_
     refine Wp.seq ?_
     refine Wp.var (h := 2) rfl (fun v2 => ?_)
     have q2 := v2.lt
     refine Wp.var (h := 3) rfl (fun v3 => ?_)
     have q3 := v3.lt
     have hz1 := lz.size
     refine wQ 1 ?_
     refine sT (cnew_yes t hb hu he (hv.later lz)) ?_
     rintro v w13 ⟨h1, b1, c1, R1, hs1, k1, rfl, hh1, hb1, hk1, hL⟩ lw13
     try replace lz := lz.trans lw13
     try replace hL := hL.later lw13
     try replace hvl := hvl.later lw13
     refine sZ 5 ?_
     refine Wp.seq ?_
     refine Wp.seq ?_
     have hbz : w.heap.size ≤ b1 := by omega
     obtain ⟨cs1, hvb⟩ := hL.var
     refine Wp.adopt 1007 hvb hbz rfl (show AllMem (fun d => d ≠ b1) _ from (by repeat (first | exact AllMem.args | exact AllMem.of (by simp only [AllL, and_true]; omega) | refine AllMem.put ?_ | refine AllMem.new ?_ (by omega) | refine AllMem.set ?_ (by omega)))) ?_
     refine wQ 1 ?_
     refine f_neq rfl rfl rfl rfl rfl (by omega) ?_
     refine sQ 3 ?_
     refine s_callH 1007 rfl rfl rfl (by kernel_rfl) rfl rfl (fun vr => (cexists_any hb hL ⟨by omega, by omega⟩ hd hs ha hJ hK)) ?_
     rintro v cs14 w14 ⟨rfl, R14, k14, _, hk14, hLq⟩ gw14 vw14
     try replace lz := lz.past gw14 hbz
     clear hL
     have hL := hLq
     clear hLq
     rw [hE, decide_eq_true h0]
     refine sZ 2 ?_
     refine Wp.condF rfl rfl ?_
     refine Wp.skip ?_
     refine qQ 1 ?_
     refine sT (uncount_any hd hs ha) ?_
     rintro v w15 ⟨nu, rfl, nh, nl, rfl, hn⟩ lw15
     try replace lz := lz.trans lw15
     try replace hL := hL.later lw15
     try replace hvl := hvl.later lw15
     rw [e1]
     rw [e2] at hn
     refine sQ 3 ?_
     refine sO (fun bk16 w16 kb16 lw16 => ?_)
     try have kz7 := Nat.le_trans lz.size kb16
     try have nL7 := hL.ne kb16
     try replace lz := lz.trans lw16
     try replace hL := hL.later lw16
     try replace hvl := hvl.later lw16
     refine sS (fun w17 sw17 vw17 => ?_)
     try replace lz := lz.sto sw17 kz7
     try replace hL := hL.sto sw17 nL7
     refine sZ 1 ?_
     refine qQ 2 ?_
     refine s_callH 1007 rfl rfl rfl (by kernel_rfl) rfl rfl (fun vr => (unlabels_any hb hL ⟨by omega, by omega⟩ ⟨_, _, rfl, hn⟩ (by rw [p1]; exact hB) (by rw [p1]; exact hJ) (by rw [p1]; exact hK) (by rw [p1]; exact hJ') (by rw [p1]; exact hK') hp q1)) ?_
     rintro v cs18 w18 ⟨rfl, R18, k18, _, hk18, hLq⟩ gw18 vw18
     try replace lz := lz.past gw18 hbz
     clear hL
     have hL := hLq
     clear hLq
     rw [p1, p2, p3, ulV_tt]
     refine sQ 5 ?_
     refine sO (fun bk19 w19 kb19 lw19 => ?_)
     try have kz9 := Nat.le_trans lz.size kb19
     try have nL9 := hL.ne kb19
     try replace lz := lz.trans lw19
     try replace hL := hL.later lw19
     try replace hvl := hvl.later lw19
     refine sO (fun bk20 w20 kb20 lw20 => ?_)
     try have kz10 := Nat.le_trans lz.size kb20
     try have nL10 := hL.ne kb20
     try replace lz := lz.trans lw20
     try replace hL := hL.later lw20
     try replace hvl := hvl.later lw20
     refine sS (fun w21 sw21 vw21 => ?_)
     try replace lz := lz.sto sw21 kz9
     try replace hL := hL.sto sw21 nL9
     refine sS (fun w22 sw22 vw22 => ?_)
     try replace lz := lz.sto sw22 kz10
     try replace hL := hL.sto sw22 nL10
     refine sZ 2 ?_
     refine Wp.seq ?_
     refine wR [0, 1, 2, 3, 4, 5, 6, 7, 8, 9, 10, 11, 12, 13, 14, 15, 16, 17, 18, 19, 20, 21, 22, 23] ?_
     refine sT (unanswers_any) ?_
     rintro v w23 rfl lw23
     try replace lz := lz.trans lw23
     try replace hL := hL.later lw23
     try replace hvl := hvl.later lw23
     refine sQ 2 ?_
     refine t_eql rfl rfl rfl rfl rfl (by omega) ?_
     refine sQ 3 ?_
     refine t_eql rfl rfl rfl rfl rfl (by omega) ?_
     refine sQ 3 ?_
     refine t_gtr rfl rfl rfl rfl rfl (by decide) ?_
     refine sQ 4 ?_
     refine s_eqv (c := false) rfl rfl rfl rfl rfl (fun _ => by kernel_rfl) (fun w => by rw [run_eql_label, show eqD (d - 1) 86400 a d s a = false by unfold eqD; simp; omega]) ?_
     refine sQ 3 ?_
     refine s_eqv (c := true) rfl rfl rfl rfl rfl (fun _ => by kernel_rfl) (fun w => by rw [run_eql_label, eqD_same]) ?_
     refine sZ 3 ?_
     refine Wp.ret ⟨.inr rfl, fun lW => ⟨_, res_tmp (P := Tryz.prog) rfl rfl, _, rfl, ?_, lW⟩⟩
     clear lW
     rfl
   ·obtain ⟨p1, p2, p3⟩ := ul_over (d := d) hU'.2.2
    rw [← hs8] at p1 p2 p3
    have q1 : ulP t J K (cnt d s a - cnt 40587 0 0) = true := ulP_iff.2 ⟨p2, by rw [p1, p3, show d + 1 - 1 = d by omega, ← hs8]; exact hE0⟩
    obtain ⟨J', hJ'⟩ := cutS_day pub_may15 (d + 1)
    obtain ⟨K', hK'⟩ := cut_day hb (d + 1)
    cases hq : ulQ t J' K' (cnt d s a - cnt 40587 0 0) with
    | false =>
     refine calls_Wp (args := [_, _]) (n := 63) Tryz.func5 rfl rfl (by simp) ?_
     refine Wp.seq ?_
     refine wR [0, 1, 2] ?_
     refine sE (fun bs2 ws2 ks2 ls2 => ?_)
     try have kz2 := Nat.le_trans lz.size ks2
     try have nL2 := hL.ne ks2
     try replace lz := lz.trans ls2
     try replace hL := hL.later ls2
     try replace hvl := hvl.later ls2
     refine sE (fun bs3 ws3 ks3 ls3 => ?_)
     try have kz3 := Nat.le_trans lz.size ks3
     try have nL3 := hL.ne ks3
     try replace lz := lz.trans ls3
     try replace hL := hL.later ls3
     try replace hvl := hvl.later ls3
     refine sZ 1 ?_
     refine Wp.seq ?_
     refine Wp.var (h := 2) rfl (fun v2 => ?_)
     have q2 := v2.lt
     refine Wp.var (h := 3) rfl (fun v3 => ?_)
     have q3 := v3.lt
     have hz1 := lz.size
     refine wQ 1 ?_
     refine sT (cnew_yes t hb hu he (hv.later lz)) ?_
     rintro v w13 ⟨h1, b1, c1, R1, hs1, k1, rfl, hh1, hb1, hk1, hL⟩ lw13
     try replace lz := lz.trans lw13
     try replace hL := hL.later lw13
     try replace hvl := hvl.later lw13
     refine sZ 5 ?_
     refine Wp.seq ?_
     refine Wp.seq ?_
     have hbz : w.heap.size ≤ b1 := by omega
     obtain ⟨cs1, hvb⟩ := hL.var
     refine Wp.adopt 1007 hvb hbz rfl (show AllMem (fun d => d ≠ b1) _ from (by repeat (first | exact AllMem.args | exact AllMem.of (by simp only [AllL, and_true]; omega) | refine AllMem.put ?_ | refine AllMem.new ?_ (by omega) | refine AllMem.set ?_ (by omega)))) ?_
     refine wQ 1 ?_
     refine f_neq rfl rfl rfl rfl rfl (by omega) ?_
     refine sQ 3 ?_
     refine s_callH 1007 rfl rfl rfl (by kernel_rfl) rfl rfl (fun vr => (cexists_any hb hL ⟨by omega, by omega⟩ hd hs ha hJ hK)) ?_
     rintro v cs14 w14 ⟨rfl, R14, k14, _, hk14, hLq⟩ gw14 vw14
     try replace lz := lz.past gw14 hbz
     clear hL
     have hL := hLq
     clear hLq
     rw [hE, decide_eq_true h0]
     refine sZ 2 ?_
     refine Wp.condF rfl rfl ?_
     refine Wp.skip ?_
     refine qQ 1 ?_
     refine sT (uncount_any hd hs ha) ?_
     rintro v w15 ⟨nu, rfl, nh, nl, rfl, hn⟩ lw15
     try replace lz := lz.trans lw15
     try replace hL := hL.later lw15
     try replace hvl := hvl.later lw15
     rw [e1]
     rw [e2] at hn
     refine sQ 3 ?_
     refine sO (fun bk16 w16 kb16 lw16 => ?_)
     try have kz7 := Nat.le_trans lz.size kb16
     try have nL7 := hL.ne kb16
     try replace lz := lz.trans lw16
     try replace hL := hL.later lw16
     try replace hvl := hvl.later lw16
     refine sS (fun w17 sw17 vw17 => ?_)
     try replace lz := lz.sto sw17 kz7
     try replace hL := hL.sto sw17 nL7
     refine sZ 1 ?_
     refine qQ 2 ?_
     refine s_callH 1007 rfl rfl rfl (by kernel_rfl) rfl rfl (fun vr => (unlabels_any hb hL ⟨by omega, by omega⟩ ⟨_, _, rfl, hn⟩ (by rw [p1]; exact hB1) (by rw [p1]; exact hJ') (by rw [p1]; exact hK') (by rw [p1, show d + 1 - 1 = d by omega]; exact hJ) (by rw [p1, show d + 1 - 1 = d by omega]; exact hK) q1 hq)) ?_
     rintro v cs18 w18 ⟨rfl, R18, k18, _, hk18, hLq⟩ gw18 vw18
     try replace lz := lz.past gw18 hbz
     clear hL
     have hL := hLq
     clear hLq
     rw [p1, p2, p3, ulV_tf, show d + 1 - 1 = d by omega, ← hs8]
     refine sQ 5 ?_
     refine sO (fun bk19 w19 kb19 lw19 => ?_)
     try have kz9 := Nat.le_trans lz.size kb19
     try have nL9 := hL.ne kb19
     try replace lz := lz.trans lw19
     try replace hL := hL.later lw19
     try replace hvl := hvl.later lw19
     refine sO (fun bk20 w20 kb20 lw20 => ?_)
     try have kz10 := Nat.le_trans lz.size kb20
     try have nL10 := hL.ne kb20
     try replace lz := lz.trans lw20
     try replace hL := hL.later lw20
     try replace hvl := hvl.later lw20
     refine sS (fun w21 sw21 vw21 => ?_)
     try replace lz := lz.sto sw21 kz9
     try replace hL := hL.sto sw21 nL9
     refine sS (fun w22 sw22 vw22 => ?_)
     try replace lz := lz.sto sw22 kz10
     try replace hL := hL.sto sw22 nL10
     refine sZ 2 ?_
     refine Wp.seq ?_
     refine wR [0, 1, 2, 3, 4, 5, 6, 7, 8, 9, 10, 11, 12, 13, 14, 15, 16, 17, 18, 19, 20, 21, 22, 23] ?_
     refine sT (unanswers_any) ?_
     rintro v w23 rfl lw23
     try replace lz := lz.trans lw23
     try replace hL := hL.later lw23
     try replace hvl := hvl.later lw23
     refine sQ 2 ?_
     refine t_eql rfl rfl rfl rfl rfl (by omega) ?_
     refine sQ 3 ?_
     refine t_eql rfl rfl rfl rfl rfl (by omega) ?_
     refine sQ 3 ?_
     refine t_gtr rfl rfl rfl rfl rfl (by decide) ?_
     refine sQ 4 ?_
     refine s_eqv (c := true) rfl rfl rfl rfl rfl (fun _ => by kernel_rfl) (fun w => by rw [run_eql_label, eqD_same]) ?_
     refine sZ 7 ?_
     refine Wp.ret ⟨.inr rfl, fun lW => ⟨_, res_tmp (P := Tryz.prog) rfl rfl, _, rfl, ?_, lW⟩⟩
     clear lW
     rfl
    | true =>
     refine calls_Wp (args := [_, _]) (n := 63) Tryz.func5 rfl rfl (by simp) ?_
     refine Wp.seq ?_
     refine wR [0, 1, 2] ?_
     refine sE (fun bs2 ws2 ks2 ls2 => ?_)
     try have kz2 := Nat.le_trans lz.size ks2
     try have nL2 := hL.ne ks2
     try replace lz := lz.trans ls2
     try replace hL := hL.later ls2
     try replace hvl := hvl.later ls2
     refine sE (fun bs3 ws3 ks3 ls3 => ?_)
     try have kz3 := Nat.le_trans lz.size ks3
     try have nL3 := hL.ne ks3
     try replace lz := lz.trans ls3
     try replace hL := hL.later ls3
     try replace hvl := hvl.later ls3
     refine sZ 1 ?_
     refine Wp.seq ?_
     refine Wp.var (h := 2) rfl (fun v2 => ?_)
     have q2 := v2.lt
     refine Wp.var (h := 3) rfl (fun v3 => ?_)
     have q3 := v3.lt
     have hz1 := lz.size
     refine wQ 1 ?_
     refine sT (cnew_yes t hb hu he (hv.later lz)) ?_
     rintro v w13 ⟨h1, b1, c1, R1, hs1, k1, rfl, hh1, hb1, hk1, hL⟩ lw13
     try replace lz := lz.trans lw13
     try replace hL := hL.later lw13
     try replace hvl := hvl.later lw13
     refine sZ 5 ?_
     refine Wp.seq ?_
     refine Wp.seq ?_
     have hbz : w.heap.size ≤ b1 := by omega
     obtain ⟨cs1, hvb⟩ := hL.var
     refine Wp.adopt 1007 hvb hbz rfl (show AllMem (fun d => d ≠ b1) _ from (by repeat (first | exact AllMem.args | exact AllMem.of (by simp only [AllL, and_true]; omega) | refine AllMem.put ?_ | refine AllMem.new ?_ (by omega) | refine AllMem.set ?_ (by omega)))) ?_
     refine wQ 1 ?_
     refine f_neq rfl rfl rfl rfl rfl (by omega) ?_
     refine sQ 3 ?_
     refine s_callH 1007 rfl rfl rfl (by kernel_rfl) rfl rfl (fun vr => (cexists_any hb hL ⟨by omega, by omega⟩ hd hs ha hJ hK)) ?_
     rintro v cs14 w14 ⟨rfl, R14, k14, _, hk14, hLq⟩ gw14 vw14
     try replace lz := lz.past gw14 hbz
     clear hL
     have hL := hLq
     clear hLq
     rw [hE, decide_eq_true h0]
     refine sZ 2 ?_
     refine Wp.condF rfl rfl ?_
     refine Wp.skip ?_
     refine qQ 1 ?_
     refine sT (uncount_any hd hs ha) ?_
     rintro v w15 ⟨nu, rfl, nh, nl, rfl, hn⟩ lw15
     try replace lz := lz.trans lw15
     try replace hL := hL.later lw15
     try replace hvl := hvl.later lw15
     rw [e1]
     rw [e2] at hn
     refine sQ 3 ?_
     refine sO (fun bk16 w16 kb16 lw16 => ?_)
     try have kz7 := Nat.le_trans lz.size kb16
     try have nL7 := hL.ne kb16
     try replace lz := lz.trans lw16
     try replace hL := hL.later lw16
     try replace hvl := hvl.later lw16
     refine sS (fun w17 sw17 vw17 => ?_)
     try replace lz := lz.sto sw17 kz7
     try replace hL := hL.sto sw17 nL7
     refine sZ 1 ?_
     refine qQ 2 ?_
     refine s_callH 1007 rfl rfl rfl (by kernel_rfl) rfl rfl (fun vr => (unlabels_any hb hL ⟨by omega, by omega⟩ ⟨_, _, rfl, hn⟩ (by rw [p1]; exact hB1) (by rw [p1]; exact hJ') (by rw [p1]; exact hK') (by rw [p1, show d + 1 - 1 = d by omega]; exact hJ) (by rw [p1, show d + 1 - 1 = d by omega]; exact hK) q1 hq)) ?_
     rintro v cs18 w18 ⟨rfl, R18, k18, _, hk18, hLq⟩ gw18 vw18
     try replace lz := lz.past gw18 hbz
     clear hL
     have hL := hLq
     clear hLq
     rw [p1, p2, p3, ulV_tt, show d + 1 - 1 = d by omega, ← hs8]
     refine sQ 5 ?_
     refine sO (fun bk19 w19 kb19 lw19 => ?_)
     try have kz9 := Nat.le_trans lz.size kb19
     try have nL9 := hL.ne kb19
     try replace lz := lz.trans lw19
     try replace hL := hL.later lw19
     try replace hvl := hvl.later lw19
     refine sO (fun bk20 w20 kb20 lw20 => ?_)
     try have kz10 := Nat.le_trans lz.size kb20
     try have nL10 := hL.ne kb20
     try replace lz := lz.trans lw20
     try replace hL := hL.later lw20
     try replace hvl := hvl.later lw20
     refine sS (fun w21 sw21 vw21 => ?_)
     try replace lz := lz.sto sw21 kz9
     try replace hL := hL.sto sw21 nL9
     refine sS (fun w22 sw22 vw22 => ?_)
     try replace lz := lz.sto sw22 kz10
     try replace hL := hL.sto sw22 nL10
     refine sZ 2 ?_
     refine Wp.seq ?_
     refine wR [0, 1, 2, 3, 4, 5, 6, 7, 8, 9, 10, 11, 12, 13, 14, 15, 16, 17, 18, 19, 20, 21, 22, 23] ?_
     refine sT (unanswers_any) ?_
     rintro v w23 rfl lw23
     try replace lz := lz.trans lw23
     try replace hL := hL.later lw23
     try replace hvl := hvl.later lw23
     refine sQ 2 ?_
     refine t_eql rfl rfl rfl rfl rfl (by omega) ?_
     refine sQ 3 ?_
     refine t_eql rfl rfl rfl rfl rfl (by omega) ?_
     refine sQ 3 ?_
     refine t_gtr rfl rfl rfl rfl rfl (by decide) ?_
     refine sQ 4 ?_
     refine s_eqv (c := true) rfl rfl rfl rfl rfl (fun _ => by kernel_rfl) (fun w => by rw [run_eql_label, eqD_same]) ?_
     refine sZ 7 ?_
     refine Wp.ret ⟨.inr rfl, fun lW => ⟨_, res_tmp (P := Tryz.prog) rfl rfl, _, rfl, ?_, lW⟩⟩
     clear lW
     rfl
  ·refine calls_Wp (args := [_, _]) (n := 63) Tryz.func5 rfl rfl (by simp) ?_
   refine Wp.seq ?_
   refine wR [0, 1, 2] ?_
   refine sE (fun bs2 ws2 ks2 ls2 => ?_)
   try have kz2 := Nat.le_trans lz.size ks2
   try have nL2 := hL.ne ks2
   try replace lz := lz.trans ls2
   try replace hL := hL.later ls2
   try replace hvl := hvl.later ls2
   refine sE (fun bs3 ws3 ks3 ls3 => ?_)
   try have kz3 := Nat.le_trans lz.size ks3
   try have nL3 := hL.ne ks3
   try replace lz := lz.trans ls3
   try replace hL := hL.later ls3
   try replace hvl := hvl.later ls3
   refine sZ 1 ?_
   refine Wp.seq ?_
   refine Wp.var (h := 2) rfl (fun v2 => ?_)
   have q2 := v2.lt
   refine Wp.var (h := 3) rfl (fun v3 => ?_)
   have q3 := v3.lt
   have hz1 := lz.size
   refine wQ 1 ?_
   refine sT (cnew_yes t hb hu he (hv.later lz)) ?_
   rintro v w13 ⟨h1, b1, c1, R1, hs1, k1, rfl, hh1, hb1, hk1, hL⟩ lw13
   try replace lz := lz.trans lw13
   try replace hL := hL.later lw13
   try replace hvl := hvl.later lw13
   refine sZ 5 ?_
   refine Wp.seq ?_
   refine Wp.seq ?_
   have hbz : w.heap.size ≤ b1 := by omega
   obtain ⟨cs1, hvb⟩ := hL.var
   refine Wp.adopt 1007 hvb hbz rfl (show AllMem (fun d => d ≠ b1) _ from (by repeat (first | exact AllMem.args | exact AllMem.of (by simp only [AllL, and_true]; omega) | refine AllMem.put ?_ | refine AllMem.new ?_ (by omega) | refine AllMem.set ?_ (by omega)))) ?_
   refine wQ 1 ?_
   refine f_neq rfl rfl rfl rfl rfl (by omega) ?_
   refine sQ 3 ?_
   refine s_callH 1007 rfl rfl rfl (by kernel_rfl) rfl rfl (fun vr => (cexists_any hb hL ⟨by omega, by omega⟩ hd hs ha hJ hK)) ?_
   rintro v cs14 w14 ⟨rfl, R14, k14, _, hk14, hLq⟩ gw14 vw14
   try replace lz := lz.past gw14 hbz
   clear hL
   have hL := hLq
   clear hLq
   rw [hE, decide_eq_false h0]
   refine sZ 2 ?_
   refine Wp.condT rfl rfl ?_
   refine Wp.seq ?_
   refine wR [0, 1] ?_
   refine sT (unanswers_any) ?_
   rintro v w15 rfl lw15
   try replace lz := lz.trans lw15
   try replace hL := hL.later lw15
   try replace hvl := hvl.later lw15
   refine sZ 1 ?_
   refine Wp.ret ⟨.inr rfl, fun lW => ⟨_, res_tmp (P := Tryz.prog) rfl rfl, _, rfl, ?_, lW⟩⟩
   clear lW
   rfl

end Go.Proofs.YthihioakjpmnbaaGreat
