/-
  Leap seconds: the walk of the law LeapsNews of layer 12.
-/
import Derived.Test.YtgpnapeobkiekaaLpL
namespace Go.Proofs.Ytgpnapeobkiekaa
open Go.RowKit
set_option maxRecDepth 100000

set_option maxHeartbeats 2000000 in
theorem law_news (t : Tb) (hu : I64 t.u) (he : I64 t.e) {v : Value} {w : World} (hv : EntAt w v t.es)  : Calls Try.prog 3 #[tbV t v] w fun e w' => ∃ r, e = .returned r ∧ r = .bool true ∧ Below w.heap.size w w' := by
  obtain ⟨va, vc, rfl⟩ := hv.formL
  have lz := Later.refl w
  cases hb : canBe t with
  | false =>
    refine calls_Wp (args := [_]) (n := 58) Try.func3 rfl rfl (by simp) ?_
    refine Wp.seq ?_
    refine Wp.region [0, 1] (by kernel_rfl) (by kernel_rfl) ?_
    refine s_box rfl rfl rfl rfl rfl rfl (fun bs1 ws1 ks1 ls1 => ?_)
    have kz1 := Nat.le_trans lz.size ks1
    try have nL1 := hL.ne ks1
    replace lz := lz.trans ls1
    try replace hL := hL.later ls1
    refine s_assign rfl rfl rfl rfl ?_
    refine vOrd_nil ?_
    refine Wp.seq ?_
    refine Wp.var (h := 1) rfl (fun v1 => ?_)
    have q1 := v1.lt
    have hz1 := lz.size
    refine Wp.region [0, 1, 2, 3, 4, 5, 6] (by kernel_rfl) (by kernel_rfl) ?_
    refine s_load rfl rfl rfl rfl rfl rfl rfl ?_
    refine s_callT rfl rfl rfl (by kernel_rfl) rfl (new_no t hb hu he (hv.later lz)) ?_
    rintro v w6 rfl lw6
    replace lz := lz.trans lw6
    try replace hL := hL.later lw6
    refine s_move rfl rfl rfl rfl ?_
    refine s_extract rfl rfl rfl rfl rfl ?_
    refine s_extract rfl rfl rfl rfl rfl ?_
    refine s_assign rfl rfl rfl rfl ?_
    refine s_assign rfl rfl rfl rfl ?_
    refine vOrd_nil ?_
    refine Wp.seq ?_
    refine Wp.seq ?_
    refine Wp.region [0, 1, 2, 3, 4, 5, 6] (by kernel_rfl) (by kernel_rfl) ?_
    refine s_load rfl rfl rfl rfl rfl rfl rfl ?_
    refine s_callT rfl rfl rfl (by kernel_rfl) rfl (rtable_no hb hu he (hv.later lz)) ?_
    rintro v w7 rfl lw7
    replace lz := lz.trans lw7
    try replace hL := hL.later lw7
    refine s_move rfl rfl rfl rfl ?_
    refine s_extract rfl rfl rfl rfl rfl ?_
    refine s_extract rfl rfl rfl rfl rfl ?_
    refine s_assign rfl rfl rfl rfl ?_
    refine s_assign rfl rfl rfl rfl ?_
    refine vOrd_nil ?_
    refine Wp.seq ?_
    refine Wp.region [0, 1] (by kernel_rfl) (by kernel_rfl) ?_
    refine s_move rfl rfl rfl rfl ?_
    refine s_not rfl rfl rfl rfl ?_
    refine vOrd_nil ?_
    refine Wp.condT rfl rfl ?_
    refine Wp.seq ?_
    refine Wp.region [0, 1, 2, 3, 4, 5, 6, 7, 8, 9] (by kernel_rfl) (by kernel_rfl) ?_
    refine s_callT rfl rfl rfl (by kernel_rfl) rfl (lpanswers_any) ?_
    rintro v w8 rfl lw8
    replace lz := lz.trans lw8
    try replace hL := hL.later lw8
    refine s_move rfl rfl rfl rfl ?_
    refine s_move rfl rfl rfl rfl ?_
    refine s_nilEq none rfl rfl rfl rfl rfl ?_
    refine s_pick rfl rfl rfl rfl rfl ?_
    refine s_move rfl rfl rfl rfl ?_
    refine s_move rfl rfl rfl rfl ?_
    refine t_eql rfl rfl rfl rfl rfl (by omega) ?_
    refine s_pick rfl rfl rfl rfl rfl ?_
    refine s_assign rfl rfl rfl rfl ?_
    refine vOrd_nil ?_
    refine Wp.ret ⟨.inr rfl, fun lW => ⟨_, res_tmp (P := Try.prog) rfl rfl, _, rfl, ?_, lW⟩⟩
    clear lW
    rfl
  | true =>
    have hpos := (can_num hb).2.2
    have hn := can_len hb
    obtain ⟨x, hx⟩ : ∃ x, t.es[0]? = some x := ⟨t.es[0], List.getElem?_eq_getElem hpos⟩
    have hxi := can_in hb hx
    obtain ⟨ab, ao, rfl, hcell⟩ := ent_at hv hpos
    obtain ⟨k1, k2⟩ := hcell 0 x hx
    refine calls_Wp (args := [_]) (n := 58) Try.func3 rfl rfl (by simp) ?_
    refine Wp.seq ?_
    refine Wp.region [0, 1] (by kernel_rfl) (by kernel_rfl) ?_
    refine s_box rfl rfl rfl rfl rfl rfl (fun bs1 ws1 ks1 ls1 => ?_)
    have kz1 := Nat.le_trans lz.size ks1
    try have nL1 := hL.ne ks1
    replace lz := lz.trans ls1
    try replace hL := hL.later ls1
    refine s_assign rfl rfl rfl rfl ?_
    refine vOrd_nil ?_
    refine Wp.seq ?_
    refine Wp.var (h := 1) rfl (fun v1 => ?_)
    have q1 := v1.lt
    have hz1 := lz.size
    refine Wp.region [0, 1, 2, 3, 4, 5, 6] (by kernel_rfl) (by kernel_rfl) ?_
    refine s_load rfl rfl rfl rfl rfl rfl rfl ?_
    refine s_callT rfl rfl rfl (by kernel_rfl) rfl (new_yes t hb hu he (hv.later lz)) ?_
    rintro v w6 ⟨b1, c1, rfl, hc1, hb1, hL⟩ lw6
    replace lz := lz.trans lw6
    try replace hL := hL.later lw6
    refine s_move rfl rfl rfl rfl ?_
    refine s_extract rfl rfl rfl rfl rfl ?_
    refine s_extract rfl rfl rfl rfl rfl ?_
    refine s_assign rfl rfl rfl rfl ?_
    refine s_assign rfl rfl rfl rfl ?_
    refine vOrd_nil ?_
    refine Wp.seq ?_
    refine Wp.seq ?_
    refine Wp.region [0, 1, 2, 3, 4, 5, 6] (by kernel_rfl) (by kernel_rfl) ?_
    refine s_load rfl rfl rfl rfl rfl rfl rfl ?_
    refine s_callT rfl rfl rfl (by kernel_rfl) rfl (rtable_yes hb hu he (hv.later lz)) ?_
    rintro v w7 rfl lw7
    replace lz := lz.trans lw7
    try replace hL := hL.later lw7
    refine s_move rfl rfl rfl rfl ?_
    refine s_extract rfl rfl rfl rfl rfl ?_
    refine s_extract rfl rfl rfl rfl rfl ?_
    refine s_assign rfl rfl rfl rfl ?_
    refine s_assign rfl rfl rfl rfl ?_
    refine vOrd_nil ?_
    refine Wp.seq ?_
    refine Wp.region [0, 1] (by kernel_rfl) (by kernel_rfl) ?_
    refine s_move rfl rfl rfl rfl ?_
    refine s_not rfl rfl rfl rfl ?_
    refine vOrd_nil ?_
    refine Wp.condF rfl rfl ?_
    refine Wp.skip ?_
    refine Wp.seq ?_
    have hbz : w.heap.size ≤ b1 := by omega
    obtain ⟨cs1, hvb⟩ := hL.var
    refine Wp.adopt 1007 hvb hbz rfl (show AllMem (fun d => d ≠ b1) _ from (by repeat (first | exact AllMem.args | exact AllMem.of (by simp only [AllL, and_true]; omega) | refine AllMem.put ?_ | refine AllMem.new ?_ (by omega) | refine AllMem.set ?_ (by omega)))) ?_
    refine Wp.drawnX (by kernel_rfl) (by kernel_rfl) (by kernel_rfl) [] 31 #[false, false, false, false, false, false, false, false, false, false, false, false, false, false, false, false, false, false, false, false, false, false, false, false, false, false, false, false, false, false, false] rfl (by kernel_rfl) (by kernel_rfl) (fun wd ld => ?_)
    replace lz := lz.trans ld
    try replace hL := hL.later ld
    refine vOrd_nil ?_
    refine vTree_one (i := 0) (L := #[true, false, false, false, false, false, false, false, false, false, false, false, false, false, false, false, false, false, false, false, false, false, false, false, false, false, false, false, false, false, false]) (by kernel_rfl) (by kernel_rfl) ?_
    refine s_callT rfl rfl rfl (by kernel_rfl) rfl (lpanswers_any) ?_
    rintro v w8 rfl lw8
    replace lz := lz.trans lw8
    try replace hL := hL.later lw8
    refine vOrd_nil ?_
    refine vTree_one (i := 1) (L := #[true, true, false, false, false, false, false, false, false, false, false, false, false, false, false, false, false, false, false, false, false, false, false, false, false, false, false, false, false, false, false]) (by kernel_rfl) (by kernel_rfl) ?_
    refine s_move rfl rfl rfl rfl ?_
    refine vOrd_nil ?_
    refine vTree_one (i := 2) (L := #[true, true, true, false, false, false, false, false, false, false, false, false, false, false, false, false, false, false, false, false, false, false, false, false, false, false, false, false, false, false, false]) (by kernel_rfl) (by kernel_rfl) ?_
    refine s_move rfl rfl rfl rfl ?_
    refine vOrd_nil ?_
    refine vTree_one (i := 3) (L := #[true, true, true, true, false, false, false, false, false, false, false, false, false, false, false, false, false, false, false, false, false, false, false, false, false, false, false, false, false, false, false]) (by kernel_rfl) (by kernel_rfl) ?_
    refine t_eql rfl rfl rfl rfl rfl (by omega) ?_
    refine vOrd_nil ?_
    refine vTree_one (i := 4) (L := #[true, true, true, true, true, false, false, false, false, false, false, false, false, false, false, false, false, false, false, false, false, false, false, false, false, false, false, false, false, false, false]) (by kernel_rfl) (by kernel_rfl) ?_
    refine s_pick rfl rfl rfl rfl rfl ?_
    refine vOrd_nil ?_
    refine vTree_one (i := 5) (L := #[true, true, true, true, true, true, false, false, false, false, false, false, false, false, false, false, false, false, false, false, false, false, false, false, false, false, false, false, false, false, false]) (by kernel_rfl) (by kernel_rfl) ?_
    refine s_move rfl rfl rfl rfl ?_
    refine vOrd_nil ?_
    refine vTree_one (i := 6) (L := #[true, true, true, true, true, true, true, false, false, false, false, false, false, false, false, false, false, false, false, false, false, false, false, false, false, false, false, false, false, false, false]) (by kernel_rfl) (by kernel_rfl) ?_
    refine s_move rfl rfl rfl rfl ?_
    refine vOrd_nil ?_
    refine vTree_one (i := 7) (L := #[true, true, true, true, true, true, true, true, false, false, false, false, false, false, false, false, false, false, false, false, false, false, false, false, false, false, false, false, false, false, false]) (by kernel_rfl) (by kernel_rfl) ?_
    refine s_nilNe (some ⟨b1, 0, none⟩) rfl rfl rfl rfl rfl ?_
    refine vOrd_nil ?_
    refine vTree_one (i := 8) (L := #[true, true, true, true, true, true, true, true, true, false, false, false, false, false, false, false, false, false, false, false, false, false, false, false, false, false, false, false, false, false, false]) (by kernel_rfl) (by kernel_rfl) ?_
    refine s_pick rfl rfl rfl rfl rfl ?_
    refine vOrd_nil ?_
    refine vTree_one (i := 9) (L := #[true, true, true, true, true, true, true, true, true, true, false, false, false, false, false, false, false, false, false, false, false, false, false, false, false, false, false, false, false, false, false]) (by kernel_rfl) (by kernel_rfl) ?_
    refine s_move rfl rfl rfl rfl ?_
    refine vOrd_nil ?_
    refine vTree_two (i := 10) (k := 12) (L1 := #[true, true, true, true, true, true, true, true, true, true, true, false, false, false, false, false, false, false, false, false, false, false, false, false, false, false, false, false, false, false, false]) (L2 := #[true, true, true, true, true, true, true, true, true, true, false, false, true, false, false, false, false, false, false, false, false, false, false, false, false, false, false, false, false, false, false]) (by kernel_rfl) (by kernel_rfl) (by kernel_rfl) ?_ ?_
    · refine s_move rfl rfl rfl rfl ?_
      refine vOrd_nil ?_
      refine vTree_two (i := 11) (k := 12) (L1 := #[true, true, true, true, true, true, true, true, true, true, true, true, false, false, false, false, false, false, false, false, false, false, false, false, false, false, false, false, false, false, false]) (L2 := #[true, true, true, true, true, true, true, true, true, true, true, false, true, false, false, false, false, false, false, false, false, false, false, false, false, false, false, false, false, false, false]) (by kernel_rfl) (by kernel_rfl) (by kernel_rfl) ?_ ?_
      · refine s_callT rfl rfl rfl (by kernel_rfl) rfl (table_any hb hL) ?_
        rintro v w10 ⟨q1, rfl, _, hq⟩ lw10
        replace lz := lz.trans lw10
        try replace hL := hL.later lw10
        refine vOrd_nil ?_
        refine vTree_one (i := 12) (L := #[true, true, true, true, true, true, true, true, true, true, true, true, true, false, false, false, false, false, false, false, false, false, false, false, false, false, false, false, false, false, false]) (by kernel_rfl) (by kernel_rfl) ?_
        refine s_load rfl rfl rfl rfl rfl rfl rfl ?_
        refine vOrd_nil ?_
        refine vTree_one (i := 13) (L := #[true, true, true, true, true, true, true, true, true, true, true, true, true, true, false, false, false, false, false, false, false, false, false, false, false, false, false, false, false, false, false]) (by kernel_rfl) (by kernel_rfl) ?_
        refine s_callT rfl rfl rfl (by kernel_rfl) rfl (tsame_any t hu he (ents_var (by first | exact hq | exact hq.later (by assumption)) (fun j => can_all hb (j := j))) (hv.later lz) (by omega)) ?_
        rintro v w11 rfl lw11
        replace lz := lz.trans lw11
        try replace hL := hL.later lw11
        refine vOrd_nil ?_
        refine vTree_one (i := 14) (L := #[true, true, true, true, true, true, true, true, true, true, true, true, true, true, true, false, false, false, false, false, false, false, false, false, false, false, false, false, false, false, false]) (by kernel_rfl) (by kernel_rfl) ?_
        refine s_pick rfl rfl rfl rfl rfl ?_
        refine vOrd_nil ?_
        refine vTree_one (i := 15) (L := #[true, true, true, true, true, true, true, true, true, true, true, true, true, true, true, true, false, false, false, false, false, false, false, false, false, false, false, false, false, false, false]) (by kernel_rfl) (by kernel_rfl) ?_
        refine s_move rfl rfl rfl rfl ?_
        refine vOrd_nil ?_
        refine vTree_two (i := 16) (k := 18) (L1 := #[true, true, true, true, true, true, true, true, true, true, true, true, true, true, true, true, true, false, false, false, false, false, false, false, false, false, false, false, false, false, false]) (L2 := #[true, true, true, true, true, true, true, true, true, true, true, true, true, true, true, true, false, false, true, false, false, false, false, false, false, false, false, false, false, false, false]) (by kernel_rfl) (by kernel_rfl) (by kernel_rfl) ?_ ?_
        · refine s_move rfl rfl rfl rfl ?_
          refine vOrd_nil ?_
          refine vTree_two (i := 17) (k := 18) (L1 := #[true, true, true, true, true, true, true, true, true, true, true, true, true, true, true, true, true, true, false, false, false, false, false, false, false, false, false, false, false, false, false]) (L2 := #[true, true, true, true, true, true, true, true, true, true, true, true, true, true, true, true, true, false, true, false, false, false, false, false, false, false, false, false, false, false, false]) (by kernel_rfl) (by kernel_rfl) (by kernel_rfl) ?_ ?_
          · refine s_callH 1007 rfl rfl rfl (by kernel_rfl) rfl rfl (fun vr => (first_any hb hL)) ?_
            rintro v cs12 w12 ⟨rfl, R12, _, hLq⟩ gw12 vw12
            replace lz := lz.past gw12 hbz
            clear hL
            have hL := hLq
            clear hLq
            refine vOrd_nil ?_
            refine vTree_one (i := 18) (L := #[true, true, true, true, true, true, true, true, true, true, true, true, true, true, true, true, true, true, true, false, false, false, false, false, false, false, false, false, false, false, false]) (by kernel_rfl) (by kernel_rfl) ?_
            refine s_field 2 rfl rfl rfl rfl rfl ?_
            refine vOrd_nil ?_
            refine vTree_one (i := 19) (L := #[true, true, true, true, true, true, true, true, true, true, true, true, true, true, true, true, true, true, true, true, false, false, false, false, false, false, false, false, false, false, false]) (by kernel_rfl) (by kernel_rfl) ?_
            refine s_load rfl rfl rfl rfl rfl rfl rfl ?_
            refine vOrd_nil ?_
            refine vTree_one (i := 20) (L := #[true, true, true, true, true, true, true, true, true, true, true, true, true, true, true, true, true, true, true, true, true, false, false, false, false, false, false, false, false, false, false]) (by kernel_rfl) (by kernel_rfl) ?_
            refine s_idx (sz := 2) (ao + 0 * 2) rfl rfl rfl rfl rfl rfl rfl (by omega) (by omega) (by omega) ?_
            refine vOrd_nil ?_
            refine vTree_one (i := 21) (L := #[true, true, true, true, true, true, true, true, true, true, true, true, true, true, true, true, true, true, true, true, true, true, false, false, false, false, false, false, false, false, false]) (by kernel_rfl) (by kernel_rfl) ?_
            refine x_ldA [.int .i64 x.1, .int .i64 x.2] rfl rfl rfl rfl rfl rfl (World.block_lt_of_cell? _ _ (cell_later lz k1)) (fun j u hj => ?_) ?_
            · match j, hj with
              | 0, hj => cases hj; exact cell_later lz k1
              | 1, hj => cases hj; exact cell_later lz k2
            refine vOrd_nil ?_
            refine vTree_one (i := 22) (L := #[true, true, true, true, true, true, true, true, true, true, true, true, true, true, true, true, true, true, true, true, true, true, true, false, false, false, false, false, false, false, false]) (by kernel_rfl) (by kernel_rfl) ?_
            refine s_callT rfl rfl rfl (by kernel_rfl) rfl (rday_any x hxi.1) ?_
            rintro v w18 rfl lw18
            replace lz := lz.trans lw18
            try replace hL := hL.later lw18
            refine vOrd_nil ?_
            refine vTree_one (i := 23) (L := #[true, true, true, true, true, true, true, true, true, true, true, true, true, true, true, true, true, true, true, true, true, true, true, true, false, false, false, false, false, false, false]) (by kernel_rfl) (by kernel_rfl) ?_
            refine t_eql rfl rfl rfl rfl rfl (by exact (A_at hx).1) ?_
            refine vOrd_nil ?_
            refine vTree_one (i := 24) (L := #[true, true, true, true, true, true, true, true, true, true, true, true, true, true, true, true, true, true, true, true, true, true, true, true, true, false, false, false, false, false, false]) (by kernel_rfl) (by kernel_rfl) ?_
            refine s_pick rfl rfl rfl rfl rfl ?_
            refine vOrd_nil ?_
            refine vTree_one (i := 25) (L := #[true, true, true, true, true, true, true, true, true, true, true, true, true, true, true, true, true, true, true, true, true, true, true, true, true, true, false, false, false, false, false]) (by kernel_rfl) (by kernel_rfl) ?_
            refine s_move rfl rfl rfl rfl ?_
            refine vOrd_nil ?_
            refine vTree_one (i := 26) (L := #[true, true, true, true, true, true, true, true, true, true, true, true, true, true, true, true, true, true, true, true, true, true, true, true, true, true, true, false, false, false, false]) (by kernel_rfl) (by kernel_rfl) ?_
            refine s_move rfl rfl rfl rfl ?_
            refine vOrd_nil ?_
            refine vTree_one (i := 27) (L := #[true, true, true, true, true, true, true, true, true, true, true, true, true, true, true, true, true, true, true, true, true, true, true, true, true, true, true, true, false, false, false]) (by kernel_rfl) (by kernel_rfl) ?_
            refine s_callT rfl rfl rfl (by kernel_rfl) rfl (asked_any hL) ?_
            rintro v w19 rfl lw19
            replace lz := lz.trans lw19
            try replace hL := hL.later lw19
            refine vOrd_nil ?_
            refine vTree_one (i := 28) (L := #[true, true, true, true, true, true, true, true, true, true, true, true, true, true, true, true, true, true, true, true, true, true, true, true, true, true, true, true, true, false, false]) (by kernel_rfl) (by kernel_rfl) ?_
            refine t_eql rfl rfl rfl rfl rfl (by omega) ?_
            refine vOrd_nil ?_
            refine vTree_one (i := 29) (L := #[true, true, true, true, true, true, true, true, true, true, true, true, true, true, true, true, true, true, true, true, true, true, true, true, true, true, true, true, true, true, false]) (by kernel_rfl) (by kernel_rfl) ?_
            refine s_pick rfl rfl rfl rfl rfl ?_
            refine vOrd_nil ?_
            refine vTree_one (i := 30) (L := #[true, true, true, true, true, true, true, true, true, true, true, true, true, true, true, true, true, true, true, true, true, true, true, true, true, true, true, true, true, true, true]) (by kernel_rfl) (by kernel_rfl) ?_
            refine s_assign rfl rfl rfl rfl ?_
            refine vOrd_nil ?_
            refine vTree_end (by kernel_rfl) ?_
            refine Wp.ret ⟨.inr rfl, fun lW => ⟨_, res_tmp (P := Try.prog) rfl rfl, _, rfl, ?_, lW⟩⟩
            clear lW
            rfl
          · refine s_field 2 rfl rfl rfl rfl rfl ?_
            refine vOrd_nil ?_
            refine vTree_two (i := 17) (k := 19) (L1 := #[true, true, true, true, true, true, true, true, true, true, true, true, true, true, true, true, true, true, true, false, false, false, false, false, false, false, false, false, false, false, false]) (L2 := #[true, true, true, true, true, true, true, true, true, true, true, true, true, true, true, true, true, false, true, true, false, false, false, false, false, false, false, false, false, false, false]) (by kernel_rfl) (by kernel_rfl) (by kernel_rfl) ?_ ?_
            · refine s_callH 1007 rfl rfl rfl (by kernel_rfl) rfl rfl (fun vr => (first_any hb hL)) ?_
              rintro v cs20 w20 ⟨rfl, R20, _, hLq⟩ gw20 vw20
              replace lz := lz.past gw20 hbz
              clear hL
              have hL := hLq
              clear hLq
              refine vOrd_nil ?_
              refine vTree_one (i := 19) (L := #[true, true, true, true, true, true, true, true, true, true, true, true, true, true, true, true, true, true, true, true, false, false, false, false, false, false, false, false, false, false, false]) (by kernel_rfl) (by kernel_rfl) ?_
              refine s_load rfl rfl rfl rfl rfl rfl rfl ?_
              refine vOrd_nil ?_
              refine vTree_one (i := 20) (L := #[true, true, true, true, true, true, true, true, true, true, true, true, true, true, true, true, true, true, true, true, true, false, false, false, false, false, false, false, false, false, false]) (by kernel_rfl) (by kernel_rfl) ?_
              refine s_idx (sz := 2) (ao + 0 * 2) rfl rfl rfl rfl rfl rfl rfl (by omega) (by omega) (by omega) ?_
              refine vOrd_nil ?_
              refine vTree_one (i := 21) (L := #[true, true, true, true, true, true, true, true, true, true, true, true, true, true, true, true, true, true, true, true, true, true, false, false, false, false, false, false, false, false, false]) (by kernel_rfl) (by kernel_rfl) ?_
              refine x_ldA [.int .i64 x.1, .int .i64 x.2] rfl rfl rfl rfl rfl rfl (World.block_lt_of_cell? _ _ (cell_later lz k1)) (fun j u hj => ?_) ?_
              · match j, hj with
                | 0, hj => cases hj; exact cell_later lz k1
                | 1, hj => cases hj; exact cell_later lz k2
              refine vOrd_nil ?_
              refine vTree_one (i := 22) (L := #[true, true, true, true, true, true, true, true, true, true, true, true, true, true, true, true, true, true, true, true, true, true, true, false, false, false, false, false, false, false, false]) (by kernel_rfl) (by kernel_rfl) ?_
              refine s_callT rfl rfl rfl (by kernel_rfl) rfl (rday_any x hxi.1) ?_
              rintro v w26 rfl lw26
              replace lz := lz.trans lw26
              try replace hL := hL.later lw26
              refine vOrd_nil ?_
              refine vTree_one (i := 23) (L := #[true, true, true, true, true, true, true, true, true, true, true, true, true, true, true, true, true, true, true, true, true, true, true, true, false, false, false, false, false, false, false]) (by kernel_rfl) (by kernel_rfl) ?_
              refine t_eql rfl rfl rfl rfl rfl (by exact (A_at hx).1) ?_
              refine vOrd_nil ?_
              refine vTree_one (i := 24) (L := #[true, true, true, true, true, true, true, true, true, true, true, true, true, true, true, true, true, true, true, true, true, true, true, true, true, false, false, false, false, false, false]) (by kernel_rfl) (by kernel_rfl) ?_
              refine s_pick rfl rfl rfl rfl rfl ?_
              refine vOrd_nil ?_
              refine vTree_one (i := 25) (L := #[true, true, true, true, true, true, true, true, true, true, true, true, true, true, true, true, true, true, true, true, true, true, true, true, true, true, false, false, false, false, false]) (by kernel_rfl) (by kernel_rfl) ?_
              refine s_move rfl rfl rfl rfl ?_
              refine vOrd_nil ?_
              refine vTree_one (i := 26) (L := #[true, true, true, true, true, true, true, true, true, true, true, true, true, true, true, true, true, true, true, true, true, true, true, true, true, true, true, false, false, false, false]) (by kernel_rfl) (by kernel_rfl) ?_
              refine s_move rfl rfl rfl rfl ?_
              refine vOrd_nil ?_
              refine vTree_one (i := 27) (L := #[true, true, true, true, true, true, true, true, true, true, true, true, true, true, true, true, true, true, true, true, true, true, true, true, true, true, true, true, false, false, false]) (by kernel_rfl) (by kernel_rfl) ?_
              refine s_callT rfl rfl rfl (by kernel_rfl) rfl (asked_any hL) ?_
              rintro v w27 rfl lw27
              replace lz := lz.trans lw27
              try replace hL := hL.later lw27
              refine vOrd_nil ?_
              refine vTree_one (i := 28) (L := #[true, true, true, true, true, true, true, true, true, true, true, true, true, true, true, true, true, true, true, true, true, true, true, true, true, true, true, true, true, false, false]) (by kernel_rfl) (by kernel_rfl) ?_
              refine t_eql rfl rfl rfl rfl rfl (by omega) ?_
              refine vOrd_nil ?_
              refine vTree_one (i := 29) (L := #[true, true, true, true, true, true, true, true, true, true, true, true, true, true, true, true, true, true, true, true, true, true, true, true, true, true, true, true, true, true, false]) (by kernel_rfl) (by kernel_rfl) ?_
              refine s_pick rfl rfl rfl rfl rfl ?_
              refine vOrd_nil ?_
              refine vTree_one (i := 30) (L := #[true, true, true, true, true, true, true, true, true, true, true, true, true, true, true, true, true, true, true, true, true, true, true, true, true, true, true, true, true, true, true]) (by kernel_rfl) (by kernel_rfl) ?_
              refine s_assign rfl rfl rfl rfl ?_
              refine vOrd_nil ?_
              refine vTree_end (by kernel_rfl) ?_
              refine Wp.ret ⟨.inr rfl, fun lW => ⟨_, res_tmp (P := Try.prog) rfl rfl, _, rfl, ?_, lW⟩⟩
              clear lW
              rfl
            · refine s_load rfl rfl rfl rfl rfl rfl rfl ?_
              refine vOrd_nil ?_
              refine vTree_two (i := 17) (k := 20) (L1 := #[true, true, true, true, true, true, true, true, true, true, true, true, true, true, true, true, true, true, true, true, false, false, false, false, false, false, false, false, false, false, false]) (L2 := #[true, true, true, true, true, true, true, true, true, true, true, true, true, true, true, true, true, false, true, true, true, false, false, false, false, false, false, false, false, false, false]) (by kernel_rfl) (by kernel_rfl) (by kernel_rfl) ?_ ?_
              · refine s_callH 1007 rfl rfl rfl (by kernel_rfl) rfl rfl (fun vr => (first_any hb hL)) ?_
                rintro v cs28 w28 ⟨rfl, R28, _, hLq⟩ gw28 vw28
                replace lz := lz.past gw28 hbz
                clear hL
                have hL := hLq
                clear hLq
                refine vOrd_nil ?_
                refine vTree_one (i := 20) (L := #[true, true, true, true, true, true, true, true, true, true, true, true, true, true, true, true, true, true, true, true, true, false, false, false, false, false, false, false, false, false, false]) (by kernel_rfl) (by kernel_rfl) ?_
                refine s_idx (sz := 2) (ao + 0 * 2) rfl rfl rfl rfl rfl rfl rfl (by omega) (by omega) (by omega) ?_
                refine vOrd_nil ?_
                refine vTree_one (i := 21) (L := #[true, true, true, true, true, true, true, true, true, true, true, true, true, true, true, true, true, true, true, true, true, true, false, false, false, false, false, false, false, false, false]) (by kernel_rfl) (by kernel_rfl) ?_
                refine x_ldA [.int .i64 x.1, .int .i64 x.2] rfl rfl rfl rfl rfl rfl (World.block_lt_of_cell? _ _ (cell_later lz k1)) (fun j u hj => ?_) ?_
                · match j, hj with
                  | 0, hj => cases hj; exact cell_later lz k1
                  | 1, hj => cases hj; exact cell_later lz k2
                refine vOrd_nil ?_
                refine vTree_one (i := 22) (L := #[true, true, true, true, true, true, true, true, true, true, true, true, true, true, true, true, true, true, true, true, true, true, true, false, false, false, false, false, false, false, false]) (by kernel_rfl) (by kernel_rfl) ?_
                refine s_callT rfl rfl rfl (by kernel_rfl) rfl (rday_any x hxi.1) ?_
                rintro v w34 rfl lw34
                replace lz := lz.trans lw34
                try replace hL := hL.later lw34
                refine vOrd_nil ?_
                refine vTree_one (i := 23) (L := #[true, true, true, true, true, true, true, true, true, true, true, true, true, true, true, true, true, true, true, true, true, true, true, true, false, false, false, false, false, false, false]) (by kernel_rfl) (by kernel_rfl) ?_
                refine t_eql rfl rfl rfl rfl rfl (by exact (A_at hx).1) ?_
                refine vOrd_nil ?_
                refine vTree_one (i := 24) (L := #[true, true, true, true, true, true, true, true, true, true, true, true, true, true, true, true, true, true, true, true, true, true, true, true, true, false, false, false, false, false, false]) (by kernel_rfl) (by kernel_rfl) ?_
                refine s_pick rfl rfl rfl rfl rfl ?_
                refine vOrd_nil ?_
                refine vTree_one (i := 25) (L := #[true, true, true, true, true, true, true, true, true, true, true, true, true, true, true, true, true, true, true, true, true, true, true, true, true, true, false, false, false, false, false]) (by kernel_rfl) (by kernel_rfl) ?_
                refine s_move rfl rfl rfl rfl ?_
                refine vOrd_nil ?_
                refine vTree_one (i := 26) (L := #[true, true, true, true, true, true, true, true, true, true, true, true, true, true, true, true, true, true, true, true, true, true, true, true, true, true, true, false, false, false, false]) (by kernel_rfl) (by kernel_rfl) ?_
                refine s_move rfl rfl rfl rfl ?_
                refine vOrd_nil ?_
                refine vTree_one (i := 27) (L := #[true, true, true, true, true, true, true, true, true, true, true, true, true, true, true, true, true, true, true, true, true, true, true, true, true, true, true, true, false, false, false]) (by kernel_rfl) (by kernel_rfl) ?_
                refine s_callT rfl rfl rfl (by kernel_rfl) rfl (asked_any hL) ?_
                rintro v w35 rfl lw35
                replace lz := lz.trans lw35
                try replace hL := hL.later lw35
                refine vOrd_nil ?_
                refine vTree_one (i := 28) (L := #[true, true, true, true, true, true, true, true, true, true, true, true, true, true, true, true, true, true, true, true, true, true, true, true, true, true, true, true, true, false, false]) (by kernel_rfl) (by kernel_rfl) ?_
                refine t_eql rfl rfl rfl rfl rfl (by omega) ?_
                refine vOrd_nil ?_
                refine vTree_one (i := 29) (L := #[true, true, true, true, true, true, true, true, true, true, true, true, true, true, true, true, true, true, true, true, true, true, true, true, true, true, true, true, true, true, false]) (by kernel_rfl) (by kernel_rfl) ?_
                refine s_pick rfl rfl rfl rfl rfl ?_
                refine vOrd_nil ?_
                refine vTree_one (i := 30) (L := #[true, true, true, true, true, true, true, true, true, true, true, true, true, true, true, true, true, true, true, true, true, true, true, true, true, true, true, true, true, true, true]) (by kernel_rfl) (by kernel_rfl) ?_
                refine s_assign rfl rfl rfl rfl ?_
                refine vOrd_nil ?_
                refine vTree_end (by kernel_rfl) ?_
                refine Wp.ret ⟨.inr rfl, fun lW => ⟨_, res_tmp (P := Try.prog) rfl rfl, _, rfl, ?_, lW⟩⟩
                clear lW
                rfl
              · refine s_idx (sz := 2) (ao + 0 * 2) rfl rfl rfl rfl rfl rfl rfl (by omega) (by omega) (by omega) ?_
                refine vOrd_nil ?_
                refine vTree_two (i := 17) (k := 21) (L1 := #[true, true, true, true, true, true, true, true, true, true, true, true, true, true, true, true, true, true, true, true, true, false, false, false, false, false, false, false, false, false, false]) (L2 := #[true, true, true, true, true, true, true, true, true, true, true, true, true, true, true, true, true, false, true, true, true, true, false, false, false, false, false, false, false, false, false]) (by kernel_rfl) (by kernel_rfl) (by kernel_rfl) ?_ ?_
                · refine s_callH 1007 rfl rfl rfl (by kernel_rfl) rfl rfl (fun vr => (first_any hb hL)) ?_
                  rintro v cs37 w37 ⟨rfl, R37, _, hLq⟩ gw37 vw37
                  replace lz := lz.past gw37 hbz
                  clear hL
                  have hL := hLq
                  clear hLq
                  refine vOrd_nil ?_
                  refine vTree_one (i := 21) (L := #[true, true, true, true, true, true, true, true, true, true, true, true, true, true, true, true, true, true, true, true, true, true, false, false, false, false, false, false, false, false, false]) (by kernel_rfl) (by kernel_rfl) ?_
                  refine x_ldA [.int .i64 x.1, .int .i64 x.2] rfl rfl rfl rfl rfl rfl (World.block_lt_of_cell? _ _ (cell_later lz k1)) (fun j u hj => ?_) ?_
                  · match j, hj with
                    | 0, hj => cases hj; exact cell_later lz k1
                    | 1, hj => cases hj; exact cell_later lz k2
                  refine vOrd_nil ?_
                  refine vTree_one (i := 22) (L := #[true, true, true, true, true, true, true, true, true, true, true, true, true, true, true, true, true, true, true, true, true, true, true, false, false, false, false, false, false, false, false]) (by kernel_rfl) (by kernel_rfl) ?_
                  refine s_callT rfl rfl rfl (by kernel_rfl) rfl (rday_any x hxi.1) ?_
                  rintro v w42 rfl lw42
                  replace lz := lz.trans lw42
                  try replace hL := hL.later lw42
                  refine vOrd_nil ?_
                  refine vTree_one (i := 23) (L := #[true, true, true, true, true, true, true, true, true, true, true, true, true, true, true, true, true, true, true, true, true, true, true, true, false, false, false, false, false, false, false]) (by kernel_rfl) (by kernel_rfl) ?_
                  refine t_eql rfl rfl rfl rfl rfl (by exact (A_at hx).1) ?_
                  refine vOrd_nil ?_
                  refine vTree_one (i := 24) (L := #[true, true, true, true, true, true, true, true, true, true, true, true, true, true, true, true, true, true, true, true, true, true, true, true, true, false, false, false, false, false, false]) (by kernel_rfl) (by kernel_rfl) ?_
                  refine s_pick rfl rfl rfl rfl rfl ?_
                  refine vOrd_nil ?_
                  refine vTree_one (i := 25) (L := #[true, true, true, true, true, true, true, true, true, true, true, true, true, true, true, true, true, true, true, true, true, true, true, true, true, true, false, false, false, false, false]) (by kernel_rfl) (by kernel_rfl) ?_
                  refine s_move rfl rfl rfl rfl ?_
                  refine vOrd_nil ?_
                  refine vTree_one (i := 26) (L := #[true, true, true, true, true, true, true, true, true, true, true, true, true, true, true, true, true, true, true, true, true, true, true, true, true, true, true, false, false, false, false]) (by kernel_rfl) (by kernel_rfl) ?_
                  refine s_move rfl rfl rfl rfl ?_
                  refine vOrd_nil ?_
                  refine vTree_one (i := 27) (L := #[true, true, true, true, true, true, true, true, true, true, true, true, true, true, true, true, true, true, true, true, true, true, true, true, true, true, true, true, false, false, false]) (by kernel_rfl) (by kernel_rfl) ?_
                  refine s_callT rfl rfl rfl (by kernel_rfl) rfl (asked_any hL) ?_
                  rintro v w43 rfl lw43
                  replace lz := lz.trans lw43
                  try replace hL := hL.later lw43
                  refine vOrd_nil ?_
                  refine vTree_one (i := 28) (L := #[true, true, true, true, true, true, true, true, true, true, true, true, true, true, true, true, true, true, true, true, true, true, true, true, true, true, true, true, true, false, false]) (by kernel_rfl) (by kernel_rfl) ?_
                  refine t_eql rfl rfl rfl rfl rfl (by omega) ?_
                  refine vOrd_nil ?_
                  refine vTree_one (i := 29) (L := #[true, true, true, true, true, true, true, true, true, true, true, true, true, true, true, true, true, true, true, true, true, true, true, true, true, true, true, true, true, true, false]) (by kernel_rfl) (by kernel_rfl) ?_
                  refine s_pick rfl rfl rfl rfl rfl ?_
                  refine vOrd_nil ?_
                  refine vTree_one (i := 30) (L := #[true, true, true, true, true, true, true, true, true, true, true, true, true, true, true, true, true, true, true, true, true, true, true, true, true, true, true, true, true, true, true]) (by kernel_rfl) (by kernel_rfl) ?_
                  refine s_assign rfl rfl rfl rfl ?_
                  refine vOrd_nil ?_
                  refine vTree_end (by kernel_rfl) ?_
                  refine Wp.ret ⟨.inr rfl, fun lW => ⟨_, res_tmp (P := Try.prog) rfl rfl, _, rfl, ?_, lW⟩⟩
                  clear lW
                  rfl
                · refine x_ldA [.int .i64 x.1, .int .i64 x.2] rfl rfl rfl rfl rfl rfl (World.block_lt_of_cell? _ _ (cell_later lz k1)) (fun j u hj => ?_) ?_
                  · match j, hj with
                    | 0, hj => cases hj; exact cell_later lz k1
                    | 1, hj => cases hj; exact cell_later lz k2
                  refine vOrd_nil ?_
                  refine vTree_one (i := 17) (L := #[true, true, true, true, true, true, true, true, true, true, true, true, true, true, true, true, true, true, true, true, true, true, false, false, false, false, false, false, false, false, false]) (by kernel_rfl) (by kernel_rfl) ?_
                  refine s_callH 1007 rfl rfl rfl (by kernel_rfl) rfl rfl (fun vr => (first_any hb hL)) ?_
                  rintro v cs48 w48 ⟨rfl, R48, _, hLq⟩ gw48 vw48
                  replace lz := lz.past gw48 hbz
                  clear hL
                  have hL := hLq
                  clear hLq
                  refine vOrd_nil ?_
                  refine vTree_one (i := 22) (L := #[true, true, true, true, true, true, true, true, true, true, true, true, true, true, true, true, true, true, true, true, true, true, true, false, false, false, false, false, false, false, false]) (by kernel_rfl) (by kernel_rfl) ?_
                  refine s_callT rfl rfl rfl (by kernel_rfl) rfl (rday_any x hxi.1) ?_
                  rintro v w49 rfl lw49
                  replace lz := lz.trans lw49
                  try replace hL := hL.later lw49
                  refine vOrd_nil ?_
                  refine vTree_one (i := 23) (L := #[true, true, true, true, true, true, true, true, true, true, true, true, true, true, true, true, true, true, true, true, true, true, true, true, false, false, false, false, false, false, false]) (by kernel_rfl) (by kernel_rfl) ?_
                  refine t_eql rfl rfl rfl rfl rfl (by exact (A_at hx).1) ?_
                  refine vOrd_nil ?_
                  refine vTree_one (i := 24) (L := #[true, true, true, true, true, true, true, true, true, true, true, true, true, true, true, true, true, true, true, true, true, true, true, true, true, false, false, false, false, false, false]) (by kernel_rfl) (by kernel_rfl) ?_
                  refine s_pick rfl rfl rfl rfl rfl ?_
                  refine vOrd_nil ?_
                  refine vTree_one (i := 25) (L := #[true, true, true, true, true, true, true, true, true, true, true, true, true, true, true, true, true, true, true, true, true, true, true, true, true, true, false, false, false, false, false]) (by kernel_rfl) (by kernel_rfl) ?_
                  refine s_move rfl rfl rfl rfl ?_
                  refine vOrd_nil ?_
                  refine vTree_one (i := 26) (L := #[true, true, true, true, true, true, true, true, true, true, true, true, true, true, true, true, true, true, true, true, true, true, true, true, true, true, true, false, false, false, false]) (by kernel_rfl) (by kernel_rfl) ?_
                  refine s_move rfl rfl rfl rfl ?_
                  refine vOrd_nil ?_
                  refine vTree_one (i := 27) (L := #[true, true, true, true, true, true, true, true, true, true, true, true, true, true, true, true, true, true, true, true, true, true, true, true, true, true, true, true, false, false, false]) (by kernel_rfl) (by kernel_rfl) ?_
                  refine s_callT rfl rfl rfl (by kernel_rfl) rfl (asked_any hL) ?_
                  rintro v w50 rfl lw50
                  replace lz := lz.trans lw50
                  try replace hL := hL.later lw50
                  refine vOrd_nil ?_
                  refine vTree_one (i := 28) (L := #[true, true, true, true, true, true, true, true, true, true, true, true, true, true, true, true, true, true, true, true, true, true, true, true, true, true, true, true, true, false, false]) (by kernel_rfl) (by kernel_rfl) ?_
                  refine t_eql rfl rfl rfl rfl rfl (by omega) ?_
                  refine vOrd_nil ?_
                  refine vTree_one (i := 29) (L := #[true, true, true, true, true, true, true, true, true, true, true, true, true, true, true, true, true, true, true, true, true, true, true, true, true, true, true, true, true, true, false]) (by kernel_rfl) (by kernel_rfl) ?_
                  refine s_pick rfl rfl rfl rfl rfl ?_
                  refine vOrd_nil ?_
                  refine vTree_one (i := 30) (L := #[true, true, true, true, true, true, true, true, true, true, true, true, true, true, true, true, true, true, true, true, true, true, true, true, true, true, true, true, true, true, true]) (by kernel_rfl) (by kernel_rfl) ?_
                  refine s_assign rfl rfl rfl rfl ?_
                  refine vOrd_nil ?_
                  refine vTree_end (by kernel_rfl) ?_
                  refine Wp.ret ⟨.inr rfl, fun lW => ⟨_, res_tmp (P := Try.prog) rfl rfl, _, rfl, ?_, lW⟩⟩
                  clear lW
                  rfl
        · refine s_field 2 rfl rfl rfl rfl rfl ?_
          refine vOrd_nil ?_
          refine vTree_two (i := 16) (k := 19) (L1 := #[true, true, true, true, true, true, true, true, true, true, true, true, true, true, true, true, true, false, true, false, false, false, false, false, false, false, false, false, false, false, false]) (L2 := #[true, true, true, true, true, true, true, true, true, true, true, true, true, true, true, true, false, false, true, true, false, false, false, false, false, false, false, false, false, false, false]) (by kernel_rfl) (by kernel_rfl) (by kernel_rfl) ?_ ?_
          · refine s_move rfl rfl rfl rfl ?_
            refine vOrd_nil ?_
            refine vTree_two (i := 17) (k := 19) (L1 := #[true, true, true, true, true, true, true, true, true, true, true, true, true, true, true, true, true, true, true, false, false, false, false, false, false, false, false, false, false, false, false]) (L2 := #[true, true, true, true, true, true, true, true, true, true, true, true, true, true, true, true, true, false, true, true, false, false, false, false, false, false, false, false, false, false, false]) (by kernel_rfl) (by kernel_rfl) (by kernel_rfl) ?_ ?_
            · refine s_callH 1007 rfl rfl rfl (by kernel_rfl) rfl rfl (fun vr => (first_any hb hL)) ?_
              rintro v cs51 w51 ⟨rfl, R51, _, hLq⟩ gw51 vw51
              replace lz := lz.past gw51 hbz
              clear hL
              have hL := hLq
              clear hLq
              refine vOrd_nil ?_
              refine vTree_one (i := 19) (L := #[true, true, true, true, true, true, true, true, true, true, true, true, true, true, true, true, true, true, true, true, false, false, false, false, false, false, false, false, false, false, false]) (by kernel_rfl) (by kernel_rfl) ?_
              refine s_load rfl rfl rfl rfl rfl rfl rfl ?_
              refine vOrd_nil ?_
              refine vTree_one (i := 20) (L := #[true, true, true, true, true, true, true, true, true, true, true, true, true, true, true, true, true, true, true, true, true, false, false, false, false, false, false, false, false, false, false]) (by kernel_rfl) (by kernel_rfl) ?_
              refine s_idx (sz := 2) (ao + 0 * 2) rfl rfl rfl rfl rfl rfl rfl (by omega) (by omega) (by omega) ?_
              refine vOrd_nil ?_
              refine vTree_one (i := 21) (L := #[true, true, true, true, true, true, true, true, true, true, true, true, true, true, true, true, true, true, true, true, true, true, false, false, false, false, false, false, false, false, false]) (by kernel_rfl) (by kernel_rfl) ?_
              refine x_ldA [.int .i64 x.1, .int .i64 x.2] rfl rfl rfl rfl rfl rfl (World.block_lt_of_cell? _ _ (cell_later lz k1)) (fun j u hj => ?_) ?_
              · match j, hj with
                | 0, hj => cases hj; exact cell_later lz k1
                | 1, hj => cases hj; exact cell_later lz k2
              refine vOrd_nil ?_
              refine vTree_one (i := 22) (L := #[true, true, true, true, true, true, true, true, true, true, true, true, true, true, true, true, true, true, true, true, true, true, true, false, false, false, false, false, false, false, false]) (by kernel_rfl) (by kernel_rfl) ?_
              refine s_callT rfl rfl rfl (by kernel_rfl) rfl (rday_any x hxi.1) ?_
              rintro v w57 rfl lw57
              replace lz := lz.trans lw57
              try replace hL := hL.later lw57
              refine vOrd_nil ?_
              refine vTree_one (i := 23) (L := #[true, true, true, true, true, true, true, true, true, true, true, true, true, true, true, true, true, true, true, true, true, true, true, true, false, false, false, false, false, false, false]) (by kernel_rfl) (by kernel_rfl) ?_
              refine t_eql rfl rfl rfl rfl rfl (by exact (A_at hx).1) ?_
              refine vOrd_nil ?_
              refine vTree_one (i := 24) (L := #[true, true, true, true, true, true, true, true, true, true, true, true, true, true, true, true, true, true, true, true, true, true, true, true, true, false, false, false, false, false, false]) (by kernel_rfl) (by kernel_rfl) ?_
              refine s_pick rfl rfl rfl rfl rfl ?_
              refine vOrd_nil ?_
              refine vTree_one (i := 25) (L := #[true, true, true, true, true, true, true, true, true, true, true, true, true, true, true, true, true, true, true, true, true, true, true, true, true, true, false, false, false, false, false]) (by kernel_rfl) (by kernel_rfl) ?_
              refine s_move rfl rfl rfl rfl ?_
              refine vOrd_nil ?_
              refine vTree_one (i := 26) (L := #[true, true, true, true, true, true, true, true, true, true, true, true, true, true, true, true, true, true, true, true, true, true, true, true, true, true, true, false, false, false, false]) (by kernel_rfl) (by kernel_rfl) ?_
              refine s_move rfl rfl rfl rfl ?_
              refine vOrd_nil ?_
              refine vTree_one (i := 27) (L := #[true, true, true, true, true, true, true, true, true, true, true, true, true, true, true, true, true, true, true, true, true, true, true, true, true, true, true, true, false, false, false]) (by kernel_rfl) (by kernel_rfl) ?_
              refine s_callT rfl rfl rfl (by kernel_rfl) rfl (asked_any hL) ?_
              rintro v w58 rfl lw58
              replace lz := lz.trans lw58
              try replace hL := hL.later lw58
              refine vOrd_nil ?_
              refine vTree_one (i := 28) (L := #[true, true, true, true, true, true, true, true, true, true, true, true, true, true, true, true, true, true, true, true, true, true, true, true, true, true, true, true, true, false, false]) (by kernel_rfl) (by kernel_rfl) ?_
              refine t_eql rfl rfl rfl rfl rfl (by omega) ?_
              refine vOrd_nil ?_
              refine vTree_one (i := 29) (L := #[true, true, true, true, true, true, true, true, true, true, true, true, true, true, true, true, true, true, true, true, true, true, true, true, true, true, true, true, true, true, false]) (by kernel_rfl) (by kernel_rfl) ?_
              refine s_pick rfl rfl rfl rfl rfl ?_
              refine vOrd_nil ?_
              refine vTree_one (i := 30) (L := #[true, true, true, true, true, true, true, true, true, true, true, true, true, true, true, true, true, true, true, true, true, true, true, true, true, true, true, true, true, true, true]) (by kernel_rfl) (by kernel_rfl) ?_
              refine s_assign rfl rfl rfl rfl ?_
              refine vOrd_nil ?_
              refine vTree_end (by kernel_rfl) ?_
              refine Wp.ret ⟨.inr rfl, fun lW => ⟨_, res_tmp (P := Try.prog) rfl rfl, _, rfl, ?_, lW⟩⟩
              clear lW
              rfl
            · refine s_load rfl rfl rfl rfl rfl rfl rfl ?_
              refine vOrd_nil ?_
              refine vTree_two (i := 17) (k := 20) (L1 := #[true, true, true, true, true, true, true, true, true, true, true, true, true, true, true, true, true, true, true, true, false, false, false, false, false, false, false, false, false, false, false]) (L2 := #[true, true, true, true, true, true, true, true, true, true, true, true, true, true, true, true, true, false, true, true, true, false, false, false, false, false, false, false, false, false, false]) (by kernel_rfl) (by kernel_rfl) (by kernel_rfl) ?_ ?_
              · refine s_callH 1007 rfl rfl rfl (by kernel_rfl) rfl rfl (fun vr => (first_any hb hL)) ?_
                rintro v cs59 w59 ⟨rfl, R59, _, hLq⟩ gw59 vw59
                replace lz := lz.past gw59 hbz
                clear hL
                have hL := hLq
                clear hLq
                refine vOrd_nil ?_
                refine vTree_one (i := 20) (L := #[true, true, true, true, true, true, true, true, true, true, true, true, true, true, true, true, true, true, true, true, true, false, false, false, false, false, false, false, false, false, false]) (by kernel_rfl) (by kernel_rfl) ?_
                refine s_idx (sz := 2) (ao + 0 * 2) rfl rfl rfl rfl rfl rfl rfl (by omega) (by omega) (by omega) ?_
                refine vOrd_nil ?_
                refine vTree_one (i := 21) (L := #[true, true, true, true, true, true, true, true, true, true, true, true, true, true, true, true, true, true, true, true, true, true, false, false, false, false, false, false, false, false, false]) (by kernel_rfl) (by kernel_rfl) ?_
                refine x_ldA [.int .i64 x.1, .int .i64 x.2] rfl rfl rfl rfl rfl rfl (World.block_lt_of_cell? _ _ (cell_later lz k1)) (fun j u hj => ?_) ?_
                · match j, hj with
                  | 0, hj => cases hj; exact cell_later lz k1
                  | 1, hj => cases hj; exact cell_later lz k2
                refine vOrd_nil ?_
                refine vTree_one (i := 22) (L := #[true, true, true, true, true, true, true, true, true, true, true, true, true, true, true, true, true, true, true, true, true, true, true, false, false, false, false, false, false, false, false]) (by kernel_rfl) (by kernel_rfl) ?_
                refine s_callT rfl rfl rfl (by kernel_rfl) rfl (rday_any x hxi.1) ?_
                rintro v w65 rfl lw65
                replace lz := lz.trans lw65
                try replace hL := hL.later lw65
                refine vOrd_nil ?_
                refine vTree_one (i := 23) (L := #[true, true, true, true, true, true, true, true, true, true, true, true, true, true, true, true, true, true, true, true, true, true, true, true, false, false, false, false, false, false, false]) (by kernel_rfl) (by kernel_rfl) ?_
                refine t_eql rfl rfl rfl rfl rfl (by exact (A_at hx).1) ?_
                refine vOrd_nil ?_
                refine vTree_one (i := 24) (L := #[true, true, true, true, true, true, true, true, true, true, true, true, true, true, true, true, true, true, true, true, true, true, true, true, true, false, false, false, false, false, false]) (by kernel_rfl) (by kernel_rfl) ?_
                refine s_pick rfl rfl rfl rfl rfl ?_
                refine vOrd_nil ?_
                refine vTree_one (i := 25) (L := #[true, true, true, true, true, true, true, true, true, true, true, true, true, true, true, true, true, true, true, true, true, true, true, true, true, true, false, false, false, false, false]) (by kernel_rfl) (by kernel_rfl) ?_
                refine s_move rfl rfl rfl rfl ?_
                refine vOrd_nil ?_
                refine vTree_one (i := 26) (L := #[true, true, true, true, true, true, true, true, true, true, true, true, true, true, true, true, true, true, true, true, true, true, true, true, true, true, true, false, false, false, false]) (by kernel_rfl) (by kernel_rfl) ?_
                refine s_move rfl rfl rfl rfl ?_
                refine vOrd_nil ?_
                refine vTree_one (i := 27) (L := #[true, true, true, true, true, true, true, true, true, true, true, true, true, true, true, true, true, true, true, true, true, true, true, true, true, true, true, true, false, false, false]) (by kernel_rfl) (by kernel_rfl) ?_
                refine s_callT rfl rfl rfl (by kernel_rfl) rfl (asked_any hL) ?_
                rintro v w66 rfl lw66
                replace lz := lz.trans lw66
                try replace hL := hL.later lw66
                refine vOrd_nil ?_
                refine vTree_one (i := 28) (L := #[true, true, true, true, true, true, true, true, true, true, true, true, true, true, true, true, true, true, true, true, true, true, true, true, true, true, true, true, true, false, false]) (by kernel_rfl) (by kernel_rfl) ?_
                refine t_eql rfl rfl rfl rfl rfl (by omega) ?_
                refine vOrd_nil ?_
                refine vTree_one (i := 29) (L := #[true, true, true, true, true, true, true, true, true, true, true, true, true, true, true, true, true, true, true, true, true, true, true, true, true, true, true, true, true, true, false]) (by kernel_rfl) (by kernel_rfl) ?_
                refine s_pick rfl rfl rfl rfl rfl ?_
                refine vOrd_nil ?_
                refine vTree_one (i := 30) (L := #[true, true, true, true, true, true, true, true, true, true, true, true, true, true, true, true, true, true, true, true, true, true, true, true, true, true, true, true, true, true, true]) (by kernel_rfl) (by kernel_rfl) ?_
                refine s_assign rfl rfl rfl rfl ?_
                refine vOrd_nil ?_
                refine vTree_end (by kernel_rfl) ?_
                refine Wp.ret ⟨.inr rfl, fun lW => ⟨_, res_tmp (P := Try.prog) rfl rfl, _, rfl, ?_, lW⟩⟩
                clear lW
                rfl
              · refine s_idx (sz := 2) (ao + 0 * 2) rfl rfl rfl rfl rfl rfl rfl (by omega) (by omega) (by omega) ?_
                refine vOrd_nil ?_
                refine vTree_two (i := 17) (k := 21) (L1 := #[true, true, true, true, true, true, true, true, true, true, true, true, true, true, true, true, true, true, true, true, true, false, false, false, false, false, false, false, false, false, false]) (L2 := #[true, true, true, true, true, true, true, true, true, true, true, true, true, true, true, true, true, false, true, true, true, true, false, false, false, false, false, false, false, false, false]) (by kernel_rfl) (by kernel_rfl) (by kernel_rfl) ?_ ?_
                · refine s_callH 1007 rfl rfl rfl (by kernel_rfl) rfl rfl (fun vr => (first_any hb hL)) ?_
                  rintro v cs68 w68 ⟨rfl, R68, _, hLq⟩ gw68 vw68
                  replace lz := lz.past gw68 hbz
                  clear hL
                  have hL := hLq
                  clear hLq
                  refine vOrd_nil ?_
                  refine vTree_one (i := 21) (L := #[true, true, true, true, true, true, true, true, true, true, true, true, true, true, true, true, true, true, true, true, true, true, false, false, false, false, false, false, false, false, false]) (by kernel_rfl) (by kernel_rfl) ?_
                  refine x_ldA [.int .i64 x.1, .int .i64 x.2] rfl rfl rfl rfl rfl rfl (World.block_lt_of_cell? _ _ (cell_later lz k1)) (fun j u hj => ?_) ?_
                  · match j, hj with
                    | 0, hj => cases hj; exact cell_later lz k1
                    | 1, hj => cases hj; exact cell_later lz k2
                  refine vOrd_nil ?_
                  refine vTree_one (i := 22) (L := #[true, true, true, true, true, true, true, true, true, true, true, true, true, true, true, true, true, true, true, true, true, true, true, false, false, false, false, false, false, false, false]) (by kernel_rfl) (by kernel_rfl) ?_
                  refine s_callT rfl rfl rfl (by kernel_rfl) rfl (rday_any x hxi.1) ?_
                  rintro v w73 rfl lw73
                  replace lz := lz.trans lw73
                  try replace hL := hL.later lw73
                  refine vOrd_nil ?_
                  refine vTree_one (i := 23) (L := #[true, true, true, true, true, true, true, true, true, true, true, true, true, true, true, true, true, true, true, true, true, true, true, true, false, false, false, false, false, false, false]) (by kernel_rfl) (by kernel_rfl) ?_
                  refine t_eql rfl rfl rfl rfl rfl (by exact (A_at hx).1) ?_
                  refine vOrd_nil ?_
                  refine vTree_one (i := 24) (L := #[true, true, true, true, true, true, true, true, true, true, true, true, true, true, true, true, true, true, true, true, true, true, true, true, true, false, false, false, false, false, false]) (by kernel_rfl) (by kernel_rfl) ?_
                  refine s_pick rfl rfl rfl rfl rfl ?_
                  refine vOrd_nil ?_
                  refine vTree_one (i := 25) (L := #[true, true, true, true, true, true, true, true, true, true, true, true, true, true, true, true, true, true, true, true, true, true, true, true, true, true, false, false, false, false, false]) (by kernel_rfl) (by kernel_rfl) ?_
                  refine s_move rfl rfl rfl rfl ?_
                  refine vOrd_nil ?_
                  refine vTree_one (i := 26) (L := #[true, true, true, true, true, true, true, true, true, true, true, true, true, true, true, true, true, true, true, true, true, true, true, true, true, true, true, false, false, false, false]) (by kernel_rfl) (by kernel_rfl) ?_
                  refine s_move rfl rfl rfl rfl ?_
                  refine vOrd_nil ?_
                  refine vTree_one (i := 27) (L := #[true, true, true, true, true, true, true, true, true, true, true, true, true, true, true, true, true, true, true, true, true, true, true, true, true, true, true, true, false, false, false]) (by kernel_rfl) (by kernel_rfl) ?_
                  refine s_callT rfl rfl rfl (by kernel_rfl) rfl (asked_any hL) ?_
                  rintro v w74 rfl lw74
                  replace lz := lz.trans lw74
                  try replace hL := hL.later lw74
                  refine vOrd_nil ?_
                  refine vTree_one (i := 28) (L := #[true, true, true, true, true, true, true, true, true, true, true, true, true, true, true, true, true, true, true, true, true, true, true, true, true, true, true, true, true, false, false]) (by kernel_rfl) (by kernel_rfl) ?_
                  refine t_eql rfl rfl rfl rfl rfl (by omega) ?_
                  refine vOrd_nil ?_
                  refine vTree_one (i := 29) (L := #[true, true, true, true, true, true, true, true, true, true, true, true, true, true, true, true, true, true, true, true, true, true, true, true, true, true, true, true, true, true, false]) (by kernel_rfl) (by kernel_rfl) ?_
                  refine s_pick rfl rfl rfl rfl rfl ?_
                  refine vOrd_nil ?_
                  refine vTree_one (i := 30) (L := #[true, true, true, true, true, true, true, true, true, true, true, true, true, true, true, true, true, true, true, true, true, true, true, true, true, true, true, true, true, true, true]) (by kernel_rfl) (by kernel_rfl) ?_
                  refine s_assign rfl rfl rfl rfl ?_
                  refine vOrd_nil ?_
                  refine vTree_end (by kernel_rfl) ?_
                  refine Wp.ret ⟨.inr rfl, fun lW => ⟨_, res_tmp (P := Try.prog) rfl rfl, _, rfl, ?_, lW⟩⟩
                  clear lW
                  rfl
                · refine x_ldA [.int .i64 x.1, .int .i64 x.2] rfl rfl rfl rfl rfl rfl (World.block_lt_of_cell? _ _ (cell_later lz k1)) (fun j u hj => ?_) ?_
                  · match j, hj with
                    | 0, hj => cases hj; exact cell_later lz k1
                    | 1, hj => cases hj; exact cell_later lz k2
                  refine vOrd_nil ?_
                  refine vTree_one (i := 17) (L := #[true, true, true, true, true, true, true, true, true, true, true, true, true, true, true, true, true, true, true, true, true, true, false, false, false, false, false, false, false, false, false]) (by kernel_rfl) (by kernel_rfl) ?_
                  refine s_callH 1007 rfl rfl rfl (by kernel_rfl) rfl rfl (fun vr => (first_any hb hL)) ?_
                  rintro v cs79 w79 ⟨rfl, R79, _, hLq⟩ gw79 vw79
                  replace lz := lz.past gw79 hbz
                  clear hL
                  have hL := hLq
                  clear hLq
                  refine vOrd_nil ?_
                  refine vTree_one (i := 22) (L := #[true, true, true, true, true, true, true, true, true, true, true, true, true, true, true, true, true, true, true, true, true, true, true, false, false, false, false, false, false, false, false]) (by kernel_rfl) (by kernel_rfl) ?_
                  refine s_callT rfl rfl rfl (by kernel_rfl) rfl (rday_any x hxi.1) ?_
                  rintro v w80 rfl lw80
                  replace lz := lz.trans lw80
                  try replace hL := hL.later lw80
                  refine vOrd_nil ?_
                  refine vTree_one (i := 23) (L := #[true, true, true, true, true, true, true, true, true, true, true, true, true, true, true, true, true, true, true, true, true, true, true, true, false, false, false, false, false, false, false]) (by kernel_rfl) (by kernel_rfl) ?_
                  refine t_eql rfl rfl rfl rfl rfl (by exact (A_at hx).1) ?_
                  refine vOrd_nil ?_
                  refine vTree_one (i := 24) (L := #[true, true, true, true, true, true, true, true, true, true, true, true, true, true, true, true, true, true, true, true, true, true, true, true, true, false, false, false, false, false, false]) (by kernel_rfl) (by kernel_rfl) ?_
                  refine s_pick rfl rfl rfl rfl rfl ?_
                  refine vOrd_nil ?_
                  refine vTree_one (i := 25) (L := #[true, true, true, true, true, true, true, true, true, true, true, true, true, true, true, true, true, true, true, true, true, true, true, true, true, true, false, false, false, false, false]) (by kernel_rfl) (by kernel_rfl) ?_
                  refine s_move rfl rfl rfl rfl ?_
                  refine vOrd_nil ?_
                  refine vTree_one (i := 26) (L := #[true, true, true, true, true, true, true, true, true, true, true, true, true, true, true, true, true, true, true, true, true, true, true, true, true, true, true, false, false, false, false]) (by kernel_rfl) (by kernel_rfl) ?_
                  refine s_move rfl rfl rfl rfl ?_
                  refine vOrd_nil ?_
                  refine vTree_one (i := 27) (L := #[true, true, true, true, true, true, true, true, true, true, true, true, true, true, true, true, true, true, true, true, true, true, true, true, true, true, true, true, false, false, false]) (by kernel_rfl) (by kernel_rfl) ?_
                  refine s_callT rfl rfl rfl (by kernel_rfl) rfl (asked_any hL) ?_
                  rintro v w81 rfl lw81
                  replace lz := lz.trans lw81
                  try replace hL := hL.later lw81
                  refine vOrd_nil ?_
                  refine vTree_one (i := 28) (L := #[true, true, true, true, true, true, true, true, true, true, true, true, true, true, true, true, true, true, true, true, true, true, true, true, true, true, true, true, true, false, false]) (by kernel_rfl) (by kernel_rfl) ?_
                  refine t_eql rfl rfl rfl rfl rfl (by omega) ?_
                  refine vOrd_nil ?_
                  refine vTree_one (i := 29) (L := #[true, true, true, true, true, true, true, true, true, true, true, true, true, true, true, true, true, true, true, true, true, true, true, true, true, true, true, true, true, true, false]) (by kernel_rfl) (by kernel_rfl) ?_
                  refine s_pick rfl rfl rfl rfl rfl ?_
                  refine vOrd_nil ?_
                  refine vTree_one (i := 30) (L := #[true, true, true, true, true, true, true, true, true, true, true, true, true, true, true, true, true, true, true, true, true, true, true, true, true, true, true, true, true, true, true]) (by kernel_rfl) (by kernel_rfl) ?_
                  refine s_assign rfl rfl rfl rfl ?_
                  refine vOrd_nil ?_
                  refine vTree_end (by kernel_rfl) ?_
                  refine Wp.ret ⟨.inr rfl, fun lW => ⟨_, res_tmp (P := Try.prog) rfl rfl, _, rfl, ?_, lW⟩⟩
                  clear lW
                  rfl
          · refine s_load rfl rfl rfl rfl rfl rfl rfl ?_
            refine vOrd_nil ?_
            refine vTree_two (i := 16) (k := 20) (L1 := #[true, true, true, true, true, true, true, true, true, true, true, true, true, true, true, true, true, false, true, true, false, false, false, false, false, false, false, false, false, false, false]) (L2 := #[true, true, true, true, true, true, true, true, true, true, true, true, true, true, true, true, false, false, true, true, true, false, false, false, false, false, false, false, false, false, false]) (by kernel_rfl) (by kernel_rfl) (by kernel_rfl) ?_ ?_
            · refine s_move rfl rfl rfl rfl ?_
              refine vOrd_nil ?_
              refine vTree_two (i := 17) (k := 20) (L1 := #[true, true, true, true, true, true, true, true, true, true, true, true, true, true, true, true, true, true, true, true, false, false, false, false, false, false, false, false, false, false, false]) (L2 := #[true, true, true, true, true, true, true, true, true, true, true, true, true, true, true, true, true, false, true, true, true, false, false, false, false, false, false, false, false, false, false]) (by kernel_rfl) (by kernel_rfl) (by kernel_rfl) ?_ ?_
              · refine s_callH 1007 rfl rfl rfl (by kernel_rfl) rfl rfl (fun vr => (first_any hb hL)) ?_
                rintro v cs82 w82 ⟨rfl, R82, _, hLq⟩ gw82 vw82
                replace lz := lz.past gw82 hbz
                clear hL
                have hL := hLq
                clear hLq
                refine vOrd_nil ?_
                refine vTree_one (i := 20) (L := #[true, true, true, true, true, true, true, true, true, true, true, true, true, true, true, true, true, true, true, true, true, false, false, false, false, false, false, false, false, false, false]) (by kernel_rfl) (by kernel_rfl) ?_
                refine s_idx (sz := 2) (ao + 0 * 2) rfl rfl rfl rfl rfl rfl rfl (by omega) (by omega) (by omega) ?_
                refine vOrd_nil ?_
                refine vTree_one (i := 21) (L := #[true, true, true, true, true, true, true, true, true, true, true, true, true, true, true, true, true, true, true, true, true, true, false, false, false, false, false, false, false, false, false]) (by kernel_rfl) (by kernel_rfl) ?_
                refine x_ldA [.int .i64 x.1, .int .i64 x.2] rfl rfl rfl rfl rfl rfl (World.block_lt_of_cell? _ _ (cell_later lz k1)) (fun j u hj => ?_) ?_
                · match j, hj with
                  | 0, hj => cases hj; exact cell_later lz k1
                  | 1, hj => cases hj; exact cell_later lz k2
                refine vOrd_nil ?_
                refine vTree_one (i := 22) (L := #[true, true, true, true, true, true, true, true, true, true, true, true, true, true, true, true, true, true, true, true, true, true, true, false, false, false, false, false, false, false, false]) (by kernel_rfl) (by kernel_rfl) ?_
                refine s_callT rfl rfl rfl (by kernel_rfl) rfl (rday_any x hxi.1) ?_
                rintro v w88 rfl lw88
                replace lz := lz.trans lw88
                try replace hL := hL.later lw88
                refine vOrd_nil ?_
                refine vTree_one (i := 23) (L := #[true, true, true, true, true, true, true, true, true, true, true, true, true, true, true, true, true, true, true, true, true, true, true, true, false, false, false, false, false, false, false]) (by kernel_rfl) (by kernel_rfl) ?_
                refine t_eql rfl rfl rfl rfl rfl (by exact (A_at hx).1) ?_
                refine vOrd_nil ?_
                refine vTree_one (i := 24) (L := #[true, true, true, true, true, true, true, true, true, true, true, true, true, true, true, true, true, true, true, true, true, true, true, true, true, false, false, false, false, false, false]) (by kernel_rfl) (by kernel_rfl) ?_
                refine s_pick rfl rfl rfl rfl rfl ?_
                refine vOrd_nil ?_
                refine vTree_one (i := 25) (L := #[true, true, true, true, true, true, true, true, true, true, true, true, true, true, true, true, true, true, true, true, true, true, true, true, true, true, false, false, false, false, false]) (by kernel_rfl) (by kernel_rfl) ?_
                refine s_move rfl rfl rfl rfl ?_
                refine vOrd_nil ?_
                refine vTree_one (i := 26) (L := #[true, true, true, true, true, true, true, true, true, true, true, true, true, true, true, true, true, true, true, true, true, true, true, true, true, true, true, false, false, false, false]) (by kernel_rfl) (by kernel_rfl) ?_
                refine s_move rfl rfl rfl rfl ?_
                refine vOrd_nil ?_
                refine vTree_one (i := 27) (L := #[true, true, true, true, true, true, true, true, true, true, true, true, true, true, true, true, true, true, true, true, true, true, true, true, true, true, true, true, false, false, false]) (by kernel_rfl) (by kernel_rfl) ?_
                refine s_callT rfl rfl rfl (by kernel_rfl) rfl (asked_any hL) ?_
                rintro v w89 rfl lw89
                replace lz := lz.trans lw89
                try replace hL := hL.later lw89
                refine vOrd_nil ?_
                refine vTree_one (i := 28) (L := #[true, true, true, true, true, true, true, true, true, true, true, true, true, true, true, true, true, true, true, true, true, true, true, true, true, true, true, true, true, false, false]) (by kernel_rfl) (by kernel_rfl) ?_
                refine t_eql rfl rfl rfl rfl rfl (by omega) ?_
                refine vOrd_nil ?_
                refine vTree_one (i := 29) (L := #[true, true, true, true, true, true, true, true, true, true, true, true, true, true, true, true, true, true, true, true, true, true, true, true, true, true, true, true, true, true, false]) (by kernel_rfl) (by kernel_rfl) ?_
                refine s_pick rfl rfl rfl rfl rfl ?_
                refine vOrd_nil ?_
                refine vTree_one (i := 30) (L := #[true, true, true, true, true, true, true, true, true, true, true, true, true, true, true, true, true, true, true, true, true, true, true, true, true, true, true, true, true, true, true]) (by kernel_rfl) (by kernel_rfl) ?_
                refine s_assign rfl rfl rfl rfl ?_
                refine vOrd_nil ?_
                refine vTree_end (by kernel_rfl) ?_
                refine Wp.ret ⟨.inr rfl, fun lW => ⟨_, res_tmp (P := Try.prog) rfl rfl, _, rfl, ?_, lW⟩⟩
                clear lW
                rfl
              · refine s_idx (sz := 2) (ao + 0 * 2) rfl rfl rfl rfl rfl rfl rfl (by omega) (by omega) (by omega) ?_
                refine vOrd_nil ?_
                refine vTree_two (i := 17) (k := 21) (L1 := #[true, true, true, true, true, true, true, true, true, true, true, true, true, true, true, true, true, true, true, true, true, false, false, false, false, false, false, false, false, false, false]) (L2 := #[true, true, true, true, true, true, true, true, true, true, true, true, true, true, true, true, true, false, true, true, true, true, false, false, false, false, false, false, false, false, false]) (by kernel_rfl) (by kernel_rfl) (by kernel_rfl) ?_ ?_
                · refine s_callH 1007 rfl rfl rfl (by kernel_rfl) rfl rfl (fun vr => (first_any hb hL)) ?_
                  rintro v cs91 w91 ⟨rfl, R91, _, hLq⟩ gw91 vw91
                  replace lz := lz.past gw91 hbz
                  clear hL
                  have hL := hLq
                  clear hLq
                  refine vOrd_nil ?_
                  refine vTree_one (i := 21) (L := #[true, true, true, true, true, true, true, true, true, true, true, true, true, true, true, true, true, true, true, true, true, true, false, false, false, false, false, false, false, false, false]) (by kernel_rfl) (by kernel_rfl) ?_
                  refine x_ldA [.int .i64 x.1, .int .i64 x.2] rfl rfl rfl rfl rfl rfl (World.block_lt_of_cell? _ _ (cell_later lz k1)) (fun j u hj => ?_) ?_
                  · match j, hj with
                    | 0, hj => cases hj; exact cell_later lz k1
                    | 1, hj => cases hj; exact cell_later lz k2
                  refine vOrd_nil ?_
                  refine vTree_one (i := 22) (L := #[true, true, true, true, true, true, true, true, true, true, true, true, true, true, true, true, true, true, true, true, true, true, true, false, false, false, false, false, false, false, false]) (by kernel_rfl) (by kernel_rfl) ?_
                  refine s_callT rfl rfl rfl (by kernel_rfl) rfl (rday_any x hxi.1) ?_
                  rintro v w96 rfl lw96
                  replace lz := lz.trans lw96
                  try replace hL := hL.later lw96
                  refine vOrd_nil ?_
                  refine vTree_one (i := 23) (L := #[true, true, true, true, true, true, true, true, true, true, true, true, true, true, true, true, true, true, true, true, true, true, true, true, false, false, false, false, false, false, false]) (by kernel_rfl) (by kernel_rfl) ?_
                  refine t_eql rfl rfl rfl rfl rfl (by exact (A_at hx).1) ?_
                  refine vOrd_nil ?_
                  refine vTree_one (i := 24) (L := #[true, true, true, true, true, true, true, true, true, true, true, true, true, true, true, true, true, true, true, true, true, true, true, true, true, false, false, false, false, false, false]) (by kernel_rfl) (by kernel_rfl) ?_
                  refine s_pick rfl rfl rfl rfl rfl ?_
                  refine vOrd_nil ?_
                  refine vTree_one (i := 25) (L := #[true, true, true, true, true, true, true, true, true, true, true, true, true, true, true, true, true, true, true, true, true, true, true, true, true, true, false, false, false, false, false]) (by kernel_rfl) (by kernel_rfl) ?_
                  refine s_move rfl rfl rfl rfl ?_
                  refine vOrd_nil ?_
                  refine vTree_one (i := 26) (L := #[true, true, true, true, true, true, true, true, true, true, true, true, true, true, true, true, true, true, true, true, true, true, true, true, true, true, true, false, false, false, false]) (by kernel_rfl) (by kernel_rfl) ?_
                  refine s_move rfl rfl rfl rfl ?_
                  refine vOrd_nil ?_
                  refine vTree_one (i := 27) (L := #[true, true, true, true, true, true, true, true, true, true, true, true, true, true, true, true, true, true, true, true, true, true, true, true, true, true, true, true, false, false, false]) (by kernel_rfl) (by kernel_rfl) ?_
                  refine s_callT rfl rfl rfl (by kernel_rfl) rfl (asked_any hL) ?_
                  rintro v w97 rfl lw97
                  replace lz := lz.trans lw97
                  try replace hL := hL.later lw97
                  refine vOrd_nil ?_
                  refine vTree_one (i := 28) (L := #[true, true, true, true, true, true, true, true, true, true, true, true, true, true, true, true, true, true, true, true, true, true, true, true, true, true, true, true, true, false, false]) (by kernel_rfl) (by kernel_rfl) ?_
                  refine t_eql rfl rfl rfl rfl rfl (by omega) ?_
                  refine vOrd_nil ?_
                  refine vTree_one (i := 29) (L := #[true, true, true, true, true, true, true, true, true, true, true, true, true, true, true, true, true, true, true, true, true, true, true, true, true, true, true, true, true, true, false]) (by kernel_rfl) (by kernel_rfl) ?_
                  refine s_pick rfl rfl rfl rfl rfl ?_
                  refine vOrd_nil ?_
                  refine vTree_one (i := 30) (L := #[true, true, true, true, true, true, true, true, true, true, true, true, true, true, true, true, true, true, true, true, true, true, true, true, true, true, true, true, true, true, true]) (by kernel_rfl) (by kernel_rfl) ?_
                  refine s_assign rfl rfl rfl rfl ?_
                  refine vOrd_nil ?_
                  refine vTree_end (by kernel_rfl) ?_
                  refine Wp.ret ⟨.inr rfl, fun lW => ⟨_, res_tmp (P := Try.prog) rfl rfl, _, rfl, ?_, lW⟩⟩
                  clear lW
                  rfl
                · refine x_ldA [.int .i64 x.1, .int .i64 x.2] rfl rfl rfl rfl rfl rfl (World.block_lt_of_cell? _ _ (cell_later lz k1)) (fun j u hj => ?_) ?_
                  · match j, hj with
                    | 0, hj => cases hj; exact cell_later lz k1
                    | 1, hj => cases hj; exact cell_later lz k2
                  refine vOrd_nil ?_
                  refine vTree_one (i := 17) (L := #[true, true, true, true, true, true, true, true, true, true, true, true, true, true, true, true, true, true, true, true, true, true, false, false, false, false, false, false, false, false, false]) (by kernel_rfl) (by kernel_rfl) ?_
                  refine s_callH 1007 rfl rfl rfl (by kernel_rfl) rfl rfl (fun vr => (first_any hb hL)) ?_
                  rintro v cs102 w102 ⟨rfl, R102, _, hLq⟩ gw102 vw102
                  replace lz := lz.past gw102 hbz
                  clear hL
                  have hL := hLq
                  clear hLq
                  refine vOrd_nil ?_
                  refine vTree_one (i := 22) (L := #[true, true, true, true, true, true, true, true, true, true, true, true, true, true, true, true, true, true, true, true, true, true, true, false, false, false, false, false, false, false, false]) (by kernel_rfl) (by kernel_rfl) ?_
                  refine s_callT rfl rfl rfl (by kernel_rfl) rfl (rday_any x hxi.1) ?_
                  rintro v w103 rfl lw103
                  replace lz := lz.trans lw103
                  try replace hL := hL.later lw103
                  refine vOrd_nil ?_
                  refine vTree_one (i := 23) (L := #[true, true, true, true, true, true, true, true, true, true, true, true, true, true, true, true, true, true, true, true, true, true, true, true, false, false, false, false, false, false, false]) (by kernel_rfl) (by kernel_rfl) ?_
                  refine t_eql rfl rfl rfl rfl rfl (by exact (A_at hx).1) ?_
                  refine vOrd_nil ?_
                  refine vTree_one (i := 24) (L := #[true, true, true, true, true, true, true, true, true, true, true, true, true, true, true, true, true, true, true, true, true, true, true, true, true, false, false, false, false, false, false]) (by kernel_rfl) (by kernel_rfl) ?_
                  refine s_pick rfl rfl rfl rfl rfl ?_
                  refine vOrd_nil ?_
                  refine vTree_one (i := 25) (L := #[true, true, true, true, true, true, true, true, true, true, true, true, true, true, true, true, true, true, true, true, true, true, true, true, true, true, false, false, false, false, false]) (by kernel_rfl) (by kernel_rfl) ?_
                  refine s_move rfl rfl rfl rfl ?_
                  refine vOrd_nil ?_
                  refine vTree_one (i := 26) (L := #[true, true, true, true, true, true, true, true, true, true, true, true, true, true, true, true, true, true, true, true, true, true, true, true, true, true, true, false, false, false, false]) (by kernel_rfl) (by kernel_rfl) ?_
                  refine s_move rfl rfl rfl rfl ?_
                  refine vOrd_nil ?_
                  refine vTree_one (i := 27) (L := #[true, true, true, true, true, true, true, true, true, true, true, true, true, true, true, true, true, true, true, true, true, true, true, true, true, true, true, true, false, false, false]) (by kernel_rfl) (by kernel_rfl) ?_
                  refine s_callT rfl rfl rfl (by kernel_rfl) rfl (asked_any hL) ?_
                  rintro v w104 rfl lw104
                  replace lz := lz.trans lw104
                  try replace hL := hL.later lw104
                  refine vOrd_nil ?_
                  refine vTree_one (i := 28) (L := #[true, true, true, true, true, true, true, true, true, true, true, true, true, true, true, true, true, true, true, true, true, true, true, true, true, true, true, true, true, false, false]) (by kernel_rfl) (by kernel_rfl) ?_
                  refine t_eql rfl rfl rfl rfl rfl (by omega) ?_
                  refine vOrd_nil ?_
                  refine vTree_one (i := 29) (L := #[true, true, true, true, true, true, true, true, true, true, true, true, true, true, true, true, true, true, true, true, true, true, true, true, true, true, true, true, true, true, false]) (by kernel_rfl) (by kernel_rfl) ?_
                  refine s_pick rfl rfl rfl rfl rfl ?_
                  refine vOrd_nil ?_
                  refine vTree_one (i := 30) (L := #[true, true, true, true, true, true, true, true, true, true, true, true, true, true, true, true, true, true, true, true, true, true, true, true, true, true, true, true, true, true, true]) (by kernel_rfl) (by kernel_rfl) ?_
                  refine s_assign rfl rfl rfl rfl ?_
                  refine vOrd_nil ?_
                  refine vTree_end (by kernel_rfl) ?_
                  refine Wp.ret ⟨.inr rfl, fun lW => ⟨_, res_tmp (P := Try.prog) rfl rfl, _, rfl, ?_, lW⟩⟩
                  clear lW
                  rfl
            · refine s_idx (sz := 2) (ao + 0 * 2) rfl rfl rfl rfl rfl rfl rfl (by omega) (by omega) (by omega) ?_
              refine vOrd_nil ?_
              refine vTree_two (i := 16) (k := 21) (L1 := #[true, true, true, true, true, true, true, true, true, true, true, true, true, true, true, true, true, false, true, true, true, false, false, false, false, false, false, false, false, false, false]) (L2 := #[true, true, true, true, true, true, true, true, true, true, true, true, true, true, true, true, false, false, true, true, true, true, false, false, false, false, false, false, false, false, false]) (by kernel_rfl) (by kernel_rfl) (by kernel_rfl) ?_ ?_
              · refine s_move rfl rfl rfl rfl ?_
                refine vOrd_nil ?_
                refine vTree_two (i := 17) (k := 21) (L1 := #[true, true, true, true, true, true, true, true, true, true, true, true, true, true, true, true, true, true, true, true, true, false, false, false, false, false, false, false, false, false, false]) (L2 := #[true, true, true, true, true, true, true, true, true, true, true, true, true, true, true, true, true, false, true, true, true, true, false, false, false, false, false, false, false, false, false]) (by kernel_rfl) (by kernel_rfl) (by kernel_rfl) ?_ ?_
                · refine s_callH 1007 rfl rfl rfl (by kernel_rfl) rfl rfl (fun vr => (first_any hb hL)) ?_
                  rintro v cs106 w106 ⟨rfl, R106, _, hLq⟩ gw106 vw106
                  replace lz := lz.past gw106 hbz
                  clear hL
                  have hL := hLq
                  clear hLq
                  refine vOrd_nil ?_
                  refine vTree_one (i := 21) (L := #[true, true, true, true, true, true, true, true, true, true, true, true, true, true, true, true, true, true, true, true, true, true, false, false, false, false, false, false, false, false, false]) (by kernel_rfl) (by kernel_rfl) ?_
                  refine x_ldA [.int .i64 x.1, .int .i64 x.2] rfl rfl rfl rfl rfl rfl (World.block_lt_of_cell? _ _ (cell_later lz k1)) (fun j u hj => ?_) ?_
                  · match j, hj with
                    | 0, hj => cases hj; exact cell_later lz k1
                    | 1, hj => cases hj; exact cell_later lz k2
                  refine vOrd_nil ?_
                  refine vTree_one (i := 22) (L := #[true, true, true, true, true, true, true, true, true, true, true, true, true, true, true, true, true, true, true, true, true, true, true, false, false, false, false, false, false, false, false]) (by kernel_rfl) (by kernel_rfl) ?_
                  refine s_callT rfl rfl rfl (by kernel_rfl) rfl (rday_any x hxi.1) ?_
                  rintro v w111 rfl lw111
                  replace lz := lz.trans lw111
                  try replace hL := hL.later lw111
                  refine vOrd_nil ?_
                  refine vTree_one (i := 23) (L := #[true, true, true, true, true, true, true, true, true, true, true, true, true, true, true, true, true, true, true, true, true, true, true, true, false, false, false, false, false, false, false]) (by kernel_rfl) (by kernel_rfl) ?_
                  refine t_eql rfl rfl rfl rfl rfl (by exact (A_at hx).1) ?_
                  refine vOrd_nil ?_
                  refine vTree_one (i := 24) (L := #[true, true, true, true, true, true, true, true, true, true, true, true, true, true, true, true, true, true, true, true, true, true, true, true, true, false, false, false, false, false, false]) (by kernel_rfl) (by kernel_rfl) ?_
                  refine s_pick rfl rfl rfl rfl rfl ?_
                  refine vOrd_nil ?_
                  refine vTree_one (i := 25) (L := #[true, true, true, true, true, true, true, true, true, true, true, true, true, true, true, true, true, true, true, true, true, true, true, true, true, true, false, false, false, false, false]) (by kernel_rfl) (by kernel_rfl) ?_
                  refine s_move rfl rfl rfl rfl ?_
                  refine vOrd_nil ?_
                  refine vTree_one (i := 26) (L := #[true, true, true, true, true, true, true, true, true, true, true, true, true, true, true, true, true, true, true, true, true, true, true, true, true, true, true, false, false, false, false]) (by kernel_rfl) (by kernel_rfl) ?_
                  refine s_move rfl rfl rfl rfl ?_
                  refine vOrd_nil ?_
                  refine vTree_one (i := 27) (L := #[true, true, true, true, true, true, true, true, true, true, true, true, true, true, true, true, true, true, true, true, true, true, true, true, true, true, true, true, false, false, false]) (by kernel_rfl) (by kernel_rfl) ?_
                  refine s_callT rfl rfl rfl (by kernel_rfl) rfl (asked_any hL) ?_
                  rintro v w112 rfl lw112
                  replace lz := lz.trans lw112
                  try replace hL := hL.later lw112
                  refine vOrd_nil ?_
                  refine vTree_one (i := 28) (L := #[true, true, true, true, true, true, true, true, true, true, true, true, true, true, true, true, true, true, true, true, true, true, true, true, true, true, true, true, true, false, false]) (by kernel_rfl) (by kernel_rfl) ?_
                  refine t_eql rfl rfl rfl rfl rfl (by omega) ?_
                  refine vOrd_nil ?_
                  refine vTree_one (i := 29) (L := #[true, true, true, true, true, true, true, true, true, true, true, true, true, true, true, true, true, true, true, true, true, true, true, true, true, true, true, true, true, true, false]) (by kernel_rfl) (by kernel_rfl) ?_
                  refine s_pick rfl rfl rfl rfl rfl ?_
                  refine vOrd_nil ?_
                  refine vTree_one (i := 30) (L := #[true, true, true, true, true, true, true, true, true, true, true, true, true, true, true, true, true, true, true, true, true, true, true, true, true, true, true, true, true, true, true]) (by kernel_rfl) (by kernel_rfl) ?_
                  refine s_assign rfl rfl rfl rfl ?_
                  refine vOrd_nil ?_
                  refine vTree_end (by kernel_rfl) ?_
                  refine Wp.ret ⟨.inr rfl, fun lW => ⟨_, res_tmp (P := Try.prog) rfl rfl, _, rfl, ?_, lW⟩⟩
                  clear lW
                  rfl
                · refine x_ldA [.int .i64 x.1, .int .i64 x.2] rfl rfl rfl rfl rfl rfl (World.block_lt_of_cell? _ _ (cell_later lz k1)) (fun j u hj => ?_) ?_
                  · match j, hj with
                    | 0, hj => cases hj; exact cell_later lz k1
                    | 1, hj => cases hj; exact cell_later lz k2
                  refine vOrd_nil ?_
                  refine vTree_one (i := 17) (L := #[true, true, true, true, true, true, true, true, true, true, true, true, true, true, true, true, true, true, true, true, true, true, false, false, false, false, false, false, false, false, false]) (by kernel_rfl) (by kernel_rfl) ?_
                  refine s_callH 1007 rfl rfl rfl (by kernel_rfl) rfl rfl (fun vr => (first_any hb hL)) ?_
                  rintro v cs117 w117 ⟨rfl, R117, _, hLq⟩ gw117 vw117
                  replace lz := lz.past gw117 hbz
                  clear hL
                  have hL := hLq
                  clear hLq
                  refine vOrd_nil ?_
                  refine vTree_one (i := 22) (L := #[true, true, true, true, true, true, true, true, true, true, true, true, true, true, true, true, true, true, true, true, true, true, true, false, false, false, false, false, false, false, false]) (by kernel_rfl) (by kernel_rfl) ?_
                  refine s_callT rfl rfl rfl (by kernel_rfl) rfl (rday_any x hxi.1) ?_
                  rintro v w118 rfl lw118
                  replace lz := lz.trans lw118
                  try replace hL := hL.later lw118
                  refine vOrd_nil ?_
                  refine vTree_one (i := 23) (L := #[true, true, true, true, true, true, true, true, true, true, true, true, true, true, true, true, true, true, true, true, true, true, true, true, false, false, false, false, false, false, false]) (by kernel_rfl) (by kernel_rfl) ?_
                  refine t_eql rfl rfl rfl rfl rfl (by exact (A_at hx).1) ?_
                  refine vOrd_nil ?_
                  refine vTree_one (i := 24) (L := #[true, true, true, true, true, true, true, true, true, true, true, true, true, true, true, true, true, true, true, true, true, true, true, true, true, false, false, false, false, false, false]) (by kernel_rfl) (by kernel_rfl) ?_
                  refine s_pick rfl rfl rfl rfl rfl ?_
                  refine vOrd_nil ?_
                  refine vTree_one (i := 25) (L := #[true, true, true, true, true, true, true, true, true, true, true, true, true, true, true, true, true, true, true, true, true, true, true, true, true, true, false, false, false, false, false]) (by kernel_rfl) (by kernel_rfl) ?_
                  refine s_move rfl rfl rfl rfl ?_
                  refine vOrd_nil ?_
                  refine vTree_one (i := 26) (L := #[true, true, true, true, true, true, true, true, true, true, true, true, true, true, true, true, true, true, true, true, true, true, true, true, true, true, true, false, false, false, false]) (by kernel_rfl) (by kernel_rfl) ?_
                  refine s_move rfl rfl rfl rfl ?_
                  refine vOrd_nil ?_
                  refine vTree_one (i := 27) (L := #[true, true, true, true, true, true, true, true, true, true, true, true, true, true, true, true, true, true, true, true, true, true, true, true, true, true, true, true, false, false, false]) (by kernel_rfl) (by kernel_rfl) ?_
                  refine s_callT rfl rfl rfl (by kernel_rfl) rfl (asked_any hL) ?_
                  rintro v w119 rfl lw119
                  replace lz := lz.trans lw119
                  try replace hL := hL.later lw119
                  refine vOrd_nil ?_
                  refine vTree_one (i := 28) (L := #[true, true, true, true, true, true, true, true, true, true, true, true, true, true, true, true, true, true, true, true, true, true, true, true, true, true, true, true, true, false, false]) (by kernel_rfl) (by kernel_rfl) ?_
                  refine t_eql rfl rfl rfl rfl rfl (by omega) ?_
                  refine vOrd_nil ?_
                  refine vTree_one (i := 29) (L := #[true, true, true, true, true, true, true, true, true, true, true, true, true, true, true, true, true, true, true, true, true, true, true, true, true, true, true, true, true, true, false]) (by kernel_rfl) (by kernel_rfl) ?_
                  refine s_pick rfl rfl rfl rfl rfl ?_
                  refine vOrd_nil ?_
                  refine vTree_one (i := 30) (L := #[true, true, true, true, true, true, true, true, true, true, true, true, true, true, true, true, true, true, true, true, true, true, true, true, true, true, true, true, true, true, true]) (by kernel_rfl) (by kernel_rfl) ?_
                  refine s_assign rfl rfl rfl rfl ?_
                  refine vOrd_nil ?_
                  refine vTree_end (by kernel_rfl) ?_
                  refine Wp.ret ⟨.inr rfl, fun lW => ⟨_, res_tmp (P := Try.prog) rfl rfl, _, rfl, ?_, lW⟩⟩
                  clear lW
                  rfl
              · refine x_ldA [.int .i64 x.1, .int .i64 x.2] rfl rfl rfl rfl rfl rfl (World.block_lt_of_cell? _ _ (cell_later lz k1)) (fun j u hj => ?_) ?_
                · match j, hj with
                  | 0, hj => cases hj; exact cell_later lz k1
                  | 1, hj => cases hj; exact cell_later lz k2
                refine vOrd_nil ?_
                refine vTree_one (i := 16) (L := #[true, true, true, true, true, true, true, true, true, true, true, true, true, true, true, true, true, false, true, true, true, true, false, false, false, false, false, false, false, false, false]) (by kernel_rfl) (by kernel_rfl) ?_
                refine s_move rfl rfl rfl rfl ?_
                refine vOrd_nil ?_
                refine vTree_one (i := 17) (L := #[true, true, true, true, true, true, true, true, true, true, true, true, true, true, true, true, true, true, true, true, true, true, false, false, false, false, false, false, false, false, false]) (by kernel_rfl) (by kernel_rfl) ?_
                refine s_callH 1007 rfl rfl rfl (by kernel_rfl) rfl rfl (fun vr => (first_any hb hL)) ?_
                rintro v cs124 w124 ⟨rfl, R124, _, hLq⟩ gw124 vw124
                replace lz := lz.past gw124 hbz
                clear hL
                have hL := hLq
                clear hLq
                refine vOrd_nil ?_
                refine vTree_one (i := 22) (L := #[true, true, true, true, true, true, true, true, true, true, true, true, true, true, true, true, true, true, true, true, true, true, true, false, false, false, false, false, false, false, false]) (by kernel_rfl) (by kernel_rfl) ?_
                refine s_callT rfl rfl rfl (by kernel_rfl) rfl (rday_any x hxi.1) ?_
                rintro v w125 rfl lw125
                replace lz := lz.trans lw125
                try replace hL := hL.later lw125
                refine vOrd_nil ?_
                refine vTree_one (i := 23) (L := #[true, true, true, true, true, true, true, true, true, true, true, true, true, true, true, true, true, true, true, true, true, true, true, true, false, false, false, false, false, false, false]) (by kernel_rfl) (by kernel_rfl) ?_
                refine t_eql rfl rfl rfl rfl rfl (by exact (A_at hx).1) ?_
                refine vOrd_nil ?_
                refine vTree_one (i := 24) (L := #[true, true, true, true, true, true, true, true, true, true, true, true, true, true, true, true, true, true, true, true, true, true, true, true, true, false, false, false, false, false, false]) (by kernel_rfl) (by kernel_rfl) ?_
                refine s_pick rfl rfl rfl rfl rfl ?_
                refine vOrd_nil ?_
                refine vTree_one (i := 25) (L := #[true, true, true, true, true, true, true, true, true, true, true, true, true, true, true, true, true, true, true, true, true, true, true, true, true, true, false, false, false, false, false]) (by kernel_rfl) (by kernel_rfl) ?_
                refine s_move rfl rfl rfl rfl ?_
                refine vOrd_nil ?_
                refine vTree_one (i := 26) (L := #[true, true, true, true, true, true, true, true, true, true, true, true, true, true, true, true, true, true, true, true, true, true, true, true, true, true, true, false, false, false, false]) (by kernel_rfl) (by kernel_rfl) ?_
                refine s_move rfl rfl rfl rfl ?_
                refine vOrd_nil ?_
                refine vTree_one (i := 27) (L := #[true, true, true, true, true, true, true, true, true, true, true, true, true, true, true, true, true, true, true, true, true, true, true, true, true, true, true, true, false, false, false]) (by kernel_rfl) (by kernel_rfl) ?_
                refine s_callT rfl rfl rfl (by kernel_rfl) rfl (asked_any hL) ?_
                rintro v w126 rfl lw126
                replace lz := lz.trans lw126
                try replace hL := hL.later lw126
                refine vOrd_nil ?_
                refine vTree_one (i := 28) (L := #[true, true, true, true, true, true, true, true, true, true, true, true, true, true, true, true, true, true, true, true, true, true, true, true, true, true, true, true, true, false, false]) (by kernel_rfl) (by kernel_rfl) ?_
                refine t_eql rfl rfl rfl rfl rfl (by omega) ?_
                refine vOrd_nil ?_
                refine vTree_one (i := 29) (L := #[true, true, true, true, true, true, true, true, true, true, true, true, true, true, true, true, true, true, true, true, true, true, true, true, true, true, true, true, true, true, false]) (by kernel_rfl) (by kernel_rfl) ?_
                refine s_pick rfl rfl rfl rfl rfl ?_
                refine vOrd_nil ?_
                refine vTree_one (i := 30) (L := #[true, true, true, true, true, true, true, true, true, true, true, true, true, true, true, true, true, true, true, true, true, true, true, true, true, true, true, true, true, true, true]) (by kernel_rfl) (by kernel_rfl) ?_
                refine s_assign rfl rfl rfl rfl ?_
                refine vOrd_nil ?_
                refine vTree_end (by kernel_rfl) ?_
                refine Wp.ret ⟨.inr rfl, fun lW => ⟨_, res_tmp (P := Try.prog) rfl rfl, _, rfl, ?_, lW⟩⟩
                clear lW
                rfl
      · refine s_load rfl rfl rfl rfl rfl rfl rfl ?_
        refine vOrd_nil ?_
        refine vTree_one (i := 11) (L := #[true, true, true, true, true, true, true, true, true, true, true, true, true, false, false, false, false, false, false, false, false, false, false, false, false, false, false, false, false, false, false]) (by kernel_rfl) (by kernel_rfl) ?_
        refine s_callT rfl rfl rfl (by kernel_rfl) rfl (table_any hb hL) ?_
        rintro v w127 ⟨q1, rfl, _, hq⟩ lw127
        replace lz := lz.trans lw127
        try replace hL := hL.later lw127
        refine vOrd_nil ?_
        refine vTree_one (i := 13) (L := #[true, true, true, true, true, true, true, true, true, true, true, true, true, true, false, false, false, false, false, false, false, false, false, false, false, false, false, false, false, false, false]) (by kernel_rfl) (by kernel_rfl) ?_
        refine s_callT rfl rfl rfl (by kernel_rfl) rfl (tsame_any t hu he (ents_var (by first | exact hq | exact hq.later (by assumption)) (fun j => can_all hb (j := j))) (hv.later lz) (by omega)) ?_
        rintro v w128 rfl lw128
        replace lz := lz.trans lw128
        try replace hL := hL.later lw128
        refine vOrd_nil ?_
        refine vTree_one (i := 14) (L := #[true, true, true, true, true, true, true, true, true, true, true, true, true, true, true, false, false, false, false, false, false, false, false, false, false, false, false, false, false, false, false]) (by kernel_rfl) (by kernel_rfl) ?_
        refine s_pick rfl rfl rfl rfl rfl ?_
        refine vOrd_nil ?_
        refine vTree_one (i := 15) (L := #[true, true, true, true, true, true, true, true, true, true, true, true, true, true, true, true, false, false, false, false, false, false, false, false, false, false, false, false, false, false, false]) (by kernel_rfl) (by kernel_rfl) ?_
        refine s_move rfl rfl rfl rfl ?_
        refine vOrd_nil ?_
        refine vTree_two (i := 16) (k := 18) (L1 := #[true, true, true, true, true, true, true, true, true, true, true, true, true, true, true, true, true, false, false, false, false, false, false, false, false, false, false, false, false, false, false]) (L2 := #[true, true, true, true, true, true, true, true, true, true, true, true, true, true, true, true, false, false, true, false, false, false, false, false, false, false, false, false, false, false, false]) (by kernel_rfl) (by kernel_rfl) (by kernel_rfl) ?_ ?_
        · refine s_move rfl rfl rfl rfl ?_
          refine vOrd_nil ?_
          refine vTree_two (i := 17) (k := 18) (L1 := #[true, true, true, true, true, true, true, true, true, true, true, true, true, true, true, true, true, true, false, false, false, false, false, false, false, false, false, false, false, false, false]) (L2 := #[true, true, true, true, true, true, true, true, true, true, true, true, true, true, true, true, true, false, true, false, false, false, false, false, false, false, false, false, false, false, false]) (by kernel_rfl) (by kernel_rfl) (by kernel_rfl) ?_ ?_
          · refine s_callH 1007 rfl rfl rfl (by kernel_rfl) rfl rfl (fun vr => (first_any hb hL)) ?_
            rintro v cs129 w129 ⟨rfl, R129, _, hLq⟩ gw129 vw129
            replace lz := lz.past gw129 hbz
            clear hL
            have hL := hLq
            clear hLq
            refine vOrd_nil ?_
            refine vTree_one (i := 18) (L := #[true, true, true, true, true, true, true, true, true, true, true, true, true, true, true, true, true, true, true, false, false, false, false, false, false, false, false, false, false, false, false]) (by kernel_rfl) (by kernel_rfl) ?_
            refine s_field 2 rfl rfl rfl rfl rfl ?_
            refine vOrd_nil ?_
            refine vTree_one (i := 19) (L := #[true, true, true, true, true, true, true, true, true, true, true, true, true, true, true, true, true, true, true, true, false, false, false, false, false, false, false, false, false, false, false]) (by kernel_rfl) (by kernel_rfl) ?_
            refine s_load rfl rfl rfl rfl rfl rfl rfl ?_
            refine vOrd_nil ?_
            refine vTree_one (i := 20) (L := #[true, true, true, true, true, true, true, true, true, true, true, true, true, true, true, true, true, true, true, true, true, false, false, false, false, false, false, false, false, false, false]) (by kernel_rfl) (by kernel_rfl) ?_
            refine s_idx (sz := 2) (ao + 0 * 2) rfl rfl rfl rfl rfl rfl rfl (by omega) (by omega) (by omega) ?_
            refine vOrd_nil ?_
            refine vTree_one (i := 21) (L := #[true, true, true, true, true, true, true, true, true, true, true, true, true, true, true, true, true, true, true, true, true, true, false, false, false, false, false, false, false, false, false]) (by kernel_rfl) (by kernel_rfl) ?_
            refine x_ldA [.int .i64 x.1, .int .i64 x.2] rfl rfl rfl rfl rfl rfl (World.block_lt_of_cell? _ _ (cell_later lz k1)) (fun j u hj => ?_) ?_
            · match j, hj with
              | 0, hj => cases hj; exact cell_later lz k1
              | 1, hj => cases hj; exact cell_later lz k2
            refine vOrd_nil ?_
            refine vTree_one (i := 22) (L := #[true, true, true, true, true, true, true, true, true, true, true, true, true, true, true, true, true, true, true, true, true, true, true, false, false, false, false, false, false, false, false]) (by kernel_rfl) (by kernel_rfl) ?_
            refine s_callT rfl rfl rfl (by kernel_rfl) rfl (rday_any x hxi.1) ?_
            rintro v w135 rfl lw135
            replace lz := lz.trans lw135
            try replace hL := hL.later lw135
            refine vOrd_nil ?_
            refine vTree_one (i := 23) (L := #[true, true, true, true, true, true, true, true, true, true, true, true, true, true, true, true, true, true, true, true, true, true, true, true, false, false, false, false, false, false, false]) (by kernel_rfl) (by kernel_rfl) ?_
            refine t_eql rfl rfl rfl rfl rfl (by exact (A_at hx).1) ?_
            refine vOrd_nil ?_
            refine vTree_one (i := 24) (L := #[true, true, true, true, true, true, true, true, true, true, true, true, true, true, true, true, true, true, true, true, true, true, true, true, true, false, false, false, false, false, false]) (by kernel_rfl) (by kernel_rfl) ?_
            refine s_pick rfl rfl rfl rfl rfl ?_
            refine vOrd_nil ?_
            refine vTree_one (i := 25) (L := #[true, true, true, true, true, true, true, true, true, true, true, true, true, true, true, true, true, true, true, true, true, true, true, true, true, true, false, false, false, false, false]) (by kernel_rfl) (by kernel_rfl) ?_
            refine s_move rfl rfl rfl rfl ?_
            refine vOrd_nil ?_
            refine vTree_one (i := 26) (L := #[true, true, true, true, true, true, true, true, true, true, true, true, true, true, true, true, true, true, true, true, true, true, true, true, true, true, true, false, false, false, false]) (by kernel_rfl) (by kernel_rfl) ?_
            refine s_move rfl rfl rfl rfl ?_
            refine vOrd_nil ?_
            refine vTree_one (i := 27) (L := #[true, true, true, true, true, true, true, true, true, true, true, true, true, true, true, true, true, true, true, true, true, true, true, true, true, true, true, true, false, false, false]) (by kernel_rfl) (by kernel_rfl) ?_
            refine s_callT rfl rfl rfl (by kernel_rfl) rfl (asked_any hL) ?_
            rintro v w136 rfl lw136
            replace lz := lz.trans lw136
            try replace hL := hL.later lw136
            refine vOrd_nil ?_
            refine vTree_one (i := 28) (L := #[true, true, true, true, true, true, true, true, true, true, true, true, true, true, true, true, true, true, true, true, true, true, true, true, true, true, true, true, true, false, false]) (by kernel_rfl) (by kernel_rfl) ?_
            refine t_eql rfl rfl rfl rfl rfl (by omega) ?_
            refine vOrd_nil ?_
            refine vTree_one (i := 29) (L := #[true, true, true, true, true, true, true, true, true, true, true, true, true, true, true, true, true, true, true, true, true, true, true, true, true, true, true, true, true, true, false]) (by kernel_rfl) (by kernel_rfl) ?_
            refine s_pick rfl rfl rfl rfl rfl ?_
            refine vOrd_nil ?_
            refine vTree_one (i := 30) (L := #[true, true, true, true, true, true, true, true, true, true, true, true, true, true, true, true, true, true, true, true, true, true, true, true, true, true, true, true, true, true, true]) (by kernel_rfl) (by kernel_rfl) ?_
            refine s_assign rfl rfl rfl rfl ?_
            refine vOrd_nil ?_
            refine vTree_end (by kernel_rfl) ?_
            refine Wp.ret ⟨.inr rfl, fun lW => ⟨_, res_tmp (P := Try.prog) rfl rfl, _, rfl, ?_, lW⟩⟩
            clear lW
            rfl
          · refine s_field 2 rfl rfl rfl rfl rfl ?_
            refine vOrd_nil ?_
            refine vTree_two (i := 17) (k := 19) (L1 := #[true, true, true, true, true, true, true, true, true, true, true, true, true, true, true, true, true, true, true, false, false, false, false, false, false, false, false, false, false, false, false]) (L2 := #[true, true, true, true, true, true, true, true, true, true, true, true, true, true, true, true, true, false, true, true, false, false, false, false, false, false, false, false, false, false, false]) (by kernel_rfl) (by kernel_rfl) (by kernel_rfl) ?_ ?_
            · refine s_callH 1007 rfl rfl rfl (by kernel_rfl) rfl rfl (fun vr => (first_any hb hL)) ?_
              rintro v cs137 w137 ⟨rfl, R137, _, hLq⟩ gw137 vw137
              replace lz := lz.past gw137 hbz
              clear hL
              have hL := hLq
              clear hLq
              refine vOrd_nil ?_
              refine vTree_one (i := 19) (L := #[true, true, true, true, true, true, true, true, true, true, true, true, true, true, true, true, true, true, true, true, false, false, false, false, false, false, false, false, false, false, false]) (by kernel_rfl) (by kernel_rfl) ?_
              refine s_load rfl rfl rfl rfl rfl rfl rfl ?_
              refine vOrd_nil ?_
              refine vTree_one (i := 20) (L := #[true, true, true, true, true, true, true, true, true, true, true, true, true, true, true, true, true, true, true, true, true, false, false, false, false, false, false, false, false, false, false]) (by kernel_rfl) (by kernel_rfl) ?_
              refine s_idx (sz := 2) (ao + 0 * 2) rfl rfl rfl rfl rfl rfl rfl (by omega) (by omega) (by omega) ?_
              refine vOrd_nil ?_
              refine vTree_one (i := 21) (L := #[true, true, true, true, true, true, true, true, true, true, true, true, true, true, true, true, true, true, true, true, true, true, false, false, false, false, false, false, false, false, false]) (by kernel_rfl) (by kernel_rfl) ?_
              refine x_ldA [.int .i64 x.1, .int .i64 x.2] rfl rfl rfl rfl rfl rfl (World.block_lt_of_cell? _ _ (cell_later lz k1)) (fun j u hj => ?_) ?_
              · match j, hj with
                | 0, hj => cases hj; exact cell_later lz k1
                | 1, hj => cases hj; exact cell_later lz k2
              refine vOrd_nil ?_
              refine vTree_one (i := 22) (L := #[true, true, true, true, true, true, true, true, true, true, true, true, true, true, true, true, true, true, true, true, true, true, true, false, false, false, false, false, false, false, false]) (by kernel_rfl) (by kernel_rfl) ?_
              refine s_callT rfl rfl rfl (by kernel_rfl) rfl (rday_any x hxi.1) ?_
              rintro v w143 rfl lw143
              replace lz := lz.trans lw143
              try replace hL := hL.later lw143
              refine vOrd_nil ?_
              refine vTree_one (i := 23) (L := #[true, true, true, true, true, true, true, true, true, true, true, true, true, true, true, true, true, true, true, true, true, true, true, true, false, false, false, false, false, false, false]) (by kernel_rfl) (by kernel_rfl) ?_
              refine t_eql rfl rfl rfl rfl rfl (by exact (A_at hx).1) ?_
              refine vOrd_nil ?_
              refine vTree_one (i := 24) (L := #[true, true, true, true, true, true, true, true, true, true, true, true, true, true, true, true, true, true, true, true, true, true, true, true, true, false, false, false, false, false, false]) (by kernel_rfl) (by kernel_rfl) ?_
              refine s_pick rfl rfl rfl rfl rfl ?_
              refine vOrd_nil ?_
              refine vTree_one (i := 25) (L := #[true, true, true, true, true, true, true, true, true, true, true, true, true, true, true, true, true, true, true, true, true, true, true, true, true, true, false, false, false, false, false]) (by kernel_rfl) (by kernel_rfl) ?_
              refine s_move rfl rfl rfl rfl ?_
              refine vOrd_nil ?_
              refine vTree_one (i := 26) (L := #[true, true, true, true, true, true, true, true, true, true, true, true, true, true, true, true, true, true, true, true, true, true, true, true, true, true, true, false, false, false, false]) (by kernel_rfl) (by kernel_rfl) ?_
              refine s_move rfl rfl rfl rfl ?_
              refine vOrd_nil ?_
              refine vTree_one (i := 27) (L := #[true, true, true, true, true, true, true, true, true, true, true, true, true, true, true, true, true, true, true, true, true, true, true, true, true, true, true, true, false, false, false]) (by kernel_rfl) (by kernel_rfl) ?_
              refine s_callT rfl rfl rfl (by kernel_rfl) rfl (asked_any hL) ?_
              rintro v w144 rfl lw144
              replace lz := lz.trans lw144
              try replace hL := hL.later lw144
              refine vOrd_nil ?_
              refine vTree_one (i := 28) (L := #[true, true, true, true, true, true, true, true, true, true, true, true, true, true, true, true, true, true, true, true, true, true, true, true, true, true, true, true, true, false, false]) (by kernel_rfl) (by kernel_rfl) ?_
              refine t_eql rfl rfl rfl rfl rfl (by omega) ?_
              refine vOrd_nil ?_
              refine vTree_one (i := 29) (L := #[true, true, true, true, true, true, true, true, true, true, true, true, true, true, true, true, true, true, true, true, true, true, true, true, true, true, true, true, true, true, false]) (by kernel_rfl) (by kernel_rfl) ?_
              refine s_pick rfl rfl rfl rfl rfl ?_
              refine vOrd_nil ?_
              refine vTree_one (i := 30) (L := #[true, true, true, true, true, true, true, true, true, true, true, true, true, true, true, true, true, true, true, true, true, true, true, true, true, true, true, true, true, true, true]) (by kernel_rfl) (by kernel_rfl) ?_
              refine s_assign rfl rfl rfl rfl ?_
              refine vOrd_nil ?_
              refine vTree_end (by kernel_rfl) ?_
              refine Wp.ret ⟨.inr rfl, fun lW => ⟨_, res_tmp (P := Try.prog) rfl rfl, _, rfl, ?_, lW⟩⟩
              clear lW
              rfl
            · refine s_load rfl rfl rfl rfl rfl rfl rfl ?_
              refine vOrd_nil ?_
              refine vTree_two (i := 17) (k := 20) (L1 := #[true, true, true, true, true, true, true, true, true, true, true, true, true, true, true, true, true, true, true, true, false, false, false, false, false, false, false, false, false, false, false]) (L2 := #[true, true, true, true, true, true, true, true, true, true, true, true, true, true, true, true, true, false, true, true, true, false, false, false, false, false, false, false, false, false, false]) (by kernel_rfl) (by kernel_rfl) (by kernel_rfl) ?_ ?_
              · refine s_callH 1007 rfl rfl rfl (by kernel_rfl) rfl rfl (fun vr => (first_any hb hL)) ?_
                rintro v cs145 w145 ⟨rfl, R145, _, hLq⟩ gw145 vw145
                replace lz := lz.past gw145 hbz
                clear hL
                have hL := hLq
                clear hLq
                refine vOrd_nil ?_
                refine vTree_one (i := 20) (L := #[true, true, true, true, true, true, true, true, true, true, true, true, true, true, true, true, true, true, true, true, true, false, false, false, false, false, false, false, false, false, false]) (by kernel_rfl) (by kernel_rfl) ?_
                refine s_idx (sz := 2) (ao + 0 * 2) rfl rfl rfl rfl rfl rfl rfl (by omega) (by omega) (by omega) ?_
                refine vOrd_nil ?_
                refine vTree_one (i := 21) (L := #[true, true, true, true, true, true, true, true, true, true, true, true, true, true, true, true, true, true, true, true, true, true, false, false, false, false, false, false, false, false, false]) (by kernel_rfl) (by kernel_rfl) ?_
                refine x_ldA [.int .i64 x.1, .int .i64 x.2] rfl rfl rfl rfl rfl rfl (World.block_lt_of_cell? _ _ (cell_later lz k1)) (fun j u hj => ?_) ?_
                · match j, hj with
                  | 0, hj => cases hj; exact cell_later lz k1
                  | 1, hj => cases hj; exact cell_later lz k2
                refine vOrd_nil ?_
                refine vTree_one (i := 22) (L := #[true, true, true, true, true, true, true, true, true, true, true, true, true, true, true, true, true, true, true, true, true, true, true, false, false, false, false, false, false, false, false]) (by kernel_rfl) (by kernel_rfl) ?_
                refine s_callT rfl rfl rfl (by kernel_rfl) rfl (rday_any x hxi.1) ?_
                rintro v w151 rfl lw151
                replace lz := lz.trans lw151
                try replace hL := hL.later lw151
                refine vOrd_nil ?_
                refine vTree_one (i := 23) (L := #[true, true, true, true, true, true, true, true, true, true, true, true, true, true, true, true, true, true, true, true, true, true, true, true, false, false, false, false, false, false, false]) (by kernel_rfl) (by kernel_rfl) ?_
                refine t_eql rfl rfl rfl rfl rfl (by exact (A_at hx).1) ?_
                refine vOrd_nil ?_
                refine vTree_one (i := 24) (L := #[true, true, true, true, true, true, true, true, true, true, true, true, true, true, true, true, true, true, true, true, true, true, true, true, true, false, false, false, false, false, false]) (by kernel_rfl) (by kernel_rfl) ?_
                refine s_pick rfl rfl rfl rfl rfl ?_
                refine vOrd_nil ?_
                refine vTree_one (i := 25) (L := #[true, true, true, true, true, true, true, true, true, true, true, true, true, true, true, true, true, true, true, true, true, true, true, true, true, true, false, false, false, false, false]) (by kernel_rfl) (by kernel_rfl) ?_
                refine s_move rfl rfl rfl rfl ?_
                refine vOrd_nil ?_
                refine vTree_one (i := 26) (L := #[true, true, true, true, true, true, true, true, true, true, true, true, true, true, true, true, true, true, true, true, true, true, true, true, true, true, true, false, false, false, false]) (by kernel_rfl) (by kernel_rfl) ?_
                refine s_move rfl rfl rfl rfl ?_
                refine vOrd_nil ?_
                refine vTree_one (i := 27) (L := #[true, true, true, true, true, true, true, true, true, true, true, true, true, true, true, true, true, true, true, true, true, true, true, true, true, true, true, true, false, false, false]) (by kernel_rfl) (by kernel_rfl) ?_
                refine s_callT rfl rfl rfl (by kernel_rfl) rfl (asked_any hL) ?_
                rintro v w152 rfl lw152
                replace lz := lz.trans lw152
                try replace hL := hL.later lw152
                refine vOrd_nil ?_
                refine vTree_one (i := 28) (L := #[true, true, true, true, true, true, true, true, true, true, true, true, true, true, true, true, true, true, true, true, true, true, true, true, true, true, true, true, true, false, false]) (by kernel_rfl) (by kernel_rfl) ?_
                refine t_eql rfl rfl rfl rfl rfl (by omega) ?_
                refine vOrd_nil ?_
                refine vTree_one (i := 29) (L := #[true, true, true, true, true, true, true, true, true, true, true, true, true, true, true, true, true, true, true, true, true, true, true, true, true, true, true, true, true, true, false]) (by kernel_rfl) (by kernel_rfl) ?_
                refine s_pick rfl rfl rfl rfl rfl ?_
                refine vOrd_nil ?_
                refine vTree_one (i := 30) (L := #[true, true, true, true, true, true, true, true, true, true, true, true, true, true, true, true, true, true, true, true, true, true, true, true, true, true, true, true, true, true, true]) (by kernel_rfl) (by kernel_rfl) ?_
                refine s_assign rfl rfl rfl rfl ?_
                refine vOrd_nil ?_
                refine vTree_end (by kernel_rfl) ?_
                refine Wp.ret ⟨.inr rfl, fun lW => ⟨_, res_tmp (P := Try.prog) rfl rfl, _, rfl, ?_, lW⟩⟩
                clear lW
                rfl
              · refine s_idx (sz := 2) (ao + 0 * 2) rfl rfl rfl rfl rfl rfl rfl (by omega) (by omega) (by omega) ?_
                refine vOrd_nil ?_
                refine vTree_two (i := 17) (k := 21) (L1 := #[true, true, true, true, true, true, true, true, true, true, true, true, true, true, true, true, true, true, true, true, true, false, false, false, false, false, false, false, false, false, false]) (L2 := #[true, true, true, true, true, true, true, true, true, true, true, true, true, true, true, true, true, false, true, true, true, true, false, false, false, false, false, false, false, false, false]) (by kernel_rfl) (by kernel_rfl) (by kernel_rfl) ?_ ?_
                · refine s_callH 1007 rfl rfl rfl (by kernel_rfl) rfl rfl (fun vr => (first_any hb hL)) ?_
                  rintro v cs154 w154 ⟨rfl, R154, _, hLq⟩ gw154 vw154
                  replace lz := lz.past gw154 hbz
                  clear hL
                  have hL := hLq
                  clear hLq
                  refine vOrd_nil ?_
                  refine vTree_one (i := 21) (L := #[true, true, true, true, true, true, true, true, true, true, true, true, true, true, true, true, true, true, true, true, true, true, false, false, false, false, false, false, false, false, false]) (by kernel_rfl) (by kernel_rfl) ?_
                  refine x_ldA [.int .i64 x.1, .int .i64 x.2] rfl rfl rfl rfl rfl rfl (World.block_lt_of_cell? _ _ (cell_later lz k1)) (fun j u hj => ?_) ?_
                  · match j, hj with
                    | 0, hj => cases hj; exact cell_later lz k1
                    | 1, hj => cases hj; exact cell_later lz k2
                  refine vOrd_nil ?_
                  refine vTree_one (i := 22) (L := #[true, true, true, true, true, true, true, true, true, true, true, true, true, true, true, true, true, true, true, true, true, true, true, false, false, false, false, false, false, false, false]) (by kernel_rfl) (by kernel_rfl) ?_
                  refine s_callT rfl rfl rfl (by kernel_rfl) rfl (rday_any x hxi.1) ?_
                  rintro v w159 rfl lw159
                  replace lz := lz.trans lw159
                  try replace hL := hL.later lw159
                  refine vOrd_nil ?_
                  refine vTree_one (i := 23) (L := #[true, true, true, true, true, true, true, true, true, true, true, true, true, true, true, true, true, true, true, true, true, true, true, true, false, false, false, false, false, false, false]) (by kernel_rfl) (by kernel_rfl) ?_
                  refine t_eql rfl rfl rfl rfl rfl (by exact (A_at hx).1) ?_
                  refine vOrd_nil ?_
                  refine vTree_one (i := 24) (L := #[true, true, true, true, true, true, true, true, true, true, true, true, true, true, true, true, true, true, true, true, true, true, true, true, true, false, false, false, false, false, false]) (by kernel_rfl) (by kernel_rfl) ?_
                  refine s_pick rfl rfl rfl rfl rfl ?_
                  refine vOrd_nil ?_
                  refine vTree_one (i := 25) (L := #[true, true, true, true, true, true, true, true, true, true, true, true, true, true, true, true, true, true, true, true, true, true, true, true, true, true, false, false, false, false, false]) (by kernel_rfl) (by kernel_rfl) ?_
                  refine s_move rfl rfl rfl rfl ?_
                  refine vOrd_nil ?_
                  refine vTree_one (i := 26) (L := #[true, true, true, true, true, true, true, true, true, true, true, true, true, true, true, true, true, true, true, true, true, true, true, true, true, true, true, false, false, false, false]) (by kernel_rfl) (by kernel_rfl) ?_
                  refine s_move rfl rfl rfl rfl ?_
                  refine vOrd_nil ?_
                  refine vTree_one (i := 27) (L := #[true, true, true, true, true, true, true, true, true, true, true, true, true, true, true, true, true, true, true, true, true, true, true, true, true, true, true, true, false, false, false]) (by kernel_rfl) (by kernel_rfl) ?_
                  refine s_callT rfl rfl rfl (by kernel_rfl) rfl (asked_any hL) ?_
                  rintro v w160 rfl lw160
                  replace lz := lz.trans lw160
                  try replace hL := hL.later lw160
                  refine vOrd_nil ?_
                  refine vTree_one (i := 28) (L := #[true, true, true, true, true, true, true, true, true, true, true, true, true, true, true, true, true, true, true, true, true, true, true, true, true, true, true, true, true, false, false]) (by kernel_rfl) (by kernel_rfl) ?_
                  refine t_eql rfl rfl rfl rfl rfl (by omega) ?_
                  refine vOrd_nil ?_
                  refine vTree_one (i := 29) (L := #[true, true, true, true, true, true, true, true, true, true, true, true, true, true, true, true, true, true, true, true, true, true, true, true, true, true, true, true, true, true, false]) (by kernel_rfl) (by kernel_rfl) ?_
                  refine s_pick rfl rfl rfl rfl rfl ?_
                  refine vOrd_nil ?_
                  refine vTree_one (i := 30) (L := #[true, true, true, true, true, true, true, true, true, true, true, true, true, true, true, true, true, true, true, true, true, true, true, true, true, true, true, true, true, true, true]) (by kernel_rfl) (by kernel_rfl) ?_
                  refine s_assign rfl rfl rfl rfl ?_
                  refine vOrd_nil ?_
                  refine vTree_end (by kernel_rfl) ?_
                  refine Wp.ret ⟨.inr rfl, fun lW => ⟨_, res_tmp (P := Try.prog) rfl rfl, _, rfl, ?_, lW⟩⟩
                  clear lW
                  rfl
                · refine x_ldA [.int .i64 x.1, .int .i64 x.2] rfl rfl rfl rfl rfl rfl (World.block_lt_of_cell? _ _ (cell_later lz k1)) (fun j u hj => ?_) ?_
                  · match j, hj with
                    | 0, hj => cases hj; exact cell_later lz k1
                    | 1, hj => cases hj; exact cell_later lz k2
                  refine vOrd_nil ?_
                  refine vTree_one (i := 17) (L := #[true, true, true, true, true, true, true, true, true, true, true, true, true, true, true, true, true, true, true, true, true, true, false, false, false, false, false, false, false, false, false]) (by kernel_rfl) (by kernel_rfl) ?_
                  refine s_callH 1007 rfl rfl rfl (by kernel_rfl) rfl rfl (fun vr => (first_any hb hL)) ?_
                  rintro v cs165 w165 ⟨rfl, R165, _, hLq⟩ gw165 vw165
                  replace lz := lz.past gw165 hbz
                  clear hL
                  have hL := hLq
                  clear hLq
                  refine vOrd_nil ?_
                  refine vTree_one (i := 22) (L := #[true, true, true, true, true, true, true, true, true, true, true, true, true, true, true, true, true, true, true, true, true, true, true, false, false, false, false, false, false, false, false]) (by kernel_rfl) (by kernel_rfl) ?_
                  refine s_callT rfl rfl rfl (by kernel_rfl) rfl (rday_any x hxi.1) ?_
                  rintro v w166 rfl lw166
                  replace lz := lz.trans lw166
                  try replace hL := hL.later lw166
                  refine vOrd_nil ?_
                  refine vTree_one (i := 23) (L := #[true, true, true, true, true, true, true, true, true, true, true, true, true, true, true, true, true, true, true, true, true, true, true, true, false, false, false, false, false, false, false]) (by kernel_rfl) (by kernel_rfl) ?_
                  refine t_eql rfl rfl rfl rfl rfl (by exact (A_at hx).1) ?_
                  refine vOrd_nil ?_
                  refine vTree_one (i := 24) (L := #[true, true, true, true, true, true, true, true, true, true, true, true, true, true, true, true, true, true, true, true, true, true, true, true, true, false, false, false, false, false, false]) (by kernel_rfl) (by kernel_rfl) ?_
                  refine s_pick rfl rfl rfl rfl rfl ?_
                  refine vOrd_nil ?_
                  refine vTree_one (i := 25) (L := #[true, true, true, true, true, true, true, true, true, true, true, true, true, true, true, true, true, true, true, true, true, true, true, true, true, true, false, false, false, false, false]) (by kernel_rfl) (by kernel_rfl) ?_
                  refine s_move rfl rfl rfl rfl ?_
                  refine vOrd_nil ?_
                  refine vTree_one (i := 26) (L := #[true, true, true, true, true, true, true, true, true, true, true, true, true, true, true, true, true, true, true, true, true, true, true, true, true, true, true, false, false, false, false]) (by kernel_rfl) (by kernel_rfl) ?_
                  refine s_move rfl rfl rfl rfl ?_
                  refine vOrd_nil ?_
                  refine vTree_one (i := 27) (L := #[true, true, true, true, true, true, true, true, true, true, true, true, true, true, true, true, true, true, true, true, true, true, true, true, true, true, true, true, false, false, false]) (by kernel_rfl) (by kernel_rfl) ?_
                  refine s_callT rfl rfl rfl (by kernel_rfl) rfl (asked_any hL) ?_
                  rintro v w167 rfl lw167
                  replace lz := lz.trans lw167
                  try replace hL := hL.later lw167
                  refine vOrd_nil ?_
                  refine vTree_one (i := 28) (L := #[true, true, true, true, true, true, true, true, true, true, true, true, true, true, true, true, true, true, true, true, true, true, true, true, true, true, true, true, true, false, false]) (by kernel_rfl) (by kernel_rfl) ?_
                  refine t_eql rfl rfl rfl rfl rfl (by omega) ?_
                  refine vOrd_nil ?_
                  refine vTree_one (i := 29) (L := #[true, true, true, true, true, true, true, true, true, true, true, true, true, true, true, true, true, true, true, true, true, true, true, true, true, true, true, true, true, true, false]) (by kernel_rfl) (by kernel_rfl) ?_
                  refine s_pick rfl rfl rfl rfl rfl ?_
                  refine vOrd_nil ?_
                  refine vTree_one (i := 30) (L := #[true, true, true, true, true, true, true, true, true, true, true, true, true, true, true, true, true, true, true, true, true, true, true, true, true, true, true, true, true, true, true]) (by kernel_rfl) (by kernel_rfl) ?_
                  refine s_assign rfl rfl rfl rfl ?_
                  refine vOrd_nil ?_
                  refine vTree_end (by kernel_rfl) ?_
                  refine Wp.ret ⟨.inr rfl, fun lW => ⟨_, res_tmp (P := Try.prog) rfl rfl, _, rfl, ?_, lW⟩⟩
                  clear lW
                  rfl
        · refine s_field 2 rfl rfl rfl rfl rfl ?_
          refine vOrd_nil ?_
          refine vTree_two (i := 16) (k := 19) (L1 := #[true, true, true, true, true, true, true, true, true, true, true, true, true, true, true, true, true, false, true, false, false, false, false, false, false, false, false, false, false, false, false]) (L2 := #[true, true, true, true, true, true, true, true, true, true, true, true, true, true, true, true, false, false, true, true, false, false, false, false, false, false, false, false, false, false, false]) (by kernel_rfl) (by kernel_rfl) (by kernel_rfl) ?_ ?_
          · refine s_move rfl rfl rfl rfl ?_
            refine vOrd_nil ?_
            refine vTree_two (i := 17) (k := 19) (L1 := #[true, true, true, true, true, true, true, true, true, true, true, true, true, true, true, true, true, true, true, false, false, false, false, false, false, false, false, false, false, false, false]) (L2 := #[true, true, true, true, true, true, true, true, true, true, true, true, true, true, true, true, true, false, true, true, false, false, false, false, false, false, false, false, false, false, false]) (by kernel_rfl) (by kernel_rfl) (by kernel_rfl) ?_ ?_
            · refine s_callH 1007 rfl rfl rfl (by kernel_rfl) rfl rfl (fun vr => (first_any hb hL)) ?_
              rintro v cs168 w168 ⟨rfl, R168, _, hLq⟩ gw168 vw168
              replace lz := lz.past gw168 hbz
              clear hL
              have hL := hLq
              clear hLq
              refine vOrd_nil ?_
              refine vTree_one (i := 19) (L := #[true, true, true, true, true, true, true, true, true, true, true, true, true, true, true, true, true, true, true, true, false, false, false, false, false, false, false, false, false, false, false]) (by kernel_rfl) (by kernel_rfl) ?_
              refine s_load rfl rfl rfl rfl rfl rfl rfl ?_
              refine vOrd_nil ?_
              refine vTree_one (i := 20) (L := #[true, true, true, true, true, true, true, true, true, true, true, true, true, true, true, true, true, true, true, true, true, false, false, false, false, false, false, false, false, false, false]) (by kernel_rfl) (by kernel_rfl) ?_
              refine s_idx (sz := 2) (ao + 0 * 2) rfl rfl rfl rfl rfl rfl rfl (by omega) (by omega) (by omega) ?_
              refine vOrd_nil ?_
              refine vTree_one (i := 21) (L := #[true, true, true, true, true, true, true, true, true, true, true, true, true, true, true, true, true, true, true, true, true, true, false, false, false, false, false, false, false, false, false]) (by kernel_rfl) (by kernel_rfl) ?_
              refine x_ldA [.int .i64 x.1, .int .i64 x.2] rfl rfl rfl rfl rfl rfl (World.block_lt_of_cell? _ _ (cell_later lz k1)) (fun j u hj => ?_) ?_
              · match j, hj with
                | 0, hj => cases hj; exact cell_later lz k1
                | 1, hj => cases hj; exact cell_later lz k2
              refine vOrd_nil ?_
              refine vTree_one (i := 22) (L := #[true, true, true, true, true, true, true, true, true, true, true, true, true, true, true, true, true, true, true, true, true, true, true, false, false, false, false, false, false, false, false]) (by kernel_rfl) (by kernel_rfl) ?_
              refine s_callT rfl rfl rfl (by kernel_rfl) rfl (rday_any x hxi.1) ?_
              rintro v w174 rfl lw174
              replace lz := lz.trans lw174
              try replace hL := hL.later lw174
              refine vOrd_nil ?_
              refine vTree_one (i := 23) (L := #[true, true, true, true, true, true, true, true, true, true, true, true, true, true, true, true, true, true, true, true, true, true, true, true, false, false, false, false, false, false, false]) (by kernel_rfl) (by kernel_rfl) ?_
              refine t_eql rfl rfl rfl rfl rfl (by exact (A_at hx).1) ?_
              refine vOrd_nil ?_
              refine vTree_one (i := 24) (L := #[true, true, true, true, true, true, true, true, true, true, true, true, true, true, true, true, true, true, true, true, true, true, true, true, true, false, false, false, false, false, false]) (by kernel_rfl) (by kernel_rfl) ?_
              refine s_pick rfl rfl rfl rfl rfl ?_
              refine vOrd_nil ?_
              refine vTree_one (i := 25) (L := #[true, true, true, true, true, true, true, true, true, true, true, true, true, true, true, true, true, true, true, true, true, true, true, true, true, true, false, false, false, false, false]) (by kernel_rfl) (by kernel_rfl) ?_
              refine s_move rfl rfl rfl rfl ?_
              refine vOrd_nil ?_
              refine vTree_one (i := 26) (L := #[true, true, true, true, true, true, true, true, true, true, true, true, true, true, true, true, true, true, true, true, true, true, true, true, true, true, true, false, false, false, false]) (by kernel_rfl) (by kernel_rfl) ?_
              refine s_move rfl rfl rfl rfl ?_
              refine vOrd_nil ?_
              refine vTree_one (i := 27) (L := #[true, true, true, true, true, true, true, true, true, true, true, true, true, true, true, true, true, true, true, true, true, true, true, true, true, true, true, true, false, false, false]) (by kernel_rfl) (by kernel_rfl) ?_
              refine s_callT rfl rfl rfl (by kernel_rfl) rfl (asked_any hL) ?_
              rintro v w175 rfl lw175
              replace lz := lz.trans lw175
              try replace hL := hL.later lw175
              refine vOrd_nil ?_
              refine vTree_one (i := 28) (L := #[true, true, true, true, true, true, true, true, true, true, true, true, true, true, true, true, true, true, true, true, true, true, true, true, true, true, true, true, true, false, false]) (by kernel_rfl) (by kernel_rfl) ?_
              refine t_eql rfl rfl rfl rfl rfl (by omega) ?_
              refine vOrd_nil ?_
              refine vTree_one (i := 29) (L := #[true, true, true, true, true, true, true, true, true, true, true, true, true, true, true, true, true, true, true, true, true, true, true, true, true, true, true, true, true, true, false]) (by kernel_rfl) (by kernel_rfl) ?_
              refine s_pick rfl rfl rfl rfl rfl ?_
              refine vOrd_nil ?_
              refine vTree_one (i := 30) (L := #[true, true, true, true, true, true, true, true, true, true, true, true, true, true, true, true, true, true, true, true, true, true, true, true, true, true, true, true, true, true, true]) (by kernel_rfl) (by kernel_rfl) ?_
              refine s_assign rfl rfl rfl rfl ?_
              refine vOrd_nil ?_
              refine vTree_end (by kernel_rfl) ?_
              refine Wp.ret ⟨.inr rfl, fun lW => ⟨_, res_tmp (P := Try.prog) rfl rfl, _, rfl, ?_, lW⟩⟩
              clear lW
              rfl
            · refine s_load rfl rfl rfl rfl rfl rfl rfl ?_
              refine vOrd_nil ?_
              refine vTree_two (i := 17) (k := 20) (L1 := #[true, true, true, true, true, true, true, true, true, true, true, true, true, true, true, true, true, true, true, true, false, false, false, false, false, false, false, false, false, false, false]) (L2 := #[true, true, true, true, true, true, true, true, true, true, true, true, true, true, true, true, true, false, true, true, true, false, false, false, false, false, false, false, false, false, false]) (by kernel_rfl) (by kernel_rfl) (by kernel_rfl) ?_ ?_
              · refine s_callH 1007 rfl rfl rfl (by kernel_rfl) rfl rfl (fun vr => (first_any hb hL)) ?_
                rintro v cs176 w176 ⟨rfl, R176, _, hLq⟩ gw176 vw176
                replace lz := lz.past gw176 hbz
                clear hL
                have hL := hLq
                clear hLq
                refine vOrd_nil ?_
                refine vTree_one (i := 20) (L := #[true, true, true, true, true, true, true, true, true, true, true, true, true, true, true, true, true, true, true, true, true, false, false, false, false, false, false, false, false, false, false]) (by kernel_rfl) (by kernel_rfl) ?_
                refine s_idx (sz := 2) (ao + 0 * 2) rfl rfl rfl rfl rfl rfl rfl (by omega) (by omega) (by omega) ?_
                refine vOrd_nil ?_
                refine vTree_one (i := 21) (L := #[true, true, true, true, true, true, true, true, true, true, true, true, true, true, true, true, true, true, true, true, true, true, false, false, false, false, false, false, false, false, false]) (by kernel_rfl) (by kernel_rfl) ?_
                refine x_ldA [.int .i64 x.1, .int .i64 x.2] rfl rfl rfl rfl rfl rfl (World.block_lt_of_cell? _ _ (cell_later lz k1)) (fun j u hj => ?_) ?_
                · match j, hj with
                  | 0, hj => cases hj; exact cell_later lz k1
                  | 1, hj => cases hj; exact cell_later lz k2
                refine vOrd_nil ?_
                refine vTree_one (i := 22) (L := #[true, true, true, true, true, true, true, true, true, true, true, true, true, true, true, true, true, true, true, true, true, true, true, false, false, false, false, false, false, false, false]) (by kernel_rfl) (by kernel_rfl) ?_
                refine s_callT rfl rfl rfl (by kernel_rfl) rfl (rday_any x hxi.1) ?_
                rintro v w182 rfl lw182
                replace lz := lz.trans lw182
                try replace hL := hL.later lw182
                refine vOrd_nil ?_
                refine vTree_one (i := 23) (L := #[true, true, true, true, true, true, true, true, true, true, true, true, true, true, true, true, true, true, true, true, true, true, true, true, false, false, false, false, false, false, false]) (by kernel_rfl) (by kernel_rfl) ?_
                refine t_eql rfl rfl rfl rfl rfl (by exact (A_at hx).1) ?_
                refine vOrd_nil ?_
                refine vTree_one (i := 24) (L := #[true, true, true, true, true, true, true, true, true, true, true, true, true, true, true, true, true, true, true, true, true, true, true, true, true, false, false, false, false, false, false]) (by kernel_rfl) (by kernel_rfl) ?_
                refine s_pick rfl rfl rfl rfl rfl ?_
                refine vOrd_nil ?_
                refine vTree_one (i := 25) (L := #[true, true, true, true, true, true, true, true, true, true, true, true, true, true, true, true, true, true, true, true, true, true, true, true, true, true, false, false, false, false, false]) (by kernel_rfl) (by kernel_rfl) ?_
                refine s_move rfl rfl rfl rfl ?_
                refine vOrd_nil ?_
                refine vTree_one (i := 26) (L := #[true, true, true, true, true, true, true, true, true, true, true, true, true, true, true, true, true, true, true, true, true, true, true, true, true, true, true, false, false, false, false]) (by kernel_rfl) (by kernel_rfl) ?_
                refine s_move rfl rfl rfl rfl ?_
                refine vOrd_nil ?_
                refine vTree_one (i := 27) (L := #[true, true, true, true, true, true, true, true, true, true, true, true, true, true, true, true, true, true, true, true, true, true, true, true, true, true, true, true, false, false, false]) (by kernel_rfl) (by kernel_rfl) ?_
                refine s_callT rfl rfl rfl (by kernel_rfl) rfl (asked_any hL) ?_
                rintro v w183 rfl lw183
                replace lz := lz.trans lw183
                try replace hL := hL.later lw183
                refine vOrd_nil ?_
                refine vTree_one (i := 28) (L := #[true, true, true, true, true, true, true, true, true, true, true, true, true, true, true, true, true, true, true, true, true, true, true, true, true, true, true, true, true, false, false]) (by kernel_rfl) (by kernel_rfl) ?_
                refine t_eql rfl rfl rfl rfl rfl (by omega) ?_
                refine vOrd_nil ?_
                refine vTree_one (i := 29) (L := #[true, true, true, true, true, true, true, true, true, true, true, true, true, true, true, true, true, true, true, true, true, true, true, true, true, true, true, true, true, true, false]) (by kernel_rfl) (by kernel_rfl) ?_
                refine s_pick rfl rfl rfl rfl rfl ?_
                refine vOrd_nil ?_
                refine vTree_one (i := 30) (L := #[true, true, true, true, true, true, true, true, true, true, true, true, true, true, true, true, true, true, true, true, true, true, true, true, true, true, true, true, true, true, true]) (by kernel_rfl) (by kernel_rfl) ?_
                refine s_assign rfl rfl rfl rfl ?_
                refine vOrd_nil ?_
                refine vTree_end (by kernel_rfl) ?_
                refine Wp.ret ⟨.inr rfl, fun lW => ⟨_, res_tmp (P := Try.prog) rfl rfl, _, rfl, ?_, lW⟩⟩
                clear lW
                rfl
              · refine s_idx (sz := 2) (ao + 0 * 2) rfl rfl rfl rfl rfl rfl rfl (by omega) (by omega) (by omega) ?_
                refine vOrd_nil ?_
                refine vTree_two (i := 17) (k := 21) (L1 := #[true, true, true, true, true, true, true, true, true, true, true, true, true, true, true, true, true, true, true, true, true, false, false, false, false, false, false, false, false, false, false]) (L2 := #[true, true, true, true, true, true, true, true, true, true, true, true, true, true, true, true, true, false, true, true, true, true, false, false, false, false, false, false, false, false, false]) (by kernel_rfl) (by kernel_rfl) (by kernel_rfl) ?_ ?_
                · refine s_callH 1007 rfl rfl rfl (by kernel_rfl) rfl rfl (fun vr => (first_any hb hL)) ?_
                  rintro v cs185 w185 ⟨rfl, R185, _, hLq⟩ gw185 vw185
                  replace lz := lz.past gw185 hbz
                  clear hL
                  have hL := hLq
                  clear hLq
                  refine vOrd_nil ?_
                  refine vTree_one (i := 21) (L := #[true, true, true, true, true, true, true, true, true, true, true, true, true, true, true, true, true, true, true, true, true, true, false, false, false, false, false, false, false, false, false]) (by kernel_rfl) (by kernel_rfl) ?_
                  refine x_ldA [.int .i64 x.1, .int .i64 x.2] rfl rfl rfl rfl rfl rfl (World.block_lt_of_cell? _ _ (cell_later lz k1)) (fun j u hj => ?_) ?_
                  · match j, hj with
                    | 0, hj => cases hj; exact cell_later lz k1
                    | 1, hj => cases hj; exact cell_later lz k2
                  refine vOrd_nil ?_
                  refine vTree_one (i := 22) (L := #[true, true, true, true, true, true, true, true, true, true, true, true, true, true, true, true, true, true, true, true, true, true, true, false, false, false, false, false, false, false, false]) (by kernel_rfl) (by kernel_rfl) ?_
                  refine s_callT rfl rfl rfl (by kernel_rfl) rfl (rday_any x hxi.1) ?_
                  rintro v w190 rfl lw190
                  replace lz := lz.trans lw190
                  try replace hL := hL.later lw190
                  refine vOrd_nil ?_
                  refine vTree_one (i := 23) (L := #[true, true, true, true, true, true, true, true, true, true, true, true, true, true, true, true, true, true, true, true, true, true, true, true, false, false, false, false, false, false, false]) (by kernel_rfl) (by kernel_rfl) ?_
                  refine t_eql rfl rfl rfl rfl rfl (by exact (A_at hx).1) ?_
                  refine vOrd_nil ?_
                  refine vTree_one (i := 24) (L := #[true, true, true, true, true, true, true, true, true, true, true, true, true, true, true, true, true, true, true, true, true, true, true, true, true, false, false, false, false, false, false]) (by kernel_rfl) (by kernel_rfl) ?_
                  refine s_pick rfl rfl rfl rfl rfl ?_
                  refine vOrd_nil ?_
                  refine vTree_one (i := 25) (L := #[true, true, true, true, true, true, true, true, true, true, true, true, true, true, true, true, true, true, true, true, true, true, true, true, true, true, false, false, false, false, false]) (by kernel_rfl) (by kernel_rfl) ?_
                  refine s_move rfl rfl rfl rfl ?_
                  refine vOrd_nil ?_
                  refine vTree_one (i := 26) (L := #[true, true, true, true, true, true, true, true, true, true, true, true, true, true, true, true, true, true, true, true, true, true, true, true, true, true, true, false, false, false, false]) (by kernel_rfl) (by kernel_rfl) ?_
                  refine s_move rfl rfl rfl rfl ?_
                  refine vOrd_nil ?_
                  refine vTree_one (i := 27) (L := #[true, true, true, true, true, true, true, true, true, true, true, true, true, true, true, true, true, true, true, true, true, true, true, true, true, true, true, true, false, false, false]) (by kernel_rfl) (by kernel_rfl) ?_
                  refine s_callT rfl rfl rfl (by kernel_rfl) rfl (asked_any hL) ?_
                  rintro v w191 rfl lw191
                  replace lz := lz.trans lw191
                  try replace hL := hL.later lw191
                  refine vOrd_nil ?_
                  refine vTree_one (i := 28) (L := #[true, true, true, true, true, true, true, true, true, true, true, true, true, true, true, true, true, true, true, true, true, true, true, true, true, true, true, true, true, false, false]) (by kernel_rfl) (by kernel_rfl) ?_
                  refine t_eql rfl rfl rfl rfl rfl (by omega) ?_
                  refine vOrd_nil ?_
                  refine vTree_one (i := 29) (L := #[true, true, true, true, true, true, true, true, true, true, true, true, true, true, true, true, true, true, true, true, true, true, true, true, true, true, true, true, true, true, false]) (by kernel_rfl) (by kernel_rfl) ?_
                  refine s_pick rfl rfl rfl rfl rfl ?_
                  refine vOrd_nil ?_
                  refine vTree_one (i := 30) (L := #[true, true, true, true, true, true, true, true, true, true, true, true, true, true, true, true, true, true, true, true, true, true, true, true, true, true, true, true, true, true, true]) (by kernel_rfl) (by kernel_rfl) ?_
                  refine s_assign rfl rfl rfl rfl ?_
                  refine vOrd_nil ?_
                  refine vTree_end (by kernel_rfl) ?_
                  refine Wp.ret ⟨.inr rfl, fun lW => ⟨_, res_tmp (P := Try.prog) rfl rfl, _, rfl, ?_, lW⟩⟩
                  clear lW
                  rfl
                · refine x_ldA [.int .i64 x.1, .int .i64 x.2] rfl rfl rfl rfl rfl rfl (World.block_lt_of_cell? _ _ (cell_later lz k1)) (fun j u hj => ?_) ?_
                  · match j, hj with
                    | 0, hj => cases hj; exact cell_later lz k1
                    | 1, hj => cases hj; exact cell_later lz k2
                  refine vOrd_nil ?_
                  refine vTree_one (i := 17) (L := #[true, true, true, true, true, true, true, true, true, true, true, true, true, true, true, true, true, true, true, true, true, true, false, false, false, false, false, false, false, false, false]) (by kernel_rfl) (by kernel_rfl) ?_
                  refine s_callH 1007 rfl rfl rfl (by kernel_rfl) rfl rfl (fun vr => (first_any hb hL)) ?_
                  rintro v cs196 w196 ⟨rfl, R196, _, hLq⟩ gw196 vw196
                  replace lz := lz.past gw196 hbz
                  clear hL
                  have hL := hLq
                  clear hLq
                  refine vOrd_nil ?_
                  refine vTree_one (i := 22) (L := #[true, true, true, true, true, true, true, true, true, true, true, true, true, true, true, true, true, true, true, true, true, true, true, false, false, false, false, false, false, false, false]) (by kernel_rfl) (by kernel_rfl) ?_
                  refine s_callT rfl rfl rfl (by kernel_rfl) rfl (rday_any x hxi.1) ?_
                  rintro v w197 rfl lw197
                  replace lz := lz.trans lw197
                  try replace hL := hL.later lw197
                  refine vOrd_nil ?_
                  refine vTree_one (i := 23) (L := #[true, true, true, true, true, true, true, true, true, true, true, true, true, true, true, true, true, true, true, true, true, true, true, true, false, false, false, false, false, false, false]) (by kernel_rfl) (by kernel_rfl) ?_
                  refine t_eql rfl rfl rfl rfl rfl (by exact (A_at hx).1) ?_
                  refine vOrd_nil ?_
                  refine vTree_one (i := 24) (L := #[true, true, true, true, true, true, true, true, true, true, true, true, true, true, true, true, true, true, true, true, true, true, true, true, true, false, false, false, false, false, false]) (by kernel_rfl) (by kernel_rfl) ?_
                  refine s_pick rfl rfl rfl rfl rfl ?_
                  refine vOrd_nil ?_
                  refine vTree_one (i := 25) (L := #[true, true, true, true, true, true, true, true, true, true, true, true, true, true, true, true, true, true, true, true, true, true, true, true, true, true, false, false, false, false, false]) (by kernel_rfl) (by kernel_rfl) ?_
                  refine s_move rfl rfl rfl rfl ?_
                  refine vOrd_nil ?_
                  refine vTree_one (i := 26) (L := #[true, true, true, true, true, true, true, true, true, true, true, true, true, true, true, true, true, true, true, true, true, true, true, true, true, true, true, false, false, false, false]) (by kernel_rfl) (by kernel_rfl) ?_
                  refine s_move rfl rfl rfl rfl ?_
                  refine vOrd_nil ?_
                  refine vTree_one (i := 27) (L := #[true, true, true, true, true, true, true, true, true, true, true, true, true, true, true, true, true, true, true, true, true, true, true, true, true, true, true, true, false, false, false]) (by kernel_rfl) (by kernel_rfl) ?_
                  refine s_callT rfl rfl rfl (by kernel_rfl) rfl (asked_any hL) ?_
                  rintro v w198 rfl lw198
                  replace lz := lz.trans lw198
                  try replace hL := hL.later lw198
                  refine vOrd_nil ?_
                  refine vTree_one (i := 28) (L := #[true, true, true, true, true, true, true, true, true, true, true, true, true, true, true, true, true, true, true, true, true, true, true, true, true, true, true, true, true, false, false]) (by kernel_rfl) (by kernel_rfl) ?_
                  refine t_eql rfl rfl rfl rfl rfl (by omega) ?_
                  refine vOrd_nil ?_
                  refine vTree_one (i := 29) (L := #[true, true, true, true, true, true, true, true, true, true, true, true, true, true, true, true, true, true, true, true, true, true, true, true, true, true, true, true, true, true, false]) (by kernel_rfl) (by kernel_rfl) ?_
                  refine s_pick rfl rfl rfl rfl rfl ?_
                  refine vOrd_nil ?_
                  refine vTree_one (i := 30) (L := #[true, true, true, true, true, true, true, true, true, true, true, true, true, true, true, true, true, true, true, true, true, true, true, true, true, true, true, true, true, true, true]) (by kernel_rfl) (by kernel_rfl) ?_
                  refine s_assign rfl rfl rfl rfl ?_
                  refine vOrd_nil ?_
                  refine vTree_end (by kernel_rfl) ?_
                  refine Wp.ret ⟨.inr rfl, fun lW => ⟨_, res_tmp (P := Try.prog) rfl rfl, _, rfl, ?_, lW⟩⟩
                  clear lW
                  rfl
          · refine s_load rfl rfl rfl rfl rfl rfl rfl ?_
            refine vOrd_nil ?_
            refine vTree_two (i := 16) (k := 20) (L1 := #[true, true, true, true, true, true, true, true, true, true, true, true, true, true, true, true, true, false, true, true, false, false, false, false, false, false, false, false, false, false, false]) (L2 := #[true, true, true, true, true, true, true, true, true, true, true, true, true, true, true, true, false, false, true, true, true, false, false, false, false, false, false, false, false, false, false]) (by kernel_rfl) (by kernel_rfl) (by kernel_rfl) ?_ ?_
            · refine s_move rfl rfl rfl rfl ?_
              refine vOrd_nil ?_
              refine vTree_two (i := 17) (k := 20) (L1 := #[true, true, true, true, true, true, true, true, true, true, true, true, true, true, true, true, true, true, true, true, false, false, false, false, false, false, false, false, false, false, false]) (L2 := #[true, true, true, true, true, true, true, true, true, true, true, true, true, true, true, true, true, false, true, true, true, false, false, false, false, false, false, false, false, false, false]) (by kernel_rfl) (by kernel_rfl) (by kernel_rfl) ?_ ?_
              · refine s_callH 1007 rfl rfl rfl (by kernel_rfl) rfl rfl (fun vr => (first_any hb hL)) ?_
                rintro v cs199 w199 ⟨rfl, R199, _, hLq⟩ gw199 vw199
                replace lz := lz.past gw199 hbz
                clear hL
                have hL := hLq
                clear hLq
                refine vOrd_nil ?_
                refine vTree_one (i := 20) (L := #[true, true, true, true, true, true, true, true, true, true, true, true, true, true, true, true, true, true, true, true, true, false, false, false, false, false, false, false, false, false, false]) (by kernel_rfl) (by kernel_rfl) ?_
                refine s_idx (sz := 2) (ao + 0 * 2) rfl rfl rfl rfl rfl rfl rfl (by omega) (by omega) (by omega) ?_
                refine vOrd_nil ?_
                refine vTree_one (i := 21) (L := #[true, true, true, true, true, true, true, true, true, true, true, true, true, true, true, true, true, true, true, true, true, true, false, false, false, false, false, false, false, false, false]) (by kernel_rfl) (by kernel_rfl) ?_
                refine x_ldA [.int .i64 x.1, .int .i64 x.2] rfl rfl rfl rfl rfl rfl (World.block_lt_of_cell? _ _ (cell_later lz k1)) (fun j u hj => ?_) ?_
                · match j, hj with
                  | 0, hj => cases hj; exact cell_later lz k1
                  | 1, hj => cases hj; exact cell_later lz k2
                refine vOrd_nil ?_
                refine vTree_one (i := 22) (L := #[true, true, true, true, true, true, true, true, true, true, true, true, true, true, true, true, true, true, true, true, true, true, true, false, false, false, false, false, false, false, false]) (by kernel_rfl) (by kernel_rfl) ?_
                refine s_callT rfl rfl rfl (by kernel_rfl) rfl (rday_any x hxi.1) ?_
                rintro v w205 rfl lw205
                replace lz := lz.trans lw205
                try replace hL := hL.later lw205
                refine vOrd_nil ?_
                refine vTree_one (i := 23) (L := #[true, true, true, true, true, true, true, true, true, true, true, true, true, true, true, true, true, true, true, true, true, true, true, true, false, false, false, false, false, false, false]) (by kernel_rfl) (by kernel_rfl) ?_
                refine t_eql rfl rfl rfl rfl rfl (by exact (A_at hx).1) ?_
                refine vOrd_nil ?_
                refine vTree_one (i := 24) (L := #[true, true, true, true, true, true, true, true, true, true, true, true, true, true, true, true, true, true, true, true, true, true, true, true, true, false, false, false, false, false, false]) (by kernel_rfl) (by kernel_rfl) ?_
                refine s_pick rfl rfl rfl rfl rfl ?_
                refine vOrd_nil ?_
                refine vTree_one (i := 25) (L := #[true, true, true, true, true, true, true, true, true, true, true, true, true, true, true, true, true, true, true, true, true, true, true, true, true, true, false, false, false, false, false]) (by kernel_rfl) (by kernel_rfl) ?_
                refine s_move rfl rfl rfl rfl ?_
                refine vOrd_nil ?_
                refine vTree_one (i := 26) (L := #[true, true, true, true, true, true, true, true, true, true, true, true, true, true, true, true, true, true, true, true, true, true, true, true, true, true, true, false, false, false, false]) (by kernel_rfl) (by kernel_rfl) ?_
                refine s_move rfl rfl rfl rfl ?_
                refine vOrd_nil ?_
                refine vTree_one (i := 27) (L := #[true, true, true, true, true, true, true, true, true, true, true, true, true, true, true, true, true, true, true, true, true, true, true, true, true, true, true, true, false, false, false]) (by kernel_rfl) (by kernel_rfl) ?_
                refine s_callT rfl rfl rfl (by kernel_rfl) rfl (asked_any hL) ?_
                rintro v w206 rfl lw206
                replace lz := lz.trans lw206
                try replace hL := hL.later lw206
                refine vOrd_nil ?_
                refine vTree_one (i := 28) (L := #[true, true, true, true, true, true, true, true, true, true, true, true, true, true, true, true, true, true, true, true, true, true, true, true, true, true, true, true, true, false, false]) (by kernel_rfl) (by kernel_rfl) ?_
                refine t_eql rfl rfl rfl rfl rfl (by omega) ?_
                refine vOrd_nil ?_
                refine vTree_one (i := 29) (L := #[true, true, true, true, true, true, true, true, true, true, true, true, true, true, true, true, true, true, true, true, true, true, true, true, true, true, true, true, true, true, false]) (by kernel_rfl) (by kernel_rfl) ?_
                refine s_pick rfl rfl rfl rfl rfl ?_
                refine vOrd_nil ?_
                refine vTree_one (i := 30) (L := #[true, true, true, true, true, true, true, true, true, true, true, true, true, true, true, true, true, true, true, true, true, true, true, true, true, true, true, true, true, true, true]) (by kernel_rfl) (by kernel_rfl) ?_
                refine s_assign rfl rfl rfl rfl ?_
                refine vOrd_nil ?_
                refine vTree_end (by kernel_rfl) ?_
                refine Wp.ret ⟨.inr rfl, fun lW => ⟨_, res_tmp (P := Try.prog) rfl rfl, _, rfl, ?_, lW⟩⟩
                clear lW
                rfl
              · refine s_idx (sz := 2) (ao + 0 * 2) rfl rfl rfl rfl rfl rfl rfl (by omega) (by omega) (by omega) ?_
                refine vOrd_nil ?_
                refine vTree_two (i := 17) (k := 21) (L1 := #[true, true, true, true, true, true, true, true, true, true, true, true, true, true, true, true, true, true, true, true, true, false, false, false, false, false, false, false, false, false, false]) (L2 := #[true, true, true, true, true, true, true, true, true, true, true, true, true, true, true, true, true, false, true, true, true, true, false, false, false, false, false, false, false, false, false]) (by kernel_rfl) (by kernel_rfl) (by kernel_rfl) ?_ ?_
                · refine s_callH 1007 rfl rfl rfl (by kernel_rfl) rfl rfl (fun vr => (first_any hb hL)) ?_
                  rintro v cs208 w208 ⟨rfl, R208, _, hLq⟩ gw208 vw208
                  replace lz := lz.past gw208 hbz
                  clear hL
                  have hL := hLq
                  clear hLq
                  refine vOrd_nil ?_
                  refine vTree_one (i := 21) (L := #[true, true, true, true, true, true, true, true, true, true, true, true, true, true, true, true, true, true, true, true, true, true, false, false, false, false, false, false, false, false, false]) (by kernel_rfl) (by kernel_rfl) ?_
                  refine x_ldA [.int .i64 x.1, .int .i64 x.2] rfl rfl rfl rfl rfl rfl (World.block_lt_of_cell? _ _ (cell_later lz k1)) (fun j u hj => ?_) ?_
                  · match j, hj with
                    | 0, hj => cases hj; exact cell_later lz k1
                    | 1, hj => cases hj; exact cell_later lz k2
                  refine vOrd_nil ?_
                  refine vTree_one (i := 22) (L := #[true, true, true, true, true, true, true, true, true, true, true, true, true, true, true, true, true, true, true, true, true, true, true, false, false, false, false, false, false, false, false]) (by kernel_rfl) (by kernel_rfl) ?_
                  refine s_callT rfl rfl rfl (by kernel_rfl) rfl (rday_any x hxi.1) ?_
                  rintro v w213 rfl lw213
                  replace lz := lz.trans lw213
                  try replace hL := hL.later lw213
                  refine vOrd_nil ?_
                  refine vTree_one (i := 23) (L := #[true, true, true, true, true, true, true, true, true, true, true, true, true, true, true, true, true, true, true, true, true, true, true, true, false, false, false, false, false, false, false]) (by kernel_rfl) (by kernel_rfl) ?_
                  refine t_eql rfl rfl rfl rfl rfl (by exact (A_at hx).1) ?_
                  refine vOrd_nil ?_
                  refine vTree_one (i := 24) (L := #[true, true, true, true, true, true, true, true, true, true, true, true, true, true, true, true, true, true, true, true, true, true, true, true, true, false, false, false, false, false, false]) (by kernel_rfl) (by kernel_rfl) ?_
                  refine s_pick rfl rfl rfl rfl rfl ?_
                  refine vOrd_nil ?_
                  refine vTree_one (i := 25) (L := #[true, true, true, true, true, true, true, true, true, true, true, true, true, true, true, true, true, true, true, true, true, true, true, true, true, true, false, false, false, false, false]) (by kernel_rfl) (by kernel_rfl) ?_
                  refine s_move rfl rfl rfl rfl ?_
                  refine vOrd_nil ?_
                  refine vTree_one (i := 26) (L := #[true, true, true, true, true, true, true, true, true, true, true, true, true, true, true, true, true, true, true, true, true, true, true, true, true, true, true, false, false, false, false]) (by kernel_rfl) (by kernel_rfl) ?_
                  refine s_move rfl rfl rfl rfl ?_
                  refine vOrd_nil ?_
                  refine vTree_one (i := 27) (L := #[true, true, true, true, true, true, true, true, true, true, true, true, true, true, true, true, true, true, true, true, true, true, true, true, true, true, true, true, false, false, false]) (by kernel_rfl) (by kernel_rfl) ?_
                  refine s_callT rfl rfl rfl (by kernel_rfl) rfl (asked_any hL) ?_
                  rintro v w214 rfl lw214
                  replace lz := lz.trans lw214
                  try replace hL := hL.later lw214
                  refine vOrd_nil ?_
                  refine vTree_one (i := 28) (L := #[true, true, true, true, true, true, true, true, true, true, true, true, true, true, true, true, true, true, true, true, true, true, true, true, true, true, true, true, true, false, false]) (by kernel_rfl) (by kernel_rfl) ?_
                  refine t_eql rfl rfl rfl rfl rfl (by omega) ?_
                  refine vOrd_nil ?_
                  refine vTree_one (i := 29) (L := #[true, true, true, true, true, true, true, true, true, true, true, true, true, true, true, true, true, true, true, true, true, true, true, true, true, true, true, true, true, true, false]) (by kernel_rfl) (by kernel_rfl) ?_
                  refine s_pick rfl rfl rfl rfl rfl ?_
                  refine vOrd_nil ?_
                  refine vTree_one (i := 30) (L := #[true, true, true, true, true, true, true, true, true, true, true, true, true, true, true, true, true, true, true, true, true, true, true, true, true, true, true, true, true, true, true]) (by kernel_rfl) (by kernel_rfl) ?_
                  refine s_assign rfl rfl rfl rfl ?_
                  refine vOrd_nil ?_
                  refine vTree_end (by kernel_rfl) ?_
                  refine Wp.ret ⟨.inr rfl, fun lW => ⟨_, res_tmp (P := Try.prog) rfl rfl, _, rfl, ?_, lW⟩⟩
                  clear lW
                  rfl
                · refine x_ldA [.int .i64 x.1, .int .i64 x.2] rfl rfl rfl rfl rfl rfl (World.block_lt_of_cell? _ _ (cell_later lz k1)) (fun j u hj => ?_) ?_
                  · match j, hj with
                    | 0, hj => cases hj; exact cell_later lz k1
                    | 1, hj => cases hj; exact cell_later lz k2
                  refine vOrd_nil ?_
                  refine vTree_one (i := 17) (L := #[true, true, true, true, true, true, true, true, true, true, true, true, true, true, true, true, true, true, true, true, true, true, false, false, false, false, false, false, false, false, false]) (by kernel_rfl) (by kernel_rfl) ?_
                  refine s_callH 1007 rfl rfl rfl (by kernel_rfl) rfl rfl (fun vr => (first_any hb hL)) ?_
                  rintro v cs219 w219 ⟨rfl, R219, _, hLq⟩ gw219 vw219
                  replace lz := lz.past gw219 hbz
                  clear hL
                  have hL := hLq
                  clear hLq
                  refine vOrd_nil ?_
                  refine vTree_one (i := 22) (L := #[true, true, true, true, true, true, true, true, true, true, true, true, true, true, true, true, true, true, true, true, true, true, true, false, false, false, false, false, false, false, false]) (by kernel_rfl) (by kernel_rfl) ?_
                  refine s_callT rfl rfl rfl (by kernel_rfl) rfl (rday_any x hxi.1) ?_
                  rintro v w220 rfl lw220
                  replace lz := lz.trans lw220
                  try replace hL := hL.later lw220
                  refine vOrd_nil ?_
                  refine vTree_one (i := 23) (L := #[true, true, true, true, true, true, true, true, true, true, true, true, true, true, true, true, true, true, true, true, true, true, true, true, false, false, false, false, false, false, false]) (by kernel_rfl) (by kernel_rfl) ?_
                  refine t_eql rfl rfl rfl rfl rfl (by exact (A_at hx).1) ?_
                  refine vOrd_nil ?_
                  refine vTree_one (i := 24) (L := #[true, true, true, true, true, true, true, true, true, true, true, true, true, true, true, true, true, true, true, true, true, true, true, true, true, false, false, false, false, false, false]) (by kernel_rfl) (by kernel_rfl) ?_
                  refine s_pick rfl rfl rfl rfl rfl ?_
                  refine vOrd_nil ?_
                  refine vTree_one (i := 25) (L := #[true, true, true, true, true, true, true, true, true, true, true, true, true, true, true, true, true, true, true, true, true, true, true, true, true, true, false, false, false, false, false]) (by kernel_rfl) (by kernel_rfl) ?_
                  refine s_move rfl rfl rfl rfl ?_
                  refine vOrd_nil ?_
                  refine vTree_one (i := 26) (L := #[true, true, true, true, true, true, true, true, true, true, true, true, true, true, true, true, true, true, true, true, true, true, true, true, true, true, true, false, false, false, false]) (by kernel_rfl) (by kernel_rfl) ?_
                  refine s_move rfl rfl rfl rfl ?_
                  refine vOrd_nil ?_
                  refine vTree_one (i := 27) (L := #[true, true, true, true, true, true, true, true, true, true, true, true, true, true, true, true, true, true, true, true, true, true, true, true, true, true, true, true, false, false, false]) (by kernel_rfl) (by kernel_rfl) ?_
                  refine s_callT rfl rfl rfl (by kernel_rfl) rfl (asked_any hL) ?_
                  rintro v w221 rfl lw221
                  replace lz := lz.trans lw221
                  try replace hL := hL.later lw221
                  refine vOrd_nil ?_
                  refine vTree_one (i := 28) (L := #[true, true, true, true, true, true, true, true, true, true, true, true, true, true, true, true, true, true, true, true, true, true, true, true, true, true, true, true, true, false, false]) (by kernel_rfl) (by kernel_rfl) ?_
                  refine t_eql rfl rfl rfl rfl rfl (by omega) ?_
                  refine vOrd_nil ?_
                  refine vTree_one (i := 29) (L := #[true, true, true, true, true, true, true, true, true, true, true, true, true, true, true, true, true, true, true, true, true, true, true, true, true, true, true, true, true, true, false]) (by kernel_rfl) (by kernel_rfl) ?_
                  refine s_pick rfl rfl rfl rfl rfl ?_
                  refine vOrd_nil ?_
                  refine vTree_one (i := 30) (L := #[true, true, true, true, true, true, true, true, true, true, true, true, true, true, true, true, true, true, true, true, true, true, true, true, true, true, true, true, true, true, true]) (by kernel_rfl) (by kernel_rfl) ?_
                  refine s_assign rfl rfl rfl rfl ?_
                  refine vOrd_nil ?_
                  refine vTree_end (by kernel_rfl) ?_
                  refine Wp.ret ⟨.inr rfl, fun lW => ⟨_, res_tmp (P := Try.prog) rfl rfl, _, rfl, ?_, lW⟩⟩
                  clear lW
                  rfl
            · refine s_idx (sz := 2) (ao + 0 * 2) rfl rfl rfl rfl rfl rfl rfl (by omega) (by omega) (by omega) ?_
              refine vOrd_nil ?_
              refine vTree_two (i := 16) (k := 21) (L1 := #[true, true, true, true, true, true, true, true, true, true, true, true, true, true, true, true, true, false, true, true, true, false, false, false, false, false, false, false, false, false, false]) (L2 := #[true, true, true, true, true, true, true, true, true, true, true, true, true, true, true, true, false, false, true, true, true, true, false, false, false, false, false, false, false, false, false]) (by kernel_rfl) (by kernel_rfl) (by kernel_rfl) ?_ ?_
              · refine s_move rfl rfl rfl rfl ?_
                refine vOrd_nil ?_
                refine vTree_two (i := 17) (k := 21) (L1 := #[true, true, true, true, true, true, true, true, true, true, true, true, true, true, true, true, true, true, true, true, true, false, false, false, false, false, false, false, false, false, false]) (L2 := #[true, true, true, true, true, true, true, true, true, true, true, true, true, true, true, true, true, false, true, true, true, true, false, false, false, false, false, false, false, false, false]) (by kernel_rfl) (by kernel_rfl) (by kernel_rfl) ?_ ?_
                · refine s_callH 1007 rfl rfl rfl (by kernel_rfl) rfl rfl (fun vr => (first_any hb hL)) ?_
                  rintro v cs223 w223 ⟨rfl, R223, _, hLq⟩ gw223 vw223
                  replace lz := lz.past gw223 hbz
                  clear hL
                  have hL := hLq
                  clear hLq
                  refine vOrd_nil ?_
                  refine vTree_one (i := 21) (L := #[true, true, true, true, true, true, true, true, true, true, true, true, true, true, true, true, true, true, true, true, true, true, false, false, false, false, false, false, false, false, false]) (by kernel_rfl) (by kernel_rfl) ?_
                  refine x_ldA [.int .i64 x.1, .int .i64 x.2] rfl rfl rfl rfl rfl rfl (World.block_lt_of_cell? _ _ (cell_later lz k1)) (fun j u hj => ?_) ?_
                  · match j, hj with
                    | 0, hj => cases hj; exact cell_later lz k1
                    | 1, hj => cases hj; exact cell_later lz k2
                  refine vOrd_nil ?_
                  refine vTree_one (i := 22) (L := #[true, true, true, true, true, true, true, true, true, true, true, true, true, true, true, true, true, true, true, true, true, true, true, false, false, false, false, false, false, false, false]) (by kernel_rfl) (by kernel_rfl) ?_
                  refine s_callT rfl rfl rfl (by kernel_rfl) rfl (rday_any x hxi.1) ?_
                  rintro v w228 rfl lw228
                  replace lz := lz.trans lw228
                  try replace hL := hL.later lw228
                  refine vOrd_nil ?_
                  refine vTree_one (i := 23) (L := #[true, true, true, true, true, true, true, true, true, true, true, true, true, true, true, true, true, true, true, true, true, true, true, true, false, false, false, false, false, false, false]) (by kernel_rfl) (by kernel_rfl) ?_
                  refine t_eql rfl rfl rfl rfl rfl (by exact (A_at hx).1) ?_
                  refine vOrd_nil ?_
                  refine vTree_one (i := 24) (L := #[true, true, true, true, true, true, true, true, true, true, true, true, true, true, true, true, true, true, true, true, true, true, true, true, true, false, false, false, false, false, false]) (by kernel_rfl) (by kernel_rfl) ?_
                  refine s_pick rfl rfl rfl rfl rfl ?_
                  refine vOrd_nil ?_
                  refine vTree_one (i := 25) (L := #[true, true, true, true, true, true, true, true, true, true, true, true, true, true, true, true, true, true, true, true, true, true, true, true, true, true, false, false, false, false, false]) (by kernel_rfl) (by kernel_rfl) ?_
                  refine s_move rfl rfl rfl rfl ?_
                  refine vOrd_nil ?_
                  refine vTree_one (i := 26) (L := #[true, true, true, true, true, true, true, true, true, true, true, true, true, true, true, true, true, true, true, true, true, true, true, true, true, true, true, false, false, false, false]) (by kernel_rfl) (by kernel_rfl) ?_
                  refine s_move rfl rfl rfl rfl ?_
                  refine vOrd_nil ?_
                  refine vTree_one (i := 27) (L := #[true, true, true, true, true, true, true, true, true, true, true, true, true, true, true, true, true, true, true, true, true, true, true, true, true, true, true, true, false, false, false]) (by kernel_rfl) (by kernel_rfl) ?_
                  refine s_callT rfl rfl rfl (by kernel_rfl) rfl (asked_any hL) ?_
                  rintro v w229 rfl lw229
                  replace lz := lz.trans lw229
                  try replace hL := hL.later lw229
                  refine vOrd_nil ?_
                  refine vTree_one (i := 28) (L := #[true, true, true, true, true, true, true, true, true, true, true, true, true, true, true, true, true, true, true, true, true, true, true, true, true, true, true, true, true, false, false]) (by kernel_rfl) (by kernel_rfl) ?_
                  refine t_eql rfl rfl rfl rfl rfl (by omega) ?_
                  refine vOrd_nil ?_
                  refine vTree_one (i := 29) (L := #[true, true, true, true, true, true, true, true, true, true, true, true, true, true, true, true, true, true, true, true, true, true, true, true, true, true, true, true, true, true, false]) (by kernel_rfl) (by kernel_rfl) ?_
                  refine s_pick rfl rfl rfl rfl rfl ?_
                  refine vOrd_nil ?_
                  refine vTree_one (i := 30) (L := #[true, true, true, true, true, true, true, true, true, true, true, true, true, true, true, true, true, true, true, true, true, true, true, true, true, true, true, true, true, true, true]) (by kernel_rfl) (by kernel_rfl) ?_
                  refine s_assign rfl rfl rfl rfl ?_
                  refine vOrd_nil ?_
                  refine vTree_end (by kernel_rfl) ?_
                  refine Wp.ret ⟨.inr rfl, fun lW => ⟨_, res_tmp (P := Try.prog) rfl rfl, _, rfl, ?_, lW⟩⟩
                  clear lW
                  rfl
                · refine x_ldA [.int .i64 x.1, .int .i64 x.2] rfl rfl rfl rfl rfl rfl (World.block_lt_of_cell? _ _ (cell_later lz k1)) (fun j u hj => ?_) ?_
                  · match j, hj with
                    | 0, hj => cases hj; exact cell_later lz k1
                    | 1, hj => cases hj; exact cell_later lz k2
                  refine vOrd_nil ?_
                  refine vTree_one (i := 17) (L := #[true, true, true, true, true, true, true, true, true, true, true, true, true, true, true, true, true, true, true, true, true, true, false, false, false, false, false, false, false, false, false]) (by kernel_rfl) (by kernel_rfl) ?_
                  refine s_callH 1007 rfl rfl rfl (by kernel_rfl) rfl rfl (fun vr => (first_any hb hL)) ?_
                  rintro v cs234 w234 ⟨rfl, R234, _, hLq⟩ gw234 vw234
                  replace lz := lz.past gw234 hbz
                  clear hL
                  have hL := hLq
                  clear hLq
                  refine vOrd_nil ?_
                  refine vTree_one (i := 22) (L := #[true, true, true, true, true, true, true, true, true, true, true, true, true, true, true, true, true, true, true, true, true, true, true, false, false, false, false, false, false, false, false]) (by kernel_rfl) (by kernel_rfl) ?_
                  refine s_callT rfl rfl rfl (by kernel_rfl) rfl (rday_any x hxi.1) ?_
                  rintro v w235 rfl lw235
                  replace lz := lz.trans lw235
                  try replace hL := hL.later lw235
                  refine vOrd_nil ?_
                  refine vTree_one (i := 23) (L := #[true, true, true, true, true, true, true, true, true, true, true, true, true, true, true, true, true, true, true, true, true, true, true, true, false, false, false, false, false, false, false]) (by kernel_rfl) (by kernel_rfl) ?_
                  refine t_eql rfl rfl rfl rfl rfl (by exact (A_at hx).1) ?_
                  refine vOrd_nil ?_
                  refine vTree_one (i := 24) (L := #[true, true, true, true, true, true, true, true, true, true, true, true, true, true, true, true, true, true, true, true, true, true, true, true, true, false, false, false, false, false, false]) (by kernel_rfl) (by kernel_rfl) ?_
                  refine s_pick rfl rfl rfl rfl rfl ?_
                  refine vOrd_nil ?_
                  refine vTree_one (i := 25) (L := #[true, true, true, true, true, true, true, true, true, true, true, true, true, true, true, true, true, true, true, true, true, true, true, true, true, true, false, false, false, false, false]) (by kernel_rfl) (by kernel_rfl) ?_
                  refine s_move rfl rfl rfl rfl ?_
                  refine vOrd_nil ?_
                  refine vTree_one (i := 26) (L := #[true, true, true, true, true, true, true, true, true, true, true, true, true, true, true, true, true, true, true, true, true, true, true, true, true, true, true, false, false, false, false]) (by kernel_rfl) (by kernel_rfl) ?_
                  refine s_move rfl rfl rfl rfl ?_
                  refine vOrd_nil ?_
                  refine vTree_one (i := 27) (L := #[true, true, true, true, true, true, true, true, true, true, true, true, true, true, true, true, true, true, true, true, true, true, true, true, true, true, true, true, false, false, false]) (by kernel_rfl) (by kernel_rfl) ?_
                  refine s_callT rfl rfl rfl (by kernel_rfl) rfl (asked_any hL) ?_
                  rintro v w236 rfl lw236
                  replace lz := lz.trans lw236
                  try replace hL := hL.later lw236
                  refine vOrd_nil ?_
                  refine vTree_one (i := 28) (L := #[true, true, true, true, true, true, true, true, true, true, true, true, true, true, true, true, true, true, true, true, true, true, true, true, true, true, true, true, true, false, false]) (by kernel_rfl) (by kernel_rfl) ?_
                  refine t_eql rfl rfl rfl rfl rfl (by omega) ?_
                  refine vOrd_nil ?_
                  refine vTree_one (i := 29) (L := #[true, true, true, true, true, true, true, true, true, true, true, true, true, true, true, true, true, true, true, true, true, true, true, true, true, true, true, true, true, true, false]) (by kernel_rfl) (by kernel_rfl) ?_
                  refine s_pick rfl rfl rfl rfl rfl ?_
                  refine vOrd_nil ?_
                  refine vTree_one (i := 30) (L := #[true, true, true, true, true, true, true, true, true, true, true, true, true, true, true, true, true, true, true, true, true, true, true, true, true, true, true, true, true, true, true]) (by kernel_rfl) (by kernel_rfl) ?_
                  refine s_assign rfl rfl rfl rfl ?_
                  refine vOrd_nil ?_
                  refine vTree_end (by kernel_rfl) ?_
                  refine Wp.ret ⟨.inr rfl, fun lW => ⟨_, res_tmp (P := Try.prog) rfl rfl, _, rfl, ?_, lW⟩⟩
                  clear lW
                  rfl
              · refine x_ldA [.int .i64 x.1, .int .i64 x.2] rfl rfl rfl rfl rfl rfl (World.block_lt_of_cell? _ _ (cell_later lz k1)) (fun j u hj => ?_) ?_
                · match j, hj with
                  | 0, hj => cases hj; exact cell_later lz k1
                  | 1, hj => cases hj; exact cell_later lz k2
                refine vOrd_nil ?_
                refine vTree_one (i := 16) (L := #[true, true, true, true, true, true, true, true, true, true, true, true, true, true, true, true, true, false, true, true, true, true, false, false, false, false, false, false, false, false, false]) (by kernel_rfl) (by kernel_rfl) ?_
                refine s_move rfl rfl rfl rfl ?_
                refine vOrd_nil ?_
                refine vTree_one (i := 17) (L := #[true, true, true, true, true, true, true, true, true, true, true, true, true, true, true, true, true, true, true, true, true, true, false, false, false, false, false, false, false, false, false]) (by kernel_rfl) (by kernel_rfl) ?_
                refine s_callH 1007 rfl rfl rfl (by kernel_rfl) rfl rfl (fun vr => (first_any hb hL)) ?_
                rintro v cs241 w241 ⟨rfl, R241, _, hLq⟩ gw241 vw241
                replace lz := lz.past gw241 hbz
                clear hL
                have hL := hLq
                clear hLq
                refine vOrd_nil ?_
                refine vTree_one (i := 22) (L := #[true, true, true, true, true, true, true, true, true, true, true, true, true, true, true, true, true, true, true, true, true, true, true, false, false, false, false, false, false, false, false]) (by kernel_rfl) (by kernel_rfl) ?_
                refine s_callT rfl rfl rfl (by kernel_rfl) rfl (rday_any x hxi.1) ?_
                rintro v w242 rfl lw242
                replace lz := lz.trans lw242
                try replace hL := hL.later lw242
                refine vOrd_nil ?_
                refine vTree_one (i := 23) (L := #[true, true, true, true, true, true, true, true, true, true, true, true, true, true, true, true, true, true, true, true, true, true, true, true, false, false, false, false, false, false, false]) (by kernel_rfl) (by kernel_rfl) ?_
                refine t_eql rfl rfl rfl rfl rfl (by exact (A_at hx).1) ?_
                refine vOrd_nil ?_
                refine vTree_one (i := 24) (L := #[true, true, true, true, true, true, true, true, true, true, true, true, true, true, true, true, true, true, true, true, true, true, true, true, true, false, false, false, false, false, false]) (by kernel_rfl) (by kernel_rfl) ?_
                refine s_pick rfl rfl rfl rfl rfl ?_
                refine vOrd_nil ?_
                refine vTree_one (i := 25) (L := #[true, true, true, true, true, true, true, true, true, true, true, true, true, true, true, true, true, true, true, true, true, true, true, true, true, true, false, false, false, false, false]) (by kernel_rfl) (by kernel_rfl) ?_
                refine s_move rfl rfl rfl rfl ?_
                refine vOrd_nil ?_
                refine vTree_one (i := 26) (L := #[true, true, true, true, true, true, true, true, true, true, true, true, true, true, true, true, true, true, true, true, true, true, true, true, true, true, true, false, false, false, false]) (by kernel_rfl) (by kernel_rfl) ?_
                refine s_move rfl rfl rfl rfl ?_
                refine vOrd_nil ?_
                refine vTree_one (i := 27) (L := #[true, true, true, true, true, true, true, true, true, true, true, true, true, true, true, true, true, true, true, true, true, true, true, true, true, true, true, true, false, false, false]) (by kernel_rfl) (by kernel_rfl) ?_
                refine s_callT rfl rfl rfl (by kernel_rfl) rfl (asked_any hL) ?_
                rintro v w243 rfl lw243
                replace lz := lz.trans lw243
                try replace hL := hL.later lw243
                refine vOrd_nil ?_
                refine vTree_one (i := 28) (L := #[true, true, true, true, true, true, true, true, true, true, true, true, true, true, true, true, true, true, true, true, true, true, true, true, true, true, true, true, true, false, false]) (by kernel_rfl) (by kernel_rfl) ?_
                refine t_eql rfl rfl rfl rfl rfl (by omega) ?_
                refine vOrd_nil ?_
                refine vTree_one (i := 29) (L := #[true, true, true, true, true, true, true, true, true, true, true, true, true, true, true, true, true, true, true, true, true, true, true, true, true, true, true, true, true, true, false]) (by kernel_rfl) (by kernel_rfl) ?_
                refine s_pick rfl rfl rfl rfl rfl ?_
                refine vOrd_nil ?_
                refine vTree_one (i := 30) (L := #[true, true, true, true, true, true, true, true, true, true, true, true, true, true, true, true, true, true, true, true, true, true, true, true, true, true, true, true, true, true, true]) (by kernel_rfl) (by kernel_rfl) ?_
                refine s_assign rfl rfl rfl rfl ?_
                refine vOrd_nil ?_
                refine vTree_end (by kernel_rfl) ?_
                refine Wp.ret ⟨.inr rfl, fun lW => ⟨_, res_tmp (P := Try.prog) rfl rfl, _, rfl, ?_, lW⟩⟩
                clear lW
                rfl
    · refine s_load rfl rfl rfl rfl rfl rfl rfl ?_
      refine vOrd_nil ?_
      refine vTree_one (i := 10) (L := #[true, true, true, true, true, true, true, true, true, true, true, false, true, false, false, false, false, false, false, false, false, false, false, false, false, false, false, false, false, false, false]) (by kernel_rfl) (by kernel_rfl) ?_
      refine s_move rfl rfl rfl rfl ?_
      refine vOrd_nil ?_
      refine vTree_one (i := 11) (L := #[true, true, true, true, true, true, true, true, true, true, true, true, true, false, false, false, false, false, false, false, false, false, false, false, false, false, false, false, false, false, false]) (by kernel_rfl) (by kernel_rfl) ?_
      refine s_callT rfl rfl rfl (by kernel_rfl) rfl (table_any hb hL) ?_
      rintro v w244 ⟨q1, rfl, _, hq⟩ lw244
      replace lz := lz.trans lw244
      try replace hL := hL.later lw244
      refine vOrd_nil ?_
      refine vTree_one (i := 13) (L := #[true, true, true, true, true, true, true, true, true, true, true, true, true, true, false, false, false, false, false, false, false, false, false, false, false, false, false, false, false, false, false]) (by kernel_rfl) (by kernel_rfl) ?_
      refine s_callT rfl rfl rfl (by kernel_rfl) rfl (tsame_any t hu he (ents_var (by first | exact hq | exact hq.later (by assumption)) (fun j => can_all hb (j := j))) (hv.later lz) (by omega)) ?_
      rintro v w245 rfl lw245
      replace lz := lz.trans lw245
      try replace hL := hL.later lw245
      refine vOrd_nil ?_
      refine vTree_one (i := 14) (L := #[true, true, true, true, true, true, true, true, true, true, true, true, true, true, true, false, false, false, false, false, false, false, false, false, false, false, false, false, false, false, false]) (by kernel_rfl) (by kernel_rfl) ?_
      refine s_pick rfl rfl rfl rfl rfl ?_
      refine vOrd_nil ?_
      refine vTree_one (i := 15) (L := #[true, true, true, true, true, true, true, true, true, true, true, true, true, true, true, true, false, false, false, false, false, false, false, false, false, false, false, false, false, false, false]) (by kernel_rfl) (by kernel_rfl) ?_
      refine s_move rfl rfl rfl rfl ?_
      refine vOrd_nil ?_
      refine vTree_two (i := 16) (k := 18) (L1 := #[true, true, true, true, true, true, true, true, true, true, true, true, true, true, true, true, true, false, false, false, false, false, false, false, false, false, false, false, false, false, false]) (L2 := #[true, true, true, true, true, true, true, true, true, true, true, true, true, true, true, true, false, false, true, false, false, false, false, false, false, false, false, false, false, false, false]) (by kernel_rfl) (by kernel_rfl) (by kernel_rfl) ?_ ?_
      · refine s_move rfl rfl rfl rfl ?_
        refine vOrd_nil ?_
        refine vTree_two (i := 17) (k := 18) (L1 := #[true, true, true, true, true, true, true, true, true, true, true, true, true, true, true, true, true, true, false, false, false, false, false, false, false, false, false, false, false, false, false]) (L2 := #[true, true, true, true, true, true, true, true, true, true, true, true, true, true, true, true, true, false, true, false, false, false, false, false, false, false, false, false, false, false, false]) (by kernel_rfl) (by kernel_rfl) (by kernel_rfl) ?_ ?_
        · refine s_callH 1007 rfl rfl rfl (by kernel_rfl) rfl rfl (fun vr => (first_any hb hL)) ?_
          rintro v cs246 w246 ⟨rfl, R246, _, hLq⟩ gw246 vw246
          replace lz := lz.past gw246 hbz
          clear hL
          have hL := hLq
          clear hLq
          refine vOrd_nil ?_
          refine vTree_one (i := 18) (L := #[true, true, true, true, true, true, true, true, true, true, true, true, true, true, true, true, true, true, true, false, false, false, false, false, false, false, false, false, false, false, false]) (by kernel_rfl) (by kernel_rfl) ?_
          refine s_field 2 rfl rfl rfl rfl rfl ?_
          refine vOrd_nil ?_
          refine vTree_one (i := 19) (L := #[true, true, true, true, true, true, true, true, true, true, true, true, true, true, true, true, true, true, true, true, false, false, false, false, false, false, false, false, false, false, false]) (by kernel_rfl) (by kernel_rfl) ?_
          refine s_load rfl rfl rfl rfl rfl rfl rfl ?_
          refine vOrd_nil ?_
          refine vTree_one (i := 20) (L := #[true, true, true, true, true, true, true, true, true, true, true, true, true, true, true, true, true, true, true, true, true, false, false, false, false, false, false, false, false, false, false]) (by kernel_rfl) (by kernel_rfl) ?_
          refine s_idx (sz := 2) (ao + 0 * 2) rfl rfl rfl rfl rfl rfl rfl (by omega) (by omega) (by omega) ?_
          refine vOrd_nil ?_
          refine vTree_one (i := 21) (L := #[true, true, true, true, true, true, true, true, true, true, true, true, true, true, true, true, true, true, true, true, true, true, false, false, false, false, false, false, false, false, false]) (by kernel_rfl) (by kernel_rfl) ?_
          refine x_ldA [.int .i64 x.1, .int .i64 x.2] rfl rfl rfl rfl rfl rfl (World.block_lt_of_cell? _ _ (cell_later lz k1)) (fun j u hj => ?_) ?_
          · match j, hj with
            | 0, hj => cases hj; exact cell_later lz k1
            | 1, hj => cases hj; exact cell_later lz k2
          refine vOrd_nil ?_
          refine vTree_one (i := 22) (L := #[true, true, true, true, true, true, true, true, true, true, true, true, true, true, true, true, true, true, true, true, true, true, true, false, false, false, false, false, false, false, false]) (by kernel_rfl) (by kernel_rfl) ?_
          refine s_callT rfl rfl rfl (by kernel_rfl) rfl (rday_any x hxi.1) ?_
          rintro v w252 rfl lw252
          replace lz := lz.trans lw252
          try replace hL := hL.later lw252
          refine vOrd_nil ?_
          refine vTree_one (i := 23) (L := #[true, true, true, true, true, true, true, true, true, true, true, true, true, true, true, true, true, true, true, true, true, true, true, true, false, false, false, false, false, false, false]) (by kernel_rfl) (by kernel_rfl) ?_
          refine t_eql rfl rfl rfl rfl rfl (by exact (A_at hx).1) ?_
          refine vOrd_nil ?_
          refine vTree_one (i := 24) (L := #[true, true, true, true, true, true, true, true, true, true, true, true, true, true, true, true, true, true, true, true, true, true, true, true, true, false, false, false, false, false, false]) (by kernel_rfl) (by kernel_rfl) ?_
          refine s_pick rfl rfl rfl rfl rfl ?_
          refine vOrd_nil ?_
          refine vTree_one (i := 25) (L := #[true, true, true, true, true, true, true, true, true, true, true, true, true, true, true, true, true, true, true, true, true, true, true, true, true, true, false, false, false, false, false]) (by kernel_rfl) (by kernel_rfl) ?_
          refine s_move rfl rfl rfl rfl ?_
          refine vOrd_nil ?_
          refine vTree_one (i := 26) (L := #[true, true, true, true, true, true, true, true, true, true, true, true, true, true, true, true, true, true, true, true, true, true, true, true, true, true, true, false, false, false, false]) (by kernel_rfl) (by kernel_rfl) ?_
          refine s_move rfl rfl rfl rfl ?_
          refine vOrd_nil ?_
          refine vTree_one (i := 27) (L := #[true, true, true, true, true, true, true, true, true, true, true, true, true, true, true, true, true, true, true, true, true, true, true, true, true, true, true, true, false, false, false]) (by kernel_rfl) (by kernel_rfl) ?_
          refine s_callT rfl rfl rfl (by kernel_rfl) rfl (asked_any hL) ?_
          rintro v w253 rfl lw253
          replace lz := lz.trans lw253
          try replace hL := hL.later lw253
          refine vOrd_nil ?_
          refine vTree_one (i := 28) (L := #[true, true, true, true, true, true, true, true, true, true, true, true, true, true, true, true, true, true, true, true, true, true, true, true, true, true, true, true, true, false, false]) (by kernel_rfl) (by kernel_rfl) ?_
          refine t_eql rfl rfl rfl rfl rfl (by omega) ?_
          refine vOrd_nil ?_
          refine vTree_one (i := 29) (L := #[true, true, true, true, true, true, true, true, true, true, true, true, true, true, true, true, true, true, true, true, true, true, true, true, true, true, true, true, true, true, false]) (by kernel_rfl) (by kernel_rfl) ?_
          refine s_pick rfl rfl rfl rfl rfl ?_
          refine vOrd_nil ?_
          refine vTree_one (i := 30) (L := #[true, true, true, true, true, true, true, true, true, true, true, true, true, true, true, true, true, true, true, true, true, true, true, true, true, true, true, true, true, true, true]) (by kernel_rfl) (by kernel_rfl) ?_
          refine s_assign rfl rfl rfl rfl ?_
          refine vOrd_nil ?_
          refine vTree_end (by kernel_rfl) ?_
          refine Wp.ret ⟨.inr rfl, fun lW => ⟨_, res_tmp (P := Try.prog) rfl rfl, _, rfl, ?_, lW⟩⟩
          clear lW
          rfl
        · refine s_field 2 rfl rfl rfl rfl rfl ?_
          refine vOrd_nil ?_
          refine vTree_two (i := 17) (k := 19) (L1 := #[true, true, true, true, true, true, true, true, true, true, true, true, true, true, true, true, true, true, true, false, false, false, false, false, false, false, false, false, false, false, false]) (L2 := #[true, true, true, true, true, true, true, true, true, true, true, true, true, true, true, true, true, false, true, true, false, false, false, false, false, false, false, false, false, false, false]) (by kernel_rfl) (by kernel_rfl) (by kernel_rfl) ?_ ?_
          · refine s_callH 1007 rfl rfl rfl (by kernel_rfl) rfl rfl (fun vr => (first_any hb hL)) ?_
            rintro v cs254 w254 ⟨rfl, R254, _, hLq⟩ gw254 vw254
            replace lz := lz.past gw254 hbz
            clear hL
            have hL := hLq
            clear hLq
            refine vOrd_nil ?_
            refine vTree_one (i := 19) (L := #[true, true, true, true, true, true, true, true, true, true, true, true, true, true, true, true, true, true, true, true, false, false, false, false, false, false, false, false, false, false, false]) (by kernel_rfl) (by kernel_rfl) ?_
            refine s_load rfl rfl rfl rfl rfl rfl rfl ?_
            refine vOrd_nil ?_
            refine vTree_one (i := 20) (L := #[true, true, true, true, true, true, true, true, true, true, true, true, true, true, true, true, true, true, true, true, true, false, false, false, false, false, false, false, false, false, false]) (by kernel_rfl) (by kernel_rfl) ?_
            refine s_idx (sz := 2) (ao + 0 * 2) rfl rfl rfl rfl rfl rfl rfl (by omega) (by omega) (by omega) ?_
            refine vOrd_nil ?_
            refine vTree_one (i := 21) (L := #[true, true, true, true, true, true, true, true, true, true, true, true, true, true, true, true, true, true, true, true, true, true, false, false, false, false, false, false, false, false, false]) (by kernel_rfl) (by kernel_rfl) ?_
            refine x_ldA [.int .i64 x.1, .int .i64 x.2] rfl rfl rfl rfl rfl rfl (World.block_lt_of_cell? _ _ (cell_later lz k1)) (fun j u hj => ?_) ?_
            · match j, hj with
              | 0, hj => cases hj; exact cell_later lz k1
              | 1, hj => cases hj; exact cell_later lz k2
            refine vOrd_nil ?_
            refine vTree_one (i := 22) (L := #[true, true, true, true, true, true, true, true, true, true, true, true, true, true, true, true, true, true, true, true, true, true, true, false, false, false, false, false, false, false, false]) (by kernel_rfl) (by kernel_rfl) ?_
            refine s_callT rfl rfl rfl (by kernel_rfl) rfl (rday_any x hxi.1) ?_
            rintro v w260 rfl lw260
            replace lz := lz.trans lw260
            try replace hL := hL.later lw260
            refine vOrd_nil ?_
            refine vTree_one (i := 23) (L := #[true, true, true, true, true, true, true, true, true, true, true, true, true, true, true, true, true, true, true, true, true, true, true, true, false, false, false, false, false, false, false]) (by kernel_rfl) (by kernel_rfl) ?_
            refine t_eql rfl rfl rfl rfl rfl (by exact (A_at hx).1) ?_
            refine vOrd_nil ?_
            refine vTree_one (i := 24) (L := #[true, true, true, true, true, true, true, true, true, true, true, true, true, true, true, true, true, true, true, true, true, true, true, true, true, false, false, false, false, false, false]) (by kernel_rfl) (by kernel_rfl) ?_
            refine s_pick rfl rfl rfl rfl rfl ?_
            refine vOrd_nil ?_
            refine vTree_one (i := 25) (L := #[true, true, true, true, true, true, true, true, true, true, true, true, true, true, true, true, true, true, true, true, true, true, true, true, true, true, false, false, false, false, false]) (by kernel_rfl) (by kernel_rfl) ?_
            refine s_move rfl rfl rfl rfl ?_
            refine vOrd_nil ?_
            refine vTree_one (i := 26) (L := #[true, true, true, true, true, true, true, true, true, true, true, true, true, true, true, true, true, true, true, true, true, true, true, true, true, true, true, false, false, false, false]) (by kernel_rfl) (by kernel_rfl) ?_
            refine s_move rfl rfl rfl rfl ?_
            refine vOrd_nil ?_
            refine vTree_one (i := 27) (L := #[true, true, true, true, true, true, true, true, true, true, true, true, true, true, true, true, true, true, true, true, true, true, true, true, true, true, true, true, false, false, false]) (by kernel_rfl) (by kernel_rfl) ?_
            refine s_callT rfl rfl rfl (by kernel_rfl) rfl (asked_any hL) ?_
            rintro v w261 rfl lw261
            replace lz := lz.trans lw261
            try replace hL := hL.later lw261
            refine vOrd_nil ?_
            refine vTree_one (i := 28) (L := #[true, true, true, true, true, true, true, true, true, true, true, true, true, true, true, true, true, true, true, true, true, true, true, true, true, true, true, true, true, false, false]) (by kernel_rfl) (by kernel_rfl) ?_
            refine t_eql rfl rfl rfl rfl rfl (by omega) ?_
            refine vOrd_nil ?_
            refine vTree_one (i := 29) (L := #[true, true, true, true, true, true, true, true, true, true, true, true, true, true, true, true, true, true, true, true, true, true, true, true, true, true, true, true, true, true, false]) (by kernel_rfl) (by kernel_rfl) ?_
            refine s_pick rfl rfl rfl rfl rfl ?_
            refine vOrd_nil ?_
            refine vTree_one (i := 30) (L := #[true, true, true, true, true, true, true, true, true, true, true, true, true, true, true, true, true, true, true, true, true, true, true, true, true, true, true, true, true, true, true]) (by kernel_rfl) (by kernel_rfl) ?_
            refine s_assign rfl rfl rfl rfl ?_
            refine vOrd_nil ?_
            refine vTree_end (by kernel_rfl) ?_
            refine Wp.ret ⟨.inr rfl, fun lW => ⟨_, res_tmp (P := Try.prog) rfl rfl, _, rfl, ?_, lW⟩⟩
            clear lW
            rfl
          · refine s_load rfl rfl rfl rfl rfl rfl rfl ?_
            refine vOrd_nil ?_
            refine vTree_two (i := 17) (k := 20) (L1 := #[true, true, true, true, true, true, true, true, true, true, true, true, true, true, true, true, true, true, true, true, false, false, false, false, false, false, false, false, false, false, false]) (L2 := #[true, true, true, true, true, true, true, true, true, true, true, true, true, true, true, true, true, false, true, true, true, false, false, false, false, false, false, false, false, false, false]) (by kernel_rfl) (by kernel_rfl) (by kernel_rfl) ?_ ?_
            · refine s_callH 1007 rfl rfl rfl (by kernel_rfl) rfl rfl (fun vr => (first_any hb hL)) ?_
              rintro v cs262 w262 ⟨rfl, R262, _, hLq⟩ gw262 vw262
              replace lz := lz.past gw262 hbz
              clear hL
              have hL := hLq
              clear hLq
              refine vOrd_nil ?_
              refine vTree_one (i := 20) (L := #[true, true, true, true, true, true, true, true, true, true, true, true, true, true, true, true, true, true, true, true, true, false, false, false, false, false, false, false, false, false, false]) (by kernel_rfl) (by kernel_rfl) ?_
              refine s_idx (sz := 2) (ao + 0 * 2) rfl rfl rfl rfl rfl rfl rfl (by omega) (by omega) (by omega) ?_
              refine vOrd_nil ?_
              refine vTree_one (i := 21) (L := #[true, true, true, true, true, true, true, true, true, true, true, true, true, true, true, true, true, true, true, true, true, true, false, false, false, false, false, false, false, false, false]) (by kernel_rfl) (by kernel_rfl) ?_
              refine x_ldA [.int .i64 x.1, .int .i64 x.2] rfl rfl rfl rfl rfl rfl (World.block_lt_of_cell? _ _ (cell_later lz k1)) (fun j u hj => ?_) ?_
              · match j, hj with
                | 0, hj => cases hj; exact cell_later lz k1
                | 1, hj => cases hj; exact cell_later lz k2
              refine vOrd_nil ?_
              refine vTree_one (i := 22) (L := #[true, true, true, true, true, true, true, true, true, true, true, true, true, true, true, true, true, true, true, true, true, true, true, false, false, false, false, false, false, false, false]) (by kernel_rfl) (by kernel_rfl) ?_
              refine s_callT rfl rfl rfl (by kernel_rfl) rfl (rday_any x hxi.1) ?_
              rintro v w268 rfl lw268
              replace lz := lz.trans lw268
              try replace hL := hL.later lw268
              refine vOrd_nil ?_
              refine vTree_one (i := 23) (L := #[true, true, true, true, true, true, true, true, true, true, true, true, true, true, true, true, true, true, true, true, true, true, true, true, false, false, false, false, false, false, false]) (by kernel_rfl) (by kernel_rfl) ?_
              refine t_eql rfl rfl rfl rfl rfl (by exact (A_at hx).1) ?_
              refine vOrd_nil ?_
              refine vTree_one (i := 24) (L := #[true, true, true, true, true, true, true, true, true, true, true, true, true, true, true, true, true, true, true, true, true, true, true, true, true, false, false, false, false, false, false]) (by kernel_rfl) (by kernel_rfl) ?_
              refine s_pick rfl rfl rfl rfl rfl ?_
              refine vOrd_nil ?_
              refine vTree_one (i := 25) (L := #[true, true, true, true, true, true, true, true, true, true, true, true, true, true, true, true, true, true, true, true, true, true, true, true, true, true, false, false, false, false, false]) (by kernel_rfl) (by kernel_rfl) ?_
              refine s_move rfl rfl rfl rfl ?_
              refine vOrd_nil ?_
              refine vTree_one (i := 26) (L := #[true, true, true, true, true, true, true, true, true, true, true, true, true, true, true, true, true, true, true, true, true, true, true, true, true, true, true, false, false, false, false]) (by kernel_rfl) (by kernel_rfl) ?_
              refine s_move rfl rfl rfl rfl ?_
              refine vOrd_nil ?_
              refine vTree_one (i := 27) (L := #[true, true, true, true, true, true, true, true, true, true, true, true, true, true, true, true, true, true, true, true, true, true, true, true, true, true, true, true, false, false, false]) (by kernel_rfl) (by kernel_rfl) ?_
              refine s_callT rfl rfl rfl (by kernel_rfl) rfl (asked_any hL) ?_
              rintro v w269 rfl lw269
              replace lz := lz.trans lw269
              try replace hL := hL.later lw269
              refine vOrd_nil ?_
              refine vTree_one (i := 28) (L := #[true, true, true, true, true, true, true, true, true, true, true, true, true, true, true, true, true, true, true, true, true, true, true, true, true, true, true, true, true, false, false]) (by kernel_rfl) (by kernel_rfl) ?_
              refine t_eql rfl rfl rfl rfl rfl (by omega) ?_
              refine vOrd_nil ?_
              refine vTree_one (i := 29) (L := #[true, true, true, true, true, true, true, true, true, true, true, true, true, true, true, true, true, true, true, true, true, true, true, true, true, true, true, true, true, true, false]) (by kernel_rfl) (by kernel_rfl) ?_
              refine s_pick rfl rfl rfl rfl rfl ?_
              refine vOrd_nil ?_
              refine vTree_one (i := 30) (L := #[true, true, true, true, true, true, true, true, true, true, true, true, true, true, true, true, true, true, true, true, true, true, true, true, true, true, true, true, true, true, true]) (by kernel_rfl) (by kernel_rfl) ?_
              refine s_assign rfl rfl rfl rfl ?_
              refine vOrd_nil ?_
              refine vTree_end (by kernel_rfl) ?_
              refine Wp.ret ⟨.inr rfl, fun lW => ⟨_, res_tmp (P := Try.prog) rfl rfl, _, rfl, ?_, lW⟩⟩
              clear lW
              rfl
            · refine s_idx (sz := 2) (ao + 0 * 2) rfl rfl rfl rfl rfl rfl rfl (by omega) (by omega) (by omega) ?_
              refine vOrd_nil ?_
              refine vTree_two (i := 17) (k := 21) (L1 := #[true, true, true, true, true, true, true, true, true, true, true, true, true, true, true, true, true, true, true, true, true, false, false, false, false, false, false, false, false, false, false]) (L2 := #[true, true, true, true, true, true, true, true, true, true, true, true, true, true, true, true, true, false, true, true, true, true, false, false, false, false, false, false, false, false, false]) (by kernel_rfl) (by kernel_rfl) (by kernel_rfl) ?_ ?_
              · refine s_callH 1007 rfl rfl rfl (by kernel_rfl) rfl rfl (fun vr => (first_any hb hL)) ?_
                rintro v cs271 w271 ⟨rfl, R271, _, hLq⟩ gw271 vw271
                replace lz := lz.past gw271 hbz
                clear hL
                have hL := hLq
                clear hLq
                refine vOrd_nil ?_
                refine vTree_one (i := 21) (L := #[true, true, true, true, true, true, true, true, true, true, true, true, true, true, true, true, true, true, true, true, true, true, false, false, false, false, false, false, false, false, false]) (by kernel_rfl) (by kernel_rfl) ?_
                refine x_ldA [.int .i64 x.1, .int .i64 x.2] rfl rfl rfl rfl rfl rfl (World.block_lt_of_cell? _ _ (cell_later lz k1)) (fun j u hj => ?_) ?_
                · match j, hj with
                  | 0, hj => cases hj; exact cell_later lz k1
                  | 1, hj => cases hj; exact cell_later lz k2
                refine vOrd_nil ?_
                refine vTree_one (i := 22) (L := #[true, true, true, true, true, true, true, true, true, true, true, true, true, true, true, true, true, true, true, true, true, true, true, false, false, false, false, false, false, false, false]) (by kernel_rfl) (by kernel_rfl) ?_
                refine s_callT rfl rfl rfl (by kernel_rfl) rfl (rday_any x hxi.1) ?_
                rintro v w276 rfl lw276
                replace lz := lz.trans lw276
                try replace hL := hL.later lw276
                refine vOrd_nil ?_
                refine vTree_one (i := 23) (L := #[true, true, true, true, true, true, true, true, true, true, true, true, true, true, true, true, true, true, true, true, true, true, true, true, false, false, false, false, false, false, false]) (by kernel_rfl) (by kernel_rfl) ?_
                refine t_eql rfl rfl rfl rfl rfl (by exact (A_at hx).1) ?_
                refine vOrd_nil ?_
                refine vTree_one (i := 24) (L := #[true, true, true, true, true, true, true, true, true, true, true, true, true, true, true, true, true, true, true, true, true, true, true, true, true, false, false, false, false, false, false]) (by kernel_rfl) (by kernel_rfl) ?_
                refine s_pick rfl rfl rfl rfl rfl ?_
                refine vOrd_nil ?_
                refine vTree_one (i := 25) (L := #[true, true, true, true, true, true, true, true, true, true, true, true, true, true, true, true, true, true, true, true, true, true, true, true, true, true, false, false, false, false, false]) (by kernel_rfl) (by kernel_rfl) ?_
                refine s_move rfl rfl rfl rfl ?_
                refine vOrd_nil ?_
                refine vTree_one (i := 26) (L := #[true, true, true, true, true, true, true, true, true, true, true, true, true, true, true, true, true, true, true, true, true, true, true, true, true, true, true, false, false, false, false]) (by kernel_rfl) (by kernel_rfl) ?_
                refine s_move rfl rfl rfl rfl ?_
                refine vOrd_nil ?_
                refine vTree_one (i := 27) (L := #[true, true, true, true, true, true, true, true, true, true, true, true, true, true, true, true, true, true, true, true, true, true, true, true, true, true, true, true, false, false, false]) (by kernel_rfl) (by kernel_rfl) ?_
                refine s_callT rfl rfl rfl (by kernel_rfl) rfl (asked_any hL) ?_
                rintro v w277 rfl lw277
                replace lz := lz.trans lw277
                try replace hL := hL.later lw277
                refine vOrd_nil ?_
                refine vTree_one (i := 28) (L := #[true, true, true, true, true, true, true, true, true, true, true, true, true, true, true, true, true, true, true, true, true, true, true, true, true, true, true, true, true, false, false]) (by kernel_rfl) (by kernel_rfl) ?_
                refine t_eql rfl rfl rfl rfl rfl (by omega) ?_
                refine vOrd_nil ?_
                refine vTree_one (i := 29) (L := #[true, true, true, true, true, true, true, true, true, true, true, true, true, true, true, true, true, true, true, true, true, true, true, true, true, true, true, true, true, true, false]) (by kernel_rfl) (by kernel_rfl) ?_
                refine s_pick rfl rfl rfl rfl rfl ?_
                refine vOrd_nil ?_
                refine vTree_one (i := 30) (L := #[true, true, true, true, true, true, true, true, true, true, true, true, true, true, true, true, true, true, true, true, true, true, true, true, true, true, true, true, true, true, true]) (by kernel_rfl) (by kernel_rfl) ?_
                refine s_assign rfl rfl rfl rfl ?_
                refine vOrd_nil ?_
                refine vTree_end (by kernel_rfl) ?_
                refine Wp.ret ⟨.inr rfl, fun lW => ⟨_, res_tmp (P := Try.prog) rfl rfl, _, rfl, ?_, lW⟩⟩
                clear lW
                rfl
              · refine x_ldA [.int .i64 x.1, .int .i64 x.2] rfl rfl rfl rfl rfl rfl (World.block_lt_of_cell? _ _ (cell_later lz k1)) (fun j u hj => ?_) ?_
                · match j, hj with
                  | 0, hj => cases hj; exact cell_later lz k1
                  | 1, hj => cases hj; exact cell_later lz k2
                refine vOrd_nil ?_
                refine vTree_one (i := 17) (L := #[true, true, true, true, true, true, true, true, true, true, true, true, true, true, true, true, true, true, true, true, true, true, false, false, false, false, false, false, false, false, false]) (by kernel_rfl) (by kernel_rfl) ?_
                refine s_callH 1007 rfl rfl rfl (by kernel_rfl) rfl rfl (fun vr => (first_any hb hL)) ?_
                rintro v cs282 w282 ⟨rfl, R282, _, hLq⟩ gw282 vw282
                replace lz := lz.past gw282 hbz
                clear hL
                have hL := hLq
                clear hLq
                refine vOrd_nil ?_
                refine vTree_one (i := 22) (L := #[true, true, true, true, true, true, true, true, true, true, true, true, true, true, true, true, true, true, true, true, true, true, true, false, false, false, false, false, false, false, false]) (by kernel_rfl) (by kernel_rfl) ?_
                refine s_callT rfl rfl rfl (by kernel_rfl) rfl (rday_any x hxi.1) ?_
                rintro v w283 rfl lw283
                replace lz := lz.trans lw283
                try replace hL := hL.later lw283
                refine vOrd_nil ?_
                refine vTree_one (i := 23) (L := #[true, true, true, true, true, true, true, true, true, true, true, true, true, true, true, true, true, true, true, true, true, true, true, true, false, false, false, false, false, false, false]) (by kernel_rfl) (by kernel_rfl) ?_
                refine t_eql rfl rfl rfl rfl rfl (by exact (A_at hx).1) ?_
                refine vOrd_nil ?_
                refine vTree_one (i := 24) (L := #[true, true, true, true, true, true, true, true, true, true, true, true, true, true, true, true, true, true, true, true, true, true, true, true, true, false, false, false, false, false, false]) (by kernel_rfl) (by kernel_rfl) ?_
                refine s_pick rfl rfl rfl rfl rfl ?_
                refine vOrd_nil ?_
                refine vTree_one (i := 25) (L := #[true, true, true, true, true, true, true, true, true, true, true, true, true, true, true, true, true, true, true, true, true, true, true, true, true, true, false, false, false, false, false]) (by kernel_rfl) (by kernel_rfl) ?_
                refine s_move rfl rfl rfl rfl ?_
                refine vOrd_nil ?_
                refine vTree_one (i := 26) (L := #[true, true, true, true, true, true, true, true, true, true, true, true, true, true, true, true, true, true, true, true, true, true, true, true, true, true, true, false, false, false, false]) (by kernel_rfl) (by kernel_rfl) ?_
                refine s_move rfl rfl rfl rfl ?_
                refine vOrd_nil ?_
                refine vTree_one (i := 27) (L := #[true, true, true, true, true, true, true, true, true, true, true, true, true, true, true, true, true, true, true, true, true, true, true, true, true, true, true, true, false, false, false]) (by kernel_rfl) (by kernel_rfl) ?_
                refine s_callT rfl rfl rfl (by kernel_rfl) rfl (asked_any hL) ?_
                rintro v w284 rfl lw284
                replace lz := lz.trans lw284
                try replace hL := hL.later lw284
                refine vOrd_nil ?_
                refine vTree_one (i := 28) (L := #[true, true, true, true, true, true, true, true, true, true, true, true, true, true, true, true, true, true, true, true, true, true, true, true, true, true, true, true, true, false, false]) (by kernel_rfl) (by kernel_rfl) ?_
                refine t_eql rfl rfl rfl rfl rfl (by omega) ?_
                refine vOrd_nil ?_
                refine vTree_one (i := 29) (L := #[true, true, true, true, true, true, true, true, true, true, true, true, true, true, true, true, true, true, true, true, true, true, true, true, true, true, true, true, true, true, false]) (by kernel_rfl) (by kernel_rfl) ?_
                refine s_pick rfl rfl rfl rfl rfl ?_
                refine vOrd_nil ?_
                refine vTree_one (i := 30) (L := #[true, true, true, true, true, true, true, true, true, true, true, true, true, true, true, true, true, true, true, true, true, true, true, true, true, true, true, true, true, true, true]) (by kernel_rfl) (by kernel_rfl) ?_
                refine s_assign rfl rfl rfl rfl ?_
                refine vOrd_nil ?_
                refine vTree_end (by kernel_rfl) ?_
                refine Wp.ret ⟨.inr rfl, fun lW => ⟨_, res_tmp (P := Try.prog) rfl rfl, _, rfl, ?_, lW⟩⟩
                clear lW
                rfl
      · refine s_field 2 rfl rfl rfl rfl rfl ?_
        refine vOrd_nil ?_
        refine vTree_two (i := 16) (k := 19) (L1 := #[true, true, true, true, true, true, true, true, true, true, true, true, true, true, true, true, true, false, true, false, false, false, false, false, false, false, false, false, false, false, false]) (L2 := #[true, true, true, true, true, true, true, true, true, true, true, true, true, true, true, true, false, false, true, true, false, false, false, false, false, false, false, false, false, false, false]) (by kernel_rfl) (by kernel_rfl) (by kernel_rfl) ?_ ?_
        · refine s_move rfl rfl rfl rfl ?_
          refine vOrd_nil ?_
          refine vTree_two (i := 17) (k := 19) (L1 := #[true, true, true, true, true, true, true, true, true, true, true, true, true, true, true, true, true, true, true, false, false, false, false, false, false, false, false, false, false, false, false]) (L2 := #[true, true, true, true, true, true, true, true, true, true, true, true, true, true, true, true, true, false, true, true, false, false, false, false, false, false, false, false, false, false, false]) (by kernel_rfl) (by kernel_rfl) (by kernel_rfl) ?_ ?_
          · refine s_callH 1007 rfl rfl rfl (by kernel_rfl) rfl rfl (fun vr => (first_any hb hL)) ?_
            rintro v cs285 w285 ⟨rfl, R285, _, hLq⟩ gw285 vw285
            replace lz := lz.past gw285 hbz
            clear hL
            have hL := hLq
            clear hLq
            refine vOrd_nil ?_
            refine vTree_one (i := 19) (L := #[true, true, true, true, true, true, true, true, true, true, true, true, true, true, true, true, true, true, true, true, false, false, false, false, false, false, false, false, false, false, false]) (by kernel_rfl) (by kernel_rfl) ?_
            refine s_load rfl rfl rfl rfl rfl rfl rfl ?_
            refine vOrd_nil ?_
            refine vTree_one (i := 20) (L := #[true, true, true, true, true, true, true, true, true, true, true, true, true, true, true, true, true, true, true, true, true, false, false, false, false, false, false, false, false, false, false]) (by kernel_rfl) (by kernel_rfl) ?_
            refine s_idx (sz := 2) (ao + 0 * 2) rfl rfl rfl rfl rfl rfl rfl (by omega) (by omega) (by omega) ?_
            refine vOrd_nil ?_
            refine vTree_one (i := 21) (L := #[true, true, true, true, true, true, true, true, true, true, true, true, true, true, true, true, true, true, true, true, true, true, false, false, false, false, false, false, false, false, false]) (by kernel_rfl) (by kernel_rfl) ?_
            refine x_ldA [.int .i64 x.1, .int .i64 x.2] rfl rfl rfl rfl rfl rfl (World.block_lt_of_cell? _ _ (cell_later lz k1)) (fun j u hj => ?_) ?_
            · match j, hj with
              | 0, hj => cases hj; exact cell_later lz k1
              | 1, hj => cases hj; exact cell_later lz k2
            refine vOrd_nil ?_
            refine vTree_one (i := 22) (L := #[true, true, true, true, true, true, true, true, true, true, true, true, true, true, true, true, true, true, true, true, true, true, true, false, false, false, false, false, false, false, false]) (by kernel_rfl) (by kernel_rfl) ?_
            refine s_callT rfl rfl rfl (by kernel_rfl) rfl (rday_any x hxi.1) ?_
            rintro v w291 rfl lw291
            replace lz := lz.trans lw291
            try replace hL := hL.later lw291
            refine vOrd_nil ?_
            refine vTree_one (i := 23) (L := #[true, true, true, true, true, true, true, true, true, true, true, true, true, true, true, true, true, true, true, true, true, true, true, true, false, false, false, false, false, false, false]) (by kernel_rfl) (by kernel_rfl) ?_
            refine t_eql rfl rfl rfl rfl rfl (by exact (A_at hx).1) ?_
            refine vOrd_nil ?_
            refine vTree_one (i := 24) (L := #[true, true, true, true, true, true, true, true, true, true, true, true, true, true, true, true, true, true, true, true, true, true, true, true, true, false, false, false, false, false, false]) (by kernel_rfl) (by kernel_rfl) ?_
            refine s_pick rfl rfl rfl rfl rfl ?_
            refine vOrd_nil ?_
            refine vTree_one (i := 25) (L := #[true, true, true, true, true, true, true, true, true, true, true, true, true, true, true, true, true, true, true, true, true, true, true, true, true, true, false, false, false, false, false]) (by kernel_rfl) (by kernel_rfl) ?_
            refine s_move rfl rfl rfl rfl ?_
            refine vOrd_nil ?_
            refine vTree_one (i := 26) (L := #[true, true, true, true, true, true, true, true, true, true, true, true, true, true, true, true, true, true, true, true, true, true, true, true, true, true, true, false, false, false, false]) (by kernel_rfl) (by kernel_rfl) ?_
            refine s_move rfl rfl rfl rfl ?_
            refine vOrd_nil ?_
            refine vTree_one (i := 27) (L := #[true, true, true, true, true, true, true, true, true, true, true, true, true, true, true, true, true, true, true, true, true, true, true, true, true, true, true, true, false, false, false]) (by kernel_rfl) (by kernel_rfl) ?_
            refine s_callT rfl rfl rfl (by kernel_rfl) rfl (asked_any hL) ?_
            rintro v w292 rfl lw292
            replace lz := lz.trans lw292
            try replace hL := hL.later lw292
            refine vOrd_nil ?_
            refine vTree_one (i := 28) (L := #[true, true, true, true, true, true, true, true, true, true, true, true, true, true, true, true, true, true, true, true, true, true, true, true, true, true, true, true, true, false, false]) (by kernel_rfl) (by kernel_rfl) ?_
            refine t_eql rfl rfl rfl rfl rfl (by omega) ?_
            refine vOrd_nil ?_
            refine vTree_one (i := 29) (L := #[true, true, true, true, true, true, true, true, true, true, true, true, true, true, true, true, true, true, true, true, true, true, true, true, true, true, true, true, true, true, false]) (by kernel_rfl) (by kernel_rfl) ?_
            refine s_pick rfl rfl rfl rfl rfl ?_
            refine vOrd_nil ?_
            refine vTree_one (i := 30) (L := #[true, true, true, true, true, true, true, true, true, true, true, true, true, true, true, true, true, true, true, true, true, true, true, true, true, true, true, true, true, true, true]) (by kernel_rfl) (by kernel_rfl) ?_
            refine s_assign rfl rfl rfl rfl ?_
            refine vOrd_nil ?_
            refine vTree_end (by kernel_rfl) ?_
            refine Wp.ret ⟨.inr rfl, fun lW => ⟨_, res_tmp (P := Try.prog) rfl rfl, _, rfl, ?_, lW⟩⟩
            clear lW
            rfl
          · refine s_load rfl rfl rfl rfl rfl rfl rfl ?_
            refine vOrd_nil ?_
            refine vTree_two (i := 17) (k := 20) (L1 := #[true, true, true, true, true, true, true, true, true, true, true, true, true, true, true, true, true, true, true, true, false, false, false, false, false, false, false, false, false, false, false]) (L2 := #[true, true, true, true, true, true, true, true, true, true, true, true, true, true, true, true, true, false, true, true, true, false, false, false, false, false, false, false, false, false, false]) (by kernel_rfl) (by kernel_rfl) (by kernel_rfl) ?_ ?_
            · refine s_callH 1007 rfl rfl rfl (by kernel_rfl) rfl rfl (fun vr => (first_any hb hL)) ?_
              rintro v cs293 w293 ⟨rfl, R293, _, hLq⟩ gw293 vw293
              replace lz := lz.past gw293 hbz
              clear hL
              have hL := hLq
              clear hLq
              refine vOrd_nil ?_
              refine vTree_one (i := 20) (L := #[true, true, true, true, true, true, true, true, true, true, true, true, true, true, true, true, true, true, true, true, true, false, false, false, false, false, false, false, false, false, false]) (by kernel_rfl) (by kernel_rfl) ?_
              refine s_idx (sz := 2) (ao + 0 * 2) rfl rfl rfl rfl rfl rfl rfl (by omega) (by omega) (by omega) ?_
              refine vOrd_nil ?_
              refine vTree_one (i := 21) (L := #[true, true, true, true, true, true, true, true, true, true, true, true, true, true, true, true, true, true, true, true, true, true, false, false, false, false, false, false, false, false, false]) (by kernel_rfl) (by kernel_rfl) ?_
              refine x_ldA [.int .i64 x.1, .int .i64 x.2] rfl rfl rfl rfl rfl rfl (World.block_lt_of_cell? _ _ (cell_later lz k1)) (fun j u hj => ?_) ?_
              · match j, hj with
                | 0, hj => cases hj; exact cell_later lz k1
                | 1, hj => cases hj; exact cell_later lz k2
              refine vOrd_nil ?_
              refine vTree_one (i := 22) (L := #[true, true, true, true, true, true, true, true, true, true, true, true, true, true, true, true, true, true, true, true, true, true, true, false, false, false, false, false, false, false, false]) (by kernel_rfl) (by kernel_rfl) ?_
              refine s_callT rfl rfl rfl (by kernel_rfl) rfl (rday_any x hxi.1) ?_
              rintro v w299 rfl lw299
              replace lz := lz.trans lw299
              try replace hL := hL.later lw299
              refine vOrd_nil ?_
              refine vTree_one (i := 23) (L := #[true, true, true, true, true, true, true, true, true, true, true, true, true, true, true, true, true, true, true, true, true, true, true, true, false, false, false, false, false, false, false]) (by kernel_rfl) (by kernel_rfl) ?_
              refine t_eql rfl rfl rfl rfl rfl (by exact (A_at hx).1) ?_
              refine vOrd_nil ?_
              refine vTree_one (i := 24) (L := #[true, true, true, true, true, true, true, true, true, true, true, true, true, true, true, true, true, true, true, true, true, true, true, true, true, false, false, false, false, false, false]) (by kernel_rfl) (by kernel_rfl) ?_
              refine s_pick rfl rfl rfl rfl rfl ?_
              refine vOrd_nil ?_
              refine vTree_one (i := 25) (L := #[true, true, true, true, true, true, true, true, true, true, true, true, true, true, true, true, true, true, true, true, true, true, true, true, true, true, false, false, false, false, false]) (by kernel_rfl) (by kernel_rfl) ?_
              refine s_move rfl rfl rfl rfl ?_
              refine vOrd_nil ?_
              refine vTree_one (i := 26) (L := #[true, true, true, true, true, true, true, true, true, true, true, true, true, true, true, true, true, true, true, true, true, true, true, true, true, true, true, false, false, false, false]) (by kernel_rfl) (by kernel_rfl) ?_
              refine s_move rfl rfl rfl rfl ?_
              refine vOrd_nil ?_
              refine vTree_one (i := 27) (L := #[true, true, true, true, true, true, true, true, true, true, true, true, true, true, true, true, true, true, true, true, true, true, true, true, true, true, true, true, false, false, false]) (by kernel_rfl) (by kernel_rfl) ?_
              refine s_callT rfl rfl rfl (by kernel_rfl) rfl (asked_any hL) ?_
              rintro v w300 rfl lw300
              replace lz := lz.trans lw300
              try replace hL := hL.later lw300
              refine vOrd_nil ?_
              refine vTree_one (i := 28) (L := #[true, true, true, true, true, true, true, true, true, true, true, true, true, true, true, true, true, true, true, true, true, true, true, true, true, true, true, true, true, false, false]) (by kernel_rfl) (by kernel_rfl) ?_
              refine t_eql rfl rfl rfl rfl rfl (by omega) ?_
              refine vOrd_nil ?_
              refine vTree_one (i := 29) (L := #[true, true, true, true, true, true, true, true, true, true, true, true, true, true, true, true, true, true, true, true, true, true, true, true, true, true, true, true, true, true, false]) (by kernel_rfl) (by kernel_rfl) ?_
              refine s_pick rfl rfl rfl rfl rfl ?_
              refine vOrd_nil ?_
              refine vTree_one (i := 30) (L := #[true, true, true, true, true, true, true, true, true, true, true, true, true, true, true, true, true, true, true, true, true, true, true, true, true, true, true, true, true, true, true]) (by kernel_rfl) (by kernel_rfl) ?_
              refine s_assign rfl rfl rfl rfl ?_
              refine vOrd_nil ?_
              refine vTree_end (by kernel_rfl) ?_
              refine Wp.ret ⟨.inr rfl, fun lW => ⟨_, res_tmp (P := Try.prog) rfl rfl, _, rfl, ?_, lW⟩⟩
              clear lW
              rfl
            · refine s_idx (sz := 2) (ao + 0 * 2) rfl rfl rfl rfl rfl rfl rfl (by omega) (by omega) (by omega) ?_
              refine vOrd_nil ?_
              refine vTree_two (i := 17) (k := 21) (L1 := #[true, true, true, true, true, true, true, true, true, true, true, true, true, true, true, true, true, true, true, true, true, false, false, false, false, false, false, false, false, false, false]) (L2 := #[true, true, true, true, true, true, true, true, true, true, true, true, true, true, true, true, true, false, true, true, true, true, false, false, false, false, false, false, false, false, false]) (by kernel_rfl) (by kernel_rfl) (by kernel_rfl) ?_ ?_
              · refine s_callH 1007 rfl rfl rfl (by kernel_rfl) rfl rfl (fun vr => (first_any hb hL)) ?_
                rintro v cs302 w302 ⟨rfl, R302, _, hLq⟩ gw302 vw302
                replace lz := lz.past gw302 hbz
                clear hL
                have hL := hLq
                clear hLq
                refine vOrd_nil ?_
                refine vTree_one (i := 21) (L := #[true, true, true, true, true, true, true, true, true, true, true, true, true, true, true, true, true, true, true, true, true, true, false, false, false, false, false, false, false, false, false]) (by kernel_rfl) (by kernel_rfl) ?_
                refine x_ldA [.int .i64 x.1, .int .i64 x.2] rfl rfl rfl rfl rfl rfl (World.block_lt_of_cell? _ _ (cell_later lz k1)) (fun j u hj => ?_) ?_
                · match j, hj with
                  | 0, hj => cases hj; exact cell_later lz k1
                  | 1, hj => cases hj; exact cell_later lz k2
                refine vOrd_nil ?_
                refine vTree_one (i := 22) (L := #[true, true, true, true, true, true, true, true, true, true, true, true, true, true, true, true, true, true, true, true, true, true, true, false, false, false, false, false, false, false, false]) (by kernel_rfl) (by kernel_rfl) ?_
                refine s_callT rfl rfl rfl (by kernel_rfl) rfl (rday_any x hxi.1) ?_
                rintro v w307 rfl lw307
                replace lz := lz.trans lw307
                try replace hL := hL.later lw307
                refine vOrd_nil ?_
                refine vTree_one (i := 23) (L := #[true, true, true, true, true, true, true, true, true, true, true, true, true, true, true, true, true, true, true, true, true, true, true, true, false, false, false, false, false, false, false]) (by kernel_rfl) (by kernel_rfl) ?_
                refine t_eql rfl rfl rfl rfl rfl (by exact (A_at hx).1) ?_
                refine vOrd_nil ?_
                refine vTree_one (i := 24) (L := #[true, true, true, true, true, true, true, true, true, true, true, true, true, true, true, true, true, true, true, true, true, true, true, true, true, false, false, false, false, false, false]) (by kernel_rfl) (by kernel_rfl) ?_
                refine s_pick rfl rfl rfl rfl rfl ?_
                refine vOrd_nil ?_
                refine vTree_one (i := 25) (L := #[true, true, true, true, true, true, true, true, true, true, true, true, true, true, true, true, true, true, true, true, true, true, true, true, true, true, false, false, false, false, false]) (by kernel_rfl) (by kernel_rfl) ?_
                refine s_move rfl rfl rfl rfl ?_
                refine vOrd_nil ?_
                refine vTree_one (i := 26) (L := #[true, true, true, true, true, true, true, true, true, true, true, true, true, true, true, true, true, true, true, true, true, true, true, true, true, true, true, false, false, false, false]) (by kernel_rfl) (by kernel_rfl) ?_
                refine s_move rfl rfl rfl rfl ?_
                refine vOrd_nil ?_
                refine vTree_one (i := 27) (L := #[true, true, true, true, true, true, true, true, true, true, true, true, true, true, true, true, true, true, true, true, true, true, true, true, true, true, true, true, false, false, false]) (by kernel_rfl) (by kernel_rfl) ?_
                refine s_callT rfl rfl rfl (by kernel_rfl) rfl (asked_any hL) ?_
                rintro v w308 rfl lw308
                replace lz := lz.trans lw308
                try replace hL := hL.later lw308
                refine vOrd_nil ?_
                refine vTree_one (i := 28) (L := #[true, true, true, true, true, true, true, true, true, true, true, true, true, true, true, true, true, true, true, true, true, true, true, true, true, true, true, true, true, false, false]) (by kernel_rfl) (by kernel_rfl) ?_
                refine t_eql rfl rfl rfl rfl rfl (by omega) ?_
                refine vOrd_nil ?_
                refine vTree_one (i := 29) (L := #[true, true, true, true, true, true, true, true, true, true, true, true, true, true, true, true, true, true, true, true, true, true, true, true, true, true, true, true, true, true, false]) (by kernel_rfl) (by kernel_rfl) ?_
                refine s_pick rfl rfl rfl rfl rfl ?_
                refine vOrd_nil ?_
                refine vTree_one (i := 30) (L := #[true, true, true, true, true, true, true, true, true, true, true, true, true, true, true, true, true, true, true, true, true, true, true, true, true, true, true, true, true, true, true]) (by kernel_rfl) (by kernel_rfl) ?_
                refine s_assign rfl rfl rfl rfl ?_
                refine vOrd_nil ?_
                refine vTree_end (by kernel_rfl) ?_
                refine Wp.ret ⟨.inr rfl, fun lW => ⟨_, res_tmp (P := Try.prog) rfl rfl, _, rfl, ?_, lW⟩⟩
                clear lW
                rfl
              · refine x_ldA [.int .i64 x.1, .int .i64 x.2] rfl rfl rfl rfl rfl rfl (World.block_lt_of_cell? _ _ (cell_later lz k1)) (fun j u hj => ?_) ?_
                · match j, hj with
                  | 0, hj => cases hj; exact cell_later lz k1
                  | 1, hj => cases hj; exact cell_later lz k2
                refine vOrd_nil ?_
                refine vTree_one (i := 17) (L := #[true, true, true, true, true, true, true, true, true, true, true, true, true, true, true, true, true, true, true, true, true, true, false, false, false, false, false, false, false, false, false]) (by kernel_rfl) (by kernel_rfl) ?_
                refine s_callH 1007 rfl rfl rfl (by kernel_rfl) rfl rfl (fun vr => (first_any hb hL)) ?_
                rintro v cs313 w313 ⟨rfl, R313, _, hLq⟩ gw313 vw313
                replace lz := lz.past gw313 hbz
                clear hL
                have hL := hLq
                clear hLq
                refine vOrd_nil ?_
                refine vTree_one (i := 22) (L := #[true, true, true, true, true, true, true, true, true, true, true, true, true, true, true, true, true, true, true, true, true, true, true, false, false, false, false, false, false, false, false]) (by kernel_rfl) (by kernel_rfl) ?_
                refine s_callT rfl rfl rfl (by kernel_rfl) rfl (rday_any x hxi.1) ?_
                rintro v w314 rfl lw314
                replace lz := lz.trans lw314
                try replace hL := hL.later lw314
                refine vOrd_nil ?_
                refine vTree_one (i := 23) (L := #[true, true, true, true, true, true, true, true, true, true, true, true, true, true, true, true, true, true, true, true, true, true, true, true, false, false, false, false, false, false, false]) (by kernel_rfl) (by kernel_rfl) ?_
                refine t_eql rfl rfl rfl rfl rfl (by exact (A_at hx).1) ?_
                refine vOrd_nil ?_
                refine vTree_one (i := 24) (L := #[true, true, true, true, true, true, true, true, true, true, true, true, true, true, true, true, true, true, true, true, true, true, true, true, true, false, false, false, false, false, false]) (by kernel_rfl) (by kernel_rfl) ?_
                refine s_pick rfl rfl rfl rfl rfl ?_
                refine vOrd_nil ?_
                refine vTree_one (i := 25) (L := #[true, true, true, true, true, true, true, true, true, true, true, true, true, true, true, true, true, true, true, true, true, true, true, true, true, true, false, false, false, false, false]) (by kernel_rfl) (by kernel_rfl) ?_
                refine s_move rfl rfl rfl rfl ?_
                refine vOrd_nil ?_
                refine vTree_one (i := 26) (L := #[true, true, true, true, true, true, true, true, true, true, true, true, true, true, true, true, true, true, true, true, true, true, true, true, true, true, true, false, false, false, false]) (by kernel_rfl) (by kernel_rfl) ?_
                refine s_move rfl rfl rfl rfl ?_
                refine vOrd_nil ?_
                refine vTree_one (i := 27) (L := #[true, true, true, true, true, true, true, true, true, true, true, true, true, true, true, true, true, true, true, true, true, true, true, true, true, true, true, true, false, false, false]) (by kernel_rfl) (by kernel_rfl) ?_
                refine s_callT rfl rfl rfl (by kernel_rfl) rfl (asked_any hL) ?_
                rintro v w315 rfl lw315
                replace lz := lz.trans lw315
                try replace hL := hL.later lw315
                refine vOrd_nil ?_
                refine vTree_one (i := 28) (L := #[true, true, true, true, true, true, true, true, true, true, true, true, true, true, true, true, true, true, true, true, true, true, true, true, true, true, true, true, true, false, false]) (by kernel_rfl) (by kernel_rfl) ?_
                refine t_eql rfl rfl rfl rfl rfl (by omega) ?_
                refine vOrd_nil ?_
                refine vTree_one (i := 29) (L := #[true, true, true, true, true, true, true, true, true, true, true, true, true, true, true, true, true, true, true, true, true, true, true, true, true, true, true, true, true, true, false]) (by kernel_rfl) (by kernel_rfl) ?_
                refine s_pick rfl rfl rfl rfl rfl ?_
                refine vOrd_nil ?_
                refine vTree_one (i := 30) (L := #[true, true, true, true, true, true, true, true, true, true, true, true, true, true, true, true, true, true, true, true, true, true, true, true, true, true, true, true, true, true, true]) (by kernel_rfl) (by kernel_rfl) ?_
                refine s_assign rfl rfl rfl rfl ?_
                refine vOrd_nil ?_
                refine vTree_end (by kernel_rfl) ?_
                refine Wp.ret ⟨.inr rfl, fun lW => ⟨_, res_tmp (P := Try.prog) rfl rfl, _, rfl, ?_, lW⟩⟩
                clear lW
                rfl
        · refine s_load rfl rfl rfl rfl rfl rfl rfl ?_
          refine vOrd_nil ?_
          refine vTree_two (i := 16) (k := 20) (L1 := #[true, true, true, true, true, true, true, true, true, true, true, true, true, true, true, true, true, false, true, true, false, false, false, false, false, false, false, false, false, false, false]) (L2 := #[true, true, true, true, true, true, true, true, true, true, true, true, true, true, true, true, false, false, true, true, true, false, false, false, false, false, false, false, false, false, false]) (by kernel_rfl) (by kernel_rfl) (by kernel_rfl) ?_ ?_
          · refine s_move rfl rfl rfl rfl ?_
            refine vOrd_nil ?_
            refine vTree_two (i := 17) (k := 20) (L1 := #[true, true, true, true, true, true, true, true, true, true, true, true, true, true, true, true, true, true, true, true, false, false, false, false, false, false, false, false, false, false, false]) (L2 := #[true, true, true, true, true, true, true, true, true, true, true, true, true, true, true, true, true, false, true, true, true, false, false, false, false, false, false, false, false, false, false]) (by kernel_rfl) (by kernel_rfl) (by kernel_rfl) ?_ ?_
            · refine s_callH 1007 rfl rfl rfl (by kernel_rfl) rfl rfl (fun vr => (first_any hb hL)) ?_
              rintro v cs316 w316 ⟨rfl, R316, _, hLq⟩ gw316 vw316
              replace lz := lz.past gw316 hbz
              clear hL
              have hL := hLq
              clear hLq
              refine vOrd_nil ?_
              refine vTree_one (i := 20) (L := #[true, true, true, true, true, true, true, true, true, true, true, true, true, true, true, true, true, true, true, true, true, false, false, false, false, false, false, false, false, false, false]) (by kernel_rfl) (by kernel_rfl) ?_
              refine s_idx (sz := 2) (ao + 0 * 2) rfl rfl rfl rfl rfl rfl rfl (by omega) (by omega) (by omega) ?_
              refine vOrd_nil ?_
              refine vTree_one (i := 21) (L := #[true, true, true, true, true, true, true, true, true, true, true, true, true, true, true, true, true, true, true, true, true, true, false, false, false, false, false, false, false, false, false]) (by kernel_rfl) (by kernel_rfl) ?_
              refine x_ldA [.int .i64 x.1, .int .i64 x.2] rfl rfl rfl rfl rfl rfl (World.block_lt_of_cell? _ _ (cell_later lz k1)) (fun j u hj => ?_) ?_
              · match j, hj with
                | 0, hj => cases hj; exact cell_later lz k1
                | 1, hj => cases hj; exact cell_later lz k2
              refine vOrd_nil ?_
              refine vTree_one (i := 22) (L := #[true, true, true, true, true, true, true, true, true, true, true, true, true, true, true, true, true, true, true, true, true, true, true, false, false, false, false, false, false, false, false]) (by kernel_rfl) (by kernel_rfl) ?_
              refine s_callT rfl rfl rfl (by kernel_rfl) rfl (rday_any x hxi.1) ?_
              rintro v w322 rfl lw322
              replace lz := lz.trans lw322
              try replace hL := hL.later lw322
              refine vOrd_nil ?_
              refine vTree_one (i := 23) (L := #[true, true, true, true, true, true, true, true, true, true, true, true, true, true, true, true, true, true, true, true, true, true, true, true, false, false, false, false, false, false, false]) (by kernel_rfl) (by kernel_rfl) ?_
              refine t_eql rfl rfl rfl rfl rfl (by exact (A_at hx).1) ?_
              refine vOrd_nil ?_
              refine vTree_one (i := 24) (L := #[true, true, true, true, true, true, true, true, true, true, true, true, true, true, true, true, true, true, true, true, true, true, true, true, true, false, false, false, false, false, false]) (by kernel_rfl) (by kernel_rfl) ?_
              refine s_pick rfl rfl rfl rfl rfl ?_
              refine vOrd_nil ?_
              refine vTree_one (i := 25) (L := #[true, true, true, true, true, true, true, true, true, true, true, true, true, true, true, true, true, true, true, true, true, true, true, true, true, true, false, false, false, false, false]) (by kernel_rfl) (by kernel_rfl) ?_
              refine s_move rfl rfl rfl rfl ?_
              refine vOrd_nil ?_
              refine vTree_one (i := 26) (L := #[true, true, true, true, true, true, true, true, true, true, true, true, true, true, true, true, true, true, true, true, true, true, true, true, true, true, true, false, false, false, false]) (by kernel_rfl) (by kernel_rfl) ?_
              refine s_move rfl rfl rfl rfl ?_
              refine vOrd_nil ?_
              refine vTree_one (i := 27) (L := #[true, true, true, true, true, true, true, true, true, true, true, true, true, true, true, true, true, true, true, true, true, true, true, true, true, true, true, true, false, false, false]) (by kernel_rfl) (by kernel_rfl) ?_
              refine s_callT rfl rfl rfl (by kernel_rfl) rfl (asked_any hL) ?_
              rintro v w323 rfl lw323
              replace lz := lz.trans lw323
              try replace hL := hL.later lw323
              refine vOrd_nil ?_
              refine vTree_one (i := 28) (L := #[true, true, true, true, true, true, true, true, true, true, true, true, true, true, true, true, true, true, true, true, true, true, true, true, true, true, true, true, true, false, false]) (by kernel_rfl) (by kernel_rfl) ?_
              refine t_eql rfl rfl rfl rfl rfl (by omega) ?_
              refine vOrd_nil ?_
              refine vTree_one (i := 29) (L := #[true, true, true, true, true, true, true, true, true, true, true, true, true, true, true, true, true, true, true, true, true, true, true, true, true, true, true, true, true, true, false]) (by kernel_rfl) (by kernel_rfl) ?_
              refine s_pick rfl rfl rfl rfl rfl ?_
              refine vOrd_nil ?_
              refine vTree_one (i := 30) (L := #[true, true, true, true, true, true, true, true, true, true, true, true, true, true, true, true, true, true, true, true, true, true, true, true, true, true, true, true, true, true, true]) (by kernel_rfl) (by kernel_rfl) ?_
              refine s_assign rfl rfl rfl rfl ?_
              refine vOrd_nil ?_
              refine vTree_end (by kernel_rfl) ?_
              refine Wp.ret ⟨.inr rfl, fun lW => ⟨_, res_tmp (P := Try.prog) rfl rfl, _, rfl, ?_, lW⟩⟩
              clear lW
              rfl
            · refine s_idx (sz := 2) (ao + 0 * 2) rfl rfl rfl rfl rfl rfl rfl (by omega) (by omega) (by omega) ?_
              refine vOrd_nil ?_
              refine vTree_two (i := 17) (k := 21) (L1 := #[true, true, true, true, true, true, true, true, true, true, true, true, true, true, true, true, true, true, true, true, true, false, false, false, false, false, false, false, false, false, false]) (L2 := #[true, true, true, true, true, true, true, true, true, true, true, true, true, true, true, true, true, false, true, true, true, true, false, false, false, false, false, false, false, false, false]) (by kernel_rfl) (by kernel_rfl) (by kernel_rfl) ?_ ?_
              · refine s_callH 1007 rfl rfl rfl (by kernel_rfl) rfl rfl (fun vr => (first_any hb hL)) ?_
                rintro v cs325 w325 ⟨rfl, R325, _, hLq⟩ gw325 vw325
                replace lz := lz.past gw325 hbz
                clear hL
                have hL := hLq
                clear hLq
                refine vOrd_nil ?_
                refine vTree_one (i := 21) (L := #[true, true, true, true, true, true, true, true, true, true, true, true, true, true, true, true, true, true, true, true, true, true, false, false, false, false, false, false, false, false, false]) (by kernel_rfl) (by kernel_rfl) ?_
                refine x_ldA [.int .i64 x.1, .int .i64 x.2] rfl rfl rfl rfl rfl rfl (World.block_lt_of_cell? _ _ (cell_later lz k1)) (fun j u hj => ?_) ?_
                · match j, hj with
                  | 0, hj => cases hj; exact cell_later lz k1
                  | 1, hj => cases hj; exact cell_later lz k2
                refine vOrd_nil ?_
                refine vTree_one (i := 22) (L := #[true, true, true, true, true, true, true, true, true, true, true, true, true, true, true, true, true, true, true, true, true, true, true, false, false, false, false, false, false, false, false]) (by kernel_rfl) (by kernel_rfl) ?_
                refine s_callT rfl rfl rfl (by kernel_rfl) rfl (rday_any x hxi.1) ?_
                rintro v w330 rfl lw330
                replace lz := lz.trans lw330
                try replace hL := hL.later lw330
                refine vOrd_nil ?_
                refine vTree_one (i := 23) (L := #[true, true, true, true, true, true, true, true, true, true, true, true, true, true, true, true, true, true, true, true, true, true, true, true, false, false, false, false, false, false, false]) (by kernel_rfl) (by kernel_rfl) ?_
                refine t_eql rfl rfl rfl rfl rfl (by exact (A_at hx).1) ?_
                refine vOrd_nil ?_
                refine vTree_one (i := 24) (L := #[true, true, true, true, true, true, true, true, true, true, true, true, true, true, true, true, true, true, true, true, true, true, true, true, true, false, false, false, false, false, false]) (by kernel_rfl) (by kernel_rfl) ?_
                refine s_pick rfl rfl rfl rfl rfl ?_
                refine vOrd_nil ?_
                refine vTree_one (i := 25) (L := #[true, true, true, true, true, true, true, true, true, true, true, true, true, true, true, true, true, true, true, true, true, true, true, true, true, true, false, false, false, false, false]) (by kernel_rfl) (by kernel_rfl) ?_
                refine s_move rfl rfl rfl rfl ?_
                refine vOrd_nil ?_
                refine vTree_one (i := 26) (L := #[true, true, true, true, true, true, true, true, true, true, true, true, true, true, true, true, true, true, true, true, true, true, true, true, true, true, true, false, false, false, false]) (by kernel_rfl) (by kernel_rfl) ?_
                refine s_move rfl rfl rfl rfl ?_
                refine vOrd_nil ?_
                refine vTree_one (i := 27) (L := #[true, true, true, true, true, true, true, true, true, true, true, true, true, true, true, true, true, true, true, true, true, true, true, true, true, true, true, true, false, false, false]) (by kernel_rfl) (by kernel_rfl) ?_
                refine s_callT rfl rfl rfl (by kernel_rfl) rfl (asked_any hL) ?_
                rintro v w331 rfl lw331
                replace lz := lz.trans lw331
                try replace hL := hL.later lw331
                refine vOrd_nil ?_
                refine vTree_one (i := 28) (L := #[true, true, true, true, true, true, true, true, true, true, true, true, true, true, true, true, true, true, true, true, true, true, true, true, true, true, true, true, true, false, false]) (by kernel_rfl) (by kernel_rfl) ?_
                refine t_eql rfl rfl rfl rfl rfl (by omega) ?_
                refine vOrd_nil ?_
                refine vTree_one (i := 29) (L := #[true, true, true, true, true, true, true, true, true, true, true, true, true, true, true, true, true, true, true, true, true, true, true, true, true, true, true, true, true, true, false]) (by kernel_rfl) (by kernel_rfl) ?_
                refine s_pick rfl rfl rfl rfl rfl ?_
                refine vOrd_nil ?_
                refine vTree_one (i := 30) (L := #[true, true, true, true, true, true, true, true, true, true, true, true, true, true, true, true, true, true, true, true, true, true, true, true, true, true, true, true, true, true, true]) (by kernel_rfl) (by kernel_rfl) ?_
                refine s_assign rfl rfl rfl rfl ?_
                refine vOrd_nil ?_
                refine vTree_end (by kernel_rfl) ?_
                refine Wp.ret ⟨.inr rfl, fun lW => ⟨_, res_tmp (P := Try.prog) rfl rfl, _, rfl, ?_, lW⟩⟩
                clear lW
                rfl
              · refine x_ldA [.int .i64 x.1, .int .i64 x.2] rfl rfl rfl rfl rfl rfl (World.block_lt_of_cell? _ _ (cell_later lz k1)) (fun j u hj => ?_) ?_
                · match j, hj with
                  | 0, hj => cases hj; exact cell_later lz k1
                  | 1, hj => cases hj; exact cell_later lz k2
                refine vOrd_nil ?_
                refine vTree_one (i := 17) (L := #[true, true, true, true, true, true, true, true, true, true, true, true, true, true, true, true, true, true, true, true, true, true, false, false, false, false, false, false, false, false, false]) (by kernel_rfl) (by kernel_rfl) ?_
                refine s_callH 1007 rfl rfl rfl (by kernel_rfl) rfl rfl (fun vr => (first_any hb hL)) ?_
                rintro v cs336 w336 ⟨rfl, R336, _, hLq⟩ gw336 vw336
                replace lz := lz.past gw336 hbz
                clear hL
                have hL := hLq
                clear hLq
                refine vOrd_nil ?_
                refine vTree_one (i := 22) (L := #[true, true, true, true, true, true, true, true, true, true, true, true, true, true, true, true, true, true, true, true, true, true, true, false, false, false, false, false, false, false, false]) (by kernel_rfl) (by kernel_rfl) ?_
                refine s_callT rfl rfl rfl (by kernel_rfl) rfl (rday_any x hxi.1) ?_
                rintro v w337 rfl lw337
                replace lz := lz.trans lw337
                try replace hL := hL.later lw337
                refine vOrd_nil ?_
                refine vTree_one (i := 23) (L := #[true, true, true, true, true, true, true, true, true, true, true, true, true, true, true, true, true, true, true, true, true, true, true, true, false, false, false, false, false, false, false]) (by kernel_rfl) (by kernel_rfl) ?_
                refine t_eql rfl rfl rfl rfl rfl (by exact (A_at hx).1) ?_
                refine vOrd_nil ?_
                refine vTree_one (i := 24) (L := #[true, true, true, true, true, true, true, true, true, true, true, true, true, true, true, true, true, true, true, true, true, true, true, true, true, false, false, false, false, false, false]) (by kernel_rfl) (by kernel_rfl) ?_
                refine s_pick rfl rfl rfl rfl rfl ?_
                refine vOrd_nil ?_
                refine vTree_one (i := 25) (L := #[true, true, true, true, true, true, true, true, true, true, true, true, true, true, true, true, true, true, true, true, true, true, true, true, true, true, false, false, false, false, false]) (by kernel_rfl) (by kernel_rfl) ?_
                refine s_move rfl rfl rfl rfl ?_
                refine vOrd_nil ?_
                refine vTree_one (i := 26) (L := #[true, true, true, true, true, true, true, true, true, true, true, true, true, true, true, true, true, true, true, true, true, true, true, true, true, true, true, false, false, false, false]) (by kernel_rfl) (by kernel_rfl) ?_
                refine s_move rfl rfl rfl rfl ?_
                refine vOrd_nil ?_
                refine vTree_one (i := 27) (L := #[true, true, true, true, true, true, true, true, true, true, true, true, true, true, true, true, true, true, true, true, true, true, true, true, true, true, true, true, false, false, false]) (by kernel_rfl) (by kernel_rfl) ?_
                refine s_callT rfl rfl rfl (by kernel_rfl) rfl (asked_any hL) ?_
                rintro v w338 rfl lw338
                replace lz := lz.trans lw338
                try replace hL := hL.later lw338
                refine vOrd_nil ?_
                refine vTree_one (i := 28) (L := #[true, true, true, true, true, true, true, true, true, true, true, true, true, true, true, true, true, true, true, true, true, true, true, true, true, true, true, true, true, false, false]) (by kernel_rfl) (by kernel_rfl) ?_
                refine t_eql rfl rfl rfl rfl rfl (by omega) ?_
                refine vOrd_nil ?_
                refine vTree_one (i := 29) (L := #[true, true, true, true, true, true, true, true, true, true, true, true, true, true, true, true, true, true, true, true, true, true, true, true, true, true, true, true, true, true, false]) (by kernel_rfl) (by kernel_rfl) ?_
                refine s_pick rfl rfl rfl rfl rfl ?_
                refine vOrd_nil ?_
                refine vTree_one (i := 30) (L := #[true, true, true, true, true, true, true, true, true, true, true, true, true, true, true, true, true, true, true, true, true, true, true, true, true, true, true, true, true, true, true]) (by kernel_rfl) (by kernel_rfl) ?_
                refine s_assign rfl rfl rfl rfl ?_
                refine vOrd_nil ?_
                refine vTree_end (by kernel_rfl) ?_
                refine Wp.ret ⟨.inr rfl, fun lW => ⟨_, res_tmp (P := Try.prog) rfl rfl, _, rfl, ?_, lW⟩⟩
                clear lW
                rfl
          · refine s_idx (sz := 2) (ao + 0 * 2) rfl rfl rfl rfl rfl rfl rfl (by omega) (by omega) (by omega) ?_
            refine vOrd_nil ?_
            refine vTree_two (i := 16) (k := 21) (L1 := #[true, true, true, true, true, true, true, true, true, true, true, true, true, true, true, true, true, false, true, true, true, false, false, false, false, false, false, false, false, false, false]) (L2 := #[true, true, true, true, true, true, true, true, true, true, true, true, true, true, true, true, false, false, true, true, true, true, false, false, false, false, false, false, false, false, false]) (by kernel_rfl) (by kernel_rfl) (by kernel_rfl) ?_ ?_
            · refine s_move rfl rfl rfl rfl ?_
              refine vOrd_nil ?_
              refine vTree_two (i := 17) (k := 21) (L1 := #[true, true, true, true, true, true, true, true, true, true, true, true, true, true, true, true, true, true, true, true, true, false, false, false, false, false, false, false, false, false, false]) (L2 := #[true, true, true, true, true, true, true, true, true, true, true, true, true, true, true, true, true, false, true, true, true, true, false, false, false, false, false, false, false, false, false]) (by kernel_rfl) (by kernel_rfl) (by kernel_rfl) ?_ ?_
              · refine s_callH 1007 rfl rfl rfl (by kernel_rfl) rfl rfl (fun vr => (first_any hb hL)) ?_
                rintro v cs340 w340 ⟨rfl, R340, _, hLq⟩ gw340 vw340
                replace lz := lz.past gw340 hbz
                clear hL
                have hL := hLq
                clear hLq
                refine vOrd_nil ?_
                refine vTree_one (i := 21) (L := #[true, true, true, true, true, true, true, true, true, true, true, true, true, true, true, true, true, true, true, true, true, true, false, false, false, false, false, false, false, false, false]) (by kernel_rfl) (by kernel_rfl) ?_
                refine x_ldA [.int .i64 x.1, .int .i64 x.2] rfl rfl rfl rfl rfl rfl (World.block_lt_of_cell? _ _ (cell_later lz k1)) (fun j u hj => ?_) ?_
                · match j, hj with
                  | 0, hj => cases hj; exact cell_later lz k1
                  | 1, hj => cases hj; exact cell_later lz k2
                refine vOrd_nil ?_
                refine vTree_one (i := 22) (L := #[true, true, true, true, true, true, true, true, true, true, true, true, true, true, true, true, true, true, true, true, true, true, true, false, false, false, false, false, false, false, false]) (by kernel_rfl) (by kernel_rfl) ?_
                refine s_callT rfl rfl rfl (by kernel_rfl) rfl (rday_any x hxi.1) ?_
                rintro v w345 rfl lw345
                replace lz := lz.trans lw345
                try replace hL := hL.later lw345
                refine vOrd_nil ?_
                refine vTree_one (i := 23) (L := #[true, true, true, true, true, true, true, true, true, true, true, true, true, true, true, true, true, true, true, true, true, true, true, true, false, false, false, false, false, false, false]) (by kernel_rfl) (by kernel_rfl) ?_
                refine t_eql rfl rfl rfl rfl rfl (by exact (A_at hx).1) ?_
                refine vOrd_nil ?_
                refine vTree_one (i := 24) (L := #[true, true, true, true, true, true, true, true, true, true, true, true, true, true, true, true, true, true, true, true, true, true, true, true, true, false, false, false, false, false, false]) (by kernel_rfl) (by kernel_rfl) ?_
                refine s_pick rfl rfl rfl rfl rfl ?_
                refine vOrd_nil ?_
                refine vTree_one (i := 25) (L := #[true, true, true, true, true, true, true, true, true, true, true, true, true, true, true, true, true, true, true, true, true, true, true, true, true, true, false, false, false, false, false]) (by kernel_rfl) (by kernel_rfl) ?_
                refine s_move rfl rfl rfl rfl ?_
                refine vOrd_nil ?_
                refine vTree_one (i := 26) (L := #[true, true, true, true, true, true, true, true, true, true, true, true, true, true, true, true, true, true, true, true, true, true, true, true, true, true, true, false, false, false, false]) (by kernel_rfl) (by kernel_rfl) ?_
                refine s_move rfl rfl rfl rfl ?_
                refine vOrd_nil ?_
                refine vTree_one (i := 27) (L := #[true, true, true, true, true, true, true, true, true, true, true, true, true, true, true, true, true, true, true, true, true, true, true, true, true, true, true, true, false, false, false]) (by kernel_rfl) (by kernel_rfl) ?_
                refine s_callT rfl rfl rfl (by kernel_rfl) rfl (asked_any hL) ?_
                rintro v w346 rfl lw346
                replace lz := lz.trans lw346
                try replace hL := hL.later lw346
                refine vOrd_nil ?_
                refine vTree_one (i := 28) (L := #[true, true, true, true, true, true, true, true, true, true, true, true, true, true, true, true, true, true, true, true, true, true, true, true, true, true, true, true, true, false, false]) (by kernel_rfl) (by kernel_rfl) ?_
                refine t_eql rfl rfl rfl rfl rfl (by omega) ?_
                refine vOrd_nil ?_
                refine vTree_one (i := 29) (L := #[true, true, true, true, true, true, true, true, true, true, true, true, true, true, true, true, true, true, true, true, true, true, true, true, true, true, true, true, true, true, false]) (by kernel_rfl) (by kernel_rfl) ?_
                refine s_pick rfl rfl rfl rfl rfl ?_
                refine vOrd_nil ?_
                refine vTree_one (i := 30) (L := #[true, true, true, true, true, true, true, true, true, true, true, true, true, true, true, true, true, true, true, true, true, true, true, true, true, true, true, true, true, true, true]) (by kernel_rfl) (by kernel_rfl) ?_
                refine s_assign rfl rfl rfl rfl ?_
                refine vOrd_nil ?_
                refine vTree_end (by kernel_rfl) ?_
                refine Wp.ret ⟨.inr rfl, fun lW => ⟨_, res_tmp (P := Try.prog) rfl rfl, _, rfl, ?_, lW⟩⟩
                clear lW
                rfl
              · refine x_ldA [.int .i64 x.1, .int .i64 x.2] rfl rfl rfl rfl rfl rfl (World.block_lt_of_cell? _ _ (cell_later lz k1)) (fun j u hj => ?_) ?_
                · match j, hj with
                  | 0, hj => cases hj; exact cell_later lz k1
                  | 1, hj => cases hj; exact cell_later lz k2
                refine vOrd_nil ?_
                refine vTree_one (i := 17) (L := #[true, true, true, true, true, true, true, true, true, true, true, true, true, true, true, true, true, true, true, true, true, true, false, false, false, false, false, false, false, false, false]) (by kernel_rfl) (by kernel_rfl) ?_
                refine s_callH 1007 rfl rfl rfl (by kernel_rfl) rfl rfl (fun vr => (first_any hb hL)) ?_
                rintro v cs351 w351 ⟨rfl, R351, _, hLq⟩ gw351 vw351
                replace lz := lz.past gw351 hbz
                clear hL
                have hL := hLq
                clear hLq
                refine vOrd_nil ?_
                refine vTree_one (i := 22) (L := #[true, true, true, true, true, true, true, true, true, true, true, true, true, true, true, true, true, true, true, true, true, true, true, false, false, false, false, false, false, false, false]) (by kernel_rfl) (by kernel_rfl) ?_
                refine s_callT rfl rfl rfl (by kernel_rfl) rfl (rday_any x hxi.1) ?_
                rintro v w352 rfl lw352
                replace lz := lz.trans lw352
                try replace hL := hL.later lw352
                refine vOrd_nil ?_
                refine vTree_one (i := 23) (L := #[true, true, true, true, true, true, true, true, true, true, true, true, true, true, true, true, true, true, true, true, true, true, true, true, false, false, false, false, false, false, false]) (by kernel_rfl) (by kernel_rfl) ?_
                refine t_eql rfl rfl rfl rfl rfl (by exact (A_at hx).1) ?_
                refine vOrd_nil ?_
                refine vTree_one (i := 24) (L := #[true, true, true, true, true, true, true, true, true, true, true, true, true, true, true, true, true, true, true, true, true, true, true, true, true, false, false, false, false, false, false]) (by kernel_rfl) (by kernel_rfl) ?_
                refine s_pick rfl rfl rfl rfl rfl ?_
                refine vOrd_nil ?_
                refine vTree_one (i := 25) (L := #[true, true, true, true, true, true, true, true, true, true, true, true, true, true, true, true, true, true, true, true, true, true, true, true, true, true, false, false, false, false, false]) (by kernel_rfl) (by kernel_rfl) ?_
                refine s_move rfl rfl rfl rfl ?_
                refine vOrd_nil ?_
                refine vTree_one (i := 26) (L := #[true, true, true, true, true, true, true, true, true, true, true, true, true, true, true, true, true, true, true, true, true, true, true, true, true, true, true, false, false, false, false]) (by kernel_rfl) (by kernel_rfl) ?_
                refine s_move rfl rfl rfl rfl ?_
                refine vOrd_nil ?_
                refine vTree_one (i := 27) (L := #[true, true, true, true, true, true, true, true, true, true, true, true, true, true, true, true, true, true, true, true, true, true, true, true, true, true, true, true, false, false, false]) (by kernel_rfl) (by kernel_rfl) ?_
                refine s_callT rfl rfl rfl (by kernel_rfl) rfl (asked_any hL) ?_
                rintro v w353 rfl lw353
                replace lz := lz.trans lw353
                try replace hL := hL.later lw353
                refine vOrd_nil ?_
                refine vTree_one (i := 28) (L := #[true, true, true, true, true, true, true, true, true, true, true, true, true, true, true, true, true, true, true, true, true, true, true, true, true, true, true, true, true, false, false]) (by kernel_rfl) (by kernel_rfl) ?_
                refine t_eql rfl rfl rfl rfl rfl (by omega) ?_
                refine vOrd_nil ?_
                refine vTree_one (i := 29) (L := #[true, true, true, true, true, true, true, true, true, true, true, true, true, true, true, true, true, true, true, true, true, true, true, true, true, true, true, true, true, true, false]) (by kernel_rfl) (by kernel_rfl) ?_
                refine s_pick rfl rfl rfl rfl rfl ?_
                refine vOrd_nil ?_
                refine vTree_one (i := 30) (L := #[true, true, true, true, true, true, true, true, true, true, true, true, true, true, true, true, true, true, true, true, true, true, true, true, true, true, true, true, true, true, true]) (by kernel_rfl) (by kernel_rfl) ?_
                refine s_assign rfl rfl rfl rfl ?_
                refine vOrd_nil ?_
                refine vTree_end (by kernel_rfl) ?_
                refine Wp.ret ⟨.inr rfl, fun lW => ⟨_, res_tmp (P := Try.prog) rfl rfl, _, rfl, ?_, lW⟩⟩
                clear lW
                rfl
            · refine x_ldA [.int .i64 x.1, .int .i64 x.2] rfl rfl rfl rfl rfl rfl (World.block_lt_of_cell? _ _ (cell_later lz k1)) (fun j u hj => ?_) ?_
              · match j, hj with
                | 0, hj => cases hj; exact cell_later lz k1
                | 1, hj => cases hj; exact cell_later lz k2
              refine vOrd_nil ?_
              refine vTree_one (i := 16) (L := #[true, true, true, true, true, true, true, true, true, true, true, true, true, true, true, true, true, false, true, true, true, true, false, false, false, false, false, false, false, false, false]) (by kernel_rfl) (by kernel_rfl) ?_
              refine s_move rfl rfl rfl rfl ?_
              refine vOrd_nil ?_
              refine vTree_one (i := 17) (L := #[true, true, true, true, true, true, true, true, true, true, true, true, true, true, true, true, true, true, true, true, true, true, false, false, false, false, false, false, false, false, false]) (by kernel_rfl) (by kernel_rfl) ?_
              refine s_callH 1007 rfl rfl rfl (by kernel_rfl) rfl rfl (fun vr => (first_any hb hL)) ?_
              rintro v cs358 w358 ⟨rfl, R358, _, hLq⟩ gw358 vw358
              replace lz := lz.past gw358 hbz
              clear hL
              have hL := hLq
              clear hLq
              refine vOrd_nil ?_
              refine vTree_one (i := 22) (L := #[true, true, true, true, true, true, true, true, true, true, true, true, true, true, true, true, true, true, true, true, true, true, true, false, false, false, false, false, false, false, false]) (by kernel_rfl) (by kernel_rfl) ?_
              refine s_callT rfl rfl rfl (by kernel_rfl) rfl (rday_any x hxi.1) ?_
              rintro v w359 rfl lw359
              replace lz := lz.trans lw359
              try replace hL := hL.later lw359
              refine vOrd_nil ?_
              refine vTree_one (i := 23) (L := #[true, true, true, true, true, true, true, true, true, true, true, true, true, true, true, true, true, true, true, true, true, true, true, true, false, false, false, false, false, false, false]) (by kernel_rfl) (by kernel_rfl) ?_
              refine t_eql rfl rfl rfl rfl rfl (by exact (A_at hx).1) ?_
              refine vOrd_nil ?_
              refine vTree_one (i := 24) (L := #[true, true, true, true, true, true, true, true, true, true, true, true, true, true, true, true, true, true, true, true, true, true, true, true, true, false, false, false, false, false, false]) (by kernel_rfl) (by kernel_rfl) ?_
              refine s_pick rfl rfl rfl rfl rfl ?_
              refine vOrd_nil ?_
              refine vTree_one (i := 25) (L := #[true, true, true, true, true, true, true, true, true, true, true, true, true, true, true, true, true, true, true, true, true, true, true, true, true, true, false, false, false, false, false]) (by kernel_rfl) (by kernel_rfl) ?_
              refine s_move rfl rfl rfl rfl ?_
              refine vOrd_nil ?_
              refine vTree_one (i := 26) (L := #[true, true, true, true, true, true, true, true, true, true, true, true, true, true, true, true, true, true, true, true, true, true, true, true, true, true, true, false, false, false, false]) (by kernel_rfl) (by kernel_rfl) ?_
              refine s_move rfl rfl rfl rfl ?_
              refine vOrd_nil ?_
              refine vTree_one (i := 27) (L := #[true, true, true, true, true, true, true, true, true, true, true, true, true, true, true, true, true, true, true, true, true, true, true, true, true, true, true, true, false, false, false]) (by kernel_rfl) (by kernel_rfl) ?_
              refine s_callT rfl rfl rfl (by kernel_rfl) rfl (asked_any hL) ?_
              rintro v w360 rfl lw360
              replace lz := lz.trans lw360
              try replace hL := hL.later lw360
              refine vOrd_nil ?_
              refine vTree_one (i := 28) (L := #[true, true, true, true, true, true, true, true, true, true, true, true, true, true, true, true, true, true, true, true, true, true, true, true, true, true, true, true, true, false, false]) (by kernel_rfl) (by kernel_rfl) ?_
              refine t_eql rfl rfl rfl rfl rfl (by omega) ?_
              refine vOrd_nil ?_
              refine vTree_one (i := 29) (L := #[true, true, true, true, true, true, true, true, true, true, true, true, true, true, true, true, true, true, true, true, true, true, true, true, true, true, true, true, true, true, false]) (by kernel_rfl) (by kernel_rfl) ?_
              refine s_pick rfl rfl rfl rfl rfl ?_
              refine vOrd_nil ?_
              refine vTree_one (i := 30) (L := #[true, true, true, true, true, true, true, true, true, true, true, true, true, true, true, true, true, true, true, true, true, true, true, true, true, true, true, true, true, true, true]) (by kernel_rfl) (by kernel_rfl) ?_
              refine s_assign rfl rfl rfl rfl ?_
              refine vOrd_nil ?_
              refine vTree_end (by kernel_rfl) ?_
              refine Wp.ret ⟨.inr rfl, fun lW => ⟨_, res_tmp (P := Try.prog) rfl rfl, _, rfl, ?_, lW⟩⟩
              clear lW
              rfl

end Go.Proofs.Ytgpnapeobkiekaa
