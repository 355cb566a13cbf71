/-
 The contracts of the reference of layer 15 (clock): Old, Over, Tai, Label. Of tables that may be.
-/
import Derived.Test.YthihioakjpmnbaaGreatUnA
import Derived.Test.YthihioakjpmnbaaGreatUtR
import Derived.Test.YthihioakjpmnbaaGreatSegM
import Derived.Test.YthihioakjpmnbaaGreatSegS
namespace Go.Proofs.YthihioakjpmnbaaGreat
open Go.RowKit
set_option maxRecDepth 100000

theorem r15old_any (t : Tb) (hb : canBe t = true) {a0 : Option Addr} {c0 : Nat} {w : World} (hv : EntAt w (.slice a0 t.es.length c0) t.es) : Calls Tryz.prog 69 #[tbV t (.slice a0 t.es.length c0)] w fun e w' => ∃ r, e = .returned r ∧ r = .bool (ckOld t.es) ∧ Below w.heap.size w w' := by
 have hpos := (can_num hb).2.2
 obtain ⟨x0, hx0⟩ : ∃ x, t.es[0]? = some x := ⟨_, List.getElem?_eq_getElem hpos⟩
 have hxi := can_in hb hx0
 obtain ⟨ab, ao, rfl, hcell⟩ := ent_at hv hpos
 obtain ⟨kx1, kx2⟩ := hcell 0 x0 hx0
 rw [ck_old hx0]
 refine calls_Wp (args := [_]) (n := 17) Tryz.func69 rfl rfl (by simp) ?_
 refine Wp.seq ?_
 refine wR [0, 1] ?_
 refine sE (fun bk1 w1 kb1 lw1 => ?_)
 refine sZ 1 ?_
 refine Wp.seq ?_
 refine Wp.old (fun lo => ?_)
 refine wQ 2 ?_
 refine sI (sz := 2) (ao + 0 * 2) ?_
 refine x_ldA [.int .i64 x0.1, .int .i64 x0.2] rfl rfl rfl rfl rfl rfl (Nat.lt_of_lt_of_le (World.block_lt_of_cell? _ _ kx1) lo.size) (fun j u hj => ?_) ?_
 ·match j, hj with
  | 0, hj => cases hj; exact cell_later lo kx1
  | 1, hj => cases hj; exact cell_later lo kx2
 refine sT (rday_any x0 hxi.1) ?_
 rintro v w7 rfl lw7
 replace lo := lo.trans lw7
 refine p_eql rfl rfl rfl rfl rfl (fun h8 => ?_) (fun h8 => ?_)
 ·refine sQ 3 ?_
  refine sI (sz := 2) (ao + 0 * 2) ?_
  refine s_fieldV (ao + 0 * 2 + 1) rfl rfl rfl rfl 1 rfl rfl ?_
  refine xC (cell_later lo kx2) ?_
  refine p_eql rfl rfl rfl rfl rfl (fun h15 => ?_) (fun h15 => ?_)
  ·refine sZ 2 ?_
   refine Wp.ret ⟨.inr rfl, fun lW => ⟨_, res_tmp (P := Tryz.prog) rfl rfl, _, rfl, ?_, lW⟩⟩
   clear lW
   rw [decide_eq_true (show dayE x0 = 41317 by omega), decide_eq_true (show x0.2 = 10 by omega)]; rfl
  ·refine sZ 2 ?_
   refine Wp.ret ⟨.inr rfl, fun lW => ⟨_, res_tmp (P := Tryz.prog) rfl rfl, _, rfl, ?_, lW⟩⟩
   clear lW
   rw [decide_eq_true (show dayE x0 = 41317 by omega), decide_eq_false (show ¬ x0.2 = 10 by omega)]; rfl
 ·refine sZ 9 ?_
  refine Wp.ret ⟨.inr rfl, fun lW => ⟨_, res_tmp (P := Tryz.prog) rfl rfl, _, rfl, ?_, lW⟩⟩
  clear lW
  rw [decide_eq_false (show ¬ dayE x0 = 41317 by omega)]; rfl
theorem r15over_any (t : Tb) {v : Value} {d s a : Int} (hd : -8796093022208 ≤ d ∧ d ≤ 8796093022208) (hs : -8796093022208 ≤ s ∧ s ≤ 8796093022208) {w : World} : Calls Tryz.prog 73 #[tbV t v, .agg #[.int .i64 d, .int .i64 s, .int .i64 a]] w fun e w' => ∃ r, e = .returned r ∧ r = .bool (ckOver t.e d s) ∧ Below w.heap.size w w' := by
 unfold ckOver
 refine calls_Wp (args := [_, _]) (n := 15) Tryz.func73 rfl rfl (by simp) ?_
 refine Wp.seq ?_
 refine wR [0, 1, 2] ?_
 refine sE (fun bk1 w1 kb1 lw1 => ?_)
 refine sE (fun bk2 w2 kb2 lw2 => ?_)
 refine sZ 1 ?_
 refine qQ 2 ?_
 refine aM (-9223372036854775808) 9223372036854775807 ?_
 refine a_mul (-9223372036854775808) 9223372036854775807 (by decide) rfl rfl rfl rfl rfl (by omega) (by omega) ?_
 refine sQ 2 ?_
 refine aP (-9223372036854775808) 9223372036854775807 ?_
 refine sQ 2 ?_
 refine p_geq rfl rfl rfl rfl rfl (fun h14 => ?_) (fun h14 => ?_)
 ·refine sZ 1 ?_
  refine Wp.ret ⟨.inr rfl, fun lW => ⟨_, res_tmp (P := Tryz.prog) rfl rfl, _, rfl, ?_, lW⟩⟩
  clear lW
  rw [decide_eq_true (show t.e ≤ (d - 15020) * 86400 + s by omega)]
 ·refine sZ 1 ?_
  refine Wp.ret ⟨.inr rfl, fun lW => ⟨_, res_tmp (P := Tryz.prog) rfl rfl, _, rfl, ?_, lW⟩⟩
  clear lW
  rw [decide_eq_false (show ¬ t.e ≤ (d - 15020) * 86400 + s by omega)]
set_option maxHeartbeats 2000000 in
theorem r15tai_any (t : Tb) (hb : canBe t = true) {a0 : Option Addr} {c0 : Nat} {w : World} (hv : EntAt w (.slice a0 t.es.length c0) t.es) {d s a : Int} (hd : I64 d) (hs : I64 s) (ha : I64 a) (lax : Bool) {J K : Nat} (hJ : CutP (pSD d) pubS J) (hK : Cut (pDay d) t.es K) : Calls Tryz.prog 44 #[tbV t (.slice a0 t.es.length c0), .agg #[.int .i64 d, .int .i64 s, .int .i64 a], .bool lax] w fun e w' => ∃ r, e = .returned r ∧ (∃ sb ua ul uc, r = .tuple #[.agg #[.bool sb, .slice ua ul uc], .int .i64 (ckE t lax J K d s a)] ∧ (ckE t lax J K d s a = 0 → IsBig 120 (ckT t lax J K d s a) (.agg #[.bool sb, .slice ua ul uc]) w')) ∧ Below w.heap.size w w' := by
 obtain ⟨E, hE⟩ : ∃ E, ckE t lax J K d s a = E := ⟨_, rfl⟩
 obtain ⟨W, hW⟩ : ∃ W, whyE t.es K d s a = W := ⟨_, rfl⟩
 obtain ⟨Q, hQ⟩ : ∃ Q, rE pubS 41317 10 J d s a = Q := ⟨_, rfl⟩
 obtain ⟨Z, hZ⟩ : ∃ Z, ckT t lax J K d s a = Z := ⟨_, rfl⟩
 rw [hE, hZ]
 cases hr : ckR t.es d with
 | true =>
  have ho : ckOld t.es = true := by unfold ckR at hr; exact (Bool.and_eq_true_iff.1 hr).1
  have hd1 : d < 41317 := by unfold ckR at hr; exact of_decide_eq_true (Bool.and_eq_true_iff.1 hr).2
  obtain ⟨e1, e2⟩ := ckW_r (J := J) (K := K) (s := s) (a := a) hr
  by_cases h0 : Q = 0
  ·have hz := rE_zero (hQ.trans h0)
   obtain ⟨yx, hyx, _, hx1, _⟩ := rE_facts pub_may15 hJ (hQ.trans h0)
   have hyin := (sgIn_iff.1 (may_at pub_may15 hyx).1).1
   have hU := isU_iff.1 hz.1
   have hwz : ckW t.es J K d s a = 0 := by rw [e1, hQ, h0]
   cases lax with
   | true =>
    obtain rfl : 0 = E := by rw [← hE]; exact (ckE_ok hwz rfl).symm
    have hZ2 : Z = rT pubS 41317 10 J d s a := by rw [← hZ, ckT_ok hE, e2]
    refine calls_Wp (args := [_, _, _]) (n := 45) Tryz.func44 rfl rfl (by simp) ?_
    refine Wp.seq ?_
    refine wR [0, 1, 2, 3] ?_
    refine sE (fun bk1 w1 kb1 lw1 => ?_)
    refine sE (fun bk2 w2 kb2 lw2 => ?_)
    refine sO (fun bk3 w3 kb3 lw3 => ?_)
    refine sZ 1 ?_
    refine Wp.seq ?_
    refine Wp.old (fun lo => ?_)
    refine wR [0, 1, 2, 3, 4, 5, 6] ?_
    refine sB ?_
    refine sQ 2 ?_
    refine sT (rwhy_any t hb (hv.later lo) hK) ?_
    rintro v w4 rfl lw4
    rw [hW]
    refine sO (fun bk5 w5 kb5 lw5 => ?_)
    refine sS (fun w6 sw6 vw6 => ?_)
    refine sZ 1 ?_
    refine Wp.seq ?_
    refine Wp.seq ?_
    refine Wp.old (fun lo => ?_)
    refine wQ 1 ?_
    refine sT (r15old_any t hb (hv.later lo)) ?_
    rintro v w7 rfl lw7
    rw [ho]
    refine sQ 3 ?_
    refine t_lss rfl rfl rfl rfl rfl (by omega) ?_
    refine sZ 1 ?_
    refine Wp.condT rfl rfl ?_
    refine wD [1, 0, 2, 3, 4, 5, 6, 7] [1, 0, 0, 0, 47, 95, 0, 0] (fun | 0 => fun v w => ∃ c cp, v = .slice (some ⟨c, 0, none⟩) 13 cp ∧ SegAt w v pubS | 2 => fun v w => ∃ sb ua ul uc, v = .tuple #[.agg #[.bool sb, .slice ua ul uc], .int .i64 (rE pubS 41317 10 J d s a)] ∧ (rE pubS 41317 10 J d s a = 0 → IsBig 120 (rT pubS 41317 10 J d s a) (.agg #[.bool sb, .slice ua ul uc]) w) | _ => fun _ _ => True) (fun _ _ => ?_)
    refine sL ?_
    refine sD (fun wc lc => rsegs_any) ?_
    rintro v w8 u8 ⟨sc, sp, rfl, hsg⟩ lw8 mw8
    replace hsg := hsg.later mw8
    refine s_callD rfl rfl rfl (by kernel_rfl) rfl (fun wc lc => rrtai_any pubS (hsg.later lc) (by rw [pub_len]; decide) ⟨by decide, by decide⟩ ⟨by decide, by decide⟩ pub_may15 hd hs ha hJ) ?_
    rintro v w9 u9 ⟨sb, ua, ul, uc, rfl, hbig⟩ lw9 mw9
    rw [hQ]
    rw [hQ] at hbig
    refine sQ 3 ?_
    refine sS (fun w10 sw10 vw10 => ?_)
    refine sZ 1 ?_
    refine Wp.seq ?_
    refine qQ 1 ?_
    refine f_neq rfl rfl rfl rfl rfl (by omega) ?_
    refine vOrd_nil ?_
    refine Wp.condF rfl rfl ?_
    refine Wp.skip ?_
    refine Wp.seq ?_
    refine qZ ?_
    refine Wp.condF rfl rfl ?_
    refine Wp.skip ?_
    refine qQ 1 ?_
    refine sS (fun w11 sw11 vw11 => ?_)
    refine sZ 1 ?_
    refine Wp.ret ⟨.inr rfl, fun lW => ⟨_, ⟨_, _, res_cell rfl rfl rfl rfl, res_tmp (P := Tryz.prog) rfl rfl, rfl⟩, _, rfl, ?_, lW⟩⟩
    clear lW
    exact ⟨_, _, _, _, rfl, fun _ => by rw [hZ2]; exact ((hbig h0).kp)⟩
   | false =>
    cases hov : ckOver t.e d s with
    | true =>
     obtain rfl : 9 = E := by rw [← hE]; exact (ckE_out hwz (by rw [hov]; rfl)).symm
     refine calls_Wp (args := [_, _, _]) (n := 45) Tryz.func44 rfl rfl (by simp) ?_
     refine Wp.seq ?_
     refine wR [0, 1, 2, 3] ?_
     refine sE (fun bk1 w1 kb1 lw1 => ?_)
     refine sE (fun bk2 w2 kb2 lw2 => ?_)
     refine sO (fun bk3 w3 kb3 lw3 => ?_)
     refine sZ 1 ?_
     refine Wp.seq ?_
     refine Wp.old (fun lo => ?_)
     refine wR [0, 1, 2, 3, 4, 5, 6] ?_
     refine sB ?_
     refine sQ 2 ?_
     refine sT (rwhy_any t hb (hv.later lo) hK) ?_
     rintro v w4 rfl lw4
     rw [hW]
     refine sO (fun bk5 w5 kb5 lw5 => ?_)
     refine sS (fun w6 sw6 vw6 => ?_)
     refine sZ 1 ?_
     refine Wp.seq ?_
     refine Wp.seq ?_
     refine Wp.old (fun lo => ?_)
     refine wQ 1 ?_
     refine sT (r15old_any t hb (hv.later lo)) ?_
     rintro v w7 rfl lw7
     rw [ho]
     refine sQ 3 ?_
     refine t_lss rfl rfl rfl rfl rfl (by omega) ?_
     refine sZ 1 ?_
     refine Wp.condT rfl rfl ?_
     refine wD [1, 0, 2, 3, 4, 5, 6, 7] [1, 0, 0, 0, 47, 95, 0, 0] (fun | 0 => fun v w => ∃ c cp, v = .slice (some ⟨c, 0, none⟩) 13 cp ∧ SegAt w v pubS | 2 => fun v w => ∃ sb ua ul uc, v = .tuple #[.agg #[.bool sb, .slice ua ul uc], .int .i64 (rE pubS 41317 10 J d s a)] ∧ (rE pubS 41317 10 J d s a = 0 → IsBig 120 (rT pubS 41317 10 J d s a) (.agg #[.bool sb, .slice ua ul uc]) w) | _ => fun _ _ => True) (fun _ _ => ?_)
     refine sL ?_
     refine sD (fun wc lc => rsegs_any) ?_
     rintro v w8 u8 ⟨sc, sp, rfl, hsg⟩ lw8 mw8
     replace hsg := hsg.later mw8
     refine s_callD rfl rfl rfl (by kernel_rfl) rfl (fun wc lc => rrtai_any pubS (hsg.later lc) (by rw [pub_len]; decide) ⟨by decide, by decide⟩ ⟨by decide, by decide⟩ pub_may15 hd hs ha hJ) ?_
     rintro v w9 u9 ⟨sb, ua, ul, uc, rfl, hbig⟩ lw9 mw9
     rw [hQ]
     rw [hQ] at hbig
     refine sQ 3 ?_
     refine sS (fun w10 sw10 vw10 => ?_)
     refine sZ 1 ?_
     refine Wp.seq ?_
     refine qQ 1 ?_
     refine f_neq rfl rfl rfl rfl rfl (by omega) ?_
     refine vOrd_nil ?_
     refine Wp.condF rfl rfl ?_
     refine Wp.skip ?_
     refine Wp.seq ?_
     refine qQ 5 ?_
     refine s_callT rfl rfl rfl (by kernel_rfl) rfl (r15over_any t (by omega) (by omega)) ?_
     rintro v w11 rfl lw11
     rw [hov]
     refine sZ 1 ?_
     refine Wp.condT rfl rfl ?_
     refine Wp.seq ?_
     refine wR [0, 1, 2] ?_
     refine sB ?_
     refine sS (fun w12 sw12 vw12 => ?_)
     refine sZ 1 ?_
     refine Wp.ret ⟨.inr rfl, fun lW => ⟨_, ⟨_, _, res_cell rfl rfl rfl rfl, res_tmp (P := Tryz.prog) rfl rfl, rfl⟩, _, rfl, ?_, lW⟩⟩
     clear lW
     exact ⟨_, _, _, _, rfl, fun h => absurd h (by omega)⟩
    | false =>
     obtain rfl : 0 = E := by rw [← hE]; exact (ckE_ok hwz (by rw [hov]; rfl)).symm
     have hZ2 : Z = rT pubS 41317 10 J d s a := by rw [← hZ, ckT_ok hE, e2]
     refine calls_Wp (args := [_, _, _]) (n := 45) Tryz.func44 rfl rfl (by simp) ?_
     refine Wp.seq ?_
     refine wR [0, 1, 2, 3] ?_
     refine sE (fun bk1 w1 kb1 lw1 => ?_)
     refine sE (fun bk2 w2 kb2 lw2 => ?_)
     refine sO (fun bk3 w3 kb3 lw3 => ?_)
     refine sZ 1 ?_
     refine Wp.seq ?_
     refine Wp.old (fun lo => ?_)
     refine wR [0, 1, 2, 3, 4, 5, 6] ?_
     refine sB ?_
     refine sQ 2 ?_
     refine sT (rwhy_any t hb (hv.later lo) hK) ?_
     rintro v w4 rfl lw4
     rw [hW]
     refine sO (fun bk5 w5 kb5 lw5 => ?_)
     refine sS (fun w6 sw6 vw6 => ?_)
     refine sZ 1 ?_
     refine Wp.seq ?_
     refine Wp.seq ?_
     refine Wp.old (fun lo => ?_)
     refine wQ 1 ?_
     refine sT (r15old_any t hb (hv.later lo)) ?_
     rintro v w7 rfl lw7
     rw [ho]
     refine sQ 3 ?_
     refine t_lss rfl rfl rfl rfl rfl (by omega) ?_
     refine sZ 1 ?_
     refine Wp.condT rfl rfl ?_
     refine wD [1, 0, 2, 3, 4, 5, 6, 7] [1, 0, 0, 0, 47, 95, 0, 0] (fun | 0 => fun v w => ∃ c cp, v = .slice (some ⟨c, 0, none⟩) 13 cp ∧ SegAt w v pubS | 2 => fun v w => ∃ sb ua ul uc, v = .tuple #[.agg #[.bool sb, .slice ua ul uc], .int .i64 (rE pubS 41317 10 J d s a)] ∧ (rE pubS 41317 10 J d s a = 0 → IsBig 120 (rT pubS 41317 10 J d s a) (.agg #[.bool sb, .slice ua ul uc]) w) | _ => fun _ _ => True) (fun _ _ => ?_)
     refine sL ?_
     refine sD (fun wc lc => rsegs_any) ?_
     rintro v w8 u8 ⟨sc, sp, rfl, hsg⟩ lw8 mw8
     replace hsg := hsg.later mw8
     refine s_callD rfl rfl rfl (by kernel_rfl) rfl (fun wc lc => rrtai_any pubS (hsg.later lc) (by rw [pub_len]; decide) ⟨by decide, by decide⟩ ⟨by decide, by decide⟩ pub_may15 hd hs ha hJ) ?_
     rintro v w9 u9 ⟨sb, ua, ul, uc, rfl, hbig⟩ lw9 mw9
     rw [hQ]
     rw [hQ] at hbig
     refine sQ 3 ?_
     refine sS (fun w10 sw10 vw10 => ?_)
     refine sZ 1 ?_
     refine Wp.seq ?_
     refine qQ 1 ?_
     refine f_neq rfl rfl rfl rfl rfl (by omega) ?_
     refine vOrd_nil ?_
     refine Wp.condF rfl rfl ?_
     refine Wp.skip ?_
     refine Wp.seq ?_
     refine qQ 5 ?_
     refine s_callT rfl rfl rfl (by kernel_rfl) rfl (r15over_any t (by omega) (by omega)) ?_
     rintro v w11 rfl lw11
     rw [hov]
     refine sZ 1 ?_
     refine Wp.condF rfl rfl ?_
     refine Wp.skip ?_
     refine qQ 1 ?_
     refine sS (fun w12 sw12 vw12 => ?_)
     refine sZ 1 ?_
     refine Wp.ret ⟨.inr rfl, fun lW => ⟨_, ⟨_, _, res_cell rfl rfl rfl rfl, res_tmp (P := Tryz.prog) rfl rfl, rfl⟩, _, rfl, ?_, lW⟩⟩
     clear lW
     exact ⟨_, _, _, _, rfl, fun _ => by rw [hZ2]; exact ((hbig h0).kp)⟩
  ·have hwz : ckW t.es J K d s a ≠ 0 := by rw [e1, hQ]; exact h0
   obtain rfl : Q = E := by rw [← hE, ckE_bad hwz, e1, hQ]
   refine calls_Wp (args := [_, _, _]) (n := 45) Tryz.func44 rfl rfl (by simp) ?_
   refine Wp.seq ?_
   refine wR [0, 1, 2, 3] ?_
   refine sE (fun bk1 w1 kb1 lw1 => ?_)
   refine sE (fun bk2 w2 kb2 lw2 => ?_)
   refine sO (fun bk3 w3 kb3 lw3 => ?_)
   refine sZ 1 ?_
   refine Wp.seq ?_
   refine Wp.old (fun lo => ?_)
   refine wR [0, 1, 2, 3, 4, 5, 6] ?_
   refine sB ?_
   refine sQ 2 ?_
   refine sT (rwhy_any t hb (hv.later lo) hK) ?_
   rintro v w4 rfl lw4
   rw [hW]
   refine sO (fun bk5 w5 kb5 lw5 => ?_)
   refine sS (fun w6 sw6 vw6 => ?_)
   refine sZ 1 ?_
   refine Wp.seq ?_
   refine Wp.seq ?_
   refine Wp.old (fun lo => ?_)
   refine wQ 1 ?_
   refine sT (r15old_any t hb (hv.later lo)) ?_
   rintro v w7 rfl lw7
   rw [ho]
   refine sQ 3 ?_
   refine t_lss rfl rfl rfl rfl rfl (by omega) ?_
   refine sZ 1 ?_
   refine Wp.condT rfl rfl ?_
   refine wD [1, 0, 2, 3, 4, 5, 6, 7] [1, 0, 0, 0, 47, 95, 0, 0] (fun | 0 => fun v w => ∃ c cp, v = .slice (some ⟨c, 0, none⟩) 13 cp ∧ SegAt w v pubS | 2 => fun v w => ∃ sb ua ul uc, v = .tuple #[.agg #[.bool sb, .slice ua ul uc], .int .i64 (rE pubS 41317 10 J d s a)] ∧ (rE pubS 41317 10 J d s a = 0 → IsBig 120 (rT pubS 41317 10 J d s a) (.agg #[.bool sb, .slice ua ul uc]) w) | _ => fun _ _ => True) (fun _ _ => ?_)
   refine sL ?_
   refine sD (fun wc lc => rsegs_any) ?_
   rintro v w8 u8 ⟨sc, sp, rfl, hsg⟩ lw8 mw8
   replace hsg := hsg.later mw8
   refine s_callD rfl rfl rfl (by kernel_rfl) rfl (fun wc lc => rrtai_any pubS (hsg.later lc) (by rw [pub_len]; decide) ⟨by decide, by decide⟩ ⟨by decide, by decide⟩ pub_may15 hd hs ha hJ) ?_
   rintro v w9 u9 ⟨sb, ua, ul, uc, rfl, hbig⟩ lw9 mw9
   rw [hQ]
   rw [hQ] at hbig
   refine sQ 3 ?_
   refine sS (fun w10 sw10 vw10 => ?_)
   refine sZ 1 ?_
   refine Wp.seq ?_
   refine qQ 1 ?_
   refine t_neq rfl rfl rfl rfl rfl (by omega) ?_
   refine vOrd_nil ?_
   refine Wp.condT rfl rfl ?_
   refine Wp.seq ?_
   refine wR [0, 1, 2, 3] ?_
   refine sB ?_
   refine sM ?_
   refine sS (fun w11 sw11 vw11 => ?_)
   refine sZ 1 ?_
   refine Wp.ret ⟨.inr rfl, fun lW => ⟨_, ⟨_, _, res_cell rfl rfl rfl rfl, res_tmp (P := Tryz.prog) rfl rfl, rfl⟩, _, rfl, ?_, lW⟩⟩
   clear lW
   exact ⟨_, _, _, _, rfl, fun h => absurd h (by omega)⟩
 | false =>
  obtain ⟨e1, e2⟩ := ckW_u (J := J) (K := K) (s := s) (a := a) hr
  obtain ⟨o, ho⟩ : ∃ o, ckOld t.es = o := ⟨_, rfl⟩
  have hod : o = true → ¬ d < 41317 := fun q h => by unfold ckR at hr; rw [ho, q, decide_eq_true h] at hr; cases hr
  by_cases h0 : W = 0
  ·have hz := why_zero (hW.trans h0)
   have hU := isU_iff.1 hz.1
   have hB := inB_iff.1 hz.2.1
   have hs2 : 0 ≤ s ∧ s ≤ 86400 := ⟨hU.1, hU.2.1⟩
   have hwz : ckW t.es J K d s a = 0 := by rw [e1, hW, h0]
   have hcz := tai_ok (hW.trans h0)
   cases o with
   | true =>
    have hd1 := hod rfl
    cases lax with
    | true =>
     obtain rfl : 0 = E := by rw [← hE]; exact (ckE_ok hwz rfl).symm
     have hZ2 : Z = taiZ t.es K d s a := by rw [← hZ, ckT_ok hE, e2]
     refine calls_Wp (args := [_, _, _]) (n := 45) Tryz.func44 rfl rfl (by simp) ?_
     refine Wp.seq ?_
     refine wR [0, 1, 2, 3] ?_
     refine sE (fun bk1 w1 kb1 lw1 => ?_)
     refine sE (fun bk2 w2 kb2 lw2 => ?_)
     refine sO (fun bk3 w3 kb3 lw3 => ?_)
     refine sZ 1 ?_
     refine Wp.seq ?_
     refine Wp.old (fun lo => ?_)
     refine wR [0, 1, 2, 3, 4, 5, 6] ?_
     refine sB ?_
     refine sQ 2 ?_
     refine sT (rwhy_any t hb (hv.later lo) hK) ?_
     rintro v w4 rfl lw4
     rw [hW]
     refine sO (fun bk5 w5 kb5 lw5 => ?_)
     refine sS (fun w6 sw6 vw6 => ?_)
     refine sZ 1 ?_
     refine Wp.seq ?_
     refine Wp.seq ?_
     refine Wp.old (fun lo => ?_)
     refine wQ 1 ?_
     refine sT (r15old_any t hb (hv.later lo)) ?_
     rintro v w7 rfl lw7
     rw [ho]
     refine sQ 3 ?_
     refine f_lss rfl rfl rfl rfl rfl (by omega) ?_
     refine sZ 1 ?_
     refine Wp.condF rfl rfl ?_
     refine qQ 1 ?_
     refine t_eql rfl rfl rfl rfl rfl (by omega) ?_
     refine vOrd_nil ?_
     refine Wp.condT rfl rfl ?_
     refine Wp.old (fun lo => ?_)
     refine wQ 2 ?_
     refine sT (rtai_any t hb (hv.later lo) hd hs2 ha hK) ?_
     rintro v w8 hbig lw8
     obtain ⟨ua, ul, uc, rfl, -⟩ := id hbig
     replace hbig := (hbig.eq hcz.symm).upto (show 17 ≤ 120 by decide)
     refine sS (fun w9 sw9 vw9 => ?_)
     refine vOrd_nil ?_
     refine Wp.seq ?_
     refine qQ 1 ?_
     refine f_neq rfl rfl rfl rfl rfl (by omega) ?_
     refine vOrd_nil ?_
     refine Wp.condF rfl rfl ?_
     refine Wp.skip ?_
     refine Wp.seq ?_
     refine qZ ?_
     refine Wp.condF rfl rfl ?_
     refine Wp.skip ?_
     refine qQ 1 ?_
     refine sS (fun w10 sw10 vw10 => ?_)
     refine sZ 1 ?_
     refine Wp.ret ⟨.inr rfl, fun lW => ⟨_, ⟨_, _, res_cell rfl rfl rfl rfl, res_tmp (P := Tryz.prog) rfl rfl, rfl⟩, _, rfl, ?_, lW⟩⟩
     clear lW
     exact ⟨_, _, _, _, rfl, fun _ => by rw [hZ2]; exact (hbig.kp)⟩
    | false =>
     cases hov : ckOver t.e d s with
     | true =>
      obtain rfl : 9 = E := by rw [← hE]; exact (ckE_out hwz (by rw [hov]; rfl)).symm
      refine calls_Wp (args := [_, _, _]) (n := 45) Tryz.func44 rfl rfl (by simp) ?_
      refine Wp.seq ?_
      refine wR [0, 1, 2, 3] ?_
      refine sE (fun bk1 w1 kb1 lw1 => ?_)
      refine sE (fun bk2 w2 kb2 lw2 => ?_)
      refine sO (fun bk3 w3 kb3 lw3 => ?_)
      refine sZ 1 ?_
      refine Wp.seq ?_
      refine Wp.old (fun lo => ?_)
      refine wR [0, 1, 2, 3, 4, 5, 6] ?_
      refine sB ?_
      refine sQ 2 ?_
      refine sT (rwhy_any t hb (hv.later lo) hK) ?_
      rintro v w4 rfl lw4
      rw [hW]
      refine sO (fun bk5 w5 kb5 lw5 => ?_)
      refine sS (fun w6 sw6 vw6 => ?_)
      refine sZ 1 ?_
      refine Wp.seq ?_
      refine Wp.seq ?_
      refine Wp.old (fun lo => ?_)
      refine wQ 1 ?_
      refine sT (r15old_any t hb (hv.later lo)) ?_
      rintro v w7 rfl lw7
      rw [ho]
      refine sQ 3 ?_
      refine f_lss rfl rfl rfl rfl rfl (by omega) ?_
      refine sZ 1 ?_
      refine Wp.condF rfl rfl ?_
      refine qQ 1 ?_
      refine t_eql rfl rfl rfl rfl rfl (by omega) ?_
      refine vOrd_nil ?_
      refine Wp.condT rfl rfl ?_
      refine Wp.old (fun lo => ?_)
      refine wQ 2 ?_
      refine sT (rtai_any t hb (hv.later lo) hd hs2 ha hK) ?_
      rintro v w8 hbig lw8
      obtain ⟨ua, ul, uc, rfl, -⟩ := id hbig
      replace hbig := (hbig.eq hcz.symm).upto (show 17 ≤ 120 by decide)
      refine sS (fun w9 sw9 vw9 => ?_)
      refine vOrd_nil ?_
      refine Wp.seq ?_
      refine qQ 1 ?_
      refine f_neq rfl rfl rfl rfl rfl (by omega) ?_
      refine vOrd_nil ?_
      refine Wp.condF rfl rfl ?_
      refine Wp.skip ?_
      refine Wp.seq ?_
      refine qQ 5 ?_
      refine s_callT rfl rfl rfl (by kernel_rfl) rfl (r15over_any t (by omega) (by omega)) ?_
      rintro v w10 rfl lw10
      rw [hov]
      refine sZ 1 ?_
      refine Wp.condT rfl rfl ?_
      refine Wp.seq ?_
      refine wR [0, 1, 2] ?_
      refine sB ?_
      refine sS (fun w11 sw11 vw11 => ?_)
      refine sZ 1 ?_
      refine Wp.ret ⟨.inr rfl, fun lW => ⟨_, ⟨_, _, res_cell rfl rfl rfl rfl, res_tmp (P := Tryz.prog) rfl rfl, rfl⟩, _, rfl, ?_, lW⟩⟩
      clear lW
      exact ⟨_, _, _, _, rfl, fun h => absurd h (by omega)⟩
     | false =>
      obtain rfl : 0 = E := by rw [← hE]; exact (ckE_ok hwz (by rw [hov]; rfl)).symm
      have hZ2 : Z = taiZ t.es K d s a := by rw [← hZ, ckT_ok hE, e2]
      refine calls_Wp (args := [_, _, _]) (n := 45) Tryz.func44 rfl rfl (by simp) ?_
      refine Wp.seq ?_
      refine wR [0, 1, 2, 3] ?_
      refine sE (fun bk1 w1 kb1 lw1 => ?_)
      refine sE (fun bk2 w2 kb2 lw2 => ?_)
      refine sO (fun bk3 w3 kb3 lw3 => ?_)
      refine sZ 1 ?_
      refine Wp.seq ?_
      refine Wp.old (fun lo => ?_)
      refine wR [0, 1, 2, 3, 4, 5, 6] ?_
      refine sB ?_
      refine sQ 2 ?_
      refine sT (rwhy_any t hb (hv.later lo) hK) ?_
      rintro v w4 rfl lw4
      rw [hW]
      refine sO (fun bk5 w5 kb5 lw5 => ?_)
      refine sS (fun w6 sw6 vw6 => ?_)
      refine sZ 1 ?_
      refine Wp.seq ?_
      refine Wp.seq ?_
      refine Wp.old (fun lo => ?_)
      refine wQ 1 ?_
      refine sT (r15old_any t hb (hv.later lo)) ?_
      rintro v w7 rfl lw7
      rw [ho]
      refine sQ 3 ?_
      refine f_lss rfl rfl rfl rfl rfl (by omega) ?_
      refine sZ 1 ?_
      refine Wp.condF rfl rfl ?_
      refine qQ 1 ?_
      refine t_eql rfl rfl rfl rfl rfl (by omega) ?_
      refine vOrd_nil ?_
      refine Wp.condT rfl rfl ?_
      refine Wp.old (fun lo => ?_)
      refine wQ 2 ?_
      refine sT (rtai_any t hb (hv.later lo) hd hs2 ha hK) ?_
      rintro v w8 hbig lw8
      obtain ⟨ua, ul, uc, rfl, -⟩ := id hbig
      replace hbig := (hbig.eq hcz.symm).upto (show 17 ≤ 120 by decide)
      refine sS (fun w9 sw9 vw9 => ?_)
      refine vOrd_nil ?_
      refine Wp.seq ?_
      refine qQ 1 ?_
      refine f_neq rfl rfl rfl rfl rfl (by omega) ?_
      refine vOrd_nil ?_
      refine Wp.condF rfl rfl ?_
      refine Wp.skip ?_
      refine Wp.seq ?_
      refine qQ 5 ?_
      refine s_callT rfl rfl rfl (by kernel_rfl) rfl (r15over_any t (by omega) (by omega)) ?_
      rintro v w10 rfl lw10
      rw [hov]
      refine sZ 1 ?_
      refine Wp.condF rfl rfl ?_
      refine Wp.skip ?_
      refine qQ 1 ?_
      refine sS (fun w11 sw11 vw11 => ?_)
      refine sZ 1 ?_
      refine Wp.ret ⟨.inr rfl, fun lW => ⟨_, ⟨_, _, res_cell rfl rfl rfl rfl, res_tmp (P := Tryz.prog) rfl rfl, rfl⟩, _, rfl, ?_, lW⟩⟩
      clear lW
      exact ⟨_, _, _, _, rfl, fun _ => by rw [hZ2]; exact (hbig.kp)⟩
   | false =>
    cases lax with
    | true =>
     obtain rfl : 0 = E := by rw [← hE]; exact (ckE_ok hwz rfl).symm
     have hZ2 : Z = taiZ t.es K d s a := by rw [← hZ, ckT_ok hE, e2]
     refine calls_Wp (args := [_, _, _]) (n := 45) Tryz.func44 rfl rfl (by simp) ?_
     refine Wp.seq ?_
     refine wR [0, 1, 2, 3] ?_
     refine sE (fun bk1 w1 kb1 lw1 => ?_)
     refine sE (fun bk2 w2 kb2 lw2 => ?_)
     refine sO (fun bk3 w3 kb3 lw3 => ?_)
     refine sZ 1 ?_
     refine Wp.seq ?_
     refine Wp.old (fun lo => ?_)
     refine wR [0, 1, 2, 3, 4, 5, 6] ?_
     refine sB ?_
     refine sQ 2 ?_
     refine sT (rwhy_any t hb (hv.later lo) hK) ?_
     rintro v w4 rfl lw4
     rw [hW]
     refine sO (fun bk5 w5 kb5 lw5 => ?_)
     refine sS (fun w6 sw6 vw6 => ?_)
     refine sZ 1 ?_
     refine Wp.seq ?_
     refine Wp.seq ?_
     refine Wp.old (fun lo => ?_)
     refine wQ 1 ?_
     refine sT (r15old_any t hb (hv.later lo)) ?_
     rintro v w7 rfl lw7
     rw [ho]
     refine sZ 5 ?_
     refine Wp.condF rfl rfl ?_
     refine qQ 1 ?_
     refine t_eql rfl rfl rfl rfl rfl (by omega) ?_
     refine vOrd_nil ?_
     refine Wp.condT rfl rfl ?_
     refine Wp.old (fun lo => ?_)
     refine wQ 2 ?_
     refine sT (rtai_any t hb (hv.later lo) hd hs2 ha hK) ?_
     rintro v w8 hbig lw8
     obtain ⟨ua, ul, uc, rfl, -⟩ := id hbig
     replace hbig := (hbig.eq hcz.symm).upto (show 17 ≤ 120 by decide)
     refine sS (fun w9 sw9 vw9 => ?_)
     refine vOrd_nil ?_
     refine Wp.seq ?_
     refine qQ 1 ?_
     refine f_neq rfl rfl rfl rfl rfl (by omega) ?_
     refine vOrd_nil ?_
     refine Wp.condF rfl rfl ?_
     refine Wp.skip ?_
     refine Wp.seq ?_
     refine qZ ?_
     refine Wp.condF rfl rfl ?_
     refine Wp.skip ?_
     refine qQ 1 ?_
     refine sS (fun w10 sw10 vw10 => ?_)
     refine sZ 1 ?_
     refine Wp.ret ⟨.inr rfl, fun lW => ⟨_, ⟨_, _, res_cell rfl rfl rfl rfl, res_tmp (P := Tryz.prog) rfl rfl, rfl⟩, _, rfl, ?_, lW⟩⟩
     clear lW
     exact ⟨_, _, _, _, rfl, fun _ => by rw [hZ2]; exact (hbig.kp)⟩
    | false =>
     cases hov : ckOver t.e d s with
     | true =>
      obtain rfl : 9 = E := by rw [← hE]; exact (ckE_out hwz (by rw [hov]; rfl)).symm
      refine calls_Wp (args := [_, _, _]) (n := 45) Tryz.func44 rfl rfl (by simp) ?_
      refine Wp.seq ?_
      refine wR [0, 1, 2, 3] ?_
      refine sE (fun bk1 w1 kb1 lw1 => ?_)
      refine sE (fun bk2 w2 kb2 lw2 => ?_)
      refine sO (fun bk3 w3 kb3 lw3 => ?_)
      refine sZ 1 ?_
      refine Wp.seq ?_
      refine Wp.old (fun lo => ?_)
      refine wR [0, 1, 2, 3, 4, 5, 6] ?_
      refine sB ?_
      refine sQ 2 ?_
      refine sT (rwhy_any t hb (hv.later lo) hK) ?_
      rintro v w4 rfl lw4
      rw [hW]
      refine sO (fun bk5 w5 kb5 lw5 => ?_)
      refine sS (fun w6 sw6 vw6 => ?_)
      refine sZ 1 ?_
      refine Wp.seq ?_
      refine Wp.seq ?_
      refine Wp.old (fun lo => ?_)
      refine wQ 1 ?_
      refine sT (r15old_any t hb (hv.later lo)) ?_
      rintro v w7 rfl lw7
      rw [ho]
      refine sZ 5 ?_
      refine Wp.condF rfl rfl ?_
      refine qQ 1 ?_
      refine t_eql rfl rfl rfl rfl rfl (by omega) ?_
      refine vOrd_nil ?_
      refine Wp.condT rfl rfl ?_
      refine Wp.old (fun lo => ?_)
      refine wQ 2 ?_
      refine sT (rtai_any t hb (hv.later lo) hd hs2 ha hK) ?_
      rintro v w8 hbig lw8
      obtain ⟨ua, ul, uc, rfl, -⟩ := id hbig
      replace hbig := (hbig.eq hcz.symm).upto (show 17 ≤ 120 by decide)
      refine sS (fun w9 sw9 vw9 => ?_)
      refine vOrd_nil ?_
      refine Wp.seq ?_
      refine qQ 1 ?_
      refine f_neq rfl rfl rfl rfl rfl (by omega) ?_
      refine vOrd_nil ?_
      refine Wp.condF rfl rfl ?_
      refine Wp.skip ?_
      refine Wp.seq ?_
      refine qQ 5 ?_
      refine s_callT rfl rfl rfl (by kernel_rfl) rfl (r15over_any t (by omega) (by omega)) ?_
      rintro v w10 rfl lw10
      rw [hov]
      refine sZ 1 ?_
      refine Wp.condT rfl rfl ?_
      refine Wp.seq ?_
      refine wR [0, 1, 2] ?_
      refine sB ?_
      refine sS (fun w11 sw11 vw11 => ?_)
      refine sZ 1 ?_
      refine Wp.ret ⟨.inr rfl, fun lW => ⟨_, ⟨_, _, res_cell rfl rfl rfl rfl, res_tmp (P := Tryz.prog) rfl rfl, rfl⟩, _, rfl, ?_, lW⟩⟩
      clear lW
      exact ⟨_, _, _, _, rfl, fun h => absurd h (by omega)⟩
     | false =>
      obtain rfl : 0 = E := by rw [← hE]; exact (ckE_ok hwz (by rw [hov]; rfl)).symm
      have hZ2 : Z = taiZ t.es K d s a := by rw [← hZ, ckT_ok hE, e2]
      refine calls_Wp (args := [_, _, _]) (n := 45) Tryz.func44 rfl rfl (by simp) ?_
      refine Wp.seq ?_
      refine wR [0, 1, 2, 3] ?_
      refine sE (fun bk1 w1 kb1 lw1 => ?_)
      refine sE (fun bk2 w2 kb2 lw2 => ?_)
      refine sO (fun bk3 w3 kb3 lw3 => ?_)
      refine sZ 1 ?_
      refine Wp.seq ?_
      refine Wp.old (fun lo => ?_)
      refine wR [0, 1, 2, 3, 4, 5, 6] ?_
      refine sB ?_
      refine sQ 2 ?_
      refine sT (rwhy_any t hb (hv.later lo) hK) ?_
      rintro v w4 rfl lw4
      rw [hW]
      refine sO (fun bk5 w5 kb5 lw5 => ?_)
      refine sS (fun w6 sw6 vw6 => ?_)
      refine sZ 1 ?_
      refine Wp.seq ?_
      refine Wp.seq ?_
      refine Wp.old (fun lo => ?_)
      refine wQ 1 ?_
      refine sT (r15old_any t hb (hv.later lo)) ?_
      rintro v w7 rfl lw7
      rw [ho]
      refine sZ 5 ?_
      refine Wp.condF rfl rfl ?_
      refine qQ 1 ?_
      refine t_eql rfl rfl rfl rfl rfl (by omega) ?_
      refine vOrd_nil ?_
      refine Wp.condT rfl rfl ?_
      refine Wp.old (fun lo => ?_)
      refine wQ 2 ?_
      refine sT (rtai_any t hb (hv.later lo) hd hs2 ha hK) ?_
      rintro v w8 hbig lw8
      obtain ⟨ua, ul, uc, rfl, -⟩ := id hbig
      replace hbig := (hbig.eq hcz.symm).upto (show 17 ≤ 120 by decide)
      refine sS (fun w9 sw9 vw9 => ?_)
      refine vOrd_nil ?_
      refine Wp.seq ?_
      refine qQ 1 ?_
      refine f_neq rfl rfl rfl rfl rfl (by omega) ?_
      refine vOrd_nil ?_
      refine Wp.condF rfl rfl ?_
      refine Wp.skip ?_
      refine Wp.seq ?_
      refine qQ 5 ?_
      refine s_callT rfl rfl rfl (by kernel_rfl) rfl (r15over_any t (by omega) (by omega)) ?_
      rintro v w10 rfl lw10
      rw [hov]
      refine sZ 1 ?_
      refine Wp.condF rfl rfl ?_
      refine Wp.skip ?_
      refine qQ 1 ?_
      refine sS (fun w11 sw11 vw11 => ?_)
      refine sZ 1 ?_
      refine Wp.ret ⟨.inr rfl, fun lW => ⟨_, ⟨_, _, res_cell rfl rfl rfl rfl, res_tmp (P := Tryz.prog) rfl rfl, rfl⟩, _, rfl, ?_, lW⟩⟩
      clear lW
      exact ⟨_, _, _, _, rfl, fun _ => by rw [hZ2]; exact (hbig.kp)⟩
  ·have hwz : ckW t.es J K d s a ≠ 0 := by rw [e1, hW]; exact h0
   obtain rfl : W = E := by rw [← hE, ckE_bad hwz, e1, hW]
   cases o with
   | true =>
    have hd1 := hod rfl
    refine calls_Wp (args := [_, _, _]) (n := 45) Tryz.func44 rfl rfl (by simp) ?_
    refine Wp.seq ?_
    refine wR [0, 1, 2, 3] ?_
    refine sE (fun bk1 w1 kb1 lw1 => ?_)
    refine sE (fun bk2 w2 kb2 lw2 => ?_)
    refine sO (fun bk3 w3 kb3 lw3 => ?_)
    refine sZ 1 ?_
    refine Wp.seq ?_
    refine Wp.old (fun lo => ?_)
    refine wR [0, 1, 2, 3, 4, 5, 6] ?_
    refine sB ?_
    refine sQ 2 ?_
    refine sT (rwhy_any t hb (hv.later lo) hK) ?_
    rintro v w4 rfl lw4
    rw [hW]
    refine sO (fun bk5 w5 kb5 lw5 => ?_)
    refine sS (fun w6 sw6 vw6 => ?_)
    refine sZ 1 ?_
    refine Wp.seq ?_
    refine Wp.seq ?_
    refine Wp.old (fun lo => ?_)
    refine wQ 1 ?_
    refine sT (r15old_any t hb (hv.later lo)) ?_
    rintro v w7 rfl lw7
    rw [ho]
    refine sQ 3 ?_
    refine f_lss rfl rfl rfl rfl rfl (by omega) ?_
    refine sZ 1 ?_
    refine Wp.condF rfl rfl ?_
    refine qQ 1 ?_
    refine f_eql rfl rfl rfl rfl rfl (by omega) ?_
    refine vOrd_nil ?_
    refine Wp.condF rfl rfl ?_
    refine Wp.skip ?_
    refine Wp.seq ?_
    refine qQ 1 ?_
    refine t_neq rfl rfl rfl rfl rfl (by omega) ?_
    refine vOrd_nil ?_
    refine Wp.condT rfl rfl ?_
    refine Wp.seq ?_
    refine wR [0, 1, 2, 3] ?_
    refine sB ?_
    refine sM ?_
    refine sS (fun w8 sw8 vw8 => ?_)
    refine sZ 1 ?_
    refine Wp.ret ⟨.inr rfl, fun lW => ⟨_, ⟨_, _, res_cell rfl rfl rfl rfl, res_tmp (P := Tryz.prog) rfl rfl, rfl⟩, _, rfl, ?_, lW⟩⟩
    clear lW
    exact ⟨_, _, _, _, rfl, fun h => absurd h (by omega)⟩
   | false =>
    refine calls_Wp (args := [_, _, _]) (n := 45) Tryz.func44 rfl rfl (by simp) ?_
    refine Wp.seq ?_
    refine wR [0, 1, 2, 3] ?_
    refine sE (fun bk1 w1 kb1 lw1 => ?_)
    refine sE (fun bk2 w2 kb2 lw2 => ?_)
    refine sO (fun bk3 w3 kb3 lw3 => ?_)
    refine sZ 1 ?_
    refine Wp.seq ?_
    refine Wp.old (fun lo => ?_)
    refine wR [0, 1, 2, 3, 4, 5, 6] ?_
    refine sB ?_
    refine sQ 2 ?_
    refine sT (rwhy_any t hb (hv.later lo) hK) ?_
    rintro v w4 rfl lw4
    rw [hW]
    refine sO (fun bk5 w5 kb5 lw5 => ?_)
    refine sS (fun w6 sw6 vw6 => ?_)
    refine sZ 1 ?_
    refine Wp.seq ?_
    refine Wp.seq ?_
    refine Wp.old (fun lo => ?_)
    refine wQ 1 ?_
    refine sT (r15old_any t hb (hv.later lo)) ?_
    rintro v w7 rfl lw7
    rw [ho]
    refine sZ 5 ?_
    refine Wp.condF rfl rfl ?_
    refine qQ 1 ?_
    refine f_eql rfl rfl rfl rfl rfl (by omega) ?_
    refine vOrd_nil ?_
    refine Wp.condF rfl rfl ?_
    refine Wp.skip ?_
    refine Wp.seq ?_
    refine qQ 1 ?_
    refine t_neq rfl rfl rfl rfl rfl (by omega) ?_
    refine vOrd_nil ?_
    refine Wp.condT rfl rfl ?_
    refine Wp.seq ?_
    refine wR [0, 1, 2, 3] ?_
    refine sB ?_
    refine sM ?_
    refine sS (fun w8 sw8 vw8 => ?_)
    refine sZ 1 ?_
    refine Wp.ret ⟨.inr rfl, fun lW => ⟨_, ⟨_, _, res_cell rfl rfl rfl rfl, res_tmp (P := Tryz.prog) rfl rfl, rfl⟩, _, rfl, ?_, lW⟩⟩
    clear lW
    exact ⟨_, _, _, _, rfl, fun h => absurd h (by omega)⟩
end Go.Proofs.YthihioakjpmnbaaGreat
