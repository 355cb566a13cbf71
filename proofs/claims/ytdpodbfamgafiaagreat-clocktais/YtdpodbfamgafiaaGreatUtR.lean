/-
 The reference's Form, Why, Tai and Label of layers 12 and 13. Of tables that may be.
-/
import Derived.Test.YtdpodbfamgafiaaGreatUtA
import Derived.Test.YtdpodbfamgafiaaGreatLpR
namespace Go.Proofs.YtdpodbfamgafiaaGreat
open Go.RowKit
set_option maxRecDepth 100000

theorem rday_of {es : List Ent} {i : Nat} {y : Ent} (hy : es[i]? = some y) (h1 : 0 ≤ y.1 ∧ y.1 ≤ 1125899906842624) {w : World} : Calls Tryz.prog 30 #[.agg #[.int .i64 y.1, .int .i64 y.2]] w fun e w' => ∃ r, e = .returned r ∧ (∃ N, r = .int .i64 N ∧ ∀ y, es[i]? = some y → N = dayE y) ∧ Below w.heap.size w w' := by
 refine (rday_any y h1).mono ?_
 rintro e w' ⟨r, h, rfl, h2⟩
 exact ⟨_, h, ⟨_, rfl, fun y' h3 => by rw [hy] at h3; cases h3; rfl⟩, h2⟩
theorem cnt_sec (s z : Int) : (cnt 0 s 0 ≤ z ↔ s ≤ z / 1000000000000000000) ∧ (z < cnt 0 s 0 ↔ z / 1000000000000000000 < s) := by unfold cnt; omega
theorem rform_any (d s a : Int) {w : World} : Calls Tryz.prog 57 #[.agg #[.int .i64 d, .int .i64 s, .int .i64 a]] w fun e w' => ∃ r, e = .returned r ∧ r = .bool (isU s a) ∧ Below w.heap.size w w' := by
 refine calls_Wp (args := [_]) (n := 21) Tryz.func57 rfl rfl (by simp) ?_
 refine Wp.seq ?_
 refine wR [0, 1] ?_
 refine sE (fun bk1 w1 kb1 lw1 => ?_)
 refine sZ 1 ?_
 refine qQ 2 ?_
 refine p_geq rfl rfl rfl rfl rfl (fun h5 => ?_) (fun h5 => ?_)
 ·refine sQ 3 ?_
  refine p_leq rfl rfl rfl rfl rfl (fun h9 => ?_) (fun h9 => ?_)
  ·refine sQ 4 ?_
   refine p_geq rfl rfl rfl rfl rfl (fun h14 => ?_) (fun h14 => ?_)
   ·refine sQ 4 ?_
    refine p_lss rfl rfl rfl rfl rfl (fun h19 => ?_) (fun h19 => ?_)
    ·refine sZ 2 ?_
     refine Wp.ret ⟨.inr rfl, fun lW => ⟨_, res_tmp (P := Tryz.prog) rfl rfl, _, rfl, ?_, lW⟩⟩
     clear lW
     rw [isU_iff.2 (by omega)]
    ·refine sZ 2 ?_
     refine Wp.ret ⟨.inr rfl, fun lW => ⟨_, res_tmp (P := Tryz.prog) rfl rfl, _, rfl, ?_, lW⟩⟩
     clear lW
     rw [isU_no.2 (by omega)]
   ·refine sZ 7 ?_
    refine Wp.ret ⟨.inr rfl, fun lW => ⟨_, res_tmp (P := Tryz.prog) rfl rfl, _, rfl, ?_, lW⟩⟩
    clear lW
    rw [isU_no.2 (by omega)]
  ·refine sZ 12 ?_
   refine Wp.ret ⟨.inr rfl, fun lW => ⟨_, res_tmp (P := Tryz.prog) rfl rfl, _, rfl, ?_, lW⟩⟩
   clear lW
   rw [isU_no.2 (by omega)]
 ·refine sZ 16 ?_
  refine Wp.ret ⟨.inr rfl, fun lW => ⟨_, res_tmp (P := Tryz.prog) rfl rfl, _, rfl, ?_, lW⟩⟩
  clear lW
  rw [isU_no.2 (by omega)]
theorem rwhy_any (t : Tb) (hb : canBe t = true) {a0 : Option Addr} {c0 : Nat} {w : World} (hv : EntAt w (.slice a0 t.es.length c0) t.es) {d s a : Int} {K : Nat} (hcut : Cut (pDay d) t.es K) : Calls Tryz.prog 34 #[tbV t (.slice a0 t.es.length c0), .agg #[.int .i64 d, .int .i64 s, .int .i64 a]] w fun e w' => ∃ r, e = .returned r ∧ r = .int .i64 (whyE t.es K d s a) ∧ Below w.heap.size w w' := by
 have hmi := more_one hb K d
 rcases Nat.eq_zero_or_pos K with hK | hK
 ·refine calls_Wp (args := [_, _]) (n := 31) Tryz.func34 rfl rfl (by simp) ?_
  refine Wp.seq ?_
  refine wR [0, 1, 2] ?_
  refine sE (fun bk1 w1 kb1 lw1 => ?_)
  refine sE (fun bk2 w2 kb2 lw2 => ?_)
  refine sZ 1 ?_
  refine Wp.seq ?_
  refine Wp.seq ?_
  refine Wp.old (fun lo => ?_)
  have tb := hv.later lo
  clear lo
  refine wQ 1 ?_
  refine sT (rform_any d s a) ?_
  rintro v w3 rfl lw3
  replace tb := tb.later lw3
  rcases Bool.eq_false_or_eq_true (isU s a) with h8 | h8
  ·rw [h8]
   refine sZ 1 ?_
   refine Wp.condF rfl rfl ?_
   refine Wp.skip ?_
   refine Wp.seq ?_
   refine Wp.seq ?_
   refine Wp.old (fun lo => ?_)
   have tb := hv.later lo
   clear lo
   refine wQ 2 ?_
   refine sT (din_any d _) ?_
   rintro v w4 rfl lw4
   replace tb := tb.later lw4
   rcases Bool.eq_false_or_eq_true (inB d) with h12 | h12
   ·rw [h12]
    refine sZ 1 ?_
    refine Wp.condF rfl rfl ?_
    refine Wp.skip ?_
    refine Wp.seq ?_
    refine Wp.seq ?_
    refine Wp.old (fun lo => ?_)
    have tb := hv.later lo
    clear lo
    refine wQ 3 ?_
    refine sT (roffset_any t hb tb hcut) ?_
    rintro v w5 rfl lw5
    replace tb := tb.later lw5
    rw [show decide (0 < K) = false from decide_eq_false (by omega)]
    refine sZ 5 ?_
    refine qZ ?_
    refine Wp.condT rfl rfl ?_
    refine qZ ?_
    refine Wp.ret ⟨.inr rfl, fun lW => ⟨_, res_tmp (P := Tryz.prog) rfl rfl, _, rfl, ?_, lW⟩⟩
    clear lW
    rw [why_early h8 h12 hK]
   ·rw [h12]
    refine sZ 1 ?_
    refine Wp.condT rfl rfl ?_
    refine qZ ?_
    refine Wp.ret ⟨.inr rfl, fun lW => ⟨_, res_tmp (P := Tryz.prog) rfl rfl, _, rfl, ?_, lW⟩⟩
    clear lW
    rw [why_far h8 h12]
  ·rw [h8]
   refine sZ 1 ?_
   refine Wp.condT rfl rfl ?_
   refine qZ ?_
   refine Wp.ret ⟨.inr rfl, fun lW => ⟨_, res_tmp (P := Tryz.prog) rfl rfl, _, rfl, ?_, lW⟩⟩
   clear lW
   rw [why_bad h8]
 ·refine calls_Wp (args := [_, _]) (n := 31) Tryz.func34 rfl rfl (by simp) ?_
  refine Wp.seq ?_
  refine wR [0, 1, 2] ?_
  refine sE (fun bk1 w1 kb1 lw1 => ?_)
  refine sE (fun bk2 w2 kb2 lw2 => ?_)
  refine sZ 1 ?_
  refine Wp.seq ?_
  refine Wp.seq ?_
  refine Wp.old (fun lo => ?_)
  have tb := hv.later lo
  clear lo
  refine wQ 1 ?_
  refine sT (rform_any d s a) ?_
  rintro v w3 rfl lw3
  replace tb := tb.later lw3
  rcases Bool.eq_false_or_eq_true (isU s a) with h8 | h8
  ·rw [h8]
   refine sZ 1 ?_
   refine Wp.condF rfl rfl ?_
   refine Wp.skip ?_
   refine Wp.seq ?_
   refine Wp.seq ?_
   refine Wp.old (fun lo => ?_)
   have tb := hv.later lo
   clear lo
   refine wQ 2 ?_
   refine sT (din_any d _) ?_
   rintro v w4 rfl lw4
   replace tb := tb.later lw4
   rcases Bool.eq_false_or_eq_true (inB d) with h12 | h12
   ·rw [h12]
    refine sZ 1 ?_
    refine Wp.condF rfl rfl ?_
    refine Wp.skip ?_
    refine Wp.seq ?_
    refine Wp.seq ?_
    refine Wp.old (fun lo => ?_)
    have tb := hv.later lo
    clear lo
    refine wQ 3 ?_
    refine sT (roffset_any t hb tb hcut) ?_
    rintro v w5 rfl lw5
    replace tb := tb.later lw5
    rw [show decide (0 < K) = true from decide_eq_true hK]
    refine sZ 5 ?_
    refine qZ ?_
    refine Wp.condF rfl rfl ?_
    refine Wp.skip ?_
    refine Wp.seq ?_
    refine Wp.seq ?_
    refine Wp.old (fun lo => ?_)
    have tb := hv.later lo
    clear lo
    refine wD [0, 1, 2, 3, 4, 5, 6, 7] [124, 125, 27, 0, 0, 0, 0, 0] (fun | 5 => fun v _ => v = .int .i64 (moreA t.es K d) | _ => fun _ _ => True) (fun wd ld => ?_)
    replace tb := tb.later ld
    clear ld
    refine sQ 5 ?_
    refine sD (fun wc lc => rchange_any t hb (tb.later lc) hcut) ?_
    rintro v w6 u6 rfl lw6 mw6
    replace tb := (tb.later lw6).later mw6
    refine aP (-9223372036854775808) 9223372036854775807 ?_
    refine p_geq rfl rfl rfl rfl rfl (fun h30 => ?_) (fun h30 => ?_)
    ·refine vOrd_nil ?_
     refine Wp.condT rfl rfl ?_
     refine qZ ?_
     refine Wp.ret ⟨.inr rfl, fun lW => ⟨_, res_tmp (P := Tryz.prog) rfl rfl, _, rfl, ?_, lW⟩⟩
     clear lW
     rw [why_none h8 h12 hK (by omega)]
    ·refine vOrd_nil ?_
     refine Wp.condF rfl rfl ?_
     refine Wp.skip ?_
     refine qZ ?_
     refine Wp.ret ⟨.inr rfl, fun lW => ⟨_, res_tmp (P := Tryz.prog) rfl rfl, _, rfl, ?_, lW⟩⟩
     clear lW
     rw [why_ok h8 h12 hK (by omega)]
   ·rw [h12]
    refine sZ 1 ?_
    refine Wp.condT rfl rfl ?_
    refine qZ ?_
    refine Wp.ret ⟨.inr rfl, fun lW => ⟨_, res_tmp (P := Tryz.prog) rfl rfl, _, rfl, ?_, lW⟩⟩
    clear lW
    rw [why_far h8 h12]
  ·rw [h8]
   refine sZ 1 ?_
   refine Wp.condT rfl rfl ?_
   refine qZ ?_
   refine Wp.ret ⟨.inr rfl, fun lW => ⟨_, res_tmp (P := Tryz.prog) rfl rfl, _, rfl, ?_, lW⟩⟩
   clear lW
   rw [why_bad h8]
theorem rtai_any (t : Tb) (hb : canBe t = true) {a0 : Option Addr} {c0 : Nat} {w : World} (hv : EntAt w (.slice a0 t.es.length c0) t.es) {d s a : Int} (hd : I64 d) (hs : 0 ≤ s ∧ s ≤ 86400) (ha : I64 a) {K : Nat} (hcut : Cut (pDay d) t.es K) : Calls Tryz.prog 37 #[tbV t (.slice a0 t.es.length c0), .agg #[.int .i64 d, .int .i64 s, .int .i64 a]] w fun e w' => ∃ r, e = .returned r ∧ IsBig 17 (cnt d (s + offA t.es K) a) r w' ∧ Below w.heap.size w w' := by
 have hA := can_A hb K
 refine calls_Wp (args := [_, _]) (n := 21) Tryz.func37 rfl rfl (by simp) ?_
 refine Wp.seq ?_
 refine wR [0, 1, 2] ?_
 refine sE (fun bk1 w1 kb1 lw1 => ?_)
 refine sE (fun bk2 w2 kb2 lw2 => ?_)
 refine sO (fun bk3 w3 kb3 lw3 => ?_)
 refine vOrd_nil ?_
 refine Wp.seq ?_
 refine Wp.old (fun lo => ?_)
 have tb := hv.later lo
 clear lo
 refine wQ 3 ?_
 refine sT (roffset_any t hb tb hcut) ?_
 rintro v w4 rfl lw4
 replace tb := tb.later lw4
 refine sZ 5 ?_
 refine qQ 3 ?_
 refine aP (-9223372036854775808) 9223372036854775807 ?_
 refine sF 1 ?_
 refine sS (fun w5 sw5 vw5 => ?_)
 refine vOrd_nil ?_
 refine Wp.seq ?_
 refine Wp.old (fun lo => ?_)
 have tb := hv.later lo
 clear lo
 refine wQ 1 ?_
 refine sT (rjoin_any (d := d) (s := s + offA t.es K) (a := a) hd ⟨by omega, by omega⟩ ha _) ?_
 rintro v w6 h9 lw6
 replace tb := tb.later lw6
 obtain ⟨xa, xl, xc, rfl, -⟩ := id h9
 refine sS (fun w7 sw7 vw7 => ?_)
 refine vOrd_nil ?_
 refine Wp.ret ⟨.inr rfl, fun lW => ⟨_, res_cell rfl rfl rfl rfl, _, rfl, ?_, lW⟩⟩
 clear lW
 exact h9.kp
theorem rlabel_any (t : Tb) (hb : canBe t = true) {a0 : Option Addr} {c0 : Nat} {w : World} (hv : EntAt w (.slice a0 t.es.length c0) t.es) {m : Nat} {z : Int} {u : Value} (hu : IsBig m z u w) (hm : m ≤ 900) {K : Nat} (hcut : Cut (pAt (z / 1000000000000000000)) t.es K) (hzr : -170141183460469231731687303715884105728 ≤ z ∧ z < 170141183460469231731687303715884105728) : Calls Tryz.prog 45 #[tbV t (.slice a0 t.es.length c0), u] w fun e w' => ∃ r, e = .returned r ∧ r = .tuple #[lbU t.es K z, .int .i64 (lbE t.es K z)] ∧ Below w.heap.size w w' := by
 obtain ⟨ua, ul, uc, rfl, -⟩ := id hu
 have hn := can_len hb
 have hpos := (can_num hb).2.2
 have hin := fun j e => can_in hb (j := j) (e := e)
 obtain ⟨ab, ao, rfl, hcell⟩ := ent_at hv hpos
 have hA := can_A hb K
 have hun := until_in hb K
 unfold tbV
 obtain ⟨x0, hx0⟩ : ∃ x, t.es[0]? = some x := ⟨_, List.getElem?_eq_getElem hpos⟩
 obtain ⟨kx01, kx02⟩ := hcell _ x0 hx0
 have hbx0 := hin _ x0 hx0
 have hp0 := hcut.2 0 x0 hx0
 unfold pAt at hp0
 rw [decide_eq_decide] at hp0
 have hc0 := cnt_sec (startE x0) z
 have hi0 := cmpI_in z (cnt 0 (startE x0) 0)
 have hl0 := cmpI_low (x := z) (y := cnt 0 (startE x0) 0)
 rcases Nat.eq_zero_or_pos K with hK | hK
 ·subst hK
  obtain ⟨e1, e2⟩ := lb_early t.es z
  rw [e1, e2]
  refine calls_Wp (args := [_, _]) (n := 87) Tryz.func45 rfl rfl (by simp) ?_
  refine Wp.seq ?_
  refine wR [0, 1, 2, 3] ?_
  refine sE (fun bk1 w1 kb1 lw1 => ?_)
  refine sE (fun bk2 w2 kb2 lw2 => ?_)
  refine sO (fun bk3 w3 kb3 lw3 => ?_)
  refine sZ 1 ?_
  refine Wp.seq ?_
  refine Wp.old (fun lo1 => ?_)
  refine wQ 2 ?_
  refine sI (sz := 2) (ao + 0 * 2) ?_
  refine x_ldA [.int .i64 x0.1, .int .i64 x0.2] rfl rfl rfl rfl rfl rfl (World.block_lt_of_cell? _ _ (cell_later lo1 kx01)) (fun j u hj => ?_) ?_
  ·match j, hj with
   | 0, hj => cases hj; exact cell_later lo1 kx01
   | 1, hj => cases hj; exact cell_later lo1 kx02
  refine sT (rstart_any x0 hbx0.1 hbx0.2.1) ?_
  rintro v w9 rfl lw9
  refine sB ?_
  refine sT (rjoin_any (d := 0) (s := startE x0) (a := 0) ⟨by decide, by decide⟩ ⟨by omega, by omega⟩ ⟨by decide, by decide⟩ _) ?_
  rintro v w10 hf lw10
  obtain ⟨hfa, hfl, hfc, rfl, -⟩ := id hf
  refine sO (fun bk11 w11 kb11 lw11 => ?_)
  refine sS (fun w12 sw12 vw12 => ?_)
  refine vOrd_nil ?_
  refine Wp.seq ?_
  refine Wp.seq ?_
  refine Wp.old (fun lo2 => ?_)
  have hu2 := hu.later lo2
  clear lo2
  refine wQ 2 ?_
  refine s_callT rfl rfl rfl (by kernel_rfl) rfl (c_cmp hu2 (hf.kp) (by omega) (by decide)) ?_
  rintro v w13 rfl lw13
  refine t_lss rfl rfl rfl rfl rfl (by omega) ?_
  refine vOrd_nil ?_
  refine Wp.condT rfl rfl ?_
  refine Wp.seq ?_
  refine wR [0, 1, 2] ?_
  refine sB ?_
  refine sS (fun w14 sw14 vw14 => ?_)
  refine sZ 1 ?_
  refine Wp.ret ⟨.inr rfl, fun lW => ⟨_, ⟨_, _, res_cell rfl rfl rfl rfl, res_tmp (P := Tryz.prog) rfl rfl, rfl⟩, _, rfl, ?_, lW⟩⟩
  clear lW
  rfl
 ·obtain ⟨j, rfl⟩ : ∃ j, K = j + 1 := ⟨K - 1, by omega⟩
  have hjn : j < t.es.length := by have := hcut.1; omega
  obtain ⟨x, hx⟩ : ∃ x, t.es[j]? = some x := ⟨_, List.getElem?_eq_getElem hjn⟩
  obtain ⟨kx1, kx2⟩ := hcell _ x hx
  have hbx := hin _ x hx
  have ho : offA t.es (j + 1) = x.2 := (A_at hx).2.2
  have hpx := hcut.2 j x hx
  unfold pAt at hpx
  rw [decide_eq_decide] at hpx
  have hsx : startE x = dayE x * 86400 + x.2 := rfl
  rw [ho] at hA
  obtain ⟨q, hq⟩ : ∃ q, z / 1000000000000000000 = q := ⟨_, rfl⟩
  obtain ⟨a, ha⟩ : ∃ a, z % 1000000000000000000 = a := ⟨_, rfl⟩
  obtain ⟨D, hD⟩ : ∃ D, dayZ (z - cnt 0 x.2 0) = D := ⟨_, rfl⟩
  obtain ⟨Q, hQ⟩ : ∃ Q, secZ (z - cnt 0 x.2 0) = Q := ⟨_, rfl⟩
  have hD2 : (q - x.2) / 86400 = D := by rw [← hD, ← hq]; unfold dayZ cnt; omega
  have hQ2 : (q - x.2) % 86400 = Q := by rw [← hQ, ← hq]; unfold secZ cnt; omega
  have hA2 : attZ (z - cnt 0 x.2 0) = a := by rw [← ha]; unfold attZ cnt; omega
  have hqr : -170141183460469231733 ≤ q ∧ q ≤ 170141183460469231733 := by omega
  rw [hq] at hpx
  have hQr : 0 ≤ Q ∧ Q < 86400 := by omega
  obtain ⟨n, hnu⟩ : ∃ n, untilA t.es (j + 1) = n := ⟨_, rfl⟩
  rw [hnu] at hA hun
  have hlow : 0 ≤ D := by omega
  cases hB : inB D with
  | false =>
   have hB' := inB_no.1 hB
   obtain ⟨m1, -⟩ := lb_miss (es := t.es) (K := j + 1) (z := z) (by rw [hq, ho, hnu]; omega)
   obtain ⟨m3, m4⟩ := lb_over (es := t.es) (K := j + 1) (z := z) hK (by rw [m1, hq, ho]; omega)
   rw [m3, m4]
   refine calls_Wp (args := [_, _]) (n := 87) Tryz.func45 rfl rfl (by simp) ?_
   refine Wp.seq ?_
   refine wR [0, 1, 2, 3] ?_
   refine sE (fun bk1 w1 kb1 lw1 => ?_)
   refine sE (fun bk2 w2 kb2 lw2 => ?_)
   refine sO (fun bk3 w3 kb3 lw3 => ?_)
   refine sZ 1 ?_
   refine Wp.seq ?_
   refine Wp.old (fun lo1 => ?_)
   refine wQ 2 ?_
   refine sI (sz := 2) (ao + 0 * 2) ?_
   refine x_ldA [.int .i64 x0.1, .int .i64 x0.2] rfl rfl rfl rfl rfl rfl (World.block_lt_of_cell? _ _ (cell_later lo1 kx01)) (fun j u hj => ?_) ?_
   ·match j, hj with
    | 0, hj => cases hj; exact cell_later lo1 kx01
    | 1, hj => cases hj; exact cell_later lo1 kx02
   refine sT (rstart_any x0 hbx0.1 hbx0.2.1) ?_
   rintro v w9 rfl lw9
   refine sB ?_
   refine sT (rjoin_any (d := 0) (s := startE x0) (a := 0) ⟨by decide, by decide⟩ ⟨by omega, by omega⟩ ⟨by decide, by decide⟩ _) ?_
   rintro v w10 hf lw10
   obtain ⟨hfa, hfl, hfc, rfl, -⟩ := id hf
   refine sO (fun bk11 w11 kb11 lw11 => ?_)
   refine sS (fun w12 sw12 vw12 => ?_)
   refine vOrd_nil ?_
   refine Wp.seq ?_
   refine Wp.seq ?_
   refine Wp.old (fun lo2 => ?_)
   have hu2 := hu.later lo2
   clear lo2
   refine wQ 2 ?_
   refine s_callT rfl rfl rfl (by kernel_rfl) rfl (c_cmp hu2 (hf.kp) (by omega) (by decide)) ?_
   rintro v w13 rfl lw13
   refine f_lss rfl rfl rfl rfl rfl (by omega) ?_
   refine vOrd_nil ?_
   refine Wp.condF rfl rfl ?_
   refine Wp.skip ?_
   refine qZ ?_
   refine Wp.seq ?_
   refine qZ ?_
   refine Wp.block ?_
   refine Wp.loop (fun k st W => ∃ (i : Nat) (p o : Int), st = St.of [(2, .p 2 bk1 0), (3, .p 3 bk2 0), (4, .p 4 bk3 0), (5, .v (.int .i64 0)), (7, .v (.int .i64 o)), (8, .v (.int .i64 p))] [(2, bk1, [.int .i64 t.u, .int .i64 t.e, .slice (some ⟨ab, ao, none⟩) t.es.length c0]), (3, bk2, [.bool (sg z), .slice ua ul uc]), (4, bk3, [.int .i64 0, .int .i64 0, .int .i64 0])] ∧ p = i ∧ i ≤ t.es.length ∧ o = ((min i (j + 1) - 1 : Nat) : Int) ∧ k = t.es.length - i) ?_ ?_
   ·exact ⟨_, _, (St.of_le' (env := [(2, .p 2 _ 0), (3, .p 3 _ 0), (4, .p 4 _ 0), (5, .v _), (7, .v _), (8, .v _)]) (mem := [(2, _, [_, _, _]), (3, _, [_, _]), (4, _, [_, _, _])]) ⟨rfl, rfl, rfl, rfl, rfl, rfl, trivial⟩ ⟨rfl, rfl, rfl, trivial⟩), 0, _, _, rfl, rfl, Nat.zero_le _, rfl, rfl⟩
   ·rintro k st w14 ⟨i, p, o, rfl, hp, hi, hoo, rfl⟩
    refine Wp.seq ?_
    refine qQ 3 ?_
    refine x_len rfl rfl rfl rfl rfl ?_
    refine p_lss rfl rfl rfl rfl rfl (fun h27 => ?_) (fun h27 => ?_)
    ·refine vOrd_nil ?_
     refine Wp.condT rfl rfl ?_
     refine Wp.skip ?_
     refine Wp.seq ?_
     refine Wp.block ?_
     refine Wp.seq ?_
     have hin1 : i < t.es.length := by omega
     obtain ⟨y, hy⟩ : ∃ x, t.es[i]? = some x := ⟨t.es[i], List.getElem?_eq_getElem hin1⟩
     obtain ⟨ky1, ky2⟩ := hcell _ y hy
     have hby := hin _ y hy
     refine Wp.old (fun lo8 => ?_)
     have hu8 := hu.later lo8
     have hpy := hcut.2 i y hy
     unfold pAt at hpy
     rw [decide_eq_decide] at hpy
     have hcy := cnt_sec (startE y) z
     have hiy := cmpI_in (cnt 0 (startE y) 0) z
     have hly := cmpI_le (x := cnt 0 (startE y) 0) (y := z)
     refine wD [0, 1, 2, 3, 4, 8, 5, 6, 7, 9, 10] [260, 261, 259, 263, 271, 255, 0, 0, 0, 0, 0] (fun | 5 => fun v _ => v = .int .i64 (startE y) | 7 => IsBig 17 (cnt 0 (startE y) 0) | 9 => fun v _ => v = .int .i64 (cmpI (cnt 0 (startE y) 0) z) | _ => fun _ _ => True) (fun wd ld => ?_)
     refine sQ 3 ?_
     refine sI (sz := 2) (ao + i * 2) ?_
     refine x_ldA [.int .i64 y.1, .int .i64 y.2] rfl rfl rfl rfl rfl rfl (World.block_lt_of_cell? _ _ (cell_later (lo8.trans ld) ky1)) (fun j u hj => ?_) ?_
     ·match j, hj with
      | 0, hj => cases hj; exact cell_later (lo8.trans ld) ky1
      | 1, hj => cases hj; exact cell_later (lo8.trans ld) ky2
     refine sL ?_
     refine sD (fun wc lc => rstart_any y hby.1 hby.2.1) ?_
     rintro v w20 u20 rfl lw20 mw20
     refine sB ?_
     refine sD (fun wc lc => rjoin_any (d := 0) (s := startE y) (a := 0) ⟨by decide, by decide⟩ ⟨by omega, by omega⟩ ⟨by decide, by decide⟩ wc) ?_
     rintro v w21 u21 hj lw21 mw21
     obtain ⟨hja, hjl, hjc, rfl, -⟩ := id hj
     refine s_callD rfl rfl rfl (by kernel_rfl) rfl (fun wc lc => c_cmp (hj.kp) (hu8.kp) (by decide) (by omega)) ?_
     rintro v w22 u22 rfl lw22 mw22
     refine p_leq rfl rfl rfl rfl rfl (fun h40 => ?_) (fun h40 => ?_)
     ·refine vOrd_nil ?_
      refine Wp.condT rfl rfl ?_
      refine wZ ?_
      refine wQ 1 ?_
      refine aP (-9223372036854775808) 9223372036854775807 ?_
      refine sZ 1 ?_
      exact ⟨_, _, by omega, (St.of_le' (env := [(2, .p 2 _ 0), (3, .p 3 _ 0), (4, .p 4 _ 0), (5, .v _), (7, .v _), (8, .v _)]) (mem := [(2, _, [_, _, _]), (3, _, [_, _]), (4, _, [_, _, _])]) ⟨rfl, rfl, rfl, rfl, rfl, rfl, trivial⟩ ⟨rfl, rfl, rfl, trivial⟩), i + 1, _, _, rfl, by omega, by omega, by omega, rfl⟩
     ·refine vOrd_nil ?_
      refine Wp.condF rfl rfl ?_
      refine Wp.skip ?_
      refine wQ 1 ?_
      refine aP (-9223372036854775808) 9223372036854775807 ?_
      refine sZ 1 ?_
      exact ⟨_, _, by omega, (St.of_le' (env := [(2, .p 2 _ 0), (3, .p 3 _ 0), (4, .p 4 _ 0), (5, .v _), (7, .v _), (8, .v _)]) (mem := [(2, _, [_, _, _]), (3, _, [_, _]), (4, _, [_, _, _])]) ⟨rfl, rfl, rfl, rfl, rfl, rfl, trivial⟩ ⟨rfl, rfl, rfl, trivial⟩), i + 1, _, _, rfl, by omega, by omega, by omega, rfl⟩
    ·refine vOrd_nil ?_
     refine Wp.condF rfl rfl ?_
     refine Wp.exit ?_
     refine Wp.seq ?_
     obtain rfl : o = (j : Int) := by omega
     refine Wp.old (fun lo10 => ?_)
     have hu10 := hu.later lo10
     refine wD [0, 1, 2, 3, 4, 5, 6, 7, 8, 9, 10] [510, 9, 11, 0, 0, 0, 0, 0, 0, 0, 0] (fun | 8 => IsBig 17 (cnt 0 (x.2) 0) | 9 => IsBig (max m 17 + 1) (z - cnt 0 x.2 0) | _ => fun _ _ => True) (fun wd ld => ?_)
     refine sQ 4 ?_
     refine sI (sz := 2) (ao + j * 2) ?_
     refine s_fieldV (ao + j * 2 + 1) rfl rfl rfl rfl 1 rfl rfl ?_
     refine xC (cell_later (lo10.trans ld) kx2) ?_
     refine sB ?_
     refine sD (fun wc lc => rjoin_any (d := 0) (s := x.2) (a := 0) ⟨by decide, by decide⟩ ⟨by omega, by omega⟩ ⟨by decide, by decide⟩ wc) ?_
     rintro v w26 u26 hof lw26 mw26
     obtain ⟨hofa, hofl, hofc, rfl, -⟩ := id hof
     refine s_callD rfl rfl rfl (by kernel_rfl) rfl (fun wc lc => c_rsub (hu10.kp) (hof.kp) (by omega) (by decide)) ?_
     rintro v w27 u27 hz2 lw27 mw27
     obtain ⟨za, zl, zc, rfl, -⟩ := id hz2
     refine sS (fun w28 sw28 vw28 => ?_)
     refine vOrd_nil ?_
     refine qQ 1 ?_
     refine s_callT rfl rfl rfl (by kernel_rfl) rfl (rsplit_any (hz2.kp) (by omega)) ?_
     rintro v w29 rfl lw29
     rw [hD, hB]
     refine sQ 3 ?_
     refine sO (fun bk30 w30 kb30 lw30 => ?_)
     refine sS (fun w31 sw31 vw31 => ?_)
     refine sZ 1 ?_
     refine Wp.seq ?_
     refine qZ ?_
     refine Wp.condT rfl rfl ?_
     refine Wp.seq ?_
     refine wR [0, 1, 2] ?_
     refine sB ?_
     refine sS (fun w32 sw32 vw32 => ?_)
     refine sZ 1 ?_
     refine Wp.ret ⟨.inr rfl, fun lW => ⟨_, ⟨_, _, res_cell rfl rfl rfl rfl, res_tmp (P := Tryz.prog) rfl rfl, rfl⟩, _, rfl, ?_, lW⟩⟩
     clear lW
     rfl
  | true =>
   have hB' := inB_iff.1 hB
   obtain ⟨sp1, sp2, sp3⟩ := spl_yes (z := z - cnt 0 x.2 0) (by rw [hD]; exact hB)
   rw [hD] at sp1
   rw [hQ] at sp2
   rw [hA2] at sp3
   refine calls_Wp (args := [_, _]) (n := 87) Tryz.func45 rfl rfl (by simp) ?_
   refine Wp.seq ?_
   refine wR [0, 1, 2, 3] ?_
   refine sE (fun bk1 w1 kb1 lw1 => ?_)
   refine sE (fun bk2 w2 kb2 lw2 => ?_)
   refine sO (fun bk3 w3 kb3 lw3 => ?_)
   refine sZ 1 ?_
   refine Wp.seq ?_
   refine Wp.old (fun lo1 => ?_)
   refine wQ 2 ?_
   refine sI (sz := 2) (ao + 0 * 2) ?_
   refine x_ldA [.int .i64 x0.1, .int .i64 x0.2] rfl rfl rfl rfl rfl rfl (World.block_lt_of_cell? _ _ (cell_later lo1 kx01)) (fun j u hj => ?_) ?_
   ·match j, hj with
    | 0, hj => cases hj; exact cell_later lo1 kx01
    | 1, hj => cases hj; exact cell_later lo1 kx02
   refine sT (rstart_any x0 hbx0.1 hbx0.2.1) ?_
   rintro v w9 rfl lw9
   try replace lzz := lzz.trans lw9
   refine sB ?_
   refine sT (rjoin_any (d := 0) (s := startE x0) (a := 0) ⟨by decide, by decide⟩ ⟨by omega, by omega⟩ ⟨by decide, by decide⟩ _) ?_
   rintro v w10 hf lw10
   try replace lzz := lzz.trans lw10
   obtain ⟨hfa, hfl, hfc, rfl, -⟩ := id hf
   refine sO (fun bk11 w11 kb11 lw11 => ?_)
   refine sS (fun w12 sw12 vw12 => ?_)
   refine vOrd_nil ?_
   refine Wp.seq ?_
   refine Wp.seq ?_
   refine Wp.old (fun lo2 => ?_)
   have hu2 := hu.later lo2
   clear lo2
   refine wQ 2 ?_
   refine s_callT rfl rfl rfl (by kernel_rfl) rfl (c_cmp hu2 (hf.kp) (by omega) (by decide)) ?_
   rintro v w13 rfl lw13
   try replace lzz := lzz.trans lw13
   refine f_lss rfl rfl rfl rfl rfl (by omega) ?_
   refine vOrd_nil ?_
   refine Wp.condF rfl rfl ?_
   refine Wp.skip ?_
   refine qZ ?_
   refine Wp.seq ?_
   refine qZ ?_
   refine Wp.block ?_
   refine Wp.loop (fun k st W => ∃ (i : Nat) (p o : Int), st = St.of [(2, .p 2 bk1 0), (3, .p 3 bk2 0), (4, .p 4 bk3 0), (5, .v (.int .i64 0)), (7, .v (.int .i64 o)), (8, .v (.int .i64 p))] [(2, bk1, [.int .i64 t.u, .int .i64 t.e, .slice (some ⟨ab, ao, none⟩) t.es.length c0]), (3, bk2, [.bool (sg z), .slice ua ul uc]), (4, bk3, [.int .i64 0, .int .i64 0, .int .i64 0])] ∧ p = i ∧ i ≤ t.es.length ∧ o = ((min i (j + 1) - 1 : Nat) : Int) ∧ k = t.es.length - i) ?_ ?_
   ·exact ⟨_, _, (St.of_le' (env := [(2, .p 2 _ 0), (3, .p 3 _ 0), (4, .p 4 _ 0), (5, .v _), (7, .v _), (8, .v _)]) (mem := [(2, _, [_, _, _]), (3, _, [_, _]), (4, _, [_, _, _])]) ⟨rfl, rfl, rfl, rfl, rfl, rfl, trivial⟩ ⟨rfl, rfl, rfl, trivial⟩), 0, _, _, rfl, rfl, Nat.zero_le _, rfl, rfl⟩
   ·rintro k st w14 ⟨i, p, o, rfl, hp, hi, hoo, rfl⟩
    refine Wp.seq ?_
    refine qQ 3 ?_
    refine x_len rfl rfl rfl rfl rfl ?_
    refine p_lss rfl rfl rfl rfl rfl (fun h27 => ?_) (fun h27 => ?_)
    ·refine vOrd_nil ?_
     refine Wp.condT rfl rfl ?_
     refine Wp.skip ?_
     refine Wp.seq ?_
     refine Wp.block ?_
     refine Wp.seq ?_
     have hin1 : i < t.es.length := by omega
     obtain ⟨y, hy⟩ : ∃ x, t.es[i]? = some x := ⟨t.es[i], List.getElem?_eq_getElem hin1⟩
     obtain ⟨ky1, ky2⟩ := hcell _ y hy
     have hby := hin _ y hy
     refine Wp.old (fun lo8 => ?_)
     have hu8 := hu.later lo8
     have hpy := hcut.2 i y hy
     unfold pAt at hpy
     rw [decide_eq_decide] at hpy
     have hcy := cnt_sec (startE y) z
     have hiy := cmpI_in (cnt 0 (startE y) 0) z
     have hly := cmpI_le (x := cnt 0 (startE y) 0) (y := z)
     refine wD [0, 1, 2, 3, 4, 8, 5, 6, 7, 9, 10] [260, 261, 259, 263, 271, 255, 0, 0, 0, 0, 0] (fun | 5 => fun v _ => v = .int .i64 (startE y) | 7 => IsBig 17 (cnt 0 (startE y) 0) | 9 => fun v _ => v = .int .i64 (cmpI (cnt 0 (startE y) 0) z) | _ => fun _ _ => True) (fun wd ld => ?_)
     refine sQ 3 ?_
     refine sI (sz := 2) (ao + i * 2) ?_
     refine x_ldA [.int .i64 y.1, .int .i64 y.2] rfl rfl rfl rfl rfl rfl (World.block_lt_of_cell? _ _ (cell_later (lo8.trans ld) ky1)) (fun j u hj => ?_) ?_
     ·match j, hj with
      | 0, hj => cases hj; exact cell_later (lo8.trans ld) ky1
      | 1, hj => cases hj; exact cell_later (lo8.trans ld) ky2
     refine sL ?_
     refine sD (fun wc lc => rstart_any y hby.1 hby.2.1) ?_
     rintro v w20 u20 rfl lw20 mw20
     try replace lzz := lzz.trans lw20
     try replace lzz := lzz.trans mw20
     refine sB ?_
     refine sD (fun wc lc => rjoin_any (d := 0) (s := startE y) (a := 0) ⟨by decide, by decide⟩ ⟨by omega, by omega⟩ ⟨by decide, by decide⟩ wc) ?_
     rintro v w21 u21 hj lw21 mw21
     try replace lzz := lzz.trans lw21
     try replace lzz := lzz.trans mw21
     obtain ⟨hja, hjl, hjc, rfl, -⟩ := id hj
     refine s_callD rfl rfl rfl (by kernel_rfl) rfl (fun wc lc => c_cmp (hj.kp) (hu8.kp) (by decide) (by omega)) ?_
     rintro v w22 u22 rfl lw22 mw22
     try replace lzz := lzz.trans lw22
     try replace lzz := lzz.trans mw22
     refine p_leq rfl rfl rfl rfl rfl (fun h40 => ?_) (fun h40 => ?_)
     ·refine vOrd_nil ?_
      refine Wp.condT rfl rfl ?_
      refine wZ ?_
      refine wQ 1 ?_
      refine aP (-9223372036854775808) 9223372036854775807 ?_
      refine sZ 1 ?_
      exact ⟨_, _, by omega, (St.of_le' (env := [(2, .p 2 _ 0), (3, .p 3 _ 0), (4, .p 4 _ 0), (5, .v _), (7, .v _), (8, .v _)]) (mem := [(2, _, [_, _, _]), (3, _, [_, _]), (4, _, [_, _, _])]) ⟨rfl, rfl, rfl, rfl, rfl, rfl, trivial⟩ ⟨rfl, rfl, rfl, trivial⟩), i + 1, _, _, rfl, by omega, by omega, by omega, rfl⟩
     ·refine vOrd_nil ?_
      refine Wp.condF rfl rfl ?_
      refine Wp.skip ?_
      refine wQ 1 ?_
      refine aP (-9223372036854775808) 9223372036854775807 ?_
      refine sZ 1 ?_
      exact ⟨_, _, by omega, (St.of_le' (env := [(2, .p 2 _ 0), (3, .p 3 _ 0), (4, .p 4 _ 0), (5, .v _), (7, .v _), (8, .v _)]) (mem := [(2, _, [_, _, _]), (3, _, [_, _]), (4, _, [_, _, _])]) ⟨rfl, rfl, rfl, rfl, rfl, rfl, trivial⟩ ⟨rfl, rfl, rfl, trivial⟩), i + 1, _, _, rfl, by omega, by omega, by omega, rfl⟩
    ·refine vOrd_nil ?_
     refine Wp.condF rfl rfl ?_
     refine Wp.exit ?_
     refine Wp.seq ?_
     obtain rfl : o = (j : Int) := by omega
     refine Wp.old (fun lo10 => ?_)
     have hu10 := hu.later lo10
     refine wD [0, 1, 2, 3, 4, 5, 6, 7, 8, 9, 10] [510, 9, 11, 0, 0, 0, 0, 0, 0, 0, 0] (fun | 8 => IsBig 17 (cnt 0 (x.2) 0) | 9 => IsBig (max m 17 + 1) (z - cnt 0 x.2 0) | _ => fun _ _ => True) (fun wd ld => ?_)
     refine sQ 4 ?_
     refine sI (sz := 2) (ao + j * 2) ?_
     refine s_fieldV (ao + j * 2 + 1) rfl rfl rfl rfl 1 rfl rfl ?_
     refine xC (cell_later (lo10.trans ld) kx2) ?_
     refine sB ?_
     refine sD (fun wc lc => rjoin_any (d := 0) (s := x.2) (a := 0) ⟨by decide, by decide⟩ ⟨by omega, by omega⟩ ⟨by decide, by decide⟩ wc) ?_
     rintro v w26 u26 hof lw26 mw26
     try replace lzz := lzz.trans lw26
     try replace lzz := lzz.trans mw26
     obtain ⟨hofa, hofl, hofc, rfl, -⟩ := id hof
     refine s_callD rfl rfl rfl (by kernel_rfl) rfl (fun wc lc => c_rsub (hu10.kp) (hof.kp) (by omega) (by decide)) ?_
     rintro v w27 u27 hz2 lw27 mw27
     try replace lzz := lzz.trans lw27
     try replace lzz := lzz.trans mw27
     obtain ⟨za, zl, zc, rfl, -⟩ := id hz2
     refine sS (fun w28 sw28 vw28 => ?_)
     refine vOrd_nil ?_
     refine qQ 1 ?_
     refine s_callT rfl rfl rfl (by kernel_rfl) rfl (rsplit_any (hz2.kp) (by omega)) ?_
     rintro v w29 rfl lw29
     try replace lzz := lzz.trans lw29
     rw [hD, hB, sp1, sp2, sp3]
     refine sQ 3 ?_
     refine sO (fun bk30 w30 kb30 lw30 => ?_)
     refine sS (fun w31 sw31 vw31 => ?_)
     refine sZ 1 ?_
     refine Wp.seq ?_
     refine qZ ?_
     refine Wp.condF rfl rfl ?_
     refine Wp.skip ?_
     refine Wp.seq ?_
     refine Wp.seq ?_
     refine Wp.old (fun lo14 => ?_)
     refine wD [0, 1, 2, 3, 4, 5, 6, 7, 8, 9, 10, 11, 12, 13, 14, 15, 16, 17] [28, 29, 0, 0, 0, 0, 0, 65151, 65279, 6655, 7167, 0, 0, 0, 0, 0, 0, 0] (fun | 4 => fun v _ => v = .int .i64 (t.es.length : Int) | 15 => fun v _ => ∃ N, v = .int .i64 N ∧ ∀ y, t.es[j + 1]? = some y → N = dayE y | _ => fun _ _ => True) (fun wd ld => ?_)
     have lzz := lo14.trans ld
     refine sM ?_
     refine aP (-9223372036854775808) 9223372036854775807 ?_
     refine sQ 2 ?_
     refine x_lenD rfl rfl rfl rfl rfl (fun _ => rfl) (fun _ _ h => h) (fun wln lln => ?_)
     replace lzz := lzz.trans lln
     refine p_lss rfl rfl rfl rfl rfl (fun h65 => ?_) (fun h65 => ?_)
     ·obtain ⟨y, hy⟩ : ∃ y, t.es[j + 1]? = some y := ⟨_, List.getElem?_eq_getElem (by omega)⟩
      obtain ⟨ky1, ky2⟩ := hcell _ y hy
      have hby := hin _ y hy
      have hny : n = dayE y := by rw [← hnu, until_some hy]
      have hpy := hcut.2 (j + 1) y hy
      unfold pAt at hpy
      rw [decide_eq_decide, hq] at hpy
      have hsy : startE y = dayE y * 86400 + y.2 := rfl
      have hxy := can_next hb hx hy
      refine sQ 6 ?_
      refine aP (-9223372036854775808) 9223372036854775807 ?_
      refine sI (sz := 2) (ao + (j + 1) * 2) ?_
      refine x_ldA [.int .i64 y.1, .int .i64 y.2] rfl rfl rfl rfl rfl rfl (World.block_lt_of_cell? _ _ (cell_later lzz ky1)) (fun j u hj => ?_) ?_
      ·match j, hj with
       | 0, hj => cases hj; exact cell_later lzz ky1
       | 1, hj => cases hj; exact cell_later lzz ky2
      refine sD (fun wc lc => rday_of hy hby.1) ?_
      rintro v w39 u39 ⟨N, rfl, hN⟩ lw39 mw39
      try replace lzz := lzz.trans lw39
      try replace lzz := lzz.trans mw39
      have hN2 := hN y hy
      refine p_geq rfl rfl rfl rfl rfl (fun h76 => ?_) (fun h76 => ?_)
      ·refine sZ 1 ?_
       refine Wp.condT rfl rfl ?_
       refine wQ 2 ?_
       refine aM (-9223372036854775808) 9223372036854775807 ?_
       refine sQ 2 ?_
       refine aP (-9223372036854775808) 9223372036854775807 ?_
       refine sF 0 ?_
       refine sS (fun w40 sw40 vw40 => ?_)
       refine sF 1 ?_
       refine sS (fun w41 sw41 vw41 => ?_)
       refine vOrd_nil ?_
       refine qQ 1 ?_
       refine sS (fun w42 sw42 vw42 => ?_)
       refine sZ 1 ?_
       refine Wp.ret ⟨.inr rfl, fun lW => ⟨_, ⟨_, _, res_cell rfl rfl rfl rfl, res_tmp (P := Tryz.prog) rfl rfl, rfl⟩, _, rfl, ?_, lW⟩⟩
       clear lW
       obtain ⟨m1, m2⟩ := lb_hit (es := t.es) (K := j + 1) (z := z) (by rw [hq, ho, hnu]; omega)
       obtain ⟨m3, m4⟩ := lb_ok (es := t.es) (K := j + 1) (z := z) hK (by rw [m1, hq, ho]; omega)
       rw [m3, m4, m1, m2, hq, ho, hD2, hQ2, ha]
      ·refine sZ 1 ?_
       refine Wp.condF rfl rfl ?_
       refine Wp.skip ?_
       refine qQ 1 ?_
       refine sS (fun w43 sw43 vw43 => ?_)
       refine sZ 1 ?_
       refine Wp.ret ⟨.inr rfl, fun lW => ⟨_, ⟨_, _, res_cell rfl rfl rfl rfl, res_tmp (P := Tryz.prog) rfl rfl, rfl⟩, _, rfl, ?_, lW⟩⟩
       clear lW
       obtain ⟨m1, m2⟩ := lb_miss (es := t.es) (K := j + 1) (z := z) (by rw [hq, ho, hnu]; omega)
       obtain ⟨m3, m4⟩ := lb_ok (es := t.es) (K := j + 1) (z := z) hK (by rw [m1, hq, ho]; omega)
       rw [m3, m4, m1, m2, hq, ho, hD2, hQ2, ha]
     ·have hny : n = 4611686018427387904 := by rw [← hnu, until_none (List.getElem?_eq_none (by omega))]
      refine sZ 12 ?_
      refine Wp.condF rfl rfl ?_
      refine Wp.skip ?_
      refine qQ 1 ?_
      refine sS (fun w44 sw44 vw44 => ?_)
      refine sZ 1 ?_
      refine Wp.ret ⟨.inr rfl, fun lW => ⟨_, ⟨_, _, res_cell rfl rfl rfl rfl, res_tmp (P := Tryz.prog) rfl rfl, rfl⟩, _, rfl, ?_, lW⟩⟩
      clear lW
      obtain ⟨m1, m2⟩ := lb_miss (es := t.es) (K := j + 1) (z := z) (by rw [hq, ho, hnu]; omega)
      obtain ⟨m3, m4⟩ := lb_ok (es := t.es) (K := j + 1) (z := z) hK (by rw [m1, hq, ho]; omega)
      rw [m3, m4, m1, m2, hq, ho, hD2, hQ2, ha]
end Go.Proofs.YtdpodbfamgafiaaGreat
