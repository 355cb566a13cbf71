/-
 Unix time: the walk of UnixTwice of layer 17.
-/
import Derived.Test.YthihioakjpmnbaaGreatUnL
namespace Go.Proofs.YthihioakjpmnbaaGreat
open Go.RowKit
set_option maxRecDepth 100000

set_option maxHeartbeats 2000000 in
theorem law_untwice (t : Tb) (hu : I64 t.u) (he : I64 t.e) {v : Value} {w : World} (hv : EntAt w v t.es) {d s a : Int} (hd : I64 d) (hs : I64 s) (ha : I64 a) : Calls Tryz.prog 6 #[tbV t v, .int .i64 d, .int .i64 s, .int .i64 a] w fun e w' => ∃ r, e = .returned r ∧ r = .bool true ∧ Below w.heap.size w w' := by
 obtain ⟨va, vc, rfl⟩ := hv.formL
 have lz := Later.refl w
 cases hb : canBe t with
 | false =>
  refine calls_Wp (args := [_, _, _, _]) (n := 109) Tryz.func6 rfl rfl (by simp) ?_
  refine Wp.seq ?_
  refine wR [0, 1] ?_
  refine sE (fun bs4 ws4 ks4 ls4 => ?_)
  try have kz4 := Nat.le_trans lz.size ks4
  try have nL4 := hL.ne ks4
  try replace lz := lz.trans ls4
  try replace hL := hL.later ls4
  try replace hvl := hvl.later ls4
  refine sZ 1 ?_
  refine Wp.seq ?_
  refine Wp.var (h := 4) rfl (fun v4 => ?_)
  have q4 := v4.lt
  have hz1 := lz.size
  refine wQ 1 ?_
  refine sT (cnew_no t hb hu he (hv.later lz)) ?_
  rintro v w7 rfl lw7
  try replace lz := lz.trans lw7
  try replace hL := hL.later lw7
  try replace hvl := hvl.later lw7
  refine sZ 5 ?_
  refine Wp.seq ?_
  refine qQ 1 ?_
  refine t_neq rfl rfl rfl rfl rfl (by omega) ?_
  refine sZ 30 ?_
  refine Wp.condT rfl rfl ?_
  refine Wp.seq ?_
  refine wR [0, 1] ?_
  refine sT (unanswers_any) ?_
  rintro v w8 rfl lw8
  try replace lz := lz.trans lw8
  try replace hL := hL.later lw8
  try replace hvl := hvl.later lw8
  refine sZ 1 ?_
  refine Wp.ret ⟨.inr rfl, fun lW => ⟨_, res_tmp (P := Tryz.prog) rfl rfl, _, rfl, ?_, lW⟩⟩
  clear lW
  rfl
 | true =>
  have hpos := (can_num hb).2.2
  have hn := can_len hb
  obtain ⟨x0, hx0⟩ : ∃ x, t.es[0]? = some x := ⟨_, List.getElem?_eq_getElem hpos⟩
  have hxi := can_in hb hx0
  obtain ⟨ab, ao, rfl, hcell⟩ := ent_at hv hpos
  obtain ⟨kx1, kx2⟩ := hcell 0 x0 hx0
  cases hB : inB d with
  | false =>
   refine calls_Wp (args := [_, _, _, _]) (n := 109) Tryz.func6 rfl rfl (by simp) ?_
   refine Wp.seq ?_
   refine wR [0, 1] ?_
   refine sE (fun bs4 ws4 ks4 ls4 => ?_)
   try have kz4 := Nat.le_trans lz.size ks4
   try have nL4 := hL.ne ks4
   try replace lz := lz.trans ls4
   try replace hL := hL.later ls4
   try replace hvl := hvl.later ls4
   refine sZ 1 ?_
   refine Wp.seq ?_
   refine Wp.var (h := 4) rfl (fun v4 => ?_)
   have q4 := v4.lt
   have hz1 := lz.size
   refine wQ 1 ?_
   refine sT (cnew_yes t hb hu he (hv.later lz)) ?_
   rintro v w7 ⟨h1, b1, c1, R1, hs1, k1, rfl, hh1, hb1, hk1, hL⟩ lw7
   try replace lz := lz.trans lw7
   try replace hL := hL.later lw7
   try replace hvl := hvl.later lw7
   refine sZ 5 ?_
   refine Wp.seq ?_
   refine qQ 1 ?_
   refine f_neq rfl rfl rfl rfl rfl (by omega) ?_
   refine sQ 2 ?_
   refine sT (din_any d _) ?_
   rintro v w8 rfl lw8
   try replace lz := lz.trans lw8
   try replace hL := hL.later lw8
   try replace hvl := hvl.later lw8
   rw [hB]
   refine sZ 27 ?_
   refine Wp.condT rfl rfl ?_
   refine Wp.seq ?_
   refine wR [0, 1] ?_
   refine sT (unanswers_any) ?_
   rintro v w9 rfl lw9
   try replace lz := lz.trans lw9
   try replace hL := hL.later lw9
   try replace hvl := hvl.later lw9
   refine sZ 1 ?_
   refine Wp.ret ⟨.inr rfl, fun lW => ⟨_, res_tmp (P := Tryz.prog) rfl rfl, _, rfl, ?_, lW⟩⟩
   clear lW
   rfl
  | true =>
   have hB' := inB_iff.1 hB
   by_cases c1 : d ≤ dayE x0
   ·refine calls_Wp (args := [_, _, _, _]) (n := 109) Tryz.func6 rfl rfl (by simp) ?_
    refine Wp.seq ?_
    refine wR [0, 1] ?_
    refine sE (fun bs4 ws4 ks4 ls4 => ?_)
    try have kz4 := Nat.le_trans lz.size ks4
    try have nL4 := hL.ne ks4
    try replace lz := lz.trans ls4
    try replace hL := hL.later ls4
    try replace hvl := hvl.later ls4
    refine sZ 1 ?_
    refine Wp.seq ?_
    refine Wp.var (h := 4) rfl (fun v4 => ?_)
    have q4 := v4.lt
    have hz1 := lz.size
    refine wQ 1 ?_
    refine sT (cnew_yes t hb hu he (hv.later lz)) ?_
    rintro v w7 ⟨h1, b1, c1, R1, hs1, k1, rfl, hh1, hb1, hk1, hL⟩ lw7
    try replace lz := lz.trans lw7
    try replace hL := hL.later lw7
    try replace hvl := hvl.later lw7
    refine sZ 5 ?_
    refine Wp.seq ?_
    refine qQ 1 ?_
    refine f_neq rfl rfl rfl rfl rfl (by omega) ?_
    refine sQ 2 ?_
    refine sT (din_any d _) ?_
    rintro v w8 rfl lw8
    try replace lz := lz.trans lw8
    try replace hL := hL.later lw8
    try replace hvl := hvl.later lw8
    rw [hB]
    refine sQ 6 ?_
    refine sI (sz := 2) (ao + 0 * 2) ?_
    refine x_ldA [.int .i64 x0.1, .int .i64 x0.2] rfl rfl rfl rfl rfl rfl (World.block_lt_of_cell? _ _ (cell_later lz kx1)) (fun j u hj => ?_) ?_
    ·match j, hj with
     | 0, hj => cases hj; exact cell_later lz kx1
     | 1, hj => cases hj; exact cell_later lz kx2
    refine sT (rday_any x0 hxi.1) ?_
    rintro v w14 rfl lw14
    try replace lz := lz.trans lw14
    try replace hL := hL.later lw14
    try replace hvl := hvl.later lw14
    refine t_leq rfl rfl rfl rfl rfl (by omega) ?_
    refine sZ 17 ?_
    refine Wp.condT rfl rfl ?_
    refine Wp.seq ?_
    refine wR [0, 1] ?_
    refine sT (unanswers_any) ?_
    rintro v w15 rfl lw15
    try replace lz := lz.trans lw15
    try replace hL := hL.later lw15
    try replace hvl := hvl.later lw15
    refine sZ 1 ?_
    refine Wp.ret ⟨.inr rfl, fun lW => ⟨_, res_tmp (P := Tryz.prog) rfl rfl, _, rfl, ?_, lW⟩⟩
    clear lW
    rfl
   by_cases c2 : s < 0
   ·refine calls_Wp (args := [_, _, _, _]) (n := 109) Tryz.func6 rfl rfl (by simp) ?_
    refine Wp.seq ?_
    refine wR [0, 1] ?_
    refine sE (fun bs4 ws4 ks4 ls4 => ?_)
    try have kz4 := Nat.le_trans lz.size ks4
    try have nL4 := hL.ne ks4
    try replace lz := lz.trans ls4
    try replace hL := hL.later ls4
    try replace hvl := hvl.later ls4
    refine sZ 1 ?_
    refine Wp.seq ?_
    refine Wp.var (h := 4) rfl (fun v4 => ?_)
    have q4 := v4.lt
    have hz1 := lz.size
    refine wQ 1 ?_
    refine sT (cnew_yes t hb hu he (hv.later lz)) ?_
    rintro v w7 ⟨h1, b1, c1, R1, hs1, k1, rfl, hh1, hb1, hk1, hL⟩ lw7
    try replace lz := lz.trans lw7
    try replace hL := hL.later lw7
    try replace hvl := hvl.later lw7
    refine sZ 5 ?_
    refine Wp.seq ?_
    refine qQ 1 ?_
    refine f_neq rfl rfl rfl rfl rfl (by omega) ?_
    refine sQ 2 ?_
    refine sT (din_any d _) ?_
    rintro v w8 rfl lw8
    try replace lz := lz.trans lw8
    try replace hL := hL.later lw8
    try replace hvl := hvl.later lw8
    rw [hB]
    refine sQ 6 ?_
    refine sI (sz := 2) (ao + 0 * 2) ?_
    refine x_ldA [.int .i64 x0.1, .int .i64 x0.2] rfl rfl rfl rfl rfl rfl (World.block_lt_of_cell? _ _ (cell_later lz kx1)) (fun j u hj => ?_) ?_
    ·match j, hj with
     | 0, hj => cases hj; exact cell_later lz kx1
     | 1, hj => cases hj; exact cell_later lz kx2
    refine sT (rday_any x0 hxi.1) ?_
    rintro v w14 rfl lw14
    try replace lz := lz.trans lw14
    try replace hL := hL.later lw14
    try replace hvl := hvl.later lw14
    refine f_leq rfl rfl rfl rfl rfl (by omega) ?_
    refine sQ 3 ?_
    refine t_lss rfl rfl rfl rfl rfl (by omega) ?_
    refine sZ 13 ?_
    refine Wp.condT rfl rfl ?_
    refine Wp.seq ?_
    refine wR [0, 1] ?_
    refine sT (unanswers_any) ?_
    rintro v w15 rfl lw15
    try replace lz := lz.trans lw15
    try replace hL := hL.later lw15
    try replace hvl := hvl.later lw15
    refine sZ 1 ?_
    refine Wp.ret ⟨.inr rfl, fun lW => ⟨_, res_tmp (P := Tryz.prog) rfl rfl, _, rfl, ?_, lW⟩⟩
    clear lW
    rfl
   by_cases c3 : 86399 < s
   ·refine calls_Wp (args := [_, _, _, _]) (n := 109) Tryz.func6 rfl rfl (by simp) ?_
    refine Wp.seq ?_
    refine wR [0, 1] ?_
    refine sE (fun bs4 ws4 ks4 ls4 => ?_)
    try have kz4 := Nat.le_trans lz.size ks4
    try have nL4 := hL.ne ks4
    try replace lz := lz.trans ls4
    try replace hL := hL.later ls4
    try replace hvl := hvl.later ls4
    refine sZ 1 ?_
    refine Wp.seq ?_
    refine Wp.var (h := 4) rfl (fun v4 => ?_)
    have q4 := v4.lt
    have hz1 := lz.size
    refine wQ 1 ?_
    refine sT (cnew_yes t hb hu he (hv.later lz)) ?_
    rintro v w7 ⟨h1, b1, c1, R1, hs1, k1, rfl, hh1, hb1, hk1, hL⟩ lw7
    try replace lz := lz.trans lw7
    try replace hL := hL.later lw7
    try replace hvl := hvl.later lw7
    refine sZ 5 ?_
    refine Wp.seq ?_
    refine qQ 1 ?_
    refine f_neq rfl rfl rfl rfl rfl (by omega) ?_
    refine sQ 2 ?_
    refine sT (din_any d _) ?_
    rintro v w8 rfl lw8
    try replace lz := lz.trans lw8
    try replace hL := hL.later lw8
    try replace hvl := hvl.later lw8
    rw [hB]
    refine sQ 6 ?_
    refine sI (sz := 2) (ao + 0 * 2) ?_
    refine x_ldA [.int .i64 x0.1, .int .i64 x0.2] rfl rfl rfl rfl rfl rfl (World.block_lt_of_cell? _ _ (cell_later lz kx1)) (fun j u hj => ?_) ?_
    ·match j, hj with
     | 0, hj => cases hj; exact cell_later lz kx1
     | 1, hj => cases hj; exact cell_later lz kx2
    refine sT (rday_any x0 hxi.1) ?_
    rintro v w14 rfl lw14
    try replace lz := lz.trans lw14
    try replace hL := hL.later lw14
    try replace hvl := hvl.later lw14
    refine f_leq rfl rfl rfl rfl rfl (by omega) ?_
    refine sQ 3 ?_
    refine f_lss rfl rfl rfl rfl rfl (by omega) ?_
    refine sQ 3 ?_
    refine t_gtr rfl rfl rfl rfl rfl (by omega) ?_
    refine sZ 9 ?_
    refine Wp.condT rfl rfl ?_
    refine Wp.seq ?_
    refine wR [0, 1] ?_
    refine sT (unanswers_any) ?_
    rintro v w15 rfl lw15
    try replace lz := lz.trans lw15
    try replace hL := hL.later lw15
    try replace hvl := hvl.later lw15
    refine sZ 1 ?_
    refine Wp.ret ⟨.inr rfl, fun lW => ⟨_, res_tmp (P := Tryz.prog) rfl rfl, _, rfl, ?_, lW⟩⟩
    clear lW
    rfl
   by_cases c4 : a < 0
   ·refine calls_Wp (args := [_, _, _, _]) (n := 109) Tryz.func6 rfl rfl (by simp) ?_
    refine Wp.seq ?_
    refine wR [0, 1] ?_
    refine sE (fun bs4 ws4 ks4 ls4 => ?_)
    try have kz4 := Nat.le_trans lz.size ks4
    try have nL4 := hL.ne ks4
    try replace lz := lz.trans ls4
    try replace hL := hL.later ls4
    try replace hvl := hvl.later ls4
    refine sZ 1 ?_
    refine Wp.seq ?_
    refine Wp.var (h := 4) rfl (fun v4 => ?_)
    have q4 := v4.lt
    have hz1 := lz.size
    refine wQ 1 ?_
    refine sT (cnew_yes t hb hu he (hv.later lz)) ?_
    rintro v w7 ⟨h1, b1, c1, R1, hs1, k1, rfl, hh1, hb1, hk1, hL⟩ lw7
    try replace lz := lz.trans lw7
    try replace hL := hL.later lw7
    try replace hvl := hvl.later lw7
    refine sZ 5 ?_
    refine Wp.seq ?_
    refine qQ 1 ?_
    refine f_neq rfl rfl rfl rfl rfl (by omega) ?_
    refine sQ 2 ?_
    refine sT (din_any d _) ?_
    rintro v w8 rfl lw8
    try replace lz := lz.trans lw8
    try replace hL := hL.later lw8
    try replace hvl := hvl.later lw8
    rw [hB]
    refine sQ 6 ?_
    refine sI (sz := 2) (ao + 0 * 2) ?_
    refine x_ldA [.int .i64 x0.1, .int .i64 x0.2] rfl rfl rfl rfl rfl rfl (World.block_lt_of_cell? _ _ (cell_later lz kx1)) (fun j u hj => ?_) ?_
    ·match j, hj with
     | 0, hj => cases hj; exact cell_later lz kx1
     | 1, hj => cases hj; exact cell_later lz kx2
    refine sT (rday_any x0 hxi.1) ?_
    rintro v w14 rfl lw14
    try replace lz := lz.trans lw14
    try replace hL := hL.later lw14
    try replace hvl := hvl.later lw14
    refine f_leq rfl rfl rfl rfl rfl (by omega) ?_
    refine sQ 3 ?_
    refine f_lss rfl rfl rfl rfl rfl (by omega) ?_
    refine sQ 3 ?_
    refine f_gtr rfl rfl rfl rfl rfl (by omega) ?_
    refine sQ 3 ?_
    refine t_lss rfl rfl rfl rfl rfl (by omega) ?_
    refine sZ 5 ?_
    refine Wp.condT rfl rfl ?_
    refine Wp.seq ?_
    refine wR [0, 1] ?_
    refine sT (unanswers_any) ?_
    rintro v w15 rfl lw15
    try replace lz := lz.trans lw15
    try replace hL := hL.later lw15
    try replace hvl := hvl.later lw15
    refine sZ 1 ?_
    refine Wp.ret ⟨.inr rfl, fun lW => ⟨_, res_tmp (P := Tryz.prog) rfl rfl, _, rfl, ?_, lW⟩⟩
    clear lW
    rfl
   by_cases c5 : 1000000000000000000 ≤ a
   ·refine calls_Wp (args := [_, _, _, _]) (n := 109) Tryz.func6 rfl rfl (by simp) ?_
    refine Wp.seq ?_
    refine wR [0, 1] ?_
    refine sE (fun bs4 ws4 ks4 ls4 => ?_)
    try have kz4 := Nat.le_trans lz.size ks4
    try have nL4 := hL.ne ks4
    try replace lz := lz.trans ls4
    try replace hL := hL.later ls4
    try replace hvl := hvl.later ls4
    refine sZ 1 ?_
    refine Wp.seq ?_
    refine Wp.var (h := 4) rfl (fun v4 => ?_)
    have q4 := v4.lt
    have hz1 := lz.size
    refine wQ 1 ?_
    refine sT (cnew_yes t hb hu he (hv.later lz)) ?_
    rintro v w7 ⟨h1, b1, c1, R1, hs1, k1, rfl, hh1, hb1, hk1, hL⟩ lw7
    try replace lz := lz.trans lw7
    try replace hL := hL.later lw7
    try replace hvl := hvl.later lw7
    refine sZ 5 ?_
    refine Wp.seq ?_
    refine qQ 1 ?_
    refine f_neq rfl rfl rfl rfl rfl (by omega) ?_
    refine sQ 2 ?_
    refine sT (din_any d _) ?_
    rintro v w8 rfl lw8
    try replace lz := lz.trans lw8
    try replace hL := hL.later lw8
    try replace hvl := hvl.later lw8
    rw [hB]
    refine sQ 6 ?_
    refine sI (sz := 2) (ao + 0 * 2) ?_
    refine x_ldA [.int .i64 x0.1, .int .i64 x0.2] rfl rfl rfl rfl rfl rfl (World.block_lt_of_cell? _ _ (cell_later lz kx1)) (fun j u hj => ?_) ?_
    ·match j, hj with
     | 0, hj => cases hj; exact cell_later lz kx1
     | 1, hj => cases hj; exact cell_later lz kx2
    refine sT (rday_any x0 hxi.1) ?_
    rintro v w14 rfl lw14
    try replace lz := lz.trans lw14
    try replace hL := hL.later lw14
    try replace hvl := hvl.later lw14
    refine f_leq rfl rfl rfl rfl rfl (by omega) ?_
    refine sQ 3 ?_
    refine f_lss rfl rfl rfl rfl rfl (by omega) ?_
    refine sQ 3 ?_
    refine f_gtr rfl rfl rfl rfl rfl (by omega) ?_
    refine sQ 3 ?_
    refine f_lss rfl rfl rfl rfl rfl (by omega) ?_
    refine sQ 3 ?_
    refine t_geq rfl rfl rfl rfl rfl (by omega) ?_
    refine sZ 1 ?_
    refine Wp.condT rfl rfl ?_
    refine Wp.seq ?_
    refine wR [0, 1] ?_
    refine sT (unanswers_any) ?_
    rintro v w15 rfl lw15
    try replace lz := lz.trans lw15
    try replace hL := hL.later lw15
    try replace hvl := hvl.later lw15
    refine sZ 1 ?_
    refine Wp.ret ⟨.inr rfl, fun lW => ⟨_, res_tmp (P := Tryz.prog) rfl rfl, _, rfl, ?_, lW⟩⟩
    clear lW
    rfl
   have hl : isL s a = true := isL_iff.2 ⟨by omega, by omega, by omega, by omega⟩
   have hU : isU s a = true := isU_iff.2 ⟨by omega, by omega, by omega, by omega⟩
   obtain ⟨e1, e2⟩ := un_ok hU hB
   obtain ⟨p1, p2, p3⟩ := ul_plain (d := d) hl
   obtain ⟨J, hJ⟩ := cutS_day pub_may15 d
   obtain ⟨K, hK⟩ := cut_day hb d
   obtain ⟨J', hJ'⟩ := cutS_day pub_may15 (d - 1)
   obtain ⟨K', hK'⟩ := cut_day hb (d - 1)
   obtain ⟨w1, w2, w3⟩ := ul_two (J := J) (J' := J') hb hx0 hB hl (show dayE x0 < d by omega) hK hK'
   cases hp : ulP t J' K' (cnt d s a - cnt 40587 0 0) with
   | true =>
    obtain ⟨hs0, hm0⟩ := w1.1 hp
    have hq : ulQ t J K (cnt d s a - cnt 40587 0 0) = true := by
     cases hq : ulQ t J K (cnt d s a - cnt 40587 0 0) with
     | true => rfl
     | false => have := w2.1 hq; omega
    refine calls_Wp (args := [_, _, _, _]) (n := 109) Tryz.func6 rfl rfl (by simp) ?_
    refine Wp.seq ?_
    refine wR [0, 1] ?_
    refine sE (fun bs4 ws4 ks4 ls4 => ?_)
    try have kz4 := Nat.le_trans lz.size ks4
    try have nL4 := hL.ne ks4
    try replace lz := lz.trans ls4
    try replace hL := hL.later ls4
    try replace hvl := hvl.later ls4
    refine sZ 1 ?_
    refine Wp.seq ?_
    refine Wp.var (h := 4) rfl (fun v4 => ?_)
    have q4 := v4.lt
    have hz1 := lz.size
    refine wQ 1 ?_
    refine sT (cnew_yes t hb hu he (hv.later lz)) ?_
    rintro v w7 ⟨h1, b1, c1, R1, hs1, k1, rfl, hh1, hb1, hk1, hL⟩ lw7
    try replace lz := lz.trans lw7
    try replace hL := hL.later lw7
    try replace hvl := hvl.later lw7
    refine sZ 5 ?_
    refine Wp.seq ?_
    refine qQ 1 ?_
    refine f_neq rfl rfl rfl rfl rfl (by omega) ?_
    refine sQ 2 ?_
    refine sT (din_any d _) ?_
    rintro v w8 rfl lw8
    try replace lz := lz.trans lw8
    try replace hL := hL.later lw8
    try replace hvl := hvl.later lw8
    rw [hB]
    refine sQ 6 ?_
    refine sI (sz := 2) (ao + 0 * 2) ?_
    refine x_ldA [.int .i64 x0.1, .int .i64 x0.2] rfl rfl rfl rfl rfl rfl (World.block_lt_of_cell? _ _ (cell_later lz kx1)) (fun j u hj => ?_) ?_
    ·match j, hj with
     | 0, hj => cases hj; exact cell_later lz kx1
     | 1, hj => cases hj; exact cell_later lz kx2
    refine sT (rday_any x0 hxi.1) ?_
    rintro v w14 rfl lw14
    try replace lz := lz.trans lw14
    try replace hL := hL.later lw14
    try replace hvl := hvl.later lw14
    refine f_leq rfl rfl rfl rfl rfl (by omega) ?_
    refine sQ 3 ?_
    refine f_lss rfl rfl rfl rfl rfl (by omega) ?_
    refine sQ 3 ?_
    refine f_gtr rfl rfl rfl rfl rfl (by omega) ?_
    refine sQ 3 ?_
    refine f_lss rfl rfl rfl rfl rfl (by omega) ?_
    refine sQ 3 ?_
    refine f_geq rfl rfl rfl rfl rfl (by omega) ?_
    refine sZ 1 ?_
    refine Wp.condF rfl rfl ?_
    refine Wp.skip ?_
    refine qQ 3 ?_
    refine sB ?_
    refine sT (uncount_any hd hs ha) ?_
    rintro v w15 ⟨nu, rfl, nh, nl, rfl, hn⟩ lw15
    try replace lz := lz.trans lw15
    try replace hL := hL.later lw15
    try replace hvl := hvl.later lw15
    rw [e1]
    rw [e2] at hn
    refine sQ 3 ?_
    refine sO (fun bk16 w16 kb16 lw16 => ?_)
    try have kz11 := Nat.le_trans lz.size kb16
    try have nL11 := hL.ne kb16
    try replace lz := lz.trans lw16
    try replace hL := hL.later lw16
    try replace hvl := hvl.later lw16
    refine sS (fun w17 sw17 vw17 => ?_)
    try replace lz := lz.sto sw17 kz11
    try replace hL := hL.sto sw17 nL11
    refine sZ 1 ?_
    refine Wp.seq ?_
    have n11 := nL11.1.1
    have hbz : w.heap.size ≤ b1 := by omega
    obtain ⟨cs1, hvb⟩ := hL.var
    refine Wp.adopt 1007 hvb hbz rfl (show AllMem (fun d => d ≠ b1) _ from (by repeat (first | exact AllMem.args | exact AllMem.of (by simp only [AllL, and_true]; omega) | refine AllMem.put ?_ | refine AllMem.new ?_ (by omega) | refine AllMem.set ?_ (by omega)))) ?_
    refine wQ 2 ?_
    refine s_callH 1007 rfl rfl rfl (by kernel_rfl) rfl rfl (fun vr => (unlabels_any hb hL ⟨by omega, by omega⟩ ⟨_, _, rfl, hn⟩ (by rw [p1]; exact hB) (by rw [p1]; exact hJ) (by rw [p1]; exact hK) (by rw [p1]; exact hJ') (by rw [p1]; exact hK') hp hq)) ?_
    rintro v cs18 w18 ⟨rfl, R18, k18, _, hk18, hLq⟩ gw18 vw18
    try replace lz := lz.past gw18 hbz
    clear hL
    have hL := hLq
    clear hLq
    rw [ulV_tt]
    refine sQ 5 ?_
    refine sO (fun bk19 w19 kb19 lw19 => ?_)
    try have kz13 := Nat.le_trans lz.size kb19
    try have nL13 := hL.ne kb19
    try replace lz := lz.trans lw19
    try replace hL := hL.later lw19
    try replace hvl := hvl.later lw19
    refine sO (fun bk20 w20 kb20 lw20 => ?_)
    try have kz14 := Nat.le_trans lz.size kb20
    try have nL14 := hL.ne kb20
    try replace lz := lz.trans lw20
    try replace hL := hL.later lw20
    try replace hvl := hvl.later lw20
    refine sS (fun w21 sw21 vw21 => ?_)
    try replace lz := lz.sto sw21 kz13
    try replace hL := hL.sto sw21 nL13
    refine sS (fun w22 sw22 vw22 => ?_)
    try replace lz := lz.sto sw22 kz14
    try replace hL := hL.sto sw22 nL14
    refine sZ 2 ?_
    refine qQ 1 ?_
    refine t_eql rfl rfl rfl rfl rfl (by omega) ?_
    refine sQ 3 ?_
    refine aM (-9223372036854775808) 9223372036854775807 ?_
    refine sT (rchange_any t hb (hv.later lz) hK') ?_
    rintro v w23 rfl lw23
    try replace lz := lz.trans lw23
    try replace hL := hL.later lw23
    try replace hvl := hvl.later lw23
    refine t_eql rfl rfl rfl rfl rfl (by omega) ?_
    refine sQ 2 ?_
    refine f_eql rfl rfl rfl rfl rfl (by omega) ?_
    refine sZ 8 ?_
    refine Wp.seq ?_
    refine wR [0, 1, 2, 3, 4, 5, 6, 7, 8, 9, 10, 11, 12, 13, 14, 15, 16, 17, 18, 19] ?_
    refine sT (unanswers_any) ?_
    rintro v w24 rfl lw24
    try replace lz := lz.trans lw24
    try replace hL := hL.later lw24
    try replace hvl := hvl.later lw24
    refine sQ 2 ?_
    refine t_eql rfl rfl rfl rfl rfl (by decide) ?_
    refine sM ?_
    refine s_eqv (c := true) rfl rfl rfl rfl rfl (fun _ => by kernel_rfl) (fun w => by rw [run_eql_bool]; rfl) ?_
    refine sQ 3 ?_
    refine f_eql rfl rfl rfl rfl rfl (by decide) ?_
    refine sM ?_
    refine s_eqv (c := true) rfl rfl rfl rfl rfl (fun _ => by kernel_rfl) (fun w => by rw [run_eql_bool]; rfl) ?_
    refine sQ 3 ?_
    refine f_eql rfl rfl rfl rfl rfl (by decide) ?_
    refine sM ?_
    refine s_eqv (c := true) rfl rfl rfl rfl rfl (fun _ => by kernel_rfl) (fun w => by rw [run_eql_bool]; rfl) ?_
    refine sZ 2 ?_
    refine Wp.ret ⟨.inr rfl, fun lW => ⟨_, res_tmp (P := Tryz.prog) rfl rfl, _, rfl, ?_, lW⟩⟩
    clear lW
    rfl
   | false =>
    have w1 : ¬ (s = 0 ∧ moreA t.es K' (d - 1) = 1) := fun q => by have := w1.2 q; rw [hp] at this; cases this
    cases hq : ulQ t J K (cnt d s a - cnt 40587 0 0) with
    | true =>
     have w2 : ¬ (s = 86399 ∧ moreA t.es K d = -1) := fun q => by have := w2.2 q; rw [hq] at this; cases this
     refine calls_Wp (args := [_, _, _, _]) (n := 109) Tryz.func6 rfl rfl (by simp) ?_
     refine Wp.seq ?_
     refine wR [0, 1] ?_
     refine sE (fun bs4 ws4 ks4 ls4 => ?_)
     try have kz4 := Nat.le_trans lz.size ks4
     try have nL4 := hL.ne ks4
     try replace lz := lz.trans ls4
     try replace hL := hL.later ls4
     try replace hvl := hvl.later ls4
     refine sZ 1 ?_
     refine Wp.seq ?_
     refine Wp.var (h := 4) rfl (fun v4 => ?_)
     have q4 := v4.lt
     have hz1 := lz.size
     refine wQ 1 ?_
     refine sT (cnew_yes t hb hu he (hv.later lz)) ?_
     rintro v w7 ⟨h1, b1, c1, R1, hs1, k1, rfl, hh1, hb1, hk1, hL⟩ lw7
     try replace lz := lz.trans lw7
     try replace hL := hL.later lw7
     try replace hvl := hvl.later lw7
     refine sZ 5 ?_
     refine Wp.seq ?_
     refine qQ 1 ?_
     refine f_neq rfl rfl rfl rfl rfl (by omega) ?_
     refine sQ 2 ?_
     refine sT (din_any d _) ?_
     rintro v w8 rfl lw8
     try replace lz := lz.trans lw8
     try replace hL := hL.later lw8
     try replace hvl := hvl.later lw8
     rw [hB]
     refine sQ 6 ?_
     refine sI (sz := 2) (ao + 0 * 2) ?_
     refine x_ldA [.int .i64 x0.1, .int .i64 x0.2] rfl rfl rfl rfl rfl rfl (World.block_lt_of_cell? _ _ (cell_later lz kx1)) (fun j u hj => ?_) ?_
     ·match j, hj with
      | 0, hj => cases hj; exact cell_later lz kx1
      | 1, hj => cases hj; exact cell_later lz kx2
     refine sT (rday_any x0 hxi.1) ?_
     rintro v w14 rfl lw14
     try replace lz := lz.trans lw14
     try replace hL := hL.later lw14
     try replace hvl := hvl.later lw14
     refine f_leq rfl rfl rfl rfl rfl (by omega) ?_
     refine sQ 3 ?_
     refine f_lss rfl rfl rfl rfl rfl (by omega) ?_
     refine sQ 3 ?_
     refine f_gtr rfl rfl rfl rfl rfl (by omega) ?_
     refine sQ 3 ?_
     refine f_lss rfl rfl rfl rfl rfl (by omega) ?_
     refine sQ 3 ?_
     refine f_geq rfl rfl rfl rfl rfl (by omega) ?_
     refine sZ 1 ?_
     refine Wp.condF rfl rfl ?_
     refine Wp.skip ?_
     refine qQ 3 ?_
     refine sB ?_
     refine sT (uncount_any hd hs ha) ?_
     rintro v w15 ⟨nu, rfl, nh, nl, rfl, hn⟩ lw15
     try replace lz := lz.trans lw15
     try replace hL := hL.later lw15
     try replace hvl := hvl.later lw15
     rw [e1]
     rw [e2] at hn
     refine sQ 3 ?_
     refine sO (fun bk16 w16 kb16 lw16 => ?_)
     try have kz11 := Nat.le_trans lz.size kb16
     try have nL11 := hL.ne kb16
     try replace lz := lz.trans lw16
     try replace hL := hL.later lw16
     try replace hvl := hvl.later lw16
     refine sS (fun w17 sw17 vw17 => ?_)
     try replace lz := lz.sto sw17 kz11
     try replace hL := hL.sto sw17 nL11
     refine sZ 1 ?_
     refine Wp.seq ?_
     have n11 := nL11.1.1
     have hbz : w.heap.size ≤ b1 := by omega
     obtain ⟨cs1, hvb⟩ := hL.var
     refine Wp.adopt 1007 hvb hbz rfl (show AllMem (fun d => d ≠ b1) _ from (by repeat (first | exact AllMem.args | exact AllMem.of (by simp only [AllL, and_true]; omega) | refine AllMem.put ?_ | refine AllMem.new ?_ (by omega) | refine AllMem.set ?_ (by omega)))) ?_
     refine wQ 2 ?_
     refine s_callH 1007 rfl rfl rfl (by kernel_rfl) rfl rfl (fun vr => (unlabels_any hb hL ⟨by omega, by omega⟩ ⟨_, _, rfl, hn⟩ (by rw [p1]; exact hB) (by rw [p1]; exact hJ) (by rw [p1]; exact hK) (by rw [p1]; exact hJ') (by rw [p1]; exact hK') hp hq)) ?_
     rintro v cs18 w18 ⟨rfl, R18, k18, _, hk18, hLq⟩ gw18 vw18
     try replace lz := lz.past gw18 hbz
     clear hL
     have hL := hLq
     clear hLq
     rw [ulV_ft]
     refine sQ 5 ?_
     refine sO (fun bk19 w19 kb19 lw19 => ?_)
     try have kz13 := Nat.le_trans lz.size kb19
     try have nL13 := hL.ne kb19
     try replace lz := lz.trans lw19
     try replace hL := hL.later lw19
     try replace hvl := hvl.later lw19
     refine sO (fun bk20 w20 kb20 lw20 => ?_)
     try have kz14 := Nat.le_trans lz.size kb20
     try have nL14 := hL.ne kb20
     try replace lz := lz.trans lw20
     try replace hL := hL.later lw20
     try replace hvl := hvl.later lw20
     refine sS (fun w21 sw21 vw21 => ?_)
     try replace lz := lz.sto sw21 kz13
     try replace hL := hL.sto sw21 nL13
     refine sS (fun w22 sw22 vw22 => ?_)
     try replace lz := lz.sto sw22 kz14
     try replace hL := hL.sto sw22 nL14
     refine sZ 2 ?_
     refine qQ 1 ?_
     refine p_eql rfl rfl rfl rfl rfl (fun h74 => ?_) (fun h74 => ?_)
     ·refine sQ 3 ?_
      refine aM (-9223372036854775808) 9223372036854775807 ?_
      refine sT (rchange_any t hb (hv.later lz) hK') ?_
      rintro v w23 rfl lw23
      try replace lz := lz.trans lw23
      try replace hL := hL.later lw23
      try replace hvl := hvl.later lw23
      refine f_eql rfl rfl rfl rfl rfl (by intro q; exact w1 ⟨by omega, q⟩) ?_
      refine sQ 2 ?_
      refine p_eql rfl rfl rfl rfl rfl (fun h83 => ?_) (fun h83 => ?_)
      ·refine sQ 3 ?_
       refine sT (rchange_any t hb (hv.later lz) hK) ?_
       rintro v w24 rfl lw24
       try replace lz := lz.trans lw24
       try replace hL := hL.later lw24
       try replace hvl := hvl.later lw24
       refine f_eql rfl rfl rfl rfl rfl (by intro q; exact w2 ⟨by omega, q⟩) ?_
       refine sZ 3 ?_
       refine Wp.seq ?_
       refine wR [0, 1, 2, 3, 4, 5, 6, 7, 8, 9, 10, 11, 12, 13, 14, 15, 16, 17, 18, 19] ?_
       refine sT (unanswers_any) ?_
       rintro v w25 rfl lw25
       try replace lz := lz.trans lw25
       try replace hL := hL.later lw25
       try replace hvl := hvl.later lw25
       refine sQ 2 ?_
       refine f_eql rfl rfl rfl rfl rfl (by decide) ?_
       refine sM ?_
       refine s_eqv (c := true) rfl rfl rfl rfl rfl (fun _ => by kernel_rfl) (fun w => by rw [run_eql_bool]; rfl) ?_
       refine sQ 3 ?_
       refine f_eql rfl rfl rfl rfl rfl (by decide) ?_
       refine sM ?_
       refine s_eqv (c := true) rfl rfl rfl rfl rfl (fun _ => by kernel_rfl) (fun w => by rw [run_eql_bool]; rfl) ?_
       refine sQ 3 ?_
       refine f_eql rfl rfl rfl rfl rfl (by decide) ?_
       refine sM ?_
       refine s_eqv (c := true) rfl rfl rfl rfl rfl (fun _ => by kernel_rfl) (fun w => by rw [run_eql_bool]; rfl) ?_
       refine sZ 2 ?_
       refine Wp.ret ⟨.inr rfl, fun lW => ⟨_, res_tmp (P := Tryz.prog) rfl rfl, _, rfl, ?_, lW⟩⟩
       clear lW
       rfl
      ·refine sZ 8 ?_
       refine Wp.seq ?_
       refine wR [0, 1, 2, 3, 4, 5, 6, 7, 8, 9, 10, 11, 12, 13, 14, 15, 16, 17, 18, 19] ?_
       refine sT (unanswers_any) ?_
       rintro v w29 rfl lw29
       try replace lz := lz.trans lw29
       try replace hL := hL.later lw29
       try replace hvl := hvl.later lw29
       refine sQ 2 ?_
       refine f_eql rfl rfl rfl rfl rfl (by decide) ?_
       refine sM ?_
       refine s_eqv (c := true) rfl rfl rfl rfl rfl (fun _ => by kernel_rfl) (fun w => by rw [run_eql_bool]; rfl) ?_
       refine sQ 3 ?_
       refine f_eql rfl rfl rfl rfl rfl (by decide) ?_
       refine sM ?_
       refine s_eqv (c := true) rfl rfl rfl rfl rfl (fun _ => by kernel_rfl) (fun w => by rw [run_eql_bool]; rfl) ?_
       refine sQ 3 ?_
       refine f_eql rfl rfl rfl rfl rfl (by decide) ?_
       refine sM ?_
       refine s_eqv (c := true) rfl rfl rfl rfl rfl (fun _ => by kernel_rfl) (fun w => by rw [run_eql_bool]; rfl) ?_
       refine sZ 2 ?_
       refine Wp.ret ⟨.inr rfl, fun lW => ⟨_, res_tmp (P := Tryz.prog) rfl rfl, _, rfl, ?_, lW⟩⟩
       clear lW
       rfl
     ·refine sQ 8 ?_
      refine p_eql rfl rfl rfl rfl rfl (fun h83 => ?_) (fun h83 => ?_)
      ·refine sQ 3 ?_
       refine sT (rchange_any t hb (hv.later lz) hK) ?_
       rintro v w33 rfl lw33
       try replace lz := lz.trans lw33
       try replace hL := hL.later lw33
       try replace hvl := hvl.later lw33
       refine f_eql rfl rfl rfl rfl rfl (by intro q; exact w2 ⟨by omega, q⟩) ?_
       refine sZ 3 ?_
       refine Wp.seq ?_
       refine wR [0, 1, 2, 3, 4, 5, 6, 7, 8, 9, 10, 11, 12, 13, 14, 15, 16, 17, 18, 19] ?_
       refine sT (unanswers_any) ?_
       rintro v w34 rfl lw34
       try replace lz := lz.trans lw34
       try replace hL := hL.later lw34
       try replace hvl := hvl.later lw34
       refine sQ 2 ?_
       refine f_eql rfl rfl rfl rfl rfl (by decide) ?_
       refine sM ?_
       refine s_eqv (c := true) rfl rfl rfl rfl rfl (fun _ => by kernel_rfl) (fun w => by rw [run_eql_bool]; rfl) ?_
       refine sQ 3 ?_
       refine f_eql rfl rfl rfl rfl rfl (by decide) ?_
       refine sM ?_
       refine s_eqv (c := true) rfl rfl rfl rfl rfl (fun _ => by kernel_rfl) (fun w => by rw [run_eql_bool]; rfl) ?_
       refine sQ 3 ?_
       refine f_eql rfl rfl rfl rfl rfl (by decide) ?_
       refine sM ?_
       refine s_eqv (c := true) rfl rfl rfl rfl rfl (fun _ => by kernel_rfl) (fun w => by rw [run_eql_bool]; rfl) ?_
       refine sZ 2 ?_
       refine Wp.ret ⟨.inr rfl, fun lW => ⟨_, res_tmp (P := Tryz.prog) rfl rfl, _, rfl, ?_, lW⟩⟩
       clear lW
       rfl
      ·refine sZ 8 ?_
       refine Wp.seq ?_
       refine wR [0, 1, 2, 3, 4, 5, 6, 7, 8, 9, 10, 11, 12, 13, 14, 15, 16, 17, 18, 19] ?_
       refine sT (unanswers_any) ?_
       rintro v w38 rfl lw38
       try replace lz := lz.trans lw38
       try replace hL := hL.later lw38
       try replace hvl := hvl.later lw38
       refine sQ 2 ?_
       refine f_eql rfl rfl rfl rfl rfl (by decide) ?_
       refine sM ?_
       refine s_eqv (c := true) rfl rfl rfl rfl rfl (fun _ => by kernel_rfl) (fun w => by rw [run_eql_bool]; rfl) ?_
       refine sQ 3 ?_
       refine f_eql rfl rfl rfl rfl rfl (by decide) ?_
       refine sM ?_
       refine s_eqv (c := true) rfl rfl rfl rfl rfl (fun _ => by kernel_rfl) (fun w => by rw [run_eql_bool]; rfl) ?_
       refine sQ 3 ?_
       refine f_eql rfl rfl rfl rfl rfl (by decide) ?_
       refine sM ?_
       refine s_eqv (c := true) rfl rfl rfl rfl rfl (fun _ => by kernel_rfl) (fun w => by rw [run_eql_bool]; rfl) ?_
       refine sZ 2 ?_
       refine Wp.ret ⟨.inr rfl, fun lW => ⟨_, res_tmp (P := Tryz.prog) rfl rfl, _, rfl, ?_, lW⟩⟩
       clear lW
       rfl
    | false =>
     obtain ⟨hs9, hm9⟩ := w2.1 hq
     have w3 := w3 hq
     refine calls_Wp (args := [_, _, _, _]) (n := 109) Tryz.func6 rfl rfl (by simp) ?_
     refine Wp.seq ?_
     refine wR [0, 1] ?_
     refine sE (fun bs4 ws4 ks4 ls4 => ?_)
     try have kz4 := Nat.le_trans lz.size ks4
     try have nL4 := hL.ne ks4
     try replace lz := lz.trans ls4
     try replace hL := hL.later ls4
     try replace hvl := hvl.later ls4
     refine sZ 1 ?_
     refine Wp.seq ?_
     refine Wp.var (h := 4) rfl (fun v4 => ?_)
     have q4 := v4.lt
     have hz1 := lz.size
     refine wQ 1 ?_
     refine sT (cnew_yes t hb hu he (hv.later lz)) ?_
     rintro v w7 ⟨h1, b1, c1, R1, hs1, k1, rfl, hh1, hb1, hk1, hL⟩ lw7
     try replace lz := lz.trans lw7
     try replace hL := hL.later lw7
     try replace hvl := hvl.later lw7
     refine sZ 5 ?_
     refine Wp.seq ?_
     refine qQ 1 ?_
     refine f_neq rfl rfl rfl rfl rfl (by omega) ?_
     refine sQ 2 ?_
     refine sT (din_any d _) ?_
     rintro v w8 rfl lw8
     try replace lz := lz.trans lw8
     try replace hL := hL.later lw8
     try replace hvl := hvl.later lw8
     rw [hB]
     refine sQ 6 ?_
     refine sI (sz := 2) (ao + 0 * 2) ?_
     refine x_ldA [.int .i64 x0.1, .int .i64 x0.2] rfl rfl rfl rfl rfl rfl (World.block_lt_of_cell? _ _ (cell_later lz kx1)) (fun j u hj => ?_) ?_
     ·match j, hj with
      | 0, hj => cases hj; exact cell_later lz kx1
      | 1, hj => cases hj; exact cell_later lz kx2
     refine sT (rday_any x0 hxi.1) ?_
     rintro v w14 rfl lw14
     try replace lz := lz.trans lw14
     try replace hL := hL.later lw14
     try replace hvl := hvl.later lw14
     refine f_leq rfl rfl rfl rfl rfl (by omega) ?_
     refine sQ 3 ?_
     refine f_lss rfl rfl rfl rfl rfl (by omega) ?_
     refine sQ 3 ?_
     refine f_gtr rfl rfl rfl rfl rfl (by omega) ?_
     refine sQ 3 ?_
     refine f_lss rfl rfl rfl rfl rfl (by omega) ?_
     refine sQ 3 ?_
     refine f_geq rfl rfl rfl rfl rfl (by omega) ?_
     refine sZ 1 ?_
     refine Wp.condF rfl rfl ?_
     refine Wp.skip ?_
     refine qQ 3 ?_
     refine sB ?_
     refine sT (uncount_any hd hs ha) ?_
     rintro v w15 ⟨nu, rfl, nh, nl, rfl, hn⟩ lw15
     try replace lz := lz.trans lw15
     try replace hL := hL.later lw15
     try replace hvl := hvl.later lw15
     rw [e1]
     rw [e2] at hn
     refine sQ 3 ?_
     refine sO (fun bk16 w16 kb16 lw16 => ?_)
     try have kz11 := Nat.le_trans lz.size kb16
     try have nL11 := hL.ne kb16
     try replace lz := lz.trans lw16
     try replace hL := hL.later lw16
     try replace hvl := hvl.later lw16
     refine sS (fun w17 sw17 vw17 => ?_)
     try replace lz := lz.sto sw17 kz11
     try replace hL := hL.sto sw17 nL11
     refine sZ 1 ?_
     refine Wp.seq ?_
     have n11 := nL11.1.1
     have hbz : w.heap.size ≤ b1 := by omega
     obtain ⟨cs1, hvb⟩ := hL.var
     refine Wp.adopt 1007 hvb hbz rfl (show AllMem (fun d => d ≠ b1) _ from (by repeat (first | exact AllMem.args | exact AllMem.of (by simp only [AllL, and_true]; omega) | refine AllMem.put ?_ | refine AllMem.new ?_ (by omega) | refine AllMem.set ?_ (by omega)))) ?_
     refine wQ 2 ?_
     refine s_callH 1007 rfl rfl rfl (by kernel_rfl) rfl rfl (fun vr => (unlabels_any hb hL ⟨by omega, by omega⟩ ⟨_, _, rfl, hn⟩ (by rw [p1]; exact hB) (by rw [p1]; exact hJ) (by rw [p1]; exact hK) (by rw [p1]; exact hJ') (by rw [p1]; exact hK') hp hq)) ?_
     rintro v cs18 w18 ⟨rfl, R18, k18, _, hk18, hLq⟩ gw18 vw18
     try replace lz := lz.past gw18 hbz
     clear hL
     have hL := hLq
     clear hLq
     rw [ulV_ff]
     rw [p1, p2, p3, w3]
     refine sQ 5 ?_
     refine sO (fun bk19 w19 kb19 lw19 => ?_)
     try have kz13 := Nat.le_trans lz.size kb19
     try have nL13 := hL.ne kb19
     try replace lz := lz.trans lw19
     try replace hL := hL.later lw19
     try replace hvl := hvl.later lw19
     refine sO (fun bk20 w20 kb20 lw20 => ?_)
     try have kz14 := Nat.le_trans lz.size kb20
     try have nL14 := hL.ne kb20
     try replace lz := lz.trans lw20
     try replace hL := hL.later lw20
     try replace hvl := hvl.later lw20
     refine sS (fun w21 sw21 vw21 => ?_)
     try replace lz := lz.sto sw21 kz13
     try replace hL := hL.sto sw21 nL13
     refine sS (fun w22 sw22 vw22 => ?_)
     try replace lz := lz.sto sw22 kz14
     try replace hL := hL.sto sw22 nL14
     refine sZ 2 ?_
     refine qQ 1 ?_
     refine f_eql rfl rfl rfl rfl rfl (by omega) ?_
     refine sQ 8 ?_
     refine t_eql rfl rfl rfl rfl rfl (by omega) ?_
     refine sQ 3 ?_
     refine sT (rchange_any t hb (hv.later lz) hK) ?_
     rintro v w23 rfl lw23
     try replace lz := lz.trans lw23
     try replace hL := hL.later lw23
     try replace hvl := hvl.later lw23
     refine t_eql rfl rfl rfl rfl rfl (by omega) ?_
     refine sZ 3 ?_
     refine Wp.seq ?_
     refine wR [0, 1, 2, 3, 4, 5, 6, 7, 8, 9, 10, 11, 12, 13, 14, 15, 16, 17, 18, 19] ?_
     refine sT (unanswers_any) ?_
     rintro v w24 rfl lw24
     try replace lz := lz.trans lw24
     try replace hL := hL.later lw24
     try replace hvl := hvl.later lw24
     refine sQ 2 ?_
     refine f_eql rfl rfl rfl rfl rfl (by decide) ?_
     refine sM ?_
     refine s_eqv (c := true) rfl rfl rfl rfl rfl (fun _ => by kernel_rfl) (fun w => by rw [run_eql_bool]; rfl) ?_
     refine sQ 3 ?_
     refine t_eql rfl rfl rfl rfl rfl (by decide) ?_
     refine sM ?_
     refine s_eqv (c := true) rfl rfl rfl rfl rfl (fun _ => by kernel_rfl) (fun w => by rw [run_eql_bool]; rfl) ?_
     refine sQ 3 ?_
     refine t_eql rfl rfl rfl rfl rfl (by decide) ?_
     refine sM ?_
     refine s_eqv (c := true) rfl rfl rfl rfl rfl (fun _ => by kernel_rfl) (fun w => by rw [run_eql_bool]; rfl) ?_
     refine sZ 2 ?_
     refine Wp.ret ⟨.inr rfl, fun lW => ⟨_, res_tmp (P := Tryz.prog) rfl rfl, _, rfl, ?_, lW⟩⟩
     clear lW
     rfl

end Go.Proofs.YthihioakjpmnbaaGreat
