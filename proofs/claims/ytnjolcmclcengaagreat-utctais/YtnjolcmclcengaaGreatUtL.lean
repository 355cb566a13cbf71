/-
  Labels of UTC: what the laws of layer 13 share.
-/
import Derived.Test.YtnjolcmclcengaaGreatUtB
import Derived.Test.YtnjolcmclcengaaGreatLpL
namespace Go.Proofs.YtnjolcmclcengaaGreat
open Go.RowKit
set_option maxRecDepth 100000

theorem run_neq_label (a b c x y z : Int) (w : World) : (binOp .neq 26 (.agg #[.int .i64 a, .int .i64 b, .int .i64 c]) (.agg #[.int .i64 x, .int .i64 y, .int .i64 z])).run Tryz.prog w = .ok (.bool (!eqD a b c x y z)) w := by
  unfold eqD
  by_cases h1 : a = x <;> by_cases h2 : b = y <;> by_cases h3 : c = z <;> simp [go_sem, h1, h2, h3]
theorem run_neq_bool (a b : Bool) (w : World) : (binOp .neq 4 (.bool a) (.bool b)).run Tryz.prog w = .ok (.bool (a != b)) w := by
  cases a <;> cases b <;> simp [go_sem]
theorem tY_0 : Cut (pDay 41497) tY.es 1 := cut_dec (by decide) (by decide)
theorem why_1 : whyE tY.es 1 41498 86400 5 = 0 := by decide
theorem why_0 : whyE tY.es 1 41497 86400 0 = 6 := by decide
set_option maxHeartbeats 1000000 in
theorem utanswers_any {w : World} : Calls Tryz.prog 6 #[] w fun e w' => ∃ r, e = .returned r ∧ r = .bool true ∧ Below w.heap.size w w' := by
  have lz := Later.refl w
  have hcz := cut_of_tai tY_can tY_1 why_1
  obtain ⟨l1, l2⟩ := lab_again tY_can tY_1 why_1
  refine calls_Wp (args := []) (n := 55) Tryz.func6 rfl rfl (by simp) ?_
  refine Wp.seq ?_
  refine Wp.region [0] (by kernel_rfl) (by kernel_rfl) ?_
  refine s_assign rfl rfl rfl rfl ?_
  refine vOrd_nil ?_
  refine Wp.seq ?_
  refine Wp.region [0, 1, 2, 3, 4, 5, 6, 7, 8, 9] (by kernel_rfl) (by kernel_rfl) ?_
  refine s_build rfl rfl rfl rfl rfl (by kernel_rfl) ?_
  refine s_build rfl rfl rfl rfl rfl (by kernel_rfl) ?_
  refine s_bs (e := 72) (cs := [.int .i64 2272060800, .int .i64 10, .int .i64 2287785600, .int .i64 11]) rfl rfl rfl (fun _ => by kernel_rfl) ?_
  intro cb wb hcb lb hrow
  have hv := rowY hrow
  clear hrow
  replace lz := lz.trans lb
  try replace hL := hL.later lb
  have hz1 := lz.size
  refine s_build rfl rfl rfl rfl rfl (by kernel_rfl) ?_
  refine s_callT rfl rfl rfl (by kernel_rfl) rfl (new_yes tY tY_can in0 in0 hv) ?_
  rintro v w8 ⟨b1, c1, rfl, hc1, hb1, hL⟩ lw8
  replace lz := lz.trans lw8
  try replace hL := hL.later lw8
  refine s_move rfl rfl rfl rfl ?_
  refine s_extract rfl rfl rfl rfl rfl ?_
  refine s_extract rfl rfl rfl rfl rfl ?_
  refine s_assign rfl rfl rfl rfl ?_
  refine s_assign rfl rfl rfl rfl ?_
  refine vOrd_nil ?_
  refine Wp.seq ?_
  refine Wp.region [0, 1, 2] (by kernel_rfl) (by kernel_rfl) ?_
  refine s_build rfl rfl rfl rfl rfl (by kernel_rfl) ?_
  refine s_alloc rfl rfl rfl rfl rfl (fun bk9 w9 kb9 lw9 => ?_)
  have kz3 := Nat.le_trans lz.size kb9
  try have nL3 := hL.ne kb9
  replace lz := lz.trans lw9
  try replace hL := hL.later lw9
  refine s_store rfl rfl rfl rfl rfl rfl rfl (fun w10 sw10 vw10 => ?_)
  replace lz := lz.sto sw10 kz3
  try replace hL := hL.sto sw10 nL3
  refine vOrd_nil ?_
  refine Wp.seq ?_
  have hbz : w.heap.size ≤ b1 := by omega
  obtain ⟨cs1, hvb⟩ := hL.var
  refine Wp.adopt 1007 hvb hbz rfl (show AllMem (fun d => d ≠ b1) _ from (by repeat (first | exact AllMem.args | exact AllMem.of (by simp only [AllL, and_true]; omega) | refine AllMem.put ?_ | refine AllMem.new ?_ (by omega) | refine AllMem.set ?_ (by omega)))) ?_
  refine Wp.region [0, 1, 2, 3, 4, 5, 6, 7, 8] (by kernel_rfl) (by kernel_rfl) ?_
  refine s_move rfl rfl rfl rfl ?_
  refine s_load rfl rfl rfl rfl rfl rfl rfl ?_
  refine s_callH 1007 rfl rfl rfl (by kernel_rfl) rfl rfl (fun vr => (utai_any (d := 41498) (s := 86400) (a := 5) tY_can hL ⟨by omega, by omega⟩ ⟨by decide, by decide⟩ ⟨by decide, by decide⟩ ⟨by decide, by decide⟩ tY_1)) ?_
  rintro v cs11 w11 ⟨⟨tu11, rfl, th11, tl11, rfl, ht11⟩, R11, k11, _, hk11, hLq⟩ gw11 vw11
  replace lz := lz.past gw11 hbz
  clear hL
  have hL := hLq
  clear hLq
  rw [why_1]
  refine s_move rfl rfl rfl rfl ?_
  refine s_extract rfl rfl rfl rfl rfl ?_
  refine s_extract rfl rfl rfl rfl rfl ?_
  refine s_alloc rfl rfl rfl rfl rfl (fun bk12 w12 kb12 lw12 => ?_)
  have kz4 := Nat.le_trans lz.size kb12
  try have nL4 := hL.ne kb12
  replace lz := lz.trans lw12
  try replace hL := hL.later lw12
  refine s_store rfl rfl rfl rfl rfl rfl rfl (fun w13 sw13 vw13 => ?_)
  replace lz := lz.sto sw13 kz4
  try replace hL := hL.sto sw13 nL4
  refine s_assign rfl rfl rfl rfl ?_
  refine vOrd_nil ?_
  refine Wp.seq ?_
  refine Wp.region [0, 1, 2, 3, 4, 5, 6, 7, 8] (by kernel_rfl) (by kernel_rfl) ?_
  refine s_move rfl rfl rfl rfl ?_
  refine s_load rfl rfl rfl rfl rfl rfl rfl ?_
  refine s_callH 1007 rfl rfl rfl (by kernel_rfl) rfl rfl (fun vr => (ulabel_any tY_can hL ⟨by omega, by omega⟩ ⟨_, _, rfl, ht11⟩ hcz)) ?_
  rintro v cs14 w14 ⟨rfl, R14, k14, _, hk14, hLq⟩ gw14 vw14
  replace lz := lz.past gw14 hbz
  clear hL
  have hL := hLq
  clear hLq
  rw [l1, l2]
  refine s_move rfl rfl rfl rfl ?_
  refine s_extract rfl rfl rfl rfl rfl ?_
  refine s_extract rfl rfl rfl rfl rfl ?_
  refine s_alloc rfl rfl rfl rfl rfl (fun bk15 w15 kb15 lw15 => ?_)
  have kz6 := Nat.le_trans lz.size kb15
  try have nL6 := hL.ne kb15
  replace lz := lz.trans lw15
  try replace hL := hL.later lw15
  refine s_store rfl rfl rfl rfl rfl rfl rfl (fun w16 sw16 vw16 => ?_)
  replace lz := lz.sto sw16 kz6
  try replace hL := hL.sto sw16 nL6
  refine s_assign rfl rfl rfl rfl ?_
  refine vOrd_nil ?_
  refine Wp.seq ?_
  refine Wp.region [0, 1, 2, 3, 4, 5, 6, 7, 8, 9, 10, 11, 12, 13, 14, 15, 16, 17, 18, 19, 20, 21, 22, 23, 24, 25, 26] (by kernel_rfl) (by kernel_rfl) ?_
  refine s_move rfl rfl rfl rfl ?_
  refine t_eql rfl rfl rfl rfl rfl (by omega) ?_
  refine s_move rfl rfl rfl rfl ?_
  refine s_move rfl rfl rfl rfl ?_
  refine t_eql rfl rfl rfl rfl rfl (by decide) ?_
  refine s_pick rfl rfl rfl rfl rfl ?_
  refine s_move rfl rfl rfl rfl ?_
  refine s_move rfl rfl rfl rfl ?_
  refine t_eql rfl rfl rfl rfl rfl (by decide) ?_
  refine s_pick rfl rfl rfl rfl rfl ?_
  refine s_move rfl rfl rfl rfl ?_
  refine s_load rfl rfl rfl rfl rfl rfl rfl ?_
  refine s_load rfl rfl rfl rfl rfl rfl rfl ?_
  refine s_eqv (c := true) rfl rfl rfl rfl rfl (fun _ => by kernel_rfl) (fun w => by rw [run_eql_label, eqD_same]) ?_
  refine s_pick rfl rfl rfl rfl rfl ?_
  refine s_move rfl rfl rfl rfl ?_
  refine s_move rfl rfl rfl rfl ?_
  refine s_load rfl rfl rfl rfl rfl rfl rfl ?_
  refine s_callH 1007 rfl rfl rfl (by kernel_rfl) rfl rfl (fun vr => (uexists_any (d := 41498) (s := 86400) (a := 5) tY_can hL ⟨by omega, by omega⟩ ⟨by decide, by decide⟩ ⟨by decide, by decide⟩ ⟨by decide, by decide⟩ tY_1)) ?_
  rintro v cs18 w18 ⟨rfl, R18, k18, _, hk18, hLq⟩ gw18 vw18
  replace lz := lz.past gw18 hbz
  clear hL
  have hL := hLq
  clear hLq
  rw [show decide (whyE tY.es 1 41498 86400 5 = 0) = true from decide_eq_true why_1]
  refine s_pick rfl rfl rfl rfl rfl ?_
  refine s_move rfl rfl rfl rfl ?_
  refine s_move rfl rfl rfl rfl ?_
  refine s_build rfl rfl rfl rfl rfl (by kernel_rfl) ?_
  refine s_callH 1007 rfl rfl rfl (by kernel_rfl) rfl rfl (fun vr => (uexists_any (d := 41497) (s := 86400) (a := 0) tY_can hL ⟨by omega, by omega⟩ ⟨by decide, by decide⟩ ⟨by decide, by decide⟩ ⟨by decide, by decide⟩ tY_0)) ?_
  rintro v cs19 w19 ⟨rfl, R19, k19, _, hk19, hLq⟩ gw19 vw19
  replace lz := lz.past gw19 hbz
  clear hL
  have hL := hLq
  clear hLq
  rw [show decide (whyE tY.es 1 41497 86400 0 = 0) = false from decide_eq_false (by rw [why_0]; decide)]
  refine s_not rfl rfl rfl rfl ?_
  refine s_pick rfl rfl rfl rfl rfl ?_
  refine s_assign rfl rfl rfl rfl ?_
  refine vOrd_nil ?_
  refine Wp.ret ⟨.inr rfl, fun lW => ⟨_, res_tmp (P := Tryz.prog) rfl rfl, _, rfl, ?_, lW⟩⟩
  clear lW
  rfl
end Go.Proofs.YtnjolcmclcengaaGreat
