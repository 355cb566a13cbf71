/-
  Rates of old: what the laws of layer 14 share.
-/
import Derived.Test.YtokpneglldfmjaaRubB
import Derived.Test.YtokpneglldfmjaaVcN
namespace Go.Proofs.Ytokpneglldfmjaa
open Go.RowKit
set_option maxRecDepth 100000

theorem cutP_dec {α : Type} {p : α → Bool} {es : List α} {k : Nat} (hk : k ≤ es.length) (h : (List.range es.length).all (fun j => match es[j]? with | some e => p e == decide (j < k) | none => true) = true) : CutP p es k :=
  ⟨hk, fun j e he => by
    have hl := (List.getElem?_eq_some_iff.1 he).1
    have := List.all_eq_true.1 h j (by simpa using hl)
    rw [he] at this
    simpa using this⟩
theorem pub_may : mayS pubS 41317 10 = true := by decide +kernel
theorem pub_1 : CutP (pSD 37300) pubS 1 := cutP_dec (by decide) (by decide)
theorem pub_13 : CutP (pSD 41316) pubS 13 := cutP_dec (by decide) (by decide)
theorem pub_e : rE pubS 41317 10 1 37300 0 0 = 0 := by decide +kernel
theorem pub_t : rT pubS 41317 10 1 37300 0 0 = cnt 37300 0 0 + 1422818000000000000 := by decide +kernel
theorem pub_n : rE pubS 41317 10 13 41316 86400 107759000000000000 = 6 := by decide +kernel
theorem pub_at {w : World} {c : Nat} (h : Var w c (segC pubS)) : SegAt w (.slice (some ⟨c, 0, none⟩) 13 13) pubS := seg_row (n := 13) h rfl rfl (Nat.le_refl _) (fun _ _ hx => pub_64 hx)
set_option maxHeartbeats 1000000 in
theorem rbanswers_any {w : World} : Calls Try.prog 13 #[] w fun e w' => ∃ r, e = .returned r ∧ r = .bool true ∧ Below w.heap.size w w' := by
  have pz : Later w w ∧ True := ⟨Later.refl w, trivial⟩
  obtain ⟨z1, z2, z3⟩ := rub_again pub_may pub_1 pub_e
  have hm := pub_may
  refine calls_Wp (args := []) (n := 60) Try.func13 rfl rfl (by simp) ?_
  refine Wp.seq ?_
  refine Wp.region [0] (by kernel_rfl) (by kernel_rfl) ?_
  refine s_assign rfl rfl rfl rfl ?_
  refine vOrd_nil ?_
  refine Wp.seq ?_
  refine Wp.region [0, 1, 2, 3, 4, 5, 6] (by kernel_rfl) (by kernel_rfl) ?_
  refine s_callT rfl rfl rfl (by kernel_rfl) rfl (psegs_any) ?_
  rintro v w1 ⟨sc, rfl, hsc, hsv⟩ lw1
  replace pz := And.intro (pz.1.trans lw1) trivial
  try replace hR := hR.later lw1
  refine s_callT rfl rfl rfl (by kernel_rfl) rfl (pnew_yes pubS (by decide) ⟨by decide, by decide⟩ ⟨by decide, by decide⟩ pub_may (pub_at hsv)) ?_
  rintro v w2 ⟨b1, bs1, rfl, hb1, hR⟩ lw2
  replace pz := And.intro (pz.1.trans lw2) trivial
  try replace hR := hR.later lw2
  refine s_move rfl rfl rfl rfl ?_
  refine s_extract rfl rfl rfl rfl rfl ?_
  refine s_extract rfl rfl rfl rfl rfl ?_
  refine s_assign rfl rfl rfl rfl ?_
  refine s_assign rfl rfl rfl rfl ?_
  refine vOrd_nil ?_
  refine Wp.seq ?_
  refine Wp.region [0, 1, 2, 3, 4, 5, 6, 7, 8] (by kernel_rfl) (by kernel_rfl) ?_
  refine s_move rfl rfl rfl rfl ?_
  refine s_build rfl rfl rfl rfl rfl (by kernel_rfl) ?_
  refine s_callT rfl rfl rfl (by kernel_rfl) rfl (ptai_any hR hm ⟨by decide, by decide⟩ ⟨by decide, by decide⟩ ⟨by decide, by decide⟩ pub_1) ?_
  rintro v w3 ⟨nu, rfl, nh, nl, rfl, hn⟩ lw3
  replace pz := And.intro (pz.1.trans lw3) trivial
  try replace hR := hR.later lw3
  rw [pub_e]
  refine s_move rfl rfl rfl rfl ?_
  refine s_extract rfl rfl rfl rfl rfl ?_
  refine s_extract rfl rfl rfl rfl rfl ?_
  refine s_alloc rfl rfl rfl rfl rfl (fun bk4 w4 kb4 lw4 => ?_)
  have kz3 := Nat.le_trans pz.1.size kb4
  replace pz := And.intro (pz.1.trans lw4) trivial
  try have nR3 := hR.ne kb4
  try replace hR := hR.later lw4
  refine s_store rfl rfl rfl rfl rfl rfl rfl (fun w5 sw5 vw5 => ?_)
  replace pz := And.intro (pz.1.sto sw5 kz3) trivial
  try replace hR := hR.sto sw5 nR3
  refine s_assign rfl rfl rfl rfl ?_
  refine vOrd_nil ?_
  refine Wp.seq ?_
  refine Wp.region [0, 1, 2, 3, 4, 5, 6, 7, 8] (by kernel_rfl) (by kernel_rfl) ?_
  refine s_move rfl rfl rfl rfl ?_
  refine s_load rfl rfl rfl rfl rfl rfl rfl ?_
  refine s_callT rfl rfl rfl (by kernel_rfl) rfl (plabel_any hR hm ⟨_, _, rfl, hn⟩ z1) ?_
  rintro v w6 rfl lw6
  replace pz := And.intro (pz.1.trans lw6) trivial
  try replace hR := hR.later lw6
  rw [z2, z3]
  refine s_move rfl rfl rfl rfl ?_
  refine s_extract rfl rfl rfl rfl rfl ?_
  refine s_extract rfl rfl rfl rfl rfl ?_
  refine s_alloc rfl rfl rfl rfl rfl (fun bk7 w7 kb7 lw7 => ?_)
  have kz5 := Nat.le_trans pz.1.size kb7
  replace pz := And.intro (pz.1.trans lw7) trivial
  try have nR5 := hR.ne kb7
  try replace hR := hR.later lw7
  refine s_store rfl rfl rfl rfl rfl rfl rfl (fun w8 sw8 vw8 => ?_)
  replace pz := And.intro (pz.1.sto sw8 kz5) trivial
  try replace hR := hR.sto sw8 nR5
  refine s_assign rfl rfl rfl rfl ?_
  refine vOrd_nil ?_
  refine Wp.seq ?_
  refine Wp.region [0, 1, 2, 3, 4, 5, 6, 7, 8] (by kernel_rfl) (by kernel_rfl) ?_
  refine s_move rfl rfl rfl rfl ?_
  refine s_build rfl rfl rfl rfl rfl (by kernel_rfl) ?_
  refine s_callT rfl rfl rfl (by kernel_rfl) rfl (ptai_any hR hm ⟨by decide, by decide⟩ ⟨by decide, by decide⟩ ⟨by decide, by decide⟩ pub_13) ?_
  rintro v w9 ⟨ou, rfl, oh, ol, rfl, hon⟩ lw9
  replace pz := And.intro (pz.1.trans lw9) trivial
  try replace hR := hR.later lw9
  rw [pub_n]
  refine s_move rfl rfl rfl rfl ?_
  refine s_extract rfl rfl rfl rfl rfl ?_
  refine s_extract rfl rfl rfl rfl rfl ?_
  refine s_alloc rfl rfl rfl rfl rfl (fun bk10 w10 kb10 lw10 => ?_)
  have kz7 := Nat.le_trans pz.1.size kb10
  replace pz := And.intro (pz.1.trans lw10) trivial
  try have nR7 := hR.ne kb10
  try replace hR := hR.later lw10
  refine s_store rfl rfl rfl rfl rfl rfl rfl (fun w11 sw11 vw11 => ?_)
  replace pz := And.intro (pz.1.sto sw11 kz7) trivial
  try replace hR := hR.sto sw11 nR7
  refine s_assign rfl rfl rfl rfl ?_
  refine vOrd_nil ?_
  refine Wp.seq ?_
  refine Wp.region [0, 1, 2, 3, 4, 5, 6, 7, 8, 9, 10, 11, 12, 13, 14, 15, 16, 17, 18, 19, 20, 21, 22, 23, 24, 25, 26, 27, 28] (by kernel_rfl) (by kernel_rfl) ?_
  refine s_move rfl rfl rfl rfl ?_
  refine t_eql rfl rfl rfl rfl rfl (by omega) ?_
  refine s_move rfl rfl rfl rfl ?_
  refine s_move rfl rfl rfl rfl ?_
  refine t_eql rfl rfl rfl rfl rfl (by omega) ?_
  refine s_pick rfl rfl rfl rfl rfl ?_
  refine s_move rfl rfl rfl rfl ?_
  refine s_load rfl rfl rfl rfl rfl rfl rfl ?_
  refine s_callT rfl rfl rfl (by kernel_rfl) rfl (c_rof ⟨_, _, rfl, hn⟩ _) ?_
  rintro v w12 hr lw12
  replace pz := And.intro (pz.1.trans lw12) trivial
  try replace hR := hR.later lw12
  refine s_build rfl rfl rfl rfl rfl (by kernel_rfl) ?_
  refine s_callT rfl rfl rfl (by kernel_rfl) rfl (rjoin_any (d := 37300) (s := 0) (a := 0) ⟨by decide, by decide⟩ ⟨by decide, by decide⟩ ⟨by decide, by decide⟩ _) ?_
  rintro v w13 h1 lw13
  replace pz := And.intro (pz.1.trans lw13) trivial
  try replace hR := hR.later lw13
  refine s_callT rfl rfl rfl (by kernel_rfl) rfl (c_rint 1422818000000000000 (by decide) (by decide) _) ?_
  rintro v w14 h2 lw14
  replace pz := And.intro (pz.1.trans lw14) trivial
  try replace hR := hR.later lw14
  refine s_callT rfl rfl rfl (by kernel_rfl) rfl (c_add (h1.keeps (by repeat (first | exact Keeps.refl _ | refine Keeps.trans ?_ (Keeps.later (by assumption)) | refine Keeps.trans ?_ (Keeps.stored (by assumption) (by assumption) rfl) | refine Keeps.trans ?_ (Keeps.fresh (by assumption) (by assumption) (by assumption))))) (h2.keeps (by repeat (first | exact Keeps.refl _ | refine Keeps.trans ?_ (Keeps.later (by assumption)) | refine Keeps.trans ?_ (Keeps.stored (by assumption) (by assumption) rfl) | refine Keeps.trans ?_ (Keeps.fresh (by assumption) (by assumption) (by assumption))))) (by decide) (by decide)) ?_
  rintro v w15 h3 lw15
  replace pz := And.intro (pz.1.trans lw15) trivial
  try replace hR := hR.later lw15
  refine s_callT rfl rfl rfl (by kernel_rfl) rfl (c_same_yes (hr.keeps (by repeat (first | exact Keeps.refl _ | refine Keeps.trans ?_ (Keeps.later (by assumption)) | refine Keeps.trans ?_ (Keeps.stored (by assumption) (by assumption) rfl) | refine Keeps.trans ?_ (Keeps.fresh (by assumption) (by assumption) (by assumption))))) ((h3.eq pub_t.symm).keeps (by repeat (first | exact Keeps.refl _ | refine Keeps.trans ?_ (Keeps.later (by assumption)) | refine Keeps.trans ?_ (Keeps.stored (by assumption) (by assumption) rfl) | refine Keeps.trans ?_ (Keeps.fresh (by assumption) (by assumption) (by assumption))))) (by decide) (by decide)) ?_
  rintro v w16 rfl lw16
  replace pz := And.intro (pz.1.trans lw16) trivial
  try replace hR := hR.later lw16
  refine s_pick rfl rfl rfl rfl rfl ?_
  refine s_move rfl rfl rfl rfl ?_
  refine s_move rfl rfl rfl rfl ?_
  refine t_eql rfl rfl rfl rfl rfl (by decide) ?_
  refine s_pick rfl rfl rfl rfl rfl ?_
  refine s_move rfl rfl rfl rfl ?_
  refine s_load rfl rfl rfl rfl rfl rfl rfl ?_
  refine s_build rfl rfl rfl rfl rfl (by kernel_rfl) ?_
  refine s_eqv (c := true) rfl rfl rfl rfl rfl (fun _ => by kernel_rfl) (fun w => by rw [run_eql_label, eqD_same]) ?_
  refine s_pick rfl rfl rfl rfl rfl ?_
  refine s_move rfl rfl rfl rfl ?_
  refine s_move rfl rfl rfl rfl ?_
  refine t_eql rfl rfl rfl rfl rfl (by decide) ?_
  refine s_pick rfl rfl rfl rfl rfl ?_
  refine s_assign rfl rfl rfl rfl ?_
  refine vOrd_nil ?_
  refine Wp.ret ⟨.inr rfl, fun lW => ⟨_, res_tmp (P := Try.prog) rfl rfl, _, rfl, ?_, lW⟩⟩
  clear lW
  rfl
theorem rbbefore_any (d s a d2 s2 a2 : Int) {w : World} : Calls Try.prog 24 #[.agg #[.int .i64 d, .int .i64 s, .int .i64 a], .agg #[.int .i64 d2, .int .i64 s2, .int .i64 a2]] w fun e w' => ∃ r, e = .returned r ∧ r = .bool (decide (d < d2 ∨ d = d2 ∧ (s < s2 ∨ s = s2 ∧ a < a2))) ∧ Below w.heap.size w w' := by
  refine calls_Wp (args := [_, _]) (n := 30) Try.func24 rfl rfl (by simp) ?_
  refine Wp.seq ?_
  refine Wp.region [0, 1, 2] (by kernel_rfl) (by kernel_rfl) ?_
  refine s_box rfl rfl rfl rfl rfl rfl (fun bk1 w1 kb1 lw1 => ?_)
  refine s_box rfl rfl rfl rfl rfl rfl (fun bk2 w2 kb2 lw2 => ?_)
  refine s_assign rfl rfl rfl rfl ?_
  refine vOrd_nil ?_
  refine Wp.seq ?_
  refine Wp.seq ?_
  refine Wp.region [0, 1, 2, 3, 4] (by kernel_rfl) (by kernel_rfl) ?_
  refine s_field 0 rfl rfl rfl rfl rfl ?_
  refine s_load rfl rfl rfl rfl rfl rfl rfl ?_
  refine s_field 0 rfl rfl rfl rfl rfl ?_
  refine s_load rfl rfl rfl rfl rfl rfl rfl ?_
  refine p_neq rfl rfl rfl rfl rfl (fun h9 => ?_) (fun h9 => ?_)
  · refine vOrd_nil ?_
    refine Wp.condT rfl rfl ?_
    refine Wp.seq ?_
    refine Wp.region [0, 1, 2, 3, 4, 5] (by kernel_rfl) (by kernel_rfl) ?_
    refine s_field 0 rfl rfl rfl rfl rfl ?_
    refine s_load rfl rfl rfl rfl rfl rfl rfl ?_
    refine s_field 0 rfl rfl rfl rfl rfl ?_
    refine s_load rfl rfl rfl rfl rfl rfl rfl ?_
    refine p_lss rfl rfl rfl rfl rfl (fun h14 => ?_) (fun h14 => ?_)
    · refine s_assign rfl rfl rfl rfl ?_
      refine vOrd_nil ?_
      refine Wp.ret ⟨.inr rfl, fun lW => ⟨_, res_tmp (P := Try.prog) rfl rfl, _, rfl, ?_, lW⟩⟩
      clear lW
      rw [decide_eq_true (by omega)]
    · refine s_assign rfl rfl rfl rfl ?_
      refine vOrd_nil ?_
      refine Wp.ret ⟨.inr rfl, fun lW => ⟨_, res_tmp (P := Try.prog) rfl rfl, _, rfl, ?_, lW⟩⟩
      clear lW
      rw [decide_eq_false (by omega)]
  · refine vOrd_nil ?_
    refine Wp.condF rfl rfl ?_
    refine Wp.skip ?_
    refine Wp.seq ?_
    refine Wp.seq ?_
    refine Wp.region [0, 1, 2, 3, 4] (by kernel_rfl) (by kernel_rfl) ?_
    refine s_field 1 rfl rfl rfl rfl rfl ?_
    refine s_load rfl rfl rfl rfl rfl rfl rfl ?_
    refine s_field 1 rfl rfl rfl rfl rfl ?_
    refine s_load rfl rfl rfl rfl rfl rfl rfl ?_
    refine p_neq rfl rfl rfl rfl rfl (fun h19 => ?_) (fun h19 => ?_)
    · refine vOrd_nil ?_
      refine Wp.condT rfl rfl ?_
      refine Wp.seq ?_
      refine Wp.region [0, 1, 2, 3, 4, 5] (by kernel_rfl) (by kernel_rfl) ?_
      refine s_field 1 rfl rfl rfl rfl rfl ?_
      refine s_load rfl rfl rfl rfl rfl rfl rfl ?_
      refine s_field 1 rfl rfl rfl rfl rfl ?_
      refine s_load rfl rfl rfl rfl rfl rfl rfl ?_
      refine p_lss rfl rfl rfl rfl rfl (fun h24 => ?_) (fun h24 => ?_)
      · refine s_assign rfl rfl rfl rfl ?_
        refine vOrd_nil ?_
        refine Wp.ret ⟨.inr rfl, fun lW => ⟨_, res_tmp (P := Try.prog) rfl rfl, _, rfl, ?_, lW⟩⟩
        clear lW
        rw [decide_eq_true (by omega)]
      · refine s_assign rfl rfl rfl rfl ?_
        refine vOrd_nil ?_
        refine Wp.ret ⟨.inr rfl, fun lW => ⟨_, res_tmp (P := Try.prog) rfl rfl, _, rfl, ?_, lW⟩⟩
        clear lW
        rw [decide_eq_false (by omega)]
    · refine vOrd_nil ?_
      refine Wp.condF rfl rfl ?_
      refine Wp.skip ?_
      refine Wp.seq ?_
      refine Wp.region [0, 1, 2, 3, 4, 5] (by kernel_rfl) (by kernel_rfl) ?_
      refine s_field 2 rfl rfl rfl rfl rfl ?_
      refine s_load rfl rfl rfl rfl rfl rfl rfl ?_
      refine s_field 2 rfl rfl rfl rfl rfl ?_
      refine s_load rfl rfl rfl rfl rfl rfl rfl ?_
      refine p_lss rfl rfl rfl rfl rfl (fun h29 => ?_) (fun h29 => ?_)
      · refine s_assign rfl rfl rfl rfl ?_
        refine vOrd_nil ?_
        refine Wp.ret ⟨.inr rfl, fun lW => ⟨_, res_tmp (P := Try.prog) rfl rfl, _, rfl, ?_, lW⟩⟩
        clear lW
        rw [decide_eq_true (by omega)]
      · refine s_assign rfl rfl rfl rfl ?_
        refine vOrd_nil ?_
        refine Wp.ret ⟨.inr rfl, fun lW => ⟨_, res_tmp (P := Try.prog) rfl rfl, _, rfl, ?_, lW⟩⟩
        clear lW
        rw [decide_eq_false (by omega)]
end Go.Proofs.Ytokpneglldfmjaa
