/-
  Rates of old: the walks of the laws RubberBack and RubberRises of layer 14.
-/
import Derived.Test.YtokpneglldfmjaaSegL
namespace Go.Proofs.Ytokpneglldfmjaa
open Go.RowKit
set_option maxRecDepth 100000

set_option maxHeartbeats 2000000 in
theorem law_rbback (l : List Sg) (hlc : l.length ≤ 9223372036854775807) {day off : Int} (hd : I64 day) (ho : I64 off) {v : Value} {w : World} (hv : SegAt w v l) {d s a : Int} (hd6 : I64 d) (hs6 : I64 s) (ha6 : I64 a) {nh nl t : Int} (hz : WideIs nh nl t) : Calls Try.prog 7 #[.agg #[v, .int .i64 day, .int .i64 off], .agg #[.int .i64 d, .int .i64 s, .int .i64 a], .agg #[.int .i64 nh, .int .u64 nl]] w fun e w' => ∃ r, e = .returned r ∧ r = .bool true ∧ Below w.heap.size w w' := by
  obtain ⟨a0, c0, rfl⟩ := hv.form
  have pz : Later w w ∧ True := ⟨Later.refl w, trivial⟩
  cases hm : mayS l day off with
  | false =>
    refine calls_Wp (args := [_, _, _]) (n := 87) Try.func7 rfl rfl (by simp) ?_
    refine Wp.seq ?_
    refine Wp.region [0, 1, 2, 3] (by kernel_rfl) (by kernel_rfl) ?_
    refine s_box rfl rfl rfl rfl rfl rfl (fun bk1 w1 kb1 lw1 => ?_)
    have kz3 := Nat.le_trans pz.1.size kb1
    replace pz := And.intro (pz.1.trans lw1) trivial
    try have nR3 := hR.ne kb1
    try replace hR := hR.later lw1
    refine s_box rfl rfl rfl rfl rfl rfl (fun bk2 w2 kb2 lw2 => ?_)
    have kz4 := Nat.le_trans pz.1.size kb2
    replace pz := And.intro (pz.1.trans lw2) trivial
    try have nR4 := hR.ne kb2
    try replace hR := hR.later lw2
    refine s_box rfl rfl rfl rfl rfl rfl (fun bk3 w3 kb3 lw3 => ?_)
    have kz5 := Nat.le_trans pz.1.size kb3
    replace pz := And.intro (pz.1.trans lw3) trivial
    try have nR5 := hR.ne kb3
    try replace hR := hR.later lw3
    refine s_assign rfl rfl rfl rfl ?_
    refine vOrd_nil ?_
    refine Wp.seq ?_
    refine Wp.region [0, 1, 2, 3, 4, 5, 6, 7, 8, 9, 10, 11] (by kernel_rfl) (by kernel_rfl) ?_
    refine s_field 0 rfl rfl rfl rfl rfl ?_
    refine s_load rfl rfl rfl rfl rfl rfl rfl ?_
    refine s_field 1 rfl rfl rfl rfl rfl ?_
    refine s_load rfl rfl rfl rfl rfl rfl rfl ?_
    refine s_field 2 rfl rfl rfl rfl rfl ?_
    refine s_load rfl rfl rfl rfl rfl rfl rfl ?_
    refine s_callT rfl rfl rfl (by kernel_rfl) rfl (pnew_no l hlc hd ho hm (hv.later pz.1)) ?_
    rintro v w4 rfl lw4
    replace pz := And.intro (pz.1.trans lw4) trivial
    try replace hR := hR.later lw4
    refine s_move rfl rfl rfl rfl ?_
    refine s_extract rfl rfl rfl rfl rfl ?_
    refine s_extract rfl rfl rfl rfl rfl ?_
    refine s_assign rfl rfl rfl rfl ?_
    refine s_assign rfl rfl rfl rfl ?_
    refine vOrd_nil ?_
    refine Wp.seq ?_
    refine Wp.seq ?_
    refine Wp.region [0, 1] (by kernel_rfl) (by kernel_rfl) ?_
    refine s_move rfl rfl rfl rfl ?_
    refine t_neq rfl rfl rfl rfl rfl (by omega) ?_
    refine vOrd_nil ?_
    refine Wp.condT rfl rfl ?_
    refine Wp.seq ?_
    refine Wp.region [0, 1] (by kernel_rfl) (by kernel_rfl) ?_
    refine s_callT rfl rfl rfl (by kernel_rfl) rfl (rbanswers_any) ?_
    rintro v w5 rfl lw5
    replace pz := And.intro (pz.1.trans lw5) trivial
    try replace hR := hR.later lw5
    refine s_assign rfl rfl rfl rfl ?_
    refine vOrd_nil ?_
    refine Wp.ret ⟨.inr rfl, fun lW => ⟨_, res_tmp (P := Try.prog) rfl rfl, _, rfl, ?_, lW⟩⟩
    clear lW
    rfl
  | true =>
    obtain ⟨K, hcut⟩ := cutS_day hm d
    obtain ⟨K2, hcut2⟩ := cutS_at hm t
    obtain ⟨E, hE⟩ : ∃ E, rE l day off K d s a = E := ⟨_, rfl⟩
    obtain ⟨F, hF⟩ : ∃ F, lE l day off K2 t = F := ⟨_, rfl⟩
    obtain ⟨Z, hZ⟩ : ∃ Z, rT l day off K d s a = Z := ⟨_, rfl⟩
    by_cases h0 : F = 0
    · obtain ⟨kc1, kc2, kc3⟩ := lab_tai hm hcut2 (hF.trans h0)
      have hlu := (lE_ok (l := l) (day := day) (off := off) (lE_zero (hF.trans h0)).1 (lE_zero (hF.trans h0)).2).2
      have hU' := isU_iff.1 (rE_zero kc2).1
      have hd2 := (rE_zero kc2).2.2.1
      have hdin := (may0_iff.1 (may_spec.1 hm).1).2.1
      obtain ⟨x2, hx2, -, hlow, -⟩ := rE_facts hm kc1 kc2
      have hsx := sgIn_iff.1 (may_at hm hx2).1
      obtain ⟨x, hx⟩ : ∃ x, lD l day K2 t = x := ⟨_, rfl⟩
      obtain ⟨y, hy⟩ : ∃ y, lS l day K2 t = y := ⟨_, rfl⟩
      obtain ⟨q, hq⟩ : ∃ q, attZ (gZ (sgA l K2) t) = q := ⟨_, rfl⟩
      rw [hx, hy, hq] at kc2 kc3 hlu
      rw [hx] at kc1 hlow hd2
      rw [hy, hq] at hU'
      refine calls_Wp (args := [_, _, _]) (n := 87) Try.func7 rfl rfl (by simp) ?_
      refine Wp.seq ?_
      refine Wp.region [0, 1, 2, 3] (by kernel_rfl) (by kernel_rfl) ?_
      refine s_box rfl rfl rfl rfl rfl rfl (fun bk1 w1 kb1 lw1 => ?_)
      have kz3 := Nat.le_trans pz.1.size kb1
      replace pz := And.intro (pz.1.trans lw1) trivial
      try have nR3 := hR.ne kb1
      try replace hR := hR.later lw1
      refine s_box rfl rfl rfl rfl rfl rfl (fun bk2 w2 kb2 lw2 => ?_)
      have kz4 := Nat.le_trans pz.1.size kb2
      replace pz := And.intro (pz.1.trans lw2) trivial
      try have nR4 := hR.ne kb2
      try replace hR := hR.later lw2
      refine s_box rfl rfl rfl rfl rfl rfl (fun bk3 w3 kb3 lw3 => ?_)
      have kz5 := Nat.le_trans pz.1.size kb3
      replace pz := And.intro (pz.1.trans lw3) trivial
      try have nR5 := hR.ne kb3
      try replace hR := hR.later lw3
      refine s_assign rfl rfl rfl rfl ?_
      refine vOrd_nil ?_
      refine Wp.seq ?_
      refine Wp.region [0, 1, 2, 3, 4, 5, 6, 7, 8, 9, 10, 11] (by kernel_rfl) (by kernel_rfl) ?_
      refine s_field 0 rfl rfl rfl rfl rfl ?_
      refine s_load rfl rfl rfl rfl rfl rfl rfl ?_
      refine s_field 1 rfl rfl rfl rfl rfl ?_
      refine s_load rfl rfl rfl rfl rfl rfl rfl ?_
      refine s_field 2 rfl rfl rfl rfl rfl ?_
      refine s_load rfl rfl rfl rfl rfl rfl rfl ?_
      refine s_callT rfl rfl rfl (by kernel_rfl) rfl (pnew_yes l hlc hd ho hm (hv.later pz.1)) ?_
      rintro v w4 ⟨b1, bs1, rfl, hb1, hR⟩ lw4
      replace pz := And.intro (pz.1.trans lw4) trivial
      try replace hR := hR.later lw4
      refine s_move rfl rfl rfl rfl ?_
      refine s_extract rfl rfl rfl rfl rfl ?_
      refine s_extract rfl rfl rfl rfl rfl ?_
      refine s_assign rfl rfl rfl rfl ?_
      refine s_assign rfl rfl rfl rfl ?_
      refine vOrd_nil ?_
      refine Wp.seq ?_
      refine Wp.seq ?_
      refine Wp.region [0, 1] (by kernel_rfl) (by kernel_rfl) ?_
      refine s_move rfl rfl rfl rfl ?_
      refine f_neq rfl rfl rfl rfl rfl (by omega) ?_
      refine vOrd_nil ?_
      refine Wp.condF rfl rfl ?_
      refine Wp.skip ?_
      refine Wp.seq ?_
      refine Wp.seq ?_
      refine Wp.region [0, 1, 2, 3, 4, 5, 6, 7, 8] (by kernel_rfl) (by kernel_rfl) ?_
      refine s_move rfl rfl rfl rfl ?_
      refine s_load rfl rfl rfl rfl rfl rfl rfl ?_
      refine s_callT rfl rfl rfl (by kernel_rfl) rfl (ptai_any hR hm hd6 hs6 ha6 hcut) ?_
      rintro v w5 ⟨nu, rfl, mh, ml, rfl, hmm⟩ lw5
      replace pz := And.intro (pz.1.trans lw5) trivial
      try replace hR := hR.later lw5
      rw [hE]
      rw [hZ] at hmm
      refine s_move rfl rfl rfl rfl ?_
      refine s_extract rfl rfl rfl rfl rfl ?_
      refine s_extract rfl rfl rfl rfl rfl ?_
      refine s_alloc rfl rfl rfl rfl rfl (fun bk6 w6 kb6 lw6 => ?_)
      have kz9 := Nat.le_trans pz.1.size kb6
      replace pz := And.intro (pz.1.trans lw6) trivial
      try have nR9 := hR.ne kb6
      try replace hR := hR.later lw6
      refine s_store rfl rfl rfl rfl rfl rfl rfl (fun w7 sw7 vw7 => ?_)
      replace pz := And.intro (pz.1.sto sw7 kz9) trivial
      try replace hR := hR.sto sw7 nR9
      refine s_assign rfl rfl rfl rfl ?_
      refine vOrd_nil ?_
      refine Wp.seq ?_
      refine Wp.region [0, 1] (by kernel_rfl) (by kernel_rfl) ?_
      refine s_move rfl rfl rfl rfl ?_
      refine p_eql rfl rfl rfl rfl rfl (fun h38 => ?_) (fun h38 => ?_)
      · obtain rfl : E = 0 := by omega
        obtain ⟨z1, z2, z3⟩ := rub_again hm hcut hE
        rw [hZ] at z1 z2 z3
        refine vOrd_nil ?_
        refine Wp.condT rfl rfl ?_
        refine Wp.seq ?_
        refine Wp.region [0, 1, 2, 3, 4, 5, 6, 7, 8] (by kernel_rfl) (by kernel_rfl) ?_
        refine s_move rfl rfl rfl rfl ?_
        refine s_load rfl rfl rfl rfl rfl rfl rfl ?_
        refine s_callT rfl rfl rfl (by kernel_rfl) rfl (plabel_any hR hm ⟨_, _, rfl, hmm⟩ z1) ?_
        rintro v w8 rfl lw8
        replace pz := And.intro (pz.1.trans lw8) trivial
        try replace hR := hR.later lw8
        rw [z2, z3]
        refine s_move rfl rfl rfl rfl ?_
        refine s_extract rfl rfl rfl rfl rfl ?_
        refine s_extract rfl rfl rfl rfl rfl ?_
        refine s_alloc rfl rfl rfl rfl rfl (fun bk9 w9 kb9 lw9 => ?_)
        have kz11 := Nat.le_trans pz.1.size kb9
        replace pz := And.intro (pz.1.trans lw9) trivial
        try have nR11 := hR.ne kb9
        try replace hR := hR.later lw9
        refine s_store rfl rfl rfl rfl rfl rfl rfl (fun w10 sw10 vw10 => ?_)
        replace pz := And.intro (pz.1.sto sw10 kz11) trivial
        try replace hR := hR.sto sw10 nR11
        refine s_assign rfl rfl rfl rfl ?_
        refine vOrd_nil ?_
        refine Wp.seq ?_
        refine Wp.region [0, 1, 2, 3, 4, 5, 6] (by kernel_rfl) (by kernel_rfl) ?_
        refine s_move rfl rfl rfl rfl ?_
        refine f_neq rfl rfl rfl rfl rfl (by omega) ?_
        refine s_move rfl rfl rfl rfl ?_
        refine s_load rfl rfl rfl rfl rfl rfl rfl ?_
        refine s_load rfl rfl rfl rfl rfl rfl rfl ?_
        refine s_eqv (c := false) rfl rfl rfl rfl rfl (fun _ => by kernel_rfl) (fun w => by rw [run_neq_label, eqD_same]; rfl) ?_
        refine s_pick rfl rfl rfl rfl rfl ?_
        refine vOrd_nil ?_
        refine Wp.condF rfl rfl ?_
        refine Wp.skip ?_
        refine Wp.seq ?_
        refine Wp.region [0, 1, 2, 3, 4, 5, 6, 7, 8] (by kernel_rfl) (by kernel_rfl) ?_
        refine s_move rfl rfl rfl rfl ?_
        refine s_load rfl rfl rfl rfl rfl rfl rfl ?_
        refine s_callT rfl rfl rfl (by kernel_rfl) rfl (plabel_any hR hm ⟨_, _, rfl, hz⟩ hcut2) ?_
        rintro v w12 rfl lw12
        replace pz := And.intro (pz.1.trans lw12) trivial
        try replace hR := hR.later lw12
        rw [hF, hlu]
        refine s_move rfl rfl rfl rfl ?_
        refine s_extract rfl rfl rfl rfl rfl ?_
        refine s_extract rfl rfl rfl rfl rfl ?_
        refine s_alloc rfl rfl rfl rfl rfl (fun bk13 w13 kb13 lw13 => ?_)
        have kz13 := Nat.le_trans pz.1.size kb13
        replace pz := And.intro (pz.1.trans lw13) trivial
        try have nR13 := hR.ne kb13
        try replace hR := hR.later lw13
        refine s_store rfl rfl rfl rfl rfl rfl rfl (fun w14 sw14 vw14 => ?_)
        replace pz := And.intro (pz.1.sto sw14 kz13) trivial
        try replace hR := hR.sto sw14 nR13
        refine s_assign rfl rfl rfl rfl ?_
        refine vOrd_nil ?_
        refine Wp.seq ?_
        refine Wp.seq ?_
        refine Wp.region [0, 1] (by kernel_rfl) (by kernel_rfl) ?_
        refine s_move rfl rfl rfl rfl ?_
        refine f_neq rfl rfl rfl rfl rfl (by omega) ?_
        refine vOrd_nil ?_
        refine Wp.condF rfl rfl ?_
        refine Wp.skip ?_
        refine Wp.seq ?_
        refine Wp.region [0, 1, 2, 3, 4, 5, 6, 7, 8] (by kernel_rfl) (by kernel_rfl) ?_
        refine s_move rfl rfl rfl rfl ?_
        refine s_load rfl rfl rfl rfl rfl rfl rfl ?_
        refine s_callT rfl rfl rfl (by kernel_rfl) rfl (ptai_any hR hm ⟨by omega, by omega⟩ ⟨by omega, by omega⟩ ⟨by omega, by omega⟩ kc1) ?_
        rintro v w15 ⟨ou, rfl, oh, ol, rfl, hon⟩ lw15
        replace pz := And.intro (pz.1.trans lw15) trivial
        try replace hR := hR.later lw15
        rw [kc2]
        refine s_move rfl rfl rfl rfl ?_
        refine s_extract rfl rfl rfl rfl rfl ?_
        refine s_extract rfl rfl rfl rfl rfl ?_
        refine s_alloc rfl rfl rfl rfl rfl (fun bk16 w16 kb16 lw16 => ?_)
        have kz15 := Nat.le_trans pz.1.size kb16
        replace pz := And.intro (pz.1.trans lw16) trivial
        try have nR15 := hR.ne kb16
        try replace hR := hR.later lw16
        refine s_store rfl rfl rfl rfl rfl rfl rfl (fun w17 sw17 vw17 => ?_)
        replace pz := And.intro (pz.1.sto sw17 kz15) trivial
        try replace hR := hR.sto sw17 nR15
        refine s_assign rfl rfl rfl rfl ?_
        refine vOrd_nil ?_
        refine Wp.seq ?_
        refine (Wp.drawn (by kernel_rfl) (by kernel_rfl) [0, 2, 5, 1, 3, 4, 6] [36, 35, 31, 0, 0, 0, 0] (by kernel_rfl) (by kernel_rfl) (fun | 1 => IsBig 11 t | 3 => IsBig 11 (rT l day off K2 x y q) | 4 => IsBig 12 (t - rT l day off K2 x y q) | _ => fun _ _ => True) (fun wd ld => ?_))
        replace pz := And.intro (pz.1.trans ld) trivial
        try replace hR := hR.later ld
        refine s_load rfl rfl rfl rfl rfl rfl rfl ?_
        refine s_load rfl rfl rfl rfl rfl rfl rfl ?_
        refine s_alloc rfl rfl rfl rfl rfl (fun bk18 w18 kb18 lw18 => ?_)
        have kz17 := Nat.le_trans pz.1.size kb18
        replace pz := And.intro (pz.1.trans lw18) trivial
        try have nR17 := hR.ne kb18
        try replace hR := hR.later lw18
        refine s_callD rfl rfl rfl (by kernel_rfl) rfl (fun wc lc => c_rof ⟨_, _, rfl, hz⟩ wc) ?_
        rintro v w19 u19 hr1 lw19 mw19
        replace pz := And.intro (pz.1.trans lw19) trivial
        try replace hR := hR.later lw19
        replace pz := And.intro (pz.1.trans mw19) trivial
        try replace hR := hR.later mw19
        refine s_callD rfl rfl rfl (by kernel_rfl) rfl (fun wc lc => c_rof ⟨_, _, rfl, hon⟩ wc) ?_
        rintro v w20 u20 hr2 lw20 mw20
        replace pz := And.intro (pz.1.trans lw20) trivial
        try replace hR := hR.later lw20
        replace pz := And.intro (pz.1.trans mw20) trivial
        try replace hR := hR.later mw20
        refine s_callD rfl rfl rfl (by kernel_rfl) rfl (fun wc lc => c_rsub (hr1.keeps (by repeat (first | exact Keeps.refl _ | refine Keeps.trans ?_ (Keeps.later (by assumption)) | refine Keeps.trans ?_ (Keeps.stored (by assumption) (by assumption) rfl) | refine Keeps.trans ?_ (Keeps.fresh (by assumption) (by assumption) (by assumption))))) (hr2.keeps (by repeat (first | exact Keeps.refl _ | refine Keeps.trans ?_ (Keeps.later (by assumption)) | refine Keeps.trans ?_ (Keeps.stored (by assumption) (by assumption) rfl) | refine Keeps.trans ?_ (Keeps.fresh (by assumption) (by assumption) (by assumption))))) (by decide) (by decide)) ?_
        rintro v w21 u21 hr3 lw21 mw21
        replace pz := And.intro (pz.1.trans lw21) trivial
        try replace hR := hR.later lw21
        replace pz := And.intro (pz.1.trans mw21) trivial
        try replace hR := hR.later mw21
        obtain ⟨hr3a, hr3l, hr3c, rfl, -⟩ := id hr3
        refine s_store rfl rfl rfl rfl rfl rfl rfl (fun w22 sw22 vw22 => ?_)
        replace pz := And.intro (pz.1.sto sw22 kz17) trivial
        try replace hR := hR.sto sw22 nR17
        refine vOrd_nil ?_
        refine Wp.seq ?_
        refine (Wp.drawn (by kernel_rfl) (by kernel_rfl) [0, 1, 2, 3, 4, 5, 6, 7, 8, 9, 10, 11, 12, 13, 14, 15] [0, 0, 0, 0, 0, 0, 191, 0, 0, 0, 3071, 0, 0, 0, 0, 0] (by kernel_rfl) (by kernel_rfl) (fun | 0 => fun v _ => v = .bool true | 7 => IsBig 5 0 | 8 => fun v _ => v = .bool (eqI (t - rT l day off K2 x y q) 0) | 11 => IsBig 5 1 | 12 => fun v _ => v = .bool (eqI (t - rT l day off K2 x y q) 1) | _ => fun _ _ => True) (fun wd ld => ?_))
        replace pz := And.intro (pz.1.trans ld) trivial
        try replace hR := hR.later ld
        refine s_callD rfl rfl rfl (by kernel_rfl) rfl (fun wc lc => rbanswers_any) ?_
        rintro v w23 u23 rfl lw23 mw23
        replace pz := And.intro (pz.1.trans lw23) trivial
        try replace hR := hR.later lw23
        replace pz := And.intro (pz.1.trans mw23) trivial
        try replace hR := hR.later mw23
        refine s_move rfl rfl rfl rfl ?_
        refine s_move rfl rfl rfl rfl ?_
        refine t_eql rfl rfl rfl rfl rfl (by omega) ?_
        refine s_pick rfl rfl rfl rfl rfl ?_
        refine s_move rfl rfl rfl rfl ?_
        refine s_load rfl rfl rfl rfl rfl rfl rfl ?_
        refine s_callD rfl rfl rfl (by kernel_rfl) rfl (fun wc lc => c_rint 0 (by decide) (by decide) wc) ?_
        rintro v w24 u24 hi0 lw24 mw24
        replace pz := And.intro (pz.1.trans lw24) trivial
        try replace hR := hR.later lw24
        replace pz := And.intro (pz.1.trans mw24) trivial
        try replace hR := hR.later mw24
        refine s_callD rfl rfl rfl (by kernel_rfl) rfl (fun wc lc => c_same (hr3.keeps (by repeat (first | exact Keeps.refl _ | refine Keeps.trans ?_ (Keeps.later (by assumption)) | refine Keeps.trans ?_ (Keeps.stored (by assumption) (by assumption) rfl) | refine Keeps.trans ?_ (Keeps.fresh (by assumption) (by assumption) (by assumption))))) (hi0.keeps (by repeat (first | exact Keeps.refl _ | refine Keeps.trans ?_ (Keeps.later (by assumption)) | refine Keeps.trans ?_ (Keeps.stored (by assumption) (by assumption) rfl) | refine Keeps.trans ?_ (Keeps.fresh (by assumption) (by assumption) (by assumption))))) (by decide) (by decide)) ?_
        rintro v w25 u25 rfl lw25 mw25
        replace pz := And.intro (pz.1.trans lw25) trivial
        try replace hR := hR.later lw25
        replace pz := And.intro (pz.1.trans mw25) trivial
        try replace hR := hR.later mw25
        rcases Bool.eq_false_or_eq_true (eqI (t - rT l day off K2 x y q) 0) with h80 | h80
        · rw [h80]
          refine s_move rfl rfl rfl rfl ?_
          refine s_skip rfl rfl rfl ?_
          refine s_skip rfl rfl rfl ?_
          refine s_skip rfl rfl rfl ?_
          refine s_pick rfl rfl rfl rfl rfl ?_
          refine s_pick rfl rfl rfl rfl rfl ?_
          refine s_assign rfl rfl rfl rfl ?_
          refine vOrd_nil ?_
          refine Wp.ret ⟨.inr rfl, fun lW => ⟨_, res_tmp (P := Try.prog) rfl rfl, _, rfl, ?_, lW⟩⟩
          clear lW
          rfl
        · rw [h80]
          refine s_move rfl rfl rfl rfl ?_
          refine s_load rfl rfl rfl rfl rfl rfl rfl ?_
          refine s_callD rfl rfl rfl (by kernel_rfl) rfl (fun wc lc => c_rint 1 (by decide) (by decide) wc) ?_
          rintro v w26 u26 hi1 lw26 mw26
          replace pz := And.intro (pz.1.trans lw26) trivial
          try replace hR := hR.later lw26
          replace pz := And.intro (pz.1.trans mw26) trivial
          try replace hR := hR.later mw26
          refine s_callD rfl rfl rfl (by kernel_rfl) rfl (fun wc lc => c_same (hr3.keeps (by repeat (first | exact Keeps.refl _ | refine Keeps.trans ?_ (Keeps.later (by assumption)) | refine Keeps.trans ?_ (Keeps.stored (by assumption) (by assumption) rfl) | refine Keeps.trans ?_ (Keeps.fresh (by assumption) (by assumption) (by assumption))))) (hi1.keeps (by repeat (first | exact Keeps.refl _ | refine Keeps.trans ?_ (Keeps.later (by assumption)) | refine Keeps.trans ?_ (Keeps.stored (by assumption) (by assumption) rfl) | refine Keeps.trans ?_ (Keeps.fresh (by assumption) (by assumption) (by assumption))))) (by decide) (by decide)) ?_
          rintro v w27 u27 rfl lw27 mw27
          replace pz := And.intro (pz.1.trans lw27) trivial
          try replace hR := hR.later lw27
          replace pz := And.intro (pz.1.trans mw27) trivial
          try replace hR := hR.later mw27
          rw [show eqI (t - rT l day off K2 x y q) 1 = true by unfold eqI at h80 ⊢; simp only [decide_eq_false_iff_not] at h80; rw [decide_eq_true (by omega)]]
          refine s_pick rfl rfl rfl rfl rfl ?_
          refine s_pick rfl rfl rfl rfl rfl ?_
          refine s_assign rfl rfl rfl rfl ?_
          refine vOrd_nil ?_
          refine Wp.ret ⟨.inr rfl, fun lW => ⟨_, res_tmp (P := Try.prog) rfl rfl, _, rfl, ?_, lW⟩⟩
          clear lW
          rfl
      · refine vOrd_nil ?_
        refine Wp.condF rfl rfl ?_
        refine Wp.skip ?_
        refine Wp.seq ?_
        refine Wp.region [0, 1, 2, 3, 4, 5, 6, 7, 8] (by kernel_rfl) (by kernel_rfl) ?_
        refine s_move rfl rfl rfl rfl ?_
        refine s_load rfl rfl rfl rfl rfl rfl rfl ?_
        refine s_callT rfl rfl rfl (by kernel_rfl) rfl (plabel_any hR hm ⟨_, _, rfl, hz⟩ hcut2) ?_
        rintro v w28 rfl lw28
        replace pz := And.intro (pz.1.trans lw28) trivial
        try replace hR := hR.later lw28
        rw [hF, hlu]
        refine s_move rfl rfl rfl rfl ?_
        refine s_extract rfl rfl rfl rfl rfl ?_
        refine s_extract rfl rfl rfl rfl rfl ?_
        refine s_alloc rfl rfl rfl rfl rfl (fun bk29 w29 kb29 lw29 => ?_)
        have kz13 := Nat.le_trans pz.1.size kb29
        replace pz := And.intro (pz.1.trans lw29) trivial
        try have nR13 := hR.ne kb29
        try replace hR := hR.later lw29
        refine s_store rfl rfl rfl rfl rfl rfl rfl (fun w30 sw30 vw30 => ?_)
        replace pz := And.intro (pz.1.sto sw30 kz13) trivial
        try replace hR := hR.sto sw30 nR13
        refine s_assign rfl rfl rfl rfl ?_
        refine vOrd_nil ?_
        refine Wp.seq ?_
        refine Wp.seq ?_
        refine Wp.region [0, 1] (by kernel_rfl) (by kernel_rfl) ?_
        refine s_move rfl rfl rfl rfl ?_
        refine f_neq rfl rfl rfl rfl rfl (by omega) ?_
        refine vOrd_nil ?_
        refine Wp.condF rfl rfl ?_
        refine Wp.skip ?_
        refine Wp.seq ?_
        refine Wp.region [0, 1, 2, 3, 4, 5, 6, 7, 8] (by kernel_rfl) (by kernel_rfl) ?_
        refine s_move rfl rfl rfl rfl ?_
        refine s_load rfl rfl rfl rfl rfl rfl rfl ?_
        refine s_callT rfl rfl rfl (by kernel_rfl) rfl (ptai_any hR hm ⟨by omega, by omega⟩ ⟨by omega, by omega⟩ ⟨by omega, by omega⟩ kc1) ?_
        rintro v w31 ⟨ou, rfl, oh, ol, rfl, hon⟩ lw31
        replace pz := And.intro (pz.1.trans lw31) trivial
        try replace hR := hR.later lw31
        rw [kc2]
        refine s_move rfl rfl rfl rfl ?_
        refine s_extract rfl rfl rfl rfl rfl ?_
        refine s_extract rfl rfl rfl rfl rfl ?_
        refine s_alloc rfl rfl rfl rfl rfl (fun bk32 w32 kb32 lw32 => ?_)
        have kz15 := Nat.le_trans pz.1.size kb32
        replace pz := And.intro (pz.1.trans lw32) trivial
        try have nR15 := hR.ne kb32
        try replace hR := hR.later lw32
        refine s_store rfl rfl rfl rfl rfl rfl rfl (fun w33 sw33 vw33 => ?_)
        replace pz := And.intro (pz.1.sto sw33 kz15) trivial
        try replace hR := hR.sto sw33 nR15
        refine s_assign rfl rfl rfl rfl ?_
        refine vOrd_nil ?_
        refine Wp.seq ?_
        refine (Wp.drawn (by kernel_rfl) (by kernel_rfl) [0, 2, 5, 1, 3, 4, 6] [36, 35, 31, 0, 0, 0, 0] (by kernel_rfl) (by kernel_rfl) (fun | 1 => IsBig 11 t | 3 => IsBig 11 (rT l day off K2 x y q) | 4 => IsBig 12 (t - rT l day off K2 x y q) | _ => fun _ _ => True) (fun wd ld => ?_))
        replace pz := And.intro (pz.1.trans ld) trivial
        try replace hR := hR.later ld
        refine s_load rfl rfl rfl rfl rfl rfl rfl ?_
        refine s_load rfl rfl rfl rfl rfl rfl rfl ?_
        refine s_alloc rfl rfl rfl rfl rfl (fun bk34 w34 kb34 lw34 => ?_)
        have kz17 := Nat.le_trans pz.1.size kb34
        replace pz := And.intro (pz.1.trans lw34) trivial
        try have nR17 := hR.ne kb34
        try replace hR := hR.later lw34
        refine s_callD rfl rfl rfl (by kernel_rfl) rfl (fun wc lc => c_rof ⟨_, _, rfl, hz⟩ wc) ?_
        rintro v w35 u35 hr1 lw35 mw35
        replace pz := And.intro (pz.1.trans lw35) trivial
        try replace hR := hR.later lw35
        replace pz := And.intro (pz.1.trans mw35) trivial
        try replace hR := hR.later mw35
        refine s_callD rfl rfl rfl (by kernel_rfl) rfl (fun wc lc => c_rof ⟨_, _, rfl, hon⟩ wc) ?_
        rintro v w36 u36 hr2 lw36 mw36
        replace pz := And.intro (pz.1.trans lw36) trivial
        try replace hR := hR.later lw36
        replace pz := And.intro (pz.1.trans mw36) trivial
        try replace hR := hR.later mw36
        refine s_callD rfl rfl rfl (by kernel_rfl) rfl (fun wc lc => c_rsub (hr1.keeps (by repeat (first | exact Keeps.refl _ | refine Keeps.trans ?_ (Keeps.later (by assumption)) | refine Keeps.trans ?_ (Keeps.stored (by assumption) (by assumption) rfl) | refine Keeps.trans ?_ (Keeps.fresh (by assumption) (by assumption) (by assumption))))) (hr2.keeps (by repeat (first | exact Keeps.refl _ | refine Keeps.trans ?_ (Keeps.later (by assumption)) | refine Keeps.trans ?_ (Keeps.stored (by assumption) (by assumption) rfl) | refine Keeps.trans ?_ (Keeps.fresh (by assumption) (by assumption) (by assumption))))) (by decide) (by decide)) ?_
        rintro v w37 u37 hr3 lw37 mw37
        replace pz := And.intro (pz.1.trans lw37) trivial
        try replace hR := hR.later lw37
        replace pz := And.intro (pz.1.trans mw37) trivial
        try replace hR := hR.later mw37
        obtain ⟨hr3a, hr3l, hr3c, rfl, -⟩ := id hr3
        refine s_store rfl rfl rfl rfl rfl rfl rfl (fun w38 sw38 vw38 => ?_)
        replace pz := And.intro (pz.1.sto sw38 kz17) trivial
        try replace hR := hR.sto sw38 nR17
        refine vOrd_nil ?_
        refine Wp.seq ?_
        refine (Wp.drawn (by kernel_rfl) (by kernel_rfl) [0, 1, 2, 3, 4, 5, 6, 7, 8, 9, 10, 11, 12, 13, 14, 15] [0, 0, 0, 0, 0, 0, 191, 0, 0, 0, 3071, 0, 0, 0, 0, 0] (by kernel_rfl) (by kernel_rfl) (fun | 0 => fun v _ => v = .bool true | 7 => IsBig 5 0 | 8 => fun v _ => v = .bool (eqI (t - rT l day off K2 x y q) 0) | 11 => IsBig 5 1 | 12 => fun v _ => v = .bool (eqI (t - rT l day off K2 x y q) 1) | _ => fun _ _ => True) (fun wd ld => ?_))
        replace pz := And.intro (pz.1.trans ld) trivial
        try replace hR := hR.later ld
        refine s_callD rfl rfl rfl (by kernel_rfl) rfl (fun wc lc => rbanswers_any) ?_
        rintro v w39 u39 rfl lw39 mw39
        replace pz := And.intro (pz.1.trans lw39) trivial
        try replace hR := hR.later lw39
        replace pz := And.intro (pz.1.trans mw39) trivial
        try replace hR := hR.later mw39
        refine s_move rfl rfl rfl rfl ?_
        refine s_move rfl rfl rfl rfl ?_
        refine t_eql rfl rfl rfl rfl rfl (by omega) ?_
        refine s_pick rfl rfl rfl rfl rfl ?_
        refine s_move rfl rfl rfl rfl ?_
        refine s_load rfl rfl rfl rfl rfl rfl rfl ?_
        refine s_callD rfl rfl rfl (by kernel_rfl) rfl (fun wc lc => c_rint 0 (by decide) (by decide) wc) ?_
        rintro v w40 u40 hi0 lw40 mw40
        replace pz := And.intro (pz.1.trans lw40) trivial
        try replace hR := hR.later lw40
        replace pz := And.intro (pz.1.trans mw40) trivial
        try replace hR := hR.later mw40
        refine s_callD rfl rfl rfl (by kernel_rfl) rfl (fun wc lc => c_same (hr3.keeps (by repeat (first | exact Keeps.refl _ | refine Keeps.trans ?_ (Keeps.later (by assumption)) | refine Keeps.trans ?_ (Keeps.stored (by assumption) (by assumption) rfl) | refine Keeps.trans ?_ (Keeps.fresh (by assumption) (by assumption) (by assumption))))) (hi0.keeps (by repeat (first | exact Keeps.refl _ | refine Keeps.trans ?_ (Keeps.later (by assumption)) | refine Keeps.trans ?_ (Keeps.stored (by assumption) (by assumption) rfl) | refine Keeps.trans ?_ (Keeps.fresh (by assumption) (by assumption) (by assumption))))) (by decide) (by decide)) ?_
        rintro v w41 u41 rfl lw41 mw41
        replace pz := And.intro (pz.1.trans lw41) trivial
        try replace hR := hR.later lw41
        replace pz := And.intro (pz.1.trans mw41) trivial
        try replace hR := hR.later mw41
        rcases Bool.eq_false_or_eq_true (eqI (t - rT l day off K2 x y q) 0) with h80 | h80
        · rw [h80]
          refine s_move rfl rfl rfl rfl ?_
          refine s_skip rfl rfl rfl ?_
          refine s_skip rfl rfl rfl ?_
          refine s_skip rfl rfl rfl ?_
          refine s_pick rfl rfl rfl rfl rfl ?_
          refine s_pick rfl rfl rfl rfl rfl ?_
          refine s_assign rfl rfl rfl rfl ?_
          refine vOrd_nil ?_
          refine Wp.ret ⟨.inr rfl, fun lW => ⟨_, res_tmp (P := Try.prog) rfl rfl, _, rfl, ?_, lW⟩⟩
          clear lW
          rfl
        · rw [h80]
          refine s_move rfl rfl rfl rfl ?_
          refine s_load rfl rfl rfl rfl rfl rfl rfl ?_
          refine s_callD rfl rfl rfl (by kernel_rfl) rfl (fun wc lc => c_rint 1 (by decide) (by decide) wc) ?_
          rintro v w42 u42 hi1 lw42 mw42
          replace pz := And.intro (pz.1.trans lw42) trivial
          try replace hR := hR.later lw42
          replace pz := And.intro (pz.1.trans mw42) trivial
          try replace hR := hR.later mw42
          refine s_callD rfl rfl rfl (by kernel_rfl) rfl (fun wc lc => c_same (hr3.keeps (by repeat (first | exact Keeps.refl _ | refine Keeps.trans ?_ (Keeps.later (by assumption)) | refine Keeps.trans ?_ (Keeps.stored (by assumption) (by assumption) rfl) | refine Keeps.trans ?_ (Keeps.fresh (by assumption) (by assumption) (by assumption))))) (hi1.keeps (by repeat (first | exact Keeps.refl _ | refine Keeps.trans ?_ (Keeps.later (by assumption)) | refine Keeps.trans ?_ (Keeps.stored (by assumption) (by assumption) rfl) | refine Keeps.trans ?_ (Keeps.fresh (by assumption) (by assumption) (by assumption))))) (by decide) (by decide)) ?_
          rintro v w43 u43 rfl lw43 mw43
          replace pz := And.intro (pz.1.trans lw43) trivial
          try replace hR := hR.later lw43
          replace pz := And.intro (pz.1.trans mw43) trivial
          try replace hR := hR.later mw43
          rw [show eqI (t - rT l day off K2 x y q) 1 = true by unfold eqI at h80 ⊢; simp only [decide_eq_false_iff_not] at h80; rw [decide_eq_true (by omega)]]
          refine s_pick rfl rfl rfl rfl rfl ?_
          refine s_pick rfl rfl rfl rfl rfl ?_
          refine s_assign rfl rfl rfl rfl ?_
          refine vOrd_nil ?_
          refine Wp.ret ⟨.inr rfl, fun lW => ⟨_, res_tmp (P := Try.prog) rfl rfl, _, rfl, ?_, lW⟩⟩
          clear lW
          rfl
    · obtain ⟨x, y, q, hlu⟩ : ∃ x y q, lU l day off K2 t = .agg #[.int .i64 x, .int .i64 y, .int .i64 q] := ⟨_, _, _, rfl⟩
      refine calls_Wp (args := [_, _, _]) (n := 87) Try.func7 rfl rfl (by simp) ?_
      refine Wp.seq ?_
      refine Wp.region [0, 1, 2, 3] (by kernel_rfl) (by kernel_rfl) ?_
      refine s_box rfl rfl rfl rfl rfl rfl (fun bk1 w1 kb1 lw1 => ?_)
      have kz3 := Nat.le_trans pz.1.size kb1
      replace pz := And.intro (pz.1.trans lw1) trivial
      try have nR3 := hR.ne kb1
      try replace hR := hR.later lw1
      refine s_box rfl rfl rfl rfl rfl rfl (fun bk2 w2 kb2 lw2 => ?_)
      have kz4 := Nat.le_trans pz.1.size kb2
      replace pz := And.intro (pz.1.trans lw2) trivial
      try have nR4 := hR.ne kb2
      try replace hR := hR.later lw2
      refine s_box rfl rfl rfl rfl rfl rfl (fun bk3 w3 kb3 lw3 => ?_)
      have kz5 := Nat.le_trans pz.1.size kb3
      replace pz := And.intro (pz.1.trans lw3) trivial
      try have nR5 := hR.ne kb3
      try replace hR := hR.later lw3
      refine s_assign rfl rfl rfl rfl ?_
      refine vOrd_nil ?_
      refine Wp.seq ?_
      refine Wp.region [0, 1, 2, 3, 4, 5, 6, 7, 8, 9, 10, 11] (by kernel_rfl) (by kernel_rfl) ?_
      refine s_field 0 rfl rfl rfl rfl rfl ?_
      refine s_load rfl rfl rfl rfl rfl rfl rfl ?_
      refine s_field 1 rfl rfl rfl rfl rfl ?_
      refine s_load rfl rfl rfl rfl rfl rfl rfl ?_
      refine s_field 2 rfl rfl rfl rfl rfl ?_
      refine s_load rfl rfl rfl rfl rfl rfl rfl ?_
      refine s_callT rfl rfl rfl (by kernel_rfl) rfl (pnew_yes l hlc hd ho hm (hv.later pz.1)) ?_
      rintro v w4 ⟨b1, bs1, rfl, hb1, hR⟩ lw4
      replace pz := And.intro (pz.1.trans lw4) trivial
      try replace hR := hR.later lw4
      refine s_move rfl rfl rfl rfl ?_
      refine s_extract rfl rfl rfl rfl rfl ?_
      refine s_extract rfl rfl rfl rfl rfl ?_
      refine s_assign rfl rfl rfl rfl ?_
      refine s_assign rfl rfl rfl rfl ?_
      refine vOrd_nil ?_
      refine Wp.seq ?_
      refine Wp.seq ?_
      refine Wp.region [0, 1] (by kernel_rfl) (by kernel_rfl) ?_
      refine s_move rfl rfl rfl rfl ?_
      refine f_neq rfl rfl rfl rfl rfl (by omega) ?_
      refine vOrd_nil ?_
      refine Wp.condF rfl rfl ?_
      refine Wp.skip ?_
      refine Wp.seq ?_
      refine Wp.seq ?_
      refine Wp.region [0, 1, 2, 3, 4, 5, 6, 7, 8] (by kernel_rfl) (by kernel_rfl) ?_
      refine s_move rfl rfl rfl rfl ?_
      refine s_load rfl rfl rfl rfl rfl rfl rfl ?_
      refine s_callT rfl rfl rfl (by kernel_rfl) rfl (ptai_any hR hm hd6 hs6 ha6 hcut) ?_
      rintro v w5 ⟨nu, rfl, mh, ml, rfl, hmm⟩ lw5
      replace pz := And.intro (pz.1.trans lw5) trivial
      try replace hR := hR.later lw5
      rw [hE]
      rw [hZ] at hmm
      refine s_move rfl rfl rfl rfl ?_
      refine s_extract rfl rfl rfl rfl rfl ?_
      refine s_extract rfl rfl rfl rfl rfl ?_
      refine s_alloc rfl rfl rfl rfl rfl (fun bk6 w6 kb6 lw6 => ?_)
      have kz9 := Nat.le_trans pz.1.size kb6
      replace pz := And.intro (pz.1.trans lw6) trivial
      try have nR9 := hR.ne kb6
      try replace hR := hR.later lw6
      refine s_store rfl rfl rfl rfl rfl rfl rfl (fun w7 sw7 vw7 => ?_)
      replace pz := And.intro (pz.1.sto sw7 kz9) trivial
      try replace hR := hR.sto sw7 nR9
      refine s_assign rfl rfl rfl rfl ?_
      refine vOrd_nil ?_
      refine Wp.seq ?_
      refine Wp.region [0, 1] (by kernel_rfl) (by kernel_rfl) ?_
      refine s_move rfl rfl rfl rfl ?_
      refine p_eql rfl rfl rfl rfl rfl (fun h38 => ?_) (fun h38 => ?_)
      · obtain rfl : E = 0 := by omega
        obtain ⟨z1, z2, z3⟩ := rub_again hm hcut hE
        rw [hZ] at z1 z2 z3
        refine vOrd_nil ?_
        refine Wp.condT rfl rfl ?_
        refine Wp.seq ?_
        refine Wp.region [0, 1, 2, 3, 4, 5, 6, 7, 8] (by kernel_rfl) (by kernel_rfl) ?_
        refine s_move rfl rfl rfl rfl ?_
        refine s_load rfl rfl rfl rfl rfl rfl rfl ?_
        refine s_callT rfl rfl rfl (by kernel_rfl) rfl (plabel_any hR hm ⟨_, _, rfl, hmm⟩ z1) ?_
        rintro v w8 rfl lw8
        replace pz := And.intro (pz.1.trans lw8) trivial
        try replace hR := hR.later lw8
        rw [z2, z3]
        refine s_move rfl rfl rfl rfl ?_
        refine s_extract rfl rfl rfl rfl rfl ?_
        refine s_extract rfl rfl rfl rfl rfl ?_
        refine s_alloc rfl rfl rfl rfl rfl (fun bk9 w9 kb9 lw9 => ?_)
        have kz11 := Nat.le_trans pz.1.size kb9
        replace pz := And.intro (pz.1.trans lw9) trivial
        try have nR11 := hR.ne kb9
        try replace hR := hR.later lw9
        refine s_store rfl rfl rfl rfl rfl rfl rfl (fun w10 sw10 vw10 => ?_)
        replace pz := And.intro (pz.1.sto sw10 kz11) trivial
        try replace hR := hR.sto sw10 nR11
        refine s_assign rfl rfl rfl rfl ?_
        refine vOrd_nil ?_
        refine Wp.seq ?_
        refine Wp.region [0, 1, 2, 3, 4, 5, 6] (by kernel_rfl) (by kernel_rfl) ?_
        refine s_move rfl rfl rfl rfl ?_
        refine f_neq rfl rfl rfl rfl rfl (by omega) ?_
        refine s_move rfl rfl rfl rfl ?_
        refine s_load rfl rfl rfl rfl rfl rfl rfl ?_
        refine s_load rfl rfl rfl rfl rfl rfl rfl ?_
        refine s_eqv (c := false) rfl rfl rfl rfl rfl (fun _ => by kernel_rfl) (fun w => by rw [run_neq_label, eqD_same]; rfl) ?_
        refine s_pick rfl rfl rfl rfl rfl ?_
        refine vOrd_nil ?_
        refine Wp.condF rfl rfl ?_
        refine Wp.skip ?_
        refine Wp.seq ?_
        refine Wp.region [0, 1, 2, 3, 4, 5, 6, 7, 8] (by kernel_rfl) (by kernel_rfl) ?_
        refine s_move rfl rfl rfl rfl ?_
        refine s_load rfl rfl rfl rfl rfl rfl rfl ?_
        refine s_callT rfl rfl rfl (by kernel_rfl) rfl (plabel_any hR hm ⟨_, _, rfl, hz⟩ hcut2) ?_
        rintro v w12 rfl lw12
        replace pz := And.intro (pz.1.trans lw12) trivial
        try replace hR := hR.later lw12
        rw [hF, hlu]
        refine s_move rfl rfl rfl rfl ?_
        refine s_extract rfl rfl rfl rfl rfl ?_
        refine s_extract rfl rfl rfl rfl rfl ?_
        refine s_alloc rfl rfl rfl rfl rfl (fun bk13 w13 kb13 lw13 => ?_)
        have kz13 := Nat.le_trans pz.1.size kb13
        replace pz := And.intro (pz.1.trans lw13) trivial
        try have nR13 := hR.ne kb13
        try replace hR := hR.later lw13
        refine s_store rfl rfl rfl rfl rfl rfl rfl (fun w14 sw14 vw14 => ?_)
        replace pz := And.intro (pz.1.sto sw14 kz13) trivial
        try replace hR := hR.sto sw14 nR13
        refine s_assign rfl rfl rfl rfl ?_
        refine vOrd_nil ?_
        refine Wp.seq ?_
        refine Wp.seq ?_
        refine Wp.region [0, 1] (by kernel_rfl) (by kernel_rfl) ?_
        refine s_move rfl rfl rfl rfl ?_
        refine t_neq rfl rfl rfl rfl rfl (by omega) ?_
        refine vOrd_nil ?_
        refine Wp.condT rfl rfl ?_
        refine Wp.seq ?_
        refine Wp.region [0, 1] (by kernel_rfl) (by kernel_rfl) ?_
        refine s_callT rfl rfl rfl (by kernel_rfl) rfl (rbanswers_any) ?_
        rintro v w15 rfl lw15
        replace pz := And.intro (pz.1.trans lw15) trivial
        try replace hR := hR.later lw15
        refine s_assign rfl rfl rfl rfl ?_
        refine vOrd_nil ?_
        refine Wp.ret ⟨.inr rfl, fun lW => ⟨_, res_tmp (P := Try.prog) rfl rfl, _, rfl, ?_, lW⟩⟩
        clear lW
        rfl
      · refine vOrd_nil ?_
        refine Wp.condF rfl rfl ?_
        refine Wp.skip ?_
        refine Wp.seq ?_
        refine Wp.region [0, 1, 2, 3, 4, 5, 6, 7, 8] (by kernel_rfl) (by kernel_rfl) ?_
        refine s_move rfl rfl rfl rfl ?_
        refine s_load rfl rfl rfl rfl rfl rfl rfl ?_
        refine s_callT rfl rfl rfl (by kernel_rfl) rfl (plabel_any hR hm ⟨_, _, rfl, hz⟩ hcut2) ?_
        rintro v w16 rfl lw16
        replace pz := And.intro (pz.1.trans lw16) trivial
        try replace hR := hR.later lw16
        rw [hF, hlu]
        refine s_move rfl rfl rfl rfl ?_
        refine s_extract rfl rfl rfl rfl rfl ?_
        refine s_extract rfl rfl rfl rfl rfl ?_
        refine s_alloc rfl rfl rfl rfl rfl (fun bk17 w17 kb17 lw17 => ?_)
        have kz13 := Nat.le_trans pz.1.size kb17
        replace pz := And.intro (pz.1.trans lw17) trivial
        try have nR13 := hR.ne kb17
        try replace hR := hR.later lw17
        refine s_store rfl rfl rfl rfl rfl rfl rfl (fun w18 sw18 vw18 => ?_)
        replace pz := And.intro (pz.1.sto sw18 kz13) trivial
        try replace hR := hR.sto sw18 nR13
        refine s_assign rfl rfl rfl rfl ?_
        refine vOrd_nil ?_
        refine Wp.seq ?_
        refine Wp.seq ?_
        refine Wp.region [0, 1] (by kernel_rfl) (by kernel_rfl) ?_
        refine s_move rfl rfl rfl rfl ?_
        refine t_neq rfl rfl rfl rfl rfl (by omega) ?_
        refine vOrd_nil ?_
        refine Wp.condT rfl rfl ?_
        refine Wp.seq ?_
        refine Wp.region [0, 1] (by kernel_rfl) (by kernel_rfl) ?_
        refine s_callT rfl rfl rfl (by kernel_rfl) rfl (rbanswers_any) ?_
        rintro v w19 rfl lw19
        replace pz := And.intro (pz.1.trans lw19) trivial
        try replace hR := hR.later lw19
        refine s_assign rfl rfl rfl rfl ?_
        refine vOrd_nil ?_
        refine Wp.ret ⟨.inr rfl, fun lW => ⟨_, res_tmp (P := Try.prog) rfl rfl, _, rfl, ?_, lW⟩⟩
        clear lW
        rfl

set_option maxHeartbeats 2000000 in
theorem law_rbrises (l : List Sg) (hlc : l.length ≤ 9223372036854775807) {day off : Int} (hd : I64 day) (ho : I64 off) {v : Value} {w : World} (hv : SegAt w v l) {d s a : Int} (hd6 : I64 d) (hs6 : I64 s) (ha6 : I64 a) {d2 s2 a2 : Int} (hd62 : I64 d2) (hs62 : I64 s2) (ha62 : I64 a2) : Calls Try.prog 8 #[.agg #[v, .int .i64 day, .int .i64 off], .agg #[.int .i64 d, .int .i64 s, .int .i64 a], .agg #[.int .i64 d2, .int .i64 s2, .int .i64 a2]] w fun e w' => ∃ r, e = .returned r ∧ r = .bool true ∧ Below w.heap.size w w' := by
  obtain ⟨a0, c0, rfl⟩ := hv.form
  have pz : Later w w ∧ True := ⟨Later.refl w, trivial⟩
  cases hm : mayS l day off with
  | false =>
    refine calls_Wp (args := [_, _, _]) (n := 60) Try.func8 rfl rfl (by simp) ?_
    refine Wp.seq ?_
    refine Wp.region [0, 1, 2, 3] (by kernel_rfl) (by kernel_rfl) ?_
    refine s_box rfl rfl rfl rfl rfl rfl (fun bk1 w1 kb1 lw1 => ?_)
    have kz3 := Nat.le_trans pz.1.size kb1
    replace pz := And.intro (pz.1.trans lw1) trivial
    try have nR3 := hR.ne kb1
    try replace hR := hR.later lw1
    refine s_box rfl rfl rfl rfl rfl rfl (fun bk2 w2 kb2 lw2 => ?_)
    have kz4 := Nat.le_trans pz.1.size kb2
    replace pz := And.intro (pz.1.trans lw2) trivial
    try have nR4 := hR.ne kb2
    try replace hR := hR.later lw2
    refine s_box rfl rfl rfl rfl rfl rfl (fun bk3 w3 kb3 lw3 => ?_)
    have kz5 := Nat.le_trans pz.1.size kb3
    replace pz := And.intro (pz.1.trans lw3) trivial
    try have nR5 := hR.ne kb3
    try replace hR := hR.later lw3
    refine s_assign rfl rfl rfl rfl ?_
    refine vOrd_nil ?_
    refine Wp.seq ?_
    refine Wp.region [0, 1, 2, 3, 4, 5, 6, 7, 8, 9, 10, 11] (by kernel_rfl) (by kernel_rfl) ?_
    refine s_field 0 rfl rfl rfl rfl rfl ?_
    refine s_load rfl rfl rfl rfl rfl rfl rfl ?_
    refine s_field 1 rfl rfl rfl rfl rfl ?_
    refine s_load rfl rfl rfl rfl rfl rfl rfl ?_
    refine s_field 2 rfl rfl rfl rfl rfl ?_
    refine s_load rfl rfl rfl rfl rfl rfl rfl ?_
    refine s_callT rfl rfl rfl (by kernel_rfl) rfl (pnew_no l hlc hd ho hm (hv.later pz.1)) ?_
    rintro v w4 rfl lw4
    replace pz := And.intro (pz.1.trans lw4) trivial
    try replace hR := hR.later lw4
    refine s_move rfl rfl rfl rfl ?_
    refine s_extract rfl rfl rfl rfl rfl ?_
    refine s_extract rfl rfl rfl rfl rfl ?_
    refine s_assign rfl rfl rfl rfl ?_
    refine s_assign rfl rfl rfl rfl ?_
    refine vOrd_nil ?_
    refine Wp.seq ?_
    refine Wp.seq ?_
    refine Wp.region [0, 1, 2, 3, 4, 5, 6, 7] (by kernel_rfl) (by kernel_rfl) ?_
    refine s_move rfl rfl rfl rfl ?_
    refine t_neq rfl rfl rfl rfl rfl (by omega) ?_
    refine s_move rfl rfl rfl rfl ?_
    refine s_skip rfl rfl rfl ?_
    refine s_skip rfl rfl rfl ?_
    refine s_skip rfl rfl rfl ?_
    refine s_skip rfl rfl rfl ?_
    refine s_pick rfl rfl rfl rfl rfl ?_
    refine vOrd_nil ?_
    refine Wp.condT rfl rfl ?_
    refine Wp.seq ?_
    refine Wp.region [0, 1] (by kernel_rfl) (by kernel_rfl) ?_
    refine s_callT rfl rfl rfl (by kernel_rfl) rfl (rbanswers_any) ?_
    rintro v w5 rfl lw5
    replace pz := And.intro (pz.1.trans lw5) trivial
    try replace hR := hR.later lw5
    refine s_assign rfl rfl rfl rfl ?_
    refine vOrd_nil ?_
    refine Wp.ret ⟨.inr rfl, fun lW => ⟨_, res_tmp (P := Try.prog) rfl rfl, _, rfl, ?_, lW⟩⟩
    clear lW
    rfl
  | true =>
    obtain ⟨K, hcut⟩ := cutS_day hm d
    obtain ⟨L, hcut2⟩ := cutS_day hm d2
    have hrise := rub_rises (s := s) (a := a) (s' := s2) (a' := a2) hm hcut hcut2
    obtain ⟨E, hE⟩ : ∃ E, rE l day off K d s a = E := ⟨_, rfl⟩
    obtain ⟨F, hF⟩ : ∃ F, rE l day off L d2 s2 a2 = F := ⟨_, rfl⟩
    obtain ⟨Z, hZ⟩ : ∃ Z, rT l day off K d s a = Z := ⟨_, rfl⟩
    obtain ⟨Y, hY⟩ : ∃ Y, rT l day off L d2 s2 a2 = Y := ⟨_, rfl⟩
    rw [hE, hF, hZ, hY] at hrise
    refine calls_Wp (args := [_, _, _]) (n := 60) Try.func8 rfl rfl (by simp) ?_
    refine Wp.seq ?_
    refine Wp.region [0, 1, 2, 3] (by kernel_rfl) (by kernel_rfl) ?_
    refine s_box rfl rfl rfl rfl rfl rfl (fun bk1 w1 kb1 lw1 => ?_)
    have kz3 := Nat.le_trans pz.1.size kb1
    replace pz := And.intro (pz.1.trans lw1) trivial
    try have nR3 := hR.ne kb1
    try replace hR := hR.later lw1
    refine s_box rfl rfl rfl rfl rfl rfl (fun bk2 w2 kb2 lw2 => ?_)
    have kz4 := Nat.le_trans pz.1.size kb2
    replace pz := And.intro (pz.1.trans lw2) trivial
    try have nR4 := hR.ne kb2
    try replace hR := hR.later lw2
    refine s_box rfl rfl rfl rfl rfl rfl (fun bk3 w3 kb3 lw3 => ?_)
    have kz5 := Nat.le_trans pz.1.size kb3
    replace pz := And.intro (pz.1.trans lw3) trivial
    try have nR5 := hR.ne kb3
    try replace hR := hR.later lw3
    refine s_assign rfl rfl rfl rfl ?_
    refine vOrd_nil ?_
    refine Wp.seq ?_
    refine Wp.region [0, 1, 2, 3, 4, 5, 6, 7, 8, 9, 10, 11] (by kernel_rfl) (by kernel_rfl) ?_
    refine s_field 0 rfl rfl rfl rfl rfl ?_
    refine s_load rfl rfl rfl rfl rfl rfl rfl ?_
    refine s_field 1 rfl rfl rfl rfl rfl ?_
    refine s_load rfl rfl rfl rfl rfl rfl rfl ?_
    refine s_field 2 rfl rfl rfl rfl rfl ?_
    refine s_load rfl rfl rfl rfl rfl rfl rfl ?_
    refine s_callT rfl rfl rfl (by kernel_rfl) rfl (pnew_yes l hlc hd ho hm (hv.later pz.1)) ?_
    rintro v w4 ⟨b1, bs1, rfl, hb1, hR⟩ lw4
    replace pz := And.intro (pz.1.trans lw4) trivial
    try replace hR := hR.later lw4
    refine s_move rfl rfl rfl rfl ?_
    refine s_extract rfl rfl rfl rfl rfl ?_
    refine s_extract rfl rfl rfl rfl rfl ?_
    refine s_assign rfl rfl rfl rfl ?_
    refine s_assign rfl rfl rfl rfl ?_
    refine vOrd_nil ?_
    refine Wp.seq ?_
    refine Wp.seq ?_
    refine Wp.region [0, 1, 2, 3, 4, 5, 6, 7] (by kernel_rfl) (by kernel_rfl) ?_
    refine s_move rfl rfl rfl rfl ?_
    refine f_neq rfl rfl rfl rfl rfl (by omega) ?_
    refine s_move rfl rfl rfl rfl ?_
    refine s_load rfl rfl rfl rfl rfl rfl rfl ?_
    refine s_load rfl rfl rfl rfl rfl rfl rfl ?_
    refine s_callT rfl rfl rfl (by kernel_rfl) rfl (rbbefore_any d s a d2 s2 a2) ?_
    rintro v w5 rfl lw5
    replace pz := And.intro (pz.1.trans lw5) trivial
    try replace hR := hR.later lw5
    rcases Bool.eq_false_or_eq_true (decide (d < d2 ∨ d = d2 ∧ (s < s2 ∨ s = s2 ∧ a < a2))) with h28 | h28
    · rw [h28]
      have hbe := of_decide_eq_true h28
      refine s_not rfl rfl rfl rfl ?_
      refine s_pick rfl rfl rfl rfl rfl ?_
      refine vOrd_nil ?_
      refine Wp.condF rfl rfl ?_
      refine Wp.skip ?_
      refine Wp.seq ?_
      refine Wp.region [0, 1, 2, 3, 4, 5, 6, 7, 8] (by kernel_rfl) (by kernel_rfl) ?_
      refine s_move rfl rfl rfl rfl ?_
      refine s_load rfl rfl rfl rfl rfl rfl rfl ?_
      refine s_callT rfl rfl rfl (by kernel_rfl) rfl (ptai_any hR hm hd6 hs6 ha6 hcut) ?_
      rintro v w6 ⟨nu, rfl, mh, ml, rfl, hmm⟩ lw6
      replace pz := And.intro (pz.1.trans lw6) trivial
      try replace hR := hR.later lw6
      rw [hE]
      rw [hZ] at hmm
      refine s_move rfl rfl rfl rfl ?_
      refine s_extract rfl rfl rfl rfl rfl ?_
      refine s_extract rfl rfl rfl rfl rfl ?_
      refine s_alloc rfl rfl rfl rfl rfl (fun bk7 w7 kb7 lw7 => ?_)
      have kz9 := Nat.le_trans pz.1.size kb7
      replace pz := And.intro (pz.1.trans lw7) trivial
      try have nR9 := hR.ne kb7
      try replace hR := hR.later lw7
      refine s_store rfl rfl rfl rfl rfl rfl rfl (fun w8 sw8 vw8 => ?_)
      replace pz := And.intro (pz.1.sto sw8 kz9) trivial
      try replace hR := hR.sto sw8 nR9
      refine s_assign rfl rfl rfl rfl ?_
      refine vOrd_nil ?_
      refine Wp.seq ?_
      refine Wp.region [0, 1, 2, 3, 4, 5, 6, 7, 8] (by kernel_rfl) (by kernel_rfl) ?_
      refine s_move rfl rfl rfl rfl ?_
      refine s_load rfl rfl rfl rfl rfl rfl rfl ?_
      refine s_callT rfl rfl rfl (by kernel_rfl) rfl (ptai_any hR hm hd62 hs62 ha62 hcut2) ?_
      rintro v w9 ⟨ou, rfl, oh, ol, rfl, hon⟩ lw9
      replace pz := And.intro (pz.1.trans lw9) trivial
      try replace hR := hR.later lw9
      rw [hF]
      rw [hY] at hon
      refine s_move rfl rfl rfl rfl ?_
      refine s_extract rfl rfl rfl rfl rfl ?_
      refine s_extract rfl rfl rfl rfl rfl ?_
      refine s_alloc rfl rfl rfl rfl rfl (fun bk10 w10 kb10 lw10 => ?_)
      have kz11 := Nat.le_trans pz.1.size kb10
      replace pz := And.intro (pz.1.trans lw10) trivial
      try have nR11 := hR.ne kb10
      try replace hR := hR.later lw10
      refine s_store rfl rfl rfl rfl rfl rfl rfl (fun w11 sw11 vw11 => ?_)
      replace pz := And.intro (pz.1.sto sw11 kz11) trivial
      try replace hR := hR.sto sw11 nR11
      refine s_assign rfl rfl rfl rfl ?_
      refine vOrd_nil ?_
      refine Wp.seq ?_
      refine Wp.seq ?_
      refine Wp.region [0, 1, 2, 3, 4, 5] (by kernel_rfl) (by kernel_rfl) ?_
      refine s_move rfl rfl rfl rfl ?_
      refine p_neq rfl rfl rfl rfl rfl (fun h45 => ?_) (fun h45 => ?_)
      · refine s_move rfl rfl rfl rfl ?_
        refine s_skip rfl rfl rfl ?_
        refine s_skip rfl rfl rfl ?_
        refine s_pick rfl rfl rfl rfl rfl ?_
        refine vOrd_nil ?_
        refine Wp.condT rfl rfl ?_
        refine Wp.seq ?_
        refine Wp.region [0, 1] (by kernel_rfl) (by kernel_rfl) ?_
        refine s_callT rfl rfl rfl (by kernel_rfl) rfl (rbanswers_any) ?_
        rintro v w12 rfl lw12
        replace pz := And.intro (pz.1.trans lw12) trivial
        try replace hR := hR.later lw12
        refine s_assign rfl rfl rfl rfl ?_
        refine vOrd_nil ?_
        refine Wp.ret ⟨.inr rfl, fun lW => ⟨_, res_tmp (P := Try.prog) rfl rfl, _, rfl, ?_, lW⟩⟩
        clear lW
        rfl
      · refine s_move rfl rfl rfl rfl ?_
        refine s_move rfl rfl rfl rfl ?_
        refine p_neq rfl rfl rfl rfl rfl (fun h48 => ?_) (fun h48 => ?_)
        · refine s_pick rfl rfl rfl rfl rfl ?_
          refine vOrd_nil ?_
          refine Wp.condT rfl rfl ?_
          refine Wp.seq ?_
          refine Wp.region [0, 1] (by kernel_rfl) (by kernel_rfl) ?_
          refine s_callT rfl rfl rfl (by kernel_rfl) rfl (rbanswers_any) ?_
          rintro v w13 rfl lw13
          replace pz := And.intro (pz.1.trans lw13) trivial
          try replace hR := hR.later lw13
          refine s_assign rfl rfl rfl rfl ?_
          refine vOrd_nil ?_
          refine Wp.ret ⟨.inr rfl, fun lW => ⟨_, res_tmp (P := Try.prog) rfl rfl, _, rfl, ?_, lW⟩⟩
          clear lW
          rfl
        · refine s_pick rfl rfl rfl rfl rfl ?_
          refine vOrd_nil ?_
          refine Wp.condF rfl rfl ?_
          refine Wp.skip ?_
          refine Wp.seq ?_
          have hlt := hrise (by omega) (by omega) hbe
          have c1 := cmpI_low (x := Z) (y := Y)
          refine (Wp.drawn (by kernel_rfl) (by kernel_rfl) [0, 1, 2, 4, 3, 5, 6, 7, 8, 9] [0, 0, 19, 15, 0, 0, 0, 0, 0, 0] (by kernel_rfl) (by kernel_rfl) (fun | 0 => fun v _ => v = .bool true | 3 => IsBig 11 Z | 5 => IsBig 11 Y | 6 => fun v _ => v = .int .i64 (cmpI Z Y) | _ => fun _ _ => True) (fun wd ld => ?_))
          replace pz := And.intro (pz.1.trans ld) trivial
          try replace hR := hR.later ld
          refine s_callD rfl rfl rfl (by kernel_rfl) rfl (fun wc lc => rbanswers_any) ?_
          rintro v w14 u14 rfl lw14 mw14
          replace pz := And.intro (pz.1.trans lw14) trivial
          try replace hR := hR.later lw14
          replace pz := And.intro (pz.1.trans mw14) trivial
          try replace hR := hR.later mw14
          refine s_move rfl rfl rfl rfl ?_
          refine s_load rfl rfl rfl rfl rfl rfl rfl ?_
          refine s_load rfl rfl rfl rfl rfl rfl rfl ?_
          refine s_callD rfl rfl rfl (by kernel_rfl) rfl (fun wc lc => c_rof ⟨_, _, rfl, hmm⟩ wc) ?_
          rintro v w15 u15 hr1 lw15 mw15
          replace pz := And.intro (pz.1.trans lw15) trivial
          try replace hR := hR.later lw15
          replace pz := And.intro (pz.1.trans mw15) trivial
          try replace hR := hR.later mw15
          refine s_callD rfl rfl rfl (by kernel_rfl) rfl (fun wc lc => c_rof ⟨_, _, rfl, hon⟩ wc) ?_
          rintro v w16 u16 hr2 lw16 mw16
          replace pz := And.intro (pz.1.trans lw16) trivial
          try replace hR := hR.later lw16
          replace pz := And.intro (pz.1.trans mw16) trivial
          try replace hR := hR.later mw16
          refine s_callD rfl rfl rfl (by kernel_rfl) rfl (fun wc lc => c_cmp (hr1.keeps (by repeat (first | exact Keeps.refl _ | refine Keeps.trans ?_ (Keeps.later (by assumption)) | refine Keeps.trans ?_ (Keeps.stored (by assumption) (by assumption) rfl) | refine Keeps.trans ?_ (Keeps.fresh (by assumption) (by assumption) (by assumption))))) (hr2.keeps (by repeat (first | exact Keeps.refl _ | refine Keeps.trans ?_ (Keeps.later (by assumption)) | refine Keeps.trans ?_ (Keeps.stored (by assumption) (by assumption) rfl) | refine Keeps.trans ?_ (Keeps.fresh (by assumption) (by assumption) (by assumption))))) (by decide) (by decide)) ?_
          rintro v w17 u17 rfl lw17 mw17
          replace pz := And.intro (pz.1.trans lw17) trivial
          try replace hR := hR.later lw17
          replace pz := And.intro (pz.1.trans mw17) trivial
          try replace hR := hR.later mw17
          refine t_lss rfl rfl rfl rfl rfl (by exact c1.2 hlt) ?_
          refine s_pick rfl rfl rfl rfl rfl ?_
          refine s_assign rfl rfl rfl rfl ?_
          refine vOrd_nil ?_
          refine Wp.ret ⟨.inr rfl, fun lW => ⟨_, res_tmp (P := Try.prog) rfl rfl, _, rfl, ?_, lW⟩⟩
          clear lW
          rfl
    · rw [h28]
      refine s_not rfl rfl rfl rfl ?_
      refine s_pick rfl rfl rfl rfl rfl ?_
      refine vOrd_nil ?_
      refine Wp.condT rfl rfl ?_
      refine Wp.seq ?_
      refine Wp.region [0, 1] (by kernel_rfl) (by kernel_rfl) ?_
      refine s_callT rfl rfl rfl (by kernel_rfl) rfl (rbanswers_any) ?_
      rintro v w18 rfl lw18
      replace pz := And.intro (pz.1.trans lw18) trivial
      try replace hR := hR.later lw18
      refine s_assign rfl rfl rfl rfl ?_
      refine vOrd_nil ?_
      refine Wp.ret ⟨.inr rfl, fun lW => ⟨_, res_tmp (P := Try.prog) rfl rfl, _, rfl, ?_, lW⟩⟩
      clear lW
      rfl

end Go.Proofs.Ytokpneglldfmjaa
