/-
 The contracts of utc's functions: mayBe, second, Tai, Label, Exists (P13.1, P13.2). Of tables that may be; what is asked less than 900000 times.
-/
import Derived.Test.YthihioakjpmnbaaGreatSegA
namespace Go.Proofs.YthihioakjpmnbaaGreat
open Go.RowKit
set_option maxRecDepth 100000

theorem Nx.first {w w1 : World} {R R' : Option Nat} (h : Nx w1 R R') (l : w.heap.size ≤ w1.heap.size) : Nx w R R' := .trans (.inl rfl) h l
theorem umay_any (d s a : Int) {w : World} : Calls Tryz.prog 112 #[.agg #[.int .i64 d, .int .i64 s, .int .i64 a]] w fun e w' => ∃ r, e = .returned r ∧ r = .bool (isU s a) ∧ Below w.heap.size w w' := by
 refine calls_Wp (args := [_]) (n := 21) Tryz.func112 rfl rfl (by simp) ?_
 refine Wp.seq ?_
 refine wR [0, 1] ?_
 refine sE (fun bk1 w1 kb1 lw1 => ?_)
 refine sZ 1 ?_
 refine qQ 2 ?_
 refine p_geq rfl rfl rfl rfl rfl (fun h5 => ?_) (fun h5 => ?_)
 ·refine sQ 3 ?_
  refine p_leq rfl rfl rfl rfl rfl (fun h9 => ?_) (fun h9 => ?_)
  ·refine sQ 4 ?_
   refine p_geq rfl rfl rfl rfl rfl (fun h14 => ?_) (fun h14 => ?_)
   ·refine sQ 4 ?_
    refine p_lss rfl rfl rfl rfl rfl (fun h19 => ?_) (fun h19 => ?_)
    ·refine sZ 2 ?_
     refine Wp.ret ⟨.inr rfl, fun lW => ⟨_, res_tmp (P := Tryz.prog) rfl rfl, _, rfl, ?_, lW⟩⟩
     clear lW
     rw [isU_iff.2 (by omega)]
    ·refine sZ 2 ?_
     refine Wp.ret ⟨.inr rfl, fun lW => ⟨_, res_tmp (P := Tryz.prog) rfl rfl, _, rfl, ?_, lW⟩⟩
     clear lW
     rw [isU_no.2 (by omega)]
   ·refine sZ 7 ?_
    refine Wp.ret ⟨.inr rfl, fun lW => ⟨_, res_tmp (P := Tryz.prog) rfl rfl, _, rfl, ?_, lW⟩⟩
    clear lW
    rw [isU_no.2 (by omega)]
  ·refine sZ 12 ?_
   refine Wp.ret ⟨.inr rfl, fun lW => ⟨_, res_tmp (P := Tryz.prog) rfl rfl, _, rfl, ?_, lW⟩⟩
   clear lW
   rw [isU_no.2 (by omega)]
 ·refine sZ 16 ?_
  refine Wp.ret ⟨.inr rfl, fun lW => ⟨_, res_tmp (P := Tryz.prog) rfl rfl, _, rfl, ?_, lW⟩⟩
  clear lW
  rw [isU_no.2 (by omega)]
theorem utai_any {t : Tb} {b c : Nat} {R : Option Nat} {k : Int} {w : World} (hb : canBe t = true) (hL : Lp w b c R t k) (hk : 0 ≤ k ∧ k ≤ 900000) {d s a : Int} (hd : I64 d) (hs : I64 s) (ha : I64 a) {K : Nat} (hcut : Cut (pDay d) t.es K) : Calls Tryz.prog 76 #[.pointer (some ⟨b, 0, none⟩), .agg #[.int .i64 d, .int .i64 s, .int .i64 a]] w fun e w' => ∃ v, e = .returned v ∧ (∃ cs', ((∃ u, v = .tuple #[u, .int .i64 (whyE t.es K d s a)] ∧ IsW (taiZ t.es K d s a) u) ∧ ∃ R' k', Nx w R R' ∧ (k ≤ k' ∧ k' ≤ k + 2) ∧ Lp w' b c R' t k') ∧ Var w' b cs') ∧ w.grownBy w' (some b) := by
 obtain ⟨cs0, hv⟩ := hL.var
 have hA := can_A hb K
 have hmi := more_one hb K d
 obtain ⟨hd0, hd1⟩ := hd
 obtain ⟨hs0, hs1⟩ := hs
 obtain ⟨ha0, ha1⟩ := ha
 obtain ⟨Z, hZ⟩ : ∃ Z, taiZ t.es K d s a = Z := ⟨_, rfl⟩
 obtain ⟨E, hE⟩ : ∃ E, whyE t.es K d s a = E := ⟨_, rfl⟩
 rw [hZ, hE]
 have hno : E ≠ 0 → Z = 0 := fun h => by rw [← hZ]; exact tai_no (by rw [hE]; exact h)
 cases hU : isU s a with
 | false =>
  obtain rfl : 1 = E := by rw [← hE, why_bad hU]
  obtain rfl : Z = 0 := hno (by decide)
  refine calls_WpH (args := [_]) (n := 75) hv Tryz.func76 rfl rfl (by simp) ?_
  refine Wp.seq ?_
  refine wR [0, 1, 2] ?_
  refine sE (fun bk1 w1 kb1 lw1 => ?_)
  have nL3 := hL.ne kb1
  replace hL := hL.later lw1
  have hs3 := lw1.size
  refine sO (fun bk2 w2 kb2 lw2 => ?_)
  have nL4 := hL.ne kb2
  replace hL := hL.later lw2
  have hs4 := lw2.size
  refine sZ 1 ?_
  refine Wp.seq ?_
  refine qQ 1 ?_
  refine s_nilEq (some ⟨b, 0, none⟩) rfl rfl rfl rfl rfl ?_
  refine vOrd_nil ?_
  refine Wp.condF rfl rfl ?_
  refine Wp.skip ?_
  refine Wp.seq ?_
  refine qQ 1 ?_
  refine sT (umay_any d s a) ?_
  rintro v w4 rfl lw4
  replace hL := hL.later lw4
  have hsllw4 := lw4.size
  rw [hU]
  refine sZ 1 ?_
  refine Wp.condT rfl rfl ?_
  refine Wp.seq ?_
  refine wR [0, 1, 2] ?_
  refine sB ?_
  refine sS (fun w5 sw5 vw5 => ?_)
  replace hL := hL.sto sw5 nL4
  refine sZ 1 ?_
  refine Wp.ret ⟨.inr rfl, fun mW lW => ⟨_, ⟨_, _, res_cell rfl rfl rfl rfl, res_tmp (P := Tryz.prog) rfl rfl, rfl⟩, _, rfl, ?_, lW⟩⟩
  exact ⟨_, ⟨⟨_, rfl, _, _, rfl, (by unfold WideIs; omega)⟩, _, _, .inl rfl, ⟨by omega, by omega⟩, hL⟩, mW 899 _ _ rfl⟩
 | true =>
  have hU' := isU_iff.1 hU
  have hS : isL 0 a = true := isL_iff.2 ⟨by omega, by omega, hU'.2.2⟩
  cases hB : inB d with
  | false =>
   obtain rfl : 2 = E := by rw [← hE, why_far hU hB]
   obtain rfl : Z = 0 := hno (by decide)
   obtain ⟨e1, e2⟩ := lab_far (d := d) hS hB
   refine calls_WpH (args := [_]) (n := 75) hv Tryz.func76 rfl rfl (by simp) ?_
   refine Wp.seq ?_
   refine wR [0, 1, 2] ?_
   refine sE (fun bk1 w1 kb1 lw1 => ?_)
   have nL3 := hL.ne kb1
   replace hL := hL.later lw1
   have hs3 := lw1.size
   refine sO (fun bk2 w2 kb2 lw2 => ?_)
   have nL4 := hL.ne kb2
   replace hL := hL.later lw2
   have hs4 := lw2.size
   refine sZ 1 ?_
   refine Wp.seq ?_
   refine qQ 1 ?_
   refine s_nilEq (some ⟨b, 0, none⟩) rfl rfl rfl rfl rfl ?_
   refine vOrd_nil ?_
   refine Wp.condF rfl rfl ?_
   refine Wp.skip ?_
   refine Wp.seq ?_
   refine qQ 1 ?_
   refine sT (umay_any d s a) ?_
   rintro v w4 rfl lw4
   replace hL := hL.later lw4
   have hsllw4 := lw4.size
   rw [hU]
   refine sZ 1 ?_
   refine Wp.condF rfl rfl ?_
   refine Wp.skip ?_
   refine qQ 4 ?_
   refine sB ?_
   refine sT (djoin_any (d := d) (s := 0) (a := a) ⟨hd0, hd1⟩ ⟨by omega, by omega⟩ ⟨ha0, ha1⟩ _) ?_
   rintro v w5 ⟨ju, rfl, jh, jl, rfl, hj⟩ lw5
   replace hL := hL.later lw5
   have hsllw5 := lw5.size
   rw [e1]
   rw [e2] at hj
   refine sQ 3 ?_
   refine sO (fun bk6 w6 kb6 lw6 => ?_)
   have nL6 := hL.ne kb6
   replace hL := hL.later lw6
   have hs6 := lw6.size
   refine sS (fun w7 sw7 vw7 => ?_)
   replace hL := hL.sto sw7 nL6
   refine sZ 1 ?_
   refine Wp.seq ?_
   refine qQ 1 ?_
   refine t_neq rfl rfl rfl rfl rfl (by omega) ?_
   refine vOrd_nil ?_
   refine Wp.condT rfl rfl ?_
   refine Wp.seq ?_
   refine wR [0, 1, 2, 3] ?_
   refine sB ?_
   refine sM ?_
   refine sS (fun w8 sw8 vw8 => ?_)
   replace hL := hL.sto sw8 nL4
   refine sZ 1 ?_
   refine Wp.ret ⟨.inr rfl, fun mW lW => ⟨_, ⟨_, _, res_cell rfl rfl rfl rfl, res_tmp (P := Tryz.prog) rfl rfl, rfl⟩, _, rfl, ?_, lW⟩⟩
   exact ⟨_, ⟨⟨_, rfl, _, _, rfl, (by unfold WideIs; omega)⟩, _, _, .inl rfl, ⟨by omega, by omega⟩, hL⟩, mW 899 _ _ rfl⟩
  | true =>
   obtain ⟨e1, e2⟩ := lab_ok (d := d) hS hB
   have hB' := inB_iff.1 hB
   rcases Nat.eq_zero_or_pos K with hK | hK
   ·obtain rfl : 8 = E := by rw [← hE, why_early hU hB hK]
    obtain rfl : Z = 0 := hno (by decide)
    refine calls_WpH (args := [_]) (n := 75) hv Tryz.func76 rfl rfl (by simp) ?_
    refine Wp.seq ?_
    refine wR [0, 1, 2] ?_
    refine sE (fun bk1 w1 kb1 lw1 => ?_)
    have nL3 := hL.ne kb1
    replace hL := hL.later lw1
    have hs3 := lw1.size
    refine sO (fun bk2 w2 kb2 lw2 => ?_)
    have nL4 := hL.ne kb2
    replace hL := hL.later lw2
    have hs4 := lw2.size
    refine sZ 1 ?_
    refine Wp.seq ?_
    refine qQ 1 ?_
    refine s_nilEq (some ⟨b, 0, none⟩) rfl rfl rfl rfl rfl ?_
    refine vOrd_nil ?_
    refine Wp.condF rfl rfl ?_
    refine Wp.skip ?_
    refine Wp.seq ?_
    refine qQ 1 ?_
    refine sT (umay_any d s a) ?_
    rintro v w4 rfl lw4
    replace hL := hL.later lw4
    have hsllw4 := lw4.size
    rw [hU]
    refine sZ 1 ?_
    refine Wp.condF rfl rfl ?_
    refine Wp.skip ?_
    refine qQ 4 ?_
    refine sB ?_
    refine sT (djoin_any (d := d) (s := 0) (a := a) ⟨hd0, hd1⟩ ⟨by omega, by omega⟩ ⟨ha0, ha1⟩ _) ?_
    rintro v w5 ⟨ju, rfl, jh, jl, rfl, hj⟩ lw5
    replace hL := hL.later lw5
    have hsllw5 := lw5.size
    rw [e1]
    rw [e2] at hj
    refine sQ 3 ?_
    refine sO (fun bk6 w6 kb6 lw6 => ?_)
    have nL6 := hL.ne kb6
    replace hL := hL.later lw6
    have hs6 := lw6.size
    refine sS (fun w7 sw7 vw7 => ?_)
    replace hL := hL.sto sw7 nL6
    refine sZ 1 ?_
    refine Wp.seq ?_
    refine qQ 1 ?_
    refine f_neq rfl rfl rfl rfl rfl (by omega) ?_
    refine vOrd_nil ?_
    refine Wp.condF rfl rfl ?_
    refine Wp.skip ?_
    refine Wp.seq ?_
    refine Wp.var (h := 3) rfl (fun v3 => ?_)
    have q3 := v3.lt
    refine Wp.var (h := 4) rfl (fun v4 => ?_)
    have q4 := v4.lt
    refine Wp.var (h := 6) rfl (fun v6 => ?_)
    have q6 := v6.lt
    refine wQ 3 ?_
    refine s_callH 899 rfl rfl rfl (by kernel_rfl) rfl rfl (fun vr => (length_none hb hL ⟨by omega, by omega⟩ hcut hK)) ?_
    rintro v cs8 w8 ⟨rfl, R1, hNq, hLq⟩ gw8 vw8
    have mL3 := hNq.ne nL3.2.2 q3
    replace nL3 := And.intro nL3.1 (And.intro nL3.2.1 mL3)
    have mL4 := hNq.ne nL4.2.2 q4
    replace nL4 := And.intro nL4.1 (And.intro nL4.2.1 mL4)
    have mL6 := hNq.ne nL6.2.2 q6
    replace nL6 := And.intro nL6.1 (And.intro nL6.2.1 mL6)
    clear hL
    have hL := hLq
    clear hLq
    refine sZ 5 ?_
    refine Wp.seq ?_
    refine qQ 1 ?_
    refine t_neq rfl rfl rfl rfl rfl (by omega) ?_
    refine vOrd_nil ?_
    refine Wp.condT rfl rfl ?_
    refine Wp.seq ?_
    refine wR [0, 1, 2, 3] ?_
    refine sB ?_
    refine sM ?_
    refine sS (fun w9 sw9 vw9 => ?_)
    replace hL := hL.sto sw9 nL4
    refine sZ 1 ?_
    refine Wp.ret ⟨.inr rfl, fun mW lW => ⟨_, ⟨_, _, res_cell rfl rfl rfl rfl, res_tmp (P := Tryz.prog) rfl rfl, rfl⟩, _, rfl, ?_, lW⟩⟩
    exact ⟨_, ⟨⟨_, rfl, _, _, rfl, (by unfold WideIs; omega)⟩, _, _, hNq.first (by omega), ⟨by omega, by omega⟩, hL⟩, mW 899 _ _ rfl⟩
   ·have hH := hmi
    refine calls_WpH (args := [_]) (n := 75) hv Tryz.func76 rfl rfl (by simp) ?_
    refine Wp.seq ?_
    refine wR [0, 1, 2] ?_
    refine sE (fun bk1 w1 kb1 lw1 => ?_)
    have nL3 := hL.ne kb1
    replace hL := hL.later lw1
    have hs3 := lw1.size
    refine sO (fun bk2 w2 kb2 lw2 => ?_)
    have nL4 := hL.ne kb2
    replace hL := hL.later lw2
    have hs4 := lw2.size
    refine sZ 1 ?_
    refine Wp.seq ?_
    refine qQ 1 ?_
    refine s_nilEq (some ⟨b, 0, none⟩) rfl rfl rfl rfl rfl ?_
    refine vOrd_nil ?_
    refine Wp.condF rfl rfl ?_
    refine Wp.skip ?_
    refine Wp.seq ?_
    refine qQ 1 ?_
    refine sT (umay_any d s a) ?_
    rintro v w4 rfl lw4
    replace hL := hL.later lw4
    have hsllw4 := lw4.size
    rw [hU]
    refine sZ 1 ?_
    refine Wp.condF rfl rfl ?_
    refine Wp.skip ?_
    refine qQ 4 ?_
    refine sB ?_
    refine sT (djoin_any (d := d) (s := 0) (a := a) ⟨hd0, hd1⟩ ⟨by omega, by omega⟩ ⟨ha0, ha1⟩ _) ?_
    rintro v w5 ⟨ju, rfl, jh, jl, rfl, hj⟩ lw5
    replace hL := hL.later lw5
    have hsllw5 := lw5.size
    rw [e1]
    rw [e2] at hj
    refine sQ 3 ?_
    refine sO (fun bk6 w6 kb6 lw6 => ?_)
    have nL6 := hL.ne kb6
    replace hL := hL.later lw6
    have hs6 := lw6.size
    refine sS (fun w7 sw7 vw7 => ?_)
    replace hL := hL.sto sw7 nL6
    refine sZ 1 ?_
    refine Wp.seq ?_
    refine qQ 1 ?_
    refine f_neq rfl rfl rfl rfl rfl (by omega) ?_
    refine vOrd_nil ?_
    refine Wp.condF rfl rfl ?_
    refine Wp.skip ?_
    refine Wp.seq ?_
    refine Wp.var (h := 3) rfl (fun v3 => ?_)
    have q3 := v3.lt
    refine Wp.var (h := 4) rfl (fun v4 => ?_)
    have q4 := v4.lt
    refine Wp.var (h := 6) rfl (fun v6 => ?_)
    have q6 := v6.lt
    refine wQ 3 ?_
    refine s_callH 899 rfl rfl rfl (by kernel_rfl) rfl rfl (fun vr => (length_some hb hL ⟨by omega, by omega⟩ hcut hK)) ?_
    rintro v cs8 w8 ⟨rfl, R1, hNq, hLq⟩ gw8 vw8
    have mL3 := hNq.ne nL3.2.2 q3
    replace nL3 := And.intro nL3.1 (And.intro nL3.2.1 mL3)
    have mL4 := hNq.ne nL4.2.2 q4
    replace nL4 := And.intro nL4.1 (And.intro nL4.2.1 mL4)
    have mL6 := hNq.ne nL6.2.2 q6
    replace nL6 := And.intro nL6.1 (And.intro nL6.2.1 mL6)
    clear hL
    have hL := hLq
    clear hLq
    have hN1 := hNq
    clear hNq
    refine sZ 5 ?_
    refine Wp.seq ?_
    refine qQ 1 ?_
    refine f_neq rfl rfl rfl rfl rfl (by omega) ?_
    refine vOrd_nil ?_
    refine Wp.condF rfl rfl ?_
    refine Wp.skip ?_
    refine Wp.seq ?_
    refine qQ 3 ?_
    refine p_geq rfl rfl rfl rfl rfl (fun h49 => ?_) (fun h49 => ?_)
    ·obtain rfl : 6 = E := by rw [← hE, why_none hU hB hK (by omega)]
     obtain rfl : Z = 0 := hno (by decide)
     refine vOrd_nil ?_
     refine Wp.condT rfl rfl ?_
     refine Wp.seq ?_
     refine wR [0, 1, 2] ?_
     refine sB ?_
     refine sS (fun w9 sw9 vw9 => ?_)
     replace hL := hL.sto sw9 nL4
     refine sZ 1 ?_
     refine Wp.ret ⟨.inr rfl, fun mW lW => ⟨_, ⟨_, _, res_cell rfl rfl rfl rfl, res_tmp (P := Tryz.prog) rfl rfl, rfl⟩, _, rfl, ?_, lW⟩⟩
     exact ⟨_, ⟨⟨_, rfl, _, _, rfl, (by unfold WideIs; omega)⟩, _, _, hN1.first (by omega), ⟨by omega, by omega⟩, hL⟩, mW 899 _ _ rfl⟩
    ·obtain rfl : 0 = E := by rw [← hE, why_ok hU hB hK (by omega)]
     have hZ2 : Z = (d * 86400 + 0) * 1000000000000000000 + a + (s + offA t.es K) * 1000000000000000000 := by rw [← hZ, tai_ok hE]; unfold cnt; omega
     obtain ⟨f1, f2⟩ := fit_ok (z := (s + offA t.es K) * 1000000000000000000) (by omega) (by omega)
     obtain ⟨g1, g2⟩ := fit_ok (z := Z) (by omega) (by omega)
     refine vOrd_nil ?_
     refine Wp.condF rfl rfl ?_
     refine Wp.skip ?_
     refine Wp.seq ?_
     refine Wp.var (h := 3) rfl (fun v3 => ?_)
     have q3 := v3.lt
     refine Wp.var (h := 4) rfl (fun v4 => ?_)
     have q4 := v4.lt
     refine Wp.var (h := 6) rfl (fun v6 => ?_)
     have q6 := v6.lt
     refine wQ 3 ?_
     refine s_callH 899 rfl rfl rfl (by kernel_rfl) rfl rfl (fun vr => (offset_any hb hL ⟨by omega, by omega⟩ hcut)) ?_
     rintro v cs10 w10 ⟨rfl, R2, hNq, hLq⟩ gw10 vw10
     have mL3 := hNq.ne nL3.2.2 q3
     replace nL3 := And.intro nL3.1 (And.intro nL3.2.1 mL3)
     have mL4 := hNq.ne nL4.2.2 q4
     replace nL4 := And.intro nL4.1 (And.intro nL4.2.1 mL4)
     have mL6 := hNq.ne nL6.2.2 q6
     replace nL6 := And.intro nL6.1 (And.intro nL6.2.1 mL6)
     clear hL
     have hL := hLq
     clear hLq
     refine sZ 5 ?_
     refine qQ 3 ?_
     refine aP (-9223372036854775808) 9223372036854775807 ?_
     refine s_callT rfl rfl rfl (by kernel_rfl) rfl (c_wof (s + offA t.es K) (by omega) (by omega) _) ?_
     rintro v w11 k1 lw11
     replace hL := hL.later lw11
     have hsllw11 := lw11.size
     refine s_callT rfl rfl rfl (by kernel_rfl) rfl (c_wof 1000000000000000000 (by omega) (by omega) _) ?_
     rintro v w12 k2 lw12
     replace hL := hL.later lw12
     have hsllw12 := lw12.size
     refine sT (c_wmul k1 k2 _) ?_
     rintro v w13 ⟨mu, rfl, mh, ml, rfl, k3⟩ lw13
     replace hL := hL.later lw13
     have hsllw13 := lw13.size
     rw [f2]
     rw [f1] at k3
     refine sQ 3 ?_
     refine sO (fun bk14 w14 kb14 lw14 => ?_)
     have nL11 := hL.ne kb14
     replace hL := hL.later lw14
     have hs11 := lw14.size
     refine sS (fun w15 sw15 vw15 => ?_)
     replace hL := hL.sto sw15 nL11
     refine sZ 1 ?_
     refine qQ 2 ?_
     refine sT (c_wadd ⟨_, _, rfl, hj⟩ ⟨_, _, rfl, k3⟩ _) ?_
     rintro v w16 ⟨au, rfl, ah, al, rfl, k5⟩ lw16
     replace hL := hL.later lw16
     have hsllw16 := lw16.size
     rw [show cnt d 0 a + (s + offA t.es K) * 1000000000000000000 = Z from hZ2.symm] at k5 ⊢
     rw [g2]
     rw [g1] at k5
     refine sQ 3 ?_
     refine sO (fun bk17 w17 kb17 lw17 => ?_)
     have nL13 := hL.ne kb17
     replace hL := hL.later lw17
     have hs13 := lw17.size
     refine sS (fun w18 sw18 vw18 => ?_)
     replace hL := hL.sto sw18 nL13
     refine sZ 1 ?_
     refine qQ 1 ?_
     refine sS (fun w19 sw19 vw19 => ?_)
     replace hL := hL.sto sw19 nL4
     refine sZ 1 ?_
     refine Wp.ret ⟨.inr rfl, fun mW lW => ⟨_, ⟨_, _, res_cell rfl rfl rfl rfl, res_tmp (P := Tryz.prog) rfl rfl, rfl⟩, _, rfl, ?_, lW⟩⟩
     exact ⟨_, ⟨⟨_, rfl, _, _, rfl, k5⟩, _, _, (hN1.first (by omega)).trans hNq (by omega), ⟨by omega, by omega⟩, hL⟩, mW 899 _ _ rfl⟩
end Go.Proofs.YthihioakjpmnbaaGreat
