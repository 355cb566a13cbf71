/-
 The contracts of utc's functions: mayBe, second, Tai, Label, Exists (P13.1, P13.2). Of tables that may be; what is asked less than 900000 times.
-/
import Derived.Test.YtdpodbfamgafiaaGreatUtA
namespace Go.Proofs.YtdpodbfamgafiaaGreat
open Go.RowKit
set_option maxRecDepth 100000

theorem Nx.first {w w1 : World} {R R' : Option Nat} (h : Nx w1 R R') (l : w.heap.size ≤ w1.heap.size) : Nx w R R' := .trans (.inl rfl) h l
theorem umay_any (d s a : Int) {w : World} : Calls Tryz.prog 93 #[.agg #[.int .i64 d, .int .i64 s, .int .i64 a]] w fun e w' => ∃ r, e = .returned r ∧ r = .bool (isU s a) ∧ Below w.heap.size w w' := by
 refine calls_Wp (args := [_]) (n := 21) Tryz.func93 rfl rfl (by simp) ?_
 refine Wp.seq ?_
 refine wR [0, 1] ?_
 refine sE (fun bk1 w1 kb1 lw1 => ?_)
 refine sZ 1 ?_
 refine qQ 2 ?_
 refine p_geq rfl rfl rfl rfl rfl (fun h5 => ?_) (fun h5 => ?_)
 ·refine sQ 3 ?_
  refine p_leq rfl rfl rfl rfl rfl (fun h9 => ?_) (fun h9 => ?_)
  ·refine sQ 4 ?_
   refine p_geq rfl rfl rfl rfl rfl (fun h14 => ?_) (fun h14 => ?_)
   ·refine sQ 4 ?_
    refine p_lss rfl rfl rfl rfl rfl (fun h19 => ?_) (fun h19 => ?_)
    ·refine sZ 2 ?_
     refine Wp.ret ⟨.inr rfl, fun lW => ⟨_, res_tmp (P := Tryz.prog) rfl rfl, _, rfl, ?_, lW⟩⟩
     clear lW
     rw [isU_iff.2 (by omega)]
    ·refine sZ 2 ?_
     refine Wp.ret ⟨.inr rfl, fun lW => ⟨_, res_tmp (P := Tryz.prog) rfl rfl, _, rfl, ?_, lW⟩⟩
     clear lW
     rw [isU_no.2 (by omega)]
   ·refine sZ 7 ?_
    refine Wp.ret ⟨.inr rfl, fun lW => ⟨_, res_tmp (P := Tryz.prog) rfl rfl, _, rfl, ?_, lW⟩⟩
    clear lW
    rw [isU_no.2 (by omega)]
  ·refine sZ 12 ?_
   refine Wp.ret ⟨.inr rfl, fun lW => ⟨_, res_tmp (P := Tryz.prog) rfl rfl, _, rfl, ?_, lW⟩⟩
   clear lW
   rw [isU_no.2 (by omega)]
 ·refine sZ 16 ?_
  refine Wp.ret ⟨.inr rfl, fun lW => ⟨_, res_tmp (P := Tryz.prog) rfl rfl, _, rfl, ?_, lW⟩⟩
  clear lW
  rw [isU_no.2 (by omega)]
theorem usecond_any {z : Int} {u : Value} (hu : IsW z u) {w : World} : Calls Tryz.prog 103 #[u] w fun e w' => ∃ r, e = .returned r ∧ r = .tuple #[.int .i64 (clampI (z / 1000000000000000000)), .int .i64 (z % 1000000000000000000)] ∧ Below w.heap.size w w' := by
 obtain ⟨uh, ul, rfl, hu⟩ := hu
 obtain ⟨q, hq⟩ : ∃ q, z / 1000000000000000000 = q := ⟨_, rfl⟩
 obtain ⟨a, ha⟩ : ∃ a, z % 1000000000000000000 = a := ⟨_, rfl⟩
 have hI : inI a = true := by rw [inI_iff]; omega
 have hz : (0 ≤ z → 0 ≤ q) ∧ (z < 0 → q < 0) := by omega
 have hh : (0 ≤ uh → 0 ≤ z) ∧ (uh < 0 → z < 0) := by obtain ⟨_, _, _, _, _⟩ := hu; omega
 rw [hq, ha]
 cases hc : inI q with
 | true =>
  rw [clamp_yes hc]
  refine calls_Wp (args := [_]) (n := 34) Tryz.func103 rfl rfl (by simp) ?_
  refine Wp.seq ?_
  refine wR [0, 1, 2] ?_
  refine sE (fun bk1 w1 kb1 lw1 => ?_)
  refine sZ 2 ?_
  refine Wp.seq ?_
  refine wD [0, 7, 8, 1, 2, 3, 4, 5, 6, 9, 10, 11] [386, 383, 255, 0, 0, 0, 495, 991, 1983, 0, 0, 0] (fun | 1 => fun v _ => IsW 1000000000000000000 v | 2 => fun v _ => ∃ q p, v = .tuple #[q, p, .int .i64 0] ∧ IsW (z / 1000000000000000000) q ∧ IsW (z % 1000000000000000000) p | _ => fun _ _ => True) (fun _ _ => ?_)
  refine sL ?_
  refine sO (fun bk2 w2 kb2 lw2 => ?_)
  refine sO (fun bk3 w3 kb3 lw3 => ?_)
  refine s_callD rfl rfl rfl (by kernel_rfl) rfl (fun wc lc => c_wof 1000000000000000000 (by omega) (by omega) wc) ?_
  rintro v w4 u4 k1 lw4 mw4
  refine s_callD rfl rfl rfl (by kernel_rfl) rfl (fun wc lc => c_wdiv ⟨_, _, rfl, hu⟩ k1 (by decide) wc) ?_
  rintro v w5 u5 ⟨qq, pp, rfl, ⟨qh, ql, rfl, hqq⟩, ⟨ph, pl, rfl, hpp⟩⟩ lw5 mw5
  rw [hq] at hqq
  rw [ha] at hpp
  refine sQ 4 ?_
  refine sS (fun w6 sw6 vw6 => ?_)
  refine sS (fun w7 sw7 vw7 => ?_)
  refine sZ 1 ?_
  refine qQ 1 ?_
  refine sT (c_wint ⟨_, _, rfl, hpp⟩ _) ?_
  rintro v w8 rfl lw8
  rw [(int_yes hI).1, (int_yes hI).2]
  refine sZ 4 ?_
  refine qQ 1 ?_
  refine sT (c_wint ⟨_, _, rfl, hqq⟩ _) ?_
  rintro v w9 rfl lw9
  rw [(int_yes hc).1, (int_yes hc).2]
  refine sZ 5 ?_
  refine Wp.seq ?_
  refine qQ 1 ?_
  refine t_eql rfl rfl rfl rfl rfl (by omega) ?_
  refine vOrd_nil ?_
  refine Wp.condT rfl rfl ?_
  refine qZ ?_
  refine Wp.ret ⟨.inr rfl, fun lW => ⟨_, ⟨_, _, res_tmp (P := Tryz.prog) rfl rfl, res_tmp (P := Tryz.prog) rfl rfl, rfl⟩, _, rfl, ?_, lW⟩⟩
  clear lW
  rfl
 | false =>
  refine calls_Wp (args := [_]) (n := 34) Tryz.func103 rfl rfl (by simp) ?_
  refine Wp.seq ?_
  refine wR [0, 1, 2] ?_
  refine sE (fun bk1 w1 kb1 lw1 => ?_)
  refine sZ 2 ?_
  refine Wp.seq ?_
  refine wD [0, 7, 8, 1, 2, 3, 4, 5, 6, 9, 10, 11] [386, 383, 255, 0, 0, 0, 495, 991, 1983, 0, 0, 0] (fun | 1 => fun v _ => IsW 1000000000000000000 v | 2 => fun v _ => ∃ q p, v = .tuple #[q, p, .int .i64 0] ∧ IsW (z / 1000000000000000000) q ∧ IsW (z % 1000000000000000000) p | _ => fun _ _ => True) (fun _ _ => ?_)
  refine sL ?_
  refine sO (fun bk2 w2 kb2 lw2 => ?_)
  refine sO (fun bk3 w3 kb3 lw3 => ?_)
  refine s_callD rfl rfl rfl (by kernel_rfl) rfl (fun wc lc => c_wof 1000000000000000000 (by omega) (by omega) wc) ?_
  rintro v w4 u4 k1 lw4 mw4
  refine s_callD rfl rfl rfl (by kernel_rfl) rfl (fun wc lc => c_wdiv ⟨_, _, rfl, hu⟩ k1 (by decide) wc) ?_
  rintro v w5 u5 ⟨qq, pp, rfl, ⟨qh, ql, rfl, hqq⟩, ⟨ph, pl, rfl, hpp⟩⟩ lw5 mw5
  rw [hq] at hqq
  rw [ha] at hpp
  refine sQ 4 ?_
  refine sS (fun w6 sw6 vw6 => ?_)
  refine sS (fun w7 sw7 vw7 => ?_)
  refine sZ 1 ?_
  refine qQ 1 ?_
  refine sT (c_wint ⟨_, _, rfl, hpp⟩ _) ?_
  rintro v w8 rfl lw8
  rw [(int_yes hI).1, (int_yes hI).2]
  refine sZ 4 ?_
  refine qQ 1 ?_
  refine sT (c_wint ⟨_, _, rfl, hqq⟩ _) ?_
  rintro v w9 rfl lw9
  rw [(int_bad hc).1, (int_bad hc).2]
  refine sZ 5 ?_
  refine Wp.seq ?_
  refine qQ 1 ?_
  refine f_eql rfl rfl rfl rfl rfl (by omega) ?_
  refine vOrd_nil ?_
  refine Wp.condF rfl rfl ?_
  refine Wp.skip ?_
  refine Wp.seq ?_
  refine qQ 2 ?_
  refine p_lss rfl rfl rfl rfl rfl (fun h31 => ?_) (fun h31 => ?_)
  ·refine vOrd_nil ?_
   refine Wp.condT rfl rfl ?_
   refine qZ ?_
   refine Wp.ret ⟨.inr rfl, fun lW => ⟨_, ⟨_, _, res_tmp (P := Tryz.prog) rfl rfl, res_tmp (P := Tryz.prog) rfl rfl, rfl⟩, _, rfl, ?_, lW⟩⟩
   clear lW
   rw [clamp_low hc (hz.2 (hh.2 (by omega)))]
  ·refine vOrd_nil ?_
   refine Wp.condF rfl rfl ?_
   refine Wp.skip ?_
   refine qZ ?_
   refine Wp.ret ⟨.inr rfl, fun lW => ⟨_, ⟨_, _, res_tmp (P := Tryz.prog) rfl rfl, res_tmp (P := Tryz.prog) rfl rfl, rfl⟩, _, rfl, ?_, lW⟩⟩
   clear lW
   rw [clamp_high hc (hz.1 (hh.1 (by omega)))]
theorem utai_nil {d s a : Int} {w : World} : Calls Tryz.prog 56 #[.pointer none, .agg #[.int .i64 d, .int .i64 s, .int .i64 a]] w fun e w' => ∃ r, e = .returned r ∧ r = .tuple #[.agg #[.int .i64 0, .int .u64 0], .int .i64 12] ∧ Below w.heap.size w w' := by
 refine calls_Wp (args := [_, _]) (n := 75) Tryz.func56 rfl rfl (by simp) ?_
 refine Wp.seq ?_
 refine wR [0, 1, 2] ?_
 refine sE (fun bk1 w1 kb1 lw1 => ?_)
 refine sO (fun bk2 w2 kb2 lw2 => ?_)
 refine sZ 1 ?_
 refine Wp.seq ?_
 refine qQ 1 ?_
 refine s_nilEq none rfl rfl rfl rfl rfl ?_
 refine vOrd_nil ?_
 refine Wp.condT rfl rfl ?_
 refine Wp.seq ?_
 refine wR [0, 1, 2] ?_
 refine sB ?_
 refine sS (fun w4 sw4 vw4 => ?_)
 refine sZ 1 ?_
 refine Wp.ret ⟨.inr rfl, fun lW => ⟨_, ⟨_, _, res_cell rfl rfl rfl rfl, res_tmp (P := Tryz.prog) rfl rfl, rfl⟩, _, rfl, ?_, lW⟩⟩
 clear lW
 rfl
theorem utai_any {t : Tb} {b c : Nat} {R : Option Nat} {k : Int} {w : World} (hb : canBe t = true) (hL : Lp w b c R t k) (hk : 0 ≤ k ∧ k ≤ 900000) {d s a : Int} (hd : I64 d) (hs : I64 s) (ha : I64 a) {K : Nat} (hcut : Cut (pDay d) t.es K) : Calls Tryz.prog 56 #[.pointer (some ⟨b, 0, none⟩), .agg #[.int .i64 d, .int .i64 s, .int .i64 a]] w fun e w' => ∃ v, e = .returned v ∧ (∃ cs', ((∃ u, v = .tuple #[u, .int .i64 (whyE t.es K d s a)] ∧ IsW (taiZ t.es K d s a) u) ∧ ∃ R' k', Nx w R R' ∧ (k ≤ k' ∧ k' ≤ k + 2) ∧ Lp w' b c R' t k') ∧ Var w' b cs') ∧ w.grownBy w' (some b) := by
 obtain ⟨cs0, hv⟩ := hL.var
 have hA := can_A hb K
 have hmi := more_one hb K d
 obtain ⟨hd0, hd1⟩ := hd
 obtain ⟨hs0, hs1⟩ := hs
 obtain ⟨ha0, ha1⟩ := ha
 obtain ⟨Z, hZ⟩ : ∃ Z, taiZ t.es K d s a = Z := ⟨_, rfl⟩
 obtain ⟨E, hE⟩ : ∃ E, whyE t.es K d s a = E := ⟨_, rfl⟩
 rw [hZ, hE]
 have hno : E ≠ 0 → Z = 0 := fun h => by rw [← hZ]; exact tai_no (by rw [hE]; exact h)
 cases hU : isU s a with
 | false =>
  obtain rfl : 1 = E := by rw [← hE, why_bad hU]
  obtain rfl : Z = 0 := hno (by decide)
  refine calls_WpH (args := [_]) (n := 75) hv Tryz.func56 rfl rfl (by simp) ?_
  refine Wp.seq ?_
  refine wR [0, 1, 2] ?_
  refine sE (fun bk1 w1 kb1 lw1 => ?_)
  have nL3 := hL.ne kb1
  replace hL := hL.later lw1
  have hs3 := lw1.size
  refine sO (fun bk2 w2 kb2 lw2 => ?_)
  have nL4 := hL.ne kb2
  replace hL := hL.later lw2
  have hs4 := lw2.size
  refine sZ 1 ?_
  refine Wp.seq ?_
  refine qQ 1 ?_
  refine s_nilEq (some ⟨b, 0, none⟩) rfl rfl rfl rfl rfl ?_
  refine vOrd_nil ?_
  refine Wp.condF rfl rfl ?_
  refine Wp.skip ?_
  refine Wp.seq ?_
  refine qQ 1 ?_
  refine sT (umay_any d s a) ?_
  rintro v w4 rfl lw4
  replace hL := hL.later lw4
  have hsllw4 := lw4.size
  rw [hU]
  refine sZ 1 ?_
  refine Wp.condT rfl rfl ?_
  refine Wp.seq ?_
  refine wR [0, 1, 2] ?_
  refine sB ?_
  refine sS (fun w5 sw5 vw5 => ?_)
  replace hL := hL.sto sw5 nL4
  refine sZ 1 ?_
  refine Wp.ret ⟨.inr rfl, fun mW lW => ⟨_, ⟨_, _, res_cell rfl rfl rfl rfl, res_tmp (P := Tryz.prog) rfl rfl, rfl⟩, _, rfl, ?_, lW⟩⟩
  exact ⟨_, ⟨⟨_, rfl, _, _, rfl, (by unfold WideIs; omega)⟩, _, _, .inl rfl, ⟨by omega, by omega⟩, hL⟩, mW 899 _ _ rfl⟩
 | true =>
  have hU' := isU_iff.1 hU
  have hS : isL 0 a = true := isL_iff.2 ⟨by omega, by omega, hU'.2.2⟩
  cases hB : inB d with
  | false =>
   obtain rfl : 2 = E := by rw [← hE, why_far hU hB]
   obtain rfl : Z = 0 := hno (by decide)
   obtain ⟨e1, e2⟩ := lab_far (d := d) hS hB
   refine calls_WpH (args := [_]) (n := 75) hv Tryz.func56 rfl rfl (by simp) ?_
   refine Wp.seq ?_
   refine wR [0, 1, 2] ?_
   refine sE (fun bk1 w1 kb1 lw1 => ?_)
   have nL3 := hL.ne kb1
   replace hL := hL.later lw1
   have hs3 := lw1.size
   refine sO (fun bk2 w2 kb2 lw2 => ?_)
   have nL4 := hL.ne kb2
   replace hL := hL.later lw2
   have hs4 := lw2.size
   refine sZ 1 ?_
   refine Wp.seq ?_
   refine qQ 1 ?_
   refine s_nilEq (some ⟨b, 0, none⟩) rfl rfl rfl rfl rfl ?_
   refine vOrd_nil ?_
   refine Wp.condF rfl rfl ?_
   refine Wp.skip ?_
   refine Wp.seq ?_
   refine qQ 1 ?_
   refine sT (umay_any d s a) ?_
   rintro v w4 rfl lw4
   replace hL := hL.later lw4
   have hsllw4 := lw4.size
   rw [hU]
   refine sZ 1 ?_
   refine Wp.condF rfl rfl ?_
   refine Wp.skip ?_
   refine qQ 4 ?_
   refine sB ?_
   refine sT (djoin_any (d := d) (s := 0) (a := a) ⟨hd0, hd1⟩ ⟨by omega, by omega⟩ ⟨ha0, ha1⟩ _) ?_
   rintro v w5 ⟨ju, rfl, jh, jl, rfl, hj⟩ lw5
   replace hL := hL.later lw5
   have hsllw5 := lw5.size
   rw [e1]
   rw [e2] at hj
   refine sQ 3 ?_
   refine sO (fun bk6 w6 kb6 lw6 => ?_)
   have nL6 := hL.ne kb6
   replace hL := hL.later lw6
   have hs6 := lw6.size
   refine sS (fun w7 sw7 vw7 => ?_)
   replace hL := hL.sto sw7 nL6
   refine sZ 1 ?_
   refine Wp.seq ?_
   refine qQ 1 ?_
   refine t_neq rfl rfl rfl rfl rfl (by omega) ?_
   refine vOrd_nil ?_
   refine Wp.condT rfl rfl ?_
   refine Wp.seq ?_
   refine wR [0, 1, 2, 3] ?_
   refine sB ?_
   refine sM ?_
   refine sS (fun w8 sw8 vw8 => ?_)
   replace hL := hL.sto sw8 nL4
   refine sZ 1 ?_
   refine Wp.ret ⟨.inr rfl, fun mW lW => ⟨_, ⟨_, _, res_cell rfl rfl rfl rfl, res_tmp (P := Tryz.prog) rfl rfl, rfl⟩, _, rfl, ?_, lW⟩⟩
   exact ⟨_, ⟨⟨_, rfl, _, _, rfl, (by unfold WideIs; omega)⟩, _, _, .inl rfl, ⟨by omega, by omega⟩, hL⟩, mW 899 _ _ rfl⟩
  | true =>
   obtain ⟨e1, e2⟩ := lab_ok (d := d) hS hB
   have hB' := inB_iff.1 hB
   rcases Nat.eq_zero_or_pos K with hK | hK
   ·obtain rfl : 8 = E := by rw [← hE, why_early hU hB hK]
    obtain rfl : Z = 0 := hno (by decide)
    refine calls_WpH (args := [_]) (n := 75) hv Tryz.func56 rfl rfl (by simp) ?_
    refine Wp.seq ?_
    refine wR [0, 1, 2] ?_
    refine sE (fun bk1 w1 kb1 lw1 => ?_)
    have nL3 := hL.ne kb1
    replace hL := hL.later lw1
    have hs3 := lw1.size
    refine sO (fun bk2 w2 kb2 lw2 => ?_)
    have nL4 := hL.ne kb2
    replace hL := hL.later lw2
    have hs4 := lw2.size
    refine sZ 1 ?_
    refine Wp.seq ?_
    refine qQ 1 ?_
    refine s_nilEq (some ⟨b, 0, none⟩) rfl rfl rfl rfl rfl ?_
    refine vOrd_nil ?_
    refine Wp.condF rfl rfl ?_
    refine Wp.skip ?_
    refine Wp.seq ?_
    refine qQ 1 ?_
    refine sT (umay_any d s a) ?_
    rintro v w4 rfl lw4
    replace hL := hL.later lw4
    have hsllw4 := lw4.size
    rw [hU]
    refine sZ 1 ?_
    refine Wp.condF rfl rfl ?_
    refine Wp.skip ?_
    refine qQ 4 ?_
    refine sB ?_
    refine sT (djoin_any (d := d) (s := 0) (a := a) ⟨hd0, hd1⟩ ⟨by omega, by omega⟩ ⟨ha0, ha1⟩ _) ?_
    rintro v w5 ⟨ju, rfl, jh, jl, rfl, hj⟩ lw5
    replace hL := hL.later lw5
    have hsllw5 := lw5.size
    rw [e1]
    rw [e2] at hj
    refine sQ 3 ?_
    refine sO (fun bk6 w6 kb6 lw6 => ?_)
    have nL6 := hL.ne kb6
    replace hL := hL.later lw6
    have hs6 := lw6.size
    refine sS (fun w7 sw7 vw7 => ?_)
    replace hL := hL.sto sw7 nL6
    refine sZ 1 ?_
    refine Wp.seq ?_
    refine qQ 1 ?_
    refine f_neq rfl rfl rfl rfl rfl (by omega) ?_
    refine vOrd_nil ?_
    refine Wp.condF rfl rfl ?_
    refine Wp.skip ?_
    refine Wp.seq ?_
    refine Wp.var (h := 3) rfl (fun v3 => ?_)
    have q3 := v3.lt
    refine Wp.var (h := 4) rfl (fun v4 => ?_)
    have q4 := v4.lt
    refine Wp.var (h := 6) rfl (fun v6 => ?_)
    have q6 := v6.lt
    refine wQ 3 ?_
    refine s_callH 899 rfl rfl rfl (by kernel_rfl) rfl rfl (fun vr => (length_none hb hL ⟨by omega, by omega⟩ hcut hK)) ?_
    rintro v cs8 w8 ⟨rfl, R1, hNq, hLq⟩ gw8 vw8
    have mL3 := hNq.ne nL3.2.2 q3
    replace nL3 := And.intro nL3.1 (And.intro nL3.2.1 mL3)
    have mL4 := hNq.ne nL4.2.2 q4
    replace nL4 := And.intro nL4.1 (And.intro nL4.2.1 mL4)
    have mL6 := hNq.ne nL6.2.2 q6
    replace nL6 := And.intro nL6.1 (And.intro nL6.2.1 mL6)
    clear hL
    have hL := hLq
    clear hLq
    refine sZ 5 ?_
    refine Wp.seq ?_
    refine qQ 1 ?_
    refine t_neq rfl rfl rfl rfl rfl (by omega) ?_
    refine vOrd_nil ?_
    refine Wp.condT rfl rfl ?_
    refine Wp.seq ?_
    refine wR [0, 1, 2, 3] ?_
    refine sB ?_
    refine sM ?_
    refine sS (fun w9 sw9 vw9 => ?_)
    replace hL := hL.sto sw9 nL4
    refine sZ 1 ?_
    refine Wp.ret ⟨.inr rfl, fun mW lW => ⟨_, ⟨_, _, res_cell rfl rfl rfl rfl, res_tmp (P := Tryz.prog) rfl rfl, rfl⟩, _, rfl, ?_, lW⟩⟩
    exact ⟨_, ⟨⟨_, rfl, _, _, rfl, (by unfold WideIs; omega)⟩, _, _, hNq.first (by omega), ⟨by omega, by omega⟩, hL⟩, mW 899 _ _ rfl⟩
   ·have hH := hmi
    refine calls_WpH (args := [_]) (n := 75) hv Tryz.func56 rfl rfl (by simp) ?_
    refine Wp.seq ?_
    refine wR [0, 1, 2] ?_
    refine sE (fun bk1 w1 kb1 lw1 => ?_)
    have nL3 := hL.ne kb1
    replace hL := hL.later lw1
    have hs3 := lw1.size
    refine sO (fun bk2 w2 kb2 lw2 => ?_)
    have nL4 := hL.ne kb2
    replace hL := hL.later lw2
    have hs4 := lw2.size
    refine sZ 1 ?_
    refine Wp.seq ?_
    refine qQ 1 ?_
    refine s_nilEq (some ⟨b, 0, none⟩) rfl rfl rfl rfl rfl ?_
    refine vOrd_nil ?_
    refine Wp.condF rfl rfl ?_
    refine Wp.skip ?_
    refine Wp.seq ?_
    refine qQ 1 ?_
    refine sT (umay_any d s a) ?_
    rintro v w4 rfl lw4
    replace hL := hL.later lw4
    have hsllw4 := lw4.size
    rw [hU]
    refine sZ 1 ?_
    refine Wp.condF rfl rfl ?_
    refine Wp.skip ?_
    refine qQ 4 ?_
    refine sB ?_
    refine sT (djoin_any (d := d) (s := 0) (a := a) ⟨hd0, hd1⟩ ⟨by omega, by omega⟩ ⟨ha0, ha1⟩ _) ?_
    rintro v w5 ⟨ju, rfl, jh, jl, rfl, hj⟩ lw5
    replace hL := hL.later lw5
    have hsllw5 := lw5.size
    rw [e1]
    rw [e2] at hj
    refine sQ 3 ?_
    refine sO (fun bk6 w6 kb6 lw6 => ?_)
    have nL6 := hL.ne kb6
    replace hL := hL.later lw6
    have hs6 := lw6.size
    refine sS (fun w7 sw7 vw7 => ?_)
    replace hL := hL.sto sw7 nL6
    refine sZ 1 ?_
    refine Wp.seq ?_
    refine qQ 1 ?_
    refine f_neq rfl rfl rfl rfl rfl (by omega) ?_
    refine vOrd_nil ?_
    refine Wp.condF rfl rfl ?_
    refine Wp.skip ?_
    refine Wp.seq ?_
    refine Wp.var (h := 3) rfl (fun v3 => ?_)
    have q3 := v3.lt
    refine Wp.var (h := 4) rfl (fun v4 => ?_)
    have q4 := v4.lt
    refine Wp.var (h := 6) rfl (fun v6 => ?_)
    have q6 := v6.lt
    refine wQ 3 ?_
    refine s_callH 899 rfl rfl rfl (by kernel_rfl) rfl rfl (fun vr => (length_some hb hL ⟨by omega, by omega⟩ hcut hK)) ?_
    rintro v cs8 w8 ⟨rfl, R1, hNq, hLq⟩ gw8 vw8
    have mL3 := hNq.ne nL3.2.2 q3
    replace nL3 := And.intro nL3.1 (And.intro nL3.2.1 mL3)
    have mL4 := hNq.ne nL4.2.2 q4
    replace nL4 := And.intro nL4.1 (And.intro nL4.2.1 mL4)
    have mL6 := hNq.ne nL6.2.2 q6
    replace nL6 := And.intro nL6.1 (And.intro nL6.2.1 mL6)
    clear hL
    have hL := hLq
    clear hLq
    have hN1 := hNq
    clear hNq
    refine sZ 5 ?_
    refine Wp.seq ?_
    refine qQ 1 ?_
    refine f_neq rfl rfl rfl rfl rfl (by omega) ?_
    refine vOrd_nil ?_
    refine Wp.condF rfl rfl ?_
    refine Wp.skip ?_
    refine Wp.seq ?_
    refine qQ 3 ?_
    refine p_geq rfl rfl rfl rfl rfl (fun h49 => ?_) (fun h49 => ?_)
    ·obtain rfl : 6 = E := by rw [← hE, why_none hU hB hK (by omega)]
     obtain rfl : Z = 0 := hno (by decide)
     refine vOrd_nil ?_
     refine Wp.condT rfl rfl ?_
     refine Wp.seq ?_
     refine wR [0, 1, 2] ?_
     refine sB ?_
     refine sS (fun w9 sw9 vw9 => ?_)
     replace hL := hL.sto sw9 nL4
     refine sZ 1 ?_
     refine Wp.ret ⟨.inr rfl, fun mW lW => ⟨_, ⟨_, _, res_cell rfl rfl rfl rfl, res_tmp (P := Tryz.prog) rfl rfl, rfl⟩, _, rfl, ?_, lW⟩⟩
     exact ⟨_, ⟨⟨_, rfl, _, _, rfl, (by unfold WideIs; omega)⟩, _, _, hN1.first (by omega), ⟨by omega, by omega⟩, hL⟩, mW 899 _ _ rfl⟩
    ·obtain rfl : 0 = E := by rw [← hE, why_ok hU hB hK (by omega)]
     have hZ2 : Z = (d * 86400 + 0) * 1000000000000000000 + a + (s + offA t.es K) * 1000000000000000000 := by rw [← hZ, tai_ok hE]; unfold cnt; omega
     obtain ⟨f1, f2⟩ := fit_ok (z := (s + offA t.es K) * 1000000000000000000) (by omega) (by omega)
     obtain ⟨g1, g2⟩ := fit_ok (z := Z) (by omega) (by omega)
     refine vOrd_nil ?_
     refine Wp.condF rfl rfl ?_
     refine Wp.skip ?_
     refine Wp.seq ?_
     refine Wp.var (h := 3) rfl (fun v3 => ?_)
     have q3 := v3.lt
     refine Wp.var (h := 4) rfl (fun v4 => ?_)
     have q4 := v4.lt
     refine Wp.var (h := 6) rfl (fun v6 => ?_)
     have q6 := v6.lt
     refine wQ 3 ?_
     refine s_callH 899 rfl rfl rfl (by kernel_rfl) rfl rfl (fun vr => (offset_any hb hL ⟨by omega, by omega⟩ hcut)) ?_
     rintro v cs10 w10 ⟨rfl, R2, hNq, hLq⟩ gw10 vw10
     have mL3 := hNq.ne nL3.2.2 q3
     replace nL3 := And.intro nL3.1 (And.intro nL3.2.1 mL3)
     have mL4 := hNq.ne nL4.2.2 q4
     replace nL4 := And.intro nL4.1 (And.intro nL4.2.1 mL4)
     have mL6 := hNq.ne nL6.2.2 q6
     replace nL6 := And.intro nL6.1 (And.intro nL6.2.1 mL6)
     clear hL
     have hL := hLq
     clear hLq
     refine sZ 5 ?_
     refine qQ 3 ?_
     refine aP (-9223372036854775808) 9223372036854775807 ?_
     refine s_callT rfl rfl rfl (by kernel_rfl) rfl (c_wof (s + offA t.es K) (by omega) (by omega) _) ?_
     rintro v w11 k1 lw11
     replace hL := hL.later lw11
     have hsllw11 := lw11.size
     refine s_callT rfl rfl rfl (by kernel_rfl) rfl (c_wof 1000000000000000000 (by omega) (by omega) _) ?_
     rintro v w12 k2 lw12
     replace hL := hL.later lw12
     have hsllw12 := lw12.size
     refine sT (c_wmul k1 k2 _) ?_
     rintro v w13 ⟨mu, rfl, mh, ml, rfl, k3⟩ lw13
     replace hL := hL.later lw13
     have hsllw13 := lw13.size
     rw [f2]
     rw [f1] at k3
     refine sQ 3 ?_
     refine sO (fun bk14 w14 kb14 lw14 => ?_)
     have nL11 := hL.ne kb14
     replace hL := hL.later lw14
     have hs11 := lw14.size
     refine sS (fun w15 sw15 vw15 => ?_)
     replace hL := hL.sto sw15 nL11
     refine sZ 1 ?_
     refine qQ 2 ?_
     refine sT (c_wadd ⟨_, _, rfl, hj⟩ ⟨_, _, rfl, k3⟩ _) ?_
     rintro v w16 ⟨au, rfl, ah, al, rfl, k5⟩ lw16
     replace hL := hL.later lw16
     have hsllw16 := lw16.size
     rw [show cnt d 0 a + (s + offA t.es K) * 1000000000000000000 = Z from hZ2.symm] at k5 ⊢
     rw [g2]
     rw [g1] at k5
     refine sQ 3 ?_
     refine sO (fun bk17 w17 kb17 lw17 => ?_)
     have nL13 := hL.ne kb17
     replace hL := hL.later lw17
     have hs13 := lw17.size
     refine sS (fun w18 sw18 vw18 => ?_)
     replace hL := hL.sto sw18 nL13
     refine sZ 1 ?_
     refine qQ 1 ?_
     refine sS (fun w19 sw19 vw19 => ?_)
     replace hL := hL.sto sw19 nL4
     refine sZ 1 ?_
     refine Wp.ret ⟨.inr rfl, fun mW lW => ⟨_, ⟨_, _, res_cell rfl rfl rfl rfl, res_tmp (P := Tryz.prog) rfl rfl, rfl⟩, _, rfl, ?_, lW⟩⟩
     exact ⟨_, ⟨⟨_, rfl, _, _, rfl, k5⟩, _, _, (hN1.first (by omega)).trans hNq (by omega), ⟨by omega, by omega⟩, hL⟩, mW 899 _ _ rfl⟩
theorem ulabel_nil {z : Int} {u : Value} (hu : IsW z u) {w : World} : Calls Tryz.prog 72 #[.pointer none, u] w fun e w' => ∃ r, e = .returned r ∧ r = .tuple #[.agg #[.int .i64 0, .int .i64 0, .int .i64 0], .int .i64 12] ∧ Below w.heap.size w w' := by
 obtain ⟨uh, ul, rfl, hu⟩ := hu
 refine calls_Wp (args := [_, _]) (n := 55) Tryz.func72 rfl rfl (by simp) ?_
 refine Wp.seq ?_
 refine wR [0, 1, 2] ?_
 refine sE (fun bk1 w1 kb1 lw1 => ?_)
 refine sO (fun bk2 w2 kb2 lw2 => ?_)
 refine sZ 1 ?_
 refine qQ 1 ?_
 refine sT (usecond_any ⟨_, _, rfl, hu⟩) ?_
 rintro v w3 rfl lw3
 refine sZ 5 ?_
 refine qQ 2 ?_
 refine sT (at_nil) ?_
 rintro v w4 rfl lw4
 refine sZ 7 ?_
 refine Wp.seq ?_
 refine qQ 1 ?_
 refine t_neq rfl rfl rfl rfl rfl (by omega) ?_
 refine vOrd_nil ?_
 refine Wp.condT rfl rfl ?_
 refine Wp.seq ?_
 refine wR [0, 1, 2, 3] ?_
 refine sB ?_
 refine sM ?_
 refine sS (fun w5 sw5 vw5 => ?_)
 refine sZ 1 ?_
 refine Wp.ret ⟨.inr rfl, fun lW => ⟨_, ⟨_, _, res_cell rfl rfl rfl rfl, res_tmp (P := Tryz.prog) rfl rfl, rfl⟩, _, rfl, ?_, lW⟩⟩
 clear lW
 rfl
theorem ulabel_any {t : Tb} {b c : Nat} {R : Option Nat} {k : Int} {w : World} (hb : canBe t = true) (hL : Lp w b c R t k) (hk : 0 ≤ k ∧ k ≤ 900000) {z : Int} {u : Value} (hu : IsW z u) {K : Nat} (hcut : Cut (pAt (z / 1000000000000000000)) t.es K) : Calls Tryz.prog 72 #[.pointer (some ⟨b, 0, none⟩), u] w fun e w' => ∃ v, e = .returned v ∧ (∃ cs', (v = .tuple #[lbU t.es K z, .int .i64 (lbE t.es K z)] ∧ ∃ R' k', Nx w R R' ∧ (k ≤ k' ∧ k' ≤ k + 1) ∧ Lp w' b c R' t k') ∧ Var w' b cs') ∧ w.grownBy w' (some b) := by
 obtain ⟨cs0, hv⟩ := hL.var
 obtain ⟨uh, ul, rfl, hu⟩ := hu
 have hA := can_A hb K
 have hun := until_in hb K
 have hcx := cut_clamp hb hcut
 have hci := clamp_in (z / 1000000000000000000)
 have hcl := clamp_is (z / 1000000000000000000)
 have hzr : -170141183460469231731687303715884105728 ≤ z ∧ z < 170141183460469231731687303715884105728 := hu.range
 obtain ⟨q, hq⟩ : ∃ q, z / 1000000000000000000 = q := ⟨_, rfl⟩
 obtain ⟨X, hX⟩ : ∃ X, clampI (z / 1000000000000000000) = X := ⟨_, rfl⟩
 obtain ⟨a, ha⟩ : ∃ a, z % 1000000000000000000 = a := ⟨_, rfl⟩
 rw [hX] at hcx hci hcl
 rw [hq] at hcl
 have hai : 0 ≤ a ∧ a < 1000000000000000000 := by omega
 have hqr : -170141183460469231733 ≤ q ∧ q ≤ 170141183460469231733 := by omega
 have hleast := lb_least t.es K z
 rw [hq] at hleast
 rcases Nat.eq_zero_or_pos K with hK | hK
 ·obtain ⟨e1, e2⟩ := lb_early t.es z
  subst hK
  rw [e1, e2]
  refine calls_WpH (args := [_]) (n := 55) hv Tryz.func72 rfl rfl (by simp) ?_
  refine Wp.seq ?_
  refine wR [0, 1, 2] ?_
  refine sE (fun bk1 w1 kb1 lw1 => ?_)
  have nL3 := hL.ne kb1
  replace hL := hL.later lw1
  have hs3 := lw1.size
  refine sO (fun bk2 w2 kb2 lw2 => ?_)
  have nL4 := hL.ne kb2
  replace hL := hL.later lw2
  have hs4 := lw2.size
  refine sZ 1 ?_
  refine qQ 1 ?_
  refine sT (usecond_any ⟨_, _, rfl, hu⟩) ?_
  rintro v w3 rfl lw3
  replace hL := hL.later lw3
  have hsllw3 := lw3.size
  rw [hX, ha]
  refine sZ 5 ?_
  refine Wp.seq ?_
  refine Wp.var (h := 3) rfl (fun v3 => ?_)
  have q3 := v3.lt
  refine Wp.var (h := 4) rfl (fun v4 => ?_)
  have q4 := v4.lt
  refine wQ 2 ?_
  refine s_callH 899 rfl rfl rfl (by kernel_rfl) rfl rfl (fun vr => (at_any hb hL ⟨by omega, by omega⟩ hcx)) ?_
  rintro v cs4 w4 ⟨rfl, R1, hNq, hLq⟩ gw4 vw4
  have mL3 := hNq.ne nL3.2.2 q3
  replace nL3 := And.intro nL3.1 (And.intro nL3.2.1 mL3)
  have mL4 := hNq.ne nL4.2.2 q4
  replace nL4 := And.intro nL4.1 (And.intro nL4.2.1 mL4)
  clear hL
  have hL := hLq
  clear hLq
  refine sZ 7 ?_
  refine Wp.seq ?_
  refine qQ 1 ?_
  refine t_neq rfl rfl rfl rfl rfl (by show (8 : Int) ≠ 0; decide) ?_
  refine vOrd_nil ?_
  refine Wp.condT rfl rfl ?_
  refine Wp.seq ?_
  refine wR [0, 1, 2, 3] ?_
  refine sB ?_
  refine sM ?_
  refine sS (fun w5 sw5 vw5 => ?_)
  replace hL := hL.sto sw5 nL4
  refine sZ 1 ?_
  refine Wp.ret ⟨.inr rfl, fun mW lW => ⟨_, ⟨_, _, res_cell rfl rfl rfl rfl, res_tmp (P := Tryz.prog) rfl rfl, rfl⟩, _, rfl, ?_, lW⟩⟩
  exact ⟨_, ⟨rfl, _, _, hNq.first (by omega), ⟨by omega, by omega⟩, hL⟩, mW 899 _ _ rfl⟩
 ·have herr : errA K = 0 := by obtain ⟨j, rfl⟩ : ∃ j, K = j + 1 := ⟨K - 1, by omega⟩; rfl
  have hXo : 0 ≤ X - offA t.es K := by
   obtain ⟨j, rfl⟩ : ∃ j, K = j + 1 := ⟨K - 1, by omega⟩
   obtain ⟨x, hx⟩ : ∃ x, t.es[j]? = some x := ⟨_, List.getElem?_eq_getElem (by have := hcut.1; omega)⟩
   have h1 := hcx.2 j x hx
   have h2 := (A_at hx).2.2
   have h3 := can_in hb hx
   have h4 : startE x = dayE x * 86400 + x.2 := rfl
   unfold pAt at h1
   rw [decide_eq_decide] at h1
   omega
  obtain ⟨o, ho⟩ : ∃ o, offA t.es K = o := ⟨_, rfl⟩
  obtain ⟨n, hn⟩ : ∃ n, untilA t.es K = n := ⟨_, rfl⟩
  rw [ho] at hA hXo hleast
  rw [hn] at hA hun
  refine calls_WpH (args := [_]) (n := 55) hv Tryz.func72 rfl rfl (by simp) ?_
  refine Wp.seq ?_
  refine wR [0, 1, 2] ?_
  refine sE (fun bk1 w1 kb1 lw1 => ?_)
  have nL3 := hL.ne kb1
  replace hL := hL.later lw1
  have hs3 := lw1.size
  refine sO (fun bk2 w2 kb2 lw2 => ?_)
  have nL4 := hL.ne kb2
  replace hL := hL.later lw2
  have hs4 := lw2.size
  refine sZ 1 ?_
  refine qQ 1 ?_
  refine sT (usecond_any ⟨_, _, rfl, hu⟩) ?_
  rintro v w3 rfl lw3
  replace hL := hL.later lw3
  have hsllw3 := lw3.size
  rw [hX, ha]
  refine sZ 5 ?_
  refine Wp.seq ?_
  refine Wp.var (h := 3) rfl (fun v3 => ?_)
  have q3 := v3.lt
  refine Wp.var (h := 4) rfl (fun v4 => ?_)
  have q4 := v4.lt
  refine wQ 2 ?_
  refine s_callH 899 rfl rfl rfl (by kernel_rfl) rfl rfl (fun vr => (at_any hb hL ⟨by omega, by omega⟩ hcx)) ?_
  rintro v cs4 w4 ⟨rfl, R1, hNq, hLq⟩ gw4 vw4
  have mL3 := hNq.ne nL3.2.2 q3
  replace nL3 := And.intro nL3.1 (And.intro nL3.2.1 mL3)
  have mL4 := hNq.ne nL4.2.2 q4
  replace nL4 := And.intro nL4.1 (And.intro nL4.2.1 mL4)
  clear hL
  have hL := hLq
  clear hLq
  rw [ho, hn, herr]
  refine sZ 7 ?_
  refine Wp.seq ?_
  refine qQ 1 ?_
  refine f_neq rfl rfl rfl rfl rfl (by omega) ?_
  refine vOrd_nil ?_
  refine Wp.condF rfl rfl ?_
  refine Wp.skip ?_
  refine qQ 2 ?_
  refine aM (-9223372036854775808) 9223372036854775807 ?_
  refine a_quo rfl rfl rfl rfl rfl (by omega) (by omega) (by show _ ≤ (9223372036854775807 : Int); omega) ?_
  refine sQ 2 ?_
  refine aM (-9223372036854775808) 9223372036854775807 ?_
  refine a_rem rfl rfl rfl rfl rfl (by omega) (by omega) ?_
  refine sM ?_
  refine sB ?_
  refine sO (fun bk5 w5 kb5 lw5 => ?_)
  have nL11 := hL.ne kb5
  replace hL := hL.later lw5
  have hs11 := lw5.size
  refine sS (fun w6 sw6 vw6 => ?_)
  replace hL := hL.sto sw6 nL11
  refine vOrd_nil ?_
  refine Wp.seq ?_
  refine qQ 3 ?_
  refine p_eql rfl rfl rfl rfl rfl (fun h41 => ?_) (fun h41 => ?_)
  ·refine vOrd_nil ?_
   refine Wp.condT rfl rfl ?_
   refine qQ 2 ?_
   refine aM (-9223372036854775808) 9223372036854775807 ?_
   refine sF 0 ?_
   refine sS (fun w7 sw7 vw7 => ?_)
   replace hL := hL.sto sw7 nL11
   refine vOrd_nil ?_
   refine wQ 2 ?_
   refine aP (-9223372036854775808) 9223372036854775807 ?_
   refine sF 1 ?_
   refine sS (fun w8 sw8 vw8 => ?_)
   replace hL := hL.sto sw8 nL11
   refine vOrd_nil ?_
   refine Wp.seq ?_
   refine qQ 2 ?_
   refine f_gtr rfl rfl rfl rfl rfl (by omega) ?_
   refine vOrd_nil ?_
   refine Wp.condF rfl rfl ?_
   refine Wp.skip ?_
   refine qQ 1 ?_
   refine sS (fun w9 sw9 vw9 => ?_)
   replace hL := hL.sto sw9 nL4
   refine sZ 1 ?_
   refine Wp.ret ⟨.inr rfl, fun mW lW => ⟨_, ⟨_, _, res_cell rfl rfl rfl rfl, res_tmp (P := Tryz.prog) rfl rfl, rfl⟩, _, rfl, ?_, lW⟩⟩
   obtain rfl : X = q := by omega
   obtain ⟨m1, m2⟩ := lb_hit (es := t.es) (K := K) (z := z) (by rw [hq, ho, hn]; omega)
   obtain ⟨m3, m4⟩ := lb_ok (es := t.es) (K := K) (z := z) hK (by rw [m1, hq, ho]; omega)
   exact ⟨_, ⟨by rw [m3, m4, m1, m2, hq, ho, ha], _, _, hNq.first (by omega), ⟨by omega, by omega⟩, hL⟩, mW 899 _ _ rfl⟩
  ·refine vOrd_nil ?_
   refine Wp.condF rfl rfl ?_
   refine Wp.skip ?_
   refine Wp.seq ?_
   refine qQ 2 ?_
   refine p_gtr rfl rfl rfl rfl rfl (fun h52 => ?_) (fun h52 => ?_)
   ·refine vOrd_nil ?_
    refine Wp.condT rfl rfl ?_
    refine Wp.seq ?_
    refine wR [0, 1, 2] ?_
    refine sB ?_
    refine sS (fun w10 sw10 vw10 => ?_)
    replace hL := hL.sto sw10 nL4
    refine sZ 1 ?_
    refine Wp.ret ⟨.inr rfl, fun mW lW => ⟨_, ⟨_, _, res_cell rfl rfl rfl rfl, res_tmp (P := Tryz.prog) rfl rfl, rfl⟩, _, rfl, ?_, lW⟩⟩
    have hov : 1099511627776 < lbD t.es K z := by
     rcases hcl with rfl | ⟨g1, g2⟩ | ⟨g1, g2⟩
     ·rw [(lb_miss (es := t.es) (K := K) (z := z) (by rw [hq, ho, hn]; omega)).1, hq, ho]; omega
     ·omega
     ·omega
    obtain ⟨m3, m4⟩ := lb_over (es := t.es) (K := K) (z := z) hK hov
    exact ⟨_, ⟨by rw [m3, m4], _, _, hNq.first (by omega), ⟨by omega, by omega⟩, hL⟩, mW 899 _ _ rfl⟩
   ·refine vOrd_nil ?_
    refine Wp.condF rfl rfl ?_
    refine Wp.skip ?_
    refine qQ 1 ?_
    refine sS (fun w11 sw11 vw11 => ?_)
    replace hL := hL.sto sw11 nL4
    refine sZ 1 ?_
    refine Wp.ret ⟨.inr rfl, fun mW lW => ⟨_, ⟨_, _, res_cell rfl rfl rfl rfl, res_tmp (P := Tryz.prog) rfl rfl, rfl⟩, _, rfl, ?_, lW⟩⟩
    obtain rfl : X = q := by omega
    obtain ⟨m1, m2⟩ := lb_miss (es := t.es) (K := K) (z := z) (by rw [hq, ho, hn]; omega)
    obtain ⟨m3, m4⟩ := lb_ok (es := t.es) (K := K) (z := z) hK (by rw [m1, hq, ho]; omega)
    exact ⟨_, ⟨by rw [m3, m4, m1, m2, hq, ho, ha], _, _, hNq.first (by omega), ⟨by omega, by omega⟩, hL⟩, mW 899 _ _ rfl⟩
end Go.Proofs.YtdpodbfamgafiaaGreat
