/-
 The walk through a function that turns, of its caller's memory, a variable that no argument of it points to (it lies behind one).
-/
import Derived.Test.YthihioakjpmnbaaGreatRubD
import Derived.Test.YthihioakjpmnbaaGreatVcR
import Derived.Test.YthihioakjpmnbaaGreatEntA
namespace Go.Proofs.YthihioakjpmnbaaGreat
open Go.RowKit
set_option maxRecDepth 100000

theorem Rb.len {w : World} {b : Nat} {bs : List Nat} {l : List Sg} {day off : Int} (_h : Rb w b bs l day off) (hm : mayS l day off = true) : 1 ≤ l.length ∧ l.length ≤ 32 := (may0_iff.1 (may_spec.1 hm).1).1

theorem bmade_yes {w : World} {b : Nat} {bs : List Nat} {l : List Sg} {day off : Int} (hR : Rb w b bs l day off) (hn : 1 ≤ l.length) : Calls Tryz.prog 107 #[.pointer (some ⟨b, 0, none⟩)] w fun e w' => ∃ r, e = .returned r ∧ r = .bool true ∧ Below w.heap.size w w' := by
 obtain ⟨c, cs, rfl, hbc, hv, vc, hp⟩ := hR
 refine calls_Wp (args := [_]) (n := 13) Tryz.func107 rfl rfl (by simp) ?_
 refine qZ ?_
 refine Wp.seq ?_
 refine Wp.old (fun lo => ?_)
 refine wQ 1 ?_
 refine s_nilNe (some ⟨b, 0, none⟩) rfl rfl rfl rfl rfl ?_
 refine sQ 2 ?_
 refine s_nilV rfl rfl rfl rfl ?_
 refine s_fieldV 0 rfl rfl rfl rfl 0 rfl rfl ?_
 refine s_ldU rfl rfl rfl rfl (hv.later lo) rfl ?_
 refine x_len rfl rfl rfl rfl rfl ?_
 refine t_gtr rfl rfl rfl rfl rfl (by omega) ?_
 refine sZ 2 ?_
 refine Wp.ret ⟨.inr rfl, fun lW => ⟨_, res_tmp (P := Tryz.prog) rfl rfl, _, rfl, ?_, lW⟩⟩
 clear lW
 rfl
theorem btai1_any {s : Sg} {la bh bl eh el d x y : Int} {k : Nat} {w : World} (hv : Var w k [.int .i64 d, .int .i64 x, .int .i64 y]) : Calls Tryz.prog 110 #[.agg #[.int .i64 s.d, .int .i64 s.b, .int .i64 s.f, .int .i64 s.r, .int .i64 la, .int .i64 bh, .int .u64 bl, .int .i64 eh, .int .u64 el], .pointer (some ⟨k, 0, none⟩)] w fun e w' => ∃ r, e = .returned r ∧ r = .bool (pSD d s) ∧ Below w.heap.size w w' := by
 refine calls_Wp (args := [_, _]) (n := 10) Tryz.func110 rfl rfl (by simp) ?_
 refine Wp.seq ?_
 refine wR [0, 1] ?_
 refine sE (fun bk1 w1 kb1 lw1 => ?_)
 refine sZ 1 ?_
 refine Wp.seq ?_
 refine Wp.old (fun lo => ?_)
 refine wQ 3 ?_
 refine s_fieldV 0 rfl rfl rfl rfl 0 rfl rfl ?_
 refine s_ldU rfl rfl rfl rfl (hv.later lo) rfl ?_
 refine p_leq rfl rfl rfl rfl rfl (fun h9 => ?_) (fun h9 => ?_)
 ·refine sZ 1 ?_
  refine Wp.ret ⟨.inr rfl, fun lW => ⟨_, res_tmp (P := Tryz.prog) rfl rfl, _, rfl, ?_, lW⟩⟩
  clear lW
  unfold pSD
  rw [decide_eq_true (show s.d ≤ d by omega)]
 ·refine sZ 1 ?_
  refine Wp.ret ⟨.inr rfl, fun lW => ⟨_, res_tmp (P := Tryz.prog) rfl rfl, _, rfl, ?_, lW⟩⟩
  clear lW
  unfold pSD
  rw [decide_eq_false (show ¬ s.d ≤ d by omega)]
theorem ptai_any {w : World} {b : Nat} {bs : List Nat} {l : List Sg} {day off : Int} (hR : Rb w b bs l day off) (hm : mayS l day off = true) {d s a : Int} (_hd : I64 d) (_hs : I64 s) (_ha : I64 a) {K : Nat} (hcut : CutP (pSD d) l K) : Calls Tryz.prog 75 #[.pointer (some ⟨b, 0, none⟩), .agg #[.int .i64 d, .int .i64 s, .int .i64 a]] w fun e w' => ∃ r, e = .returned r ∧ (∃ u, r = .tuple #[u, .int .i64 (rE l day off K d s a)] ∧ IsW (rT l day off K d s a) u) ∧ Below w.heap.size w w' := by
 have hn := hR.len hm
 obtain ⟨Z, hZ⟩ : ∃ Z, rT l day off K d s a = Z := ⟨_, rfl⟩
 obtain ⟨E, hE⟩ : ∃ E, rE l day off K d s a = E := ⟨_, rfl⟩
 rw [hZ, hE]
 have hno : E ≠ 0 → Z = 0 := fun h => by rw [← hZ]; exact rT_no (by rw [hE]; exact h)
 cases hU : isU s a with
 | false =>
  obtain rfl : 1 = E := by rw [← hE, rE_arg hU]
  obtain rfl : Z = 0 := hno (by decide)
  refine calls_Wp (args := [_, _]) (n := 54) Tryz.func75 rfl rfl (by simp) ?_
  refine Wp.seq ?_
  refine wR [0, 1, 2] ?_
  refine sE (fun bk1 w1 kb1 lw1 => ?_)
  refine sO (fun bk2 w2 kb2 lw2 => ?_)
  refine sZ 1 ?_
  refine Wp.seq ?_
  refine Wp.seq ?_
  refine Wp.old (fun lo => ?_)
  refine wQ 1 ?_
  refine sT (bmade_yes (hR.later lo) hn.1) ?_
  rintro v w3 rfl lw3
  refine sZ 1 ?_
  refine Wp.condF rfl rfl ?_
  refine Wp.skip ?_
  refine Wp.seq ?_
  refine qQ 1 ?_
  refine sT (bmay_any d s a) ?_
  rintro v w4 rfl lw4
  rw [hU]
  refine sZ 1 ?_
  refine Wp.condT rfl rfl ?_
  refine Wp.seq ?_
  refine wR [0, 1, 2] ?_
  refine sB ?_
  refine sS (fun w5 sw5 vw5 => ?_)
  refine sZ 1 ?_
  refine Wp.ret ⟨.inr rfl, fun lW => ⟨_, ⟨_, _, res_cell rfl rfl rfl rfl, res_tmp (P := Tryz.prog) rfl rfl, rfl⟩, _, rfl, ?_, lW⟩⟩
  clear lW
  exact ⟨_, rfl, _, _, rfl, (by unfold WideIs; omega)⟩
 | true =>
  have hU' := isU_iff.1 hU
  rcases Nat.eq_zero_or_pos K with hK | hK
  ·obtain rfl : 8 = E := by rw [← hE, rE_early hU hK]
   obtain rfl : Z = 0 := hno (by decide)
   refine calls_Wp (args := [_, _]) (n := 54) Tryz.func75 rfl rfl (by simp) ?_
   refine Wp.seq ?_
   refine wR [0, 1, 2] ?_
   refine sE (fun bk1 w1 kb1 lw1 => ?_)
   refine sO (fun bk2 w2 kb2 lw2 => ?_)
   refine sZ 1 ?_
   refine Wp.seq ?_
   refine Wp.seq ?_
   refine Wp.old (fun lo => ?_)
   refine wQ 1 ?_
   refine sT (bmade_yes (hR.later lo) hn.1) ?_
   rintro v w3 rfl lw3
   refine sZ 1 ?_
   refine Wp.condF rfl rfl ?_
   refine Wp.skip ?_
   refine Wp.seq ?_
   refine qQ 1 ?_
   refine sT (bmay_any d s a) ?_
   rintro v w4 rfl lw4
   rw [hU]
   refine sZ 1 ?_
   refine Wp.condF rfl rfl ?_
   refine Wp.skip ?_
   refine Wp.seq ?_
   refine Wp.var (h := 3) rfl (fun v3 => ?_)
   have q3 := v3.lt
   refine Wp.old (fun lo => ?_)
   refine wQ 1 ?_
   refine s_mkfun rfl rfl rfl rfl ?_
   refine s_callT rfl rfl rfl (by kernel_rfl) rfl (blatest_any (hR.later lo) (by omega) hcut (f := 110) (caps := [.pointer (some ⟨_, 0, none⟩)]) (by kernel_rfl) (fun W j s bh bl eh el lz _ _ _ => btai1_any (v3.later lz))) ?_
   rintro v w5 hlast lw5
   obtain rfl : v = .tuple #[.agg zeroP.toArray, .bool false] := by
    rcases hlast with ⟨_, h⟩ | ⟨h, _⟩
    ·exact h
    ·omega
   refine sQ 3 ?_
   refine sO (fun bk6 w6 kb6 lw6 => ?_)
   refine sS (fun w7 sw7 vw7 => ?_)
   refine sZ 1 ?_
   refine Wp.seq ?_
   refine qZ ?_
   refine Wp.condT rfl rfl ?_
   refine Wp.seq ?_
   refine wR [0, 1, 2] ?_
   refine sB ?_
   refine sS (fun w8 sw8 vw8 => ?_)
   refine sZ 1 ?_
   refine Wp.ret ⟨.inr rfl, fun lW => ⟨_, ⟨_, _, res_cell rfl rfl rfl rfl, res_tmp (P := Tryz.prog) rfl rfl, rfl⟩, _, rfl, ?_, lW⟩⟩
   clear lW
   exact ⟨_, rfl, _, _, rfl, (by unfold WideIs; omega)⟩
  ·obtain ⟨y, hy, hpy⟩ := cutP_in hcut hK
   unfold pSD at hpy
   rw [decide_eq_true_eq] at hpy
   have hma := may_at hm hy
   obtain ⟨hin, _, _, _, hend, _⟩ := hma
   have hlate := cut_late hm hcut hK hy
   have hui := bunt_in (may_bdd hm) hy
   have hyd := (sgIn_iff.1 hin).1
   obtain ⟨U, hUU⟩ : ∃ U, untS l day (K - 1) = U := ⟨_, rfl⟩
   refine calls_Wp (args := [_, _]) (n := 54) Tryz.func75 rfl rfl (by simp) ?_
   refine Wp.seq ?_
   refine wR [0, 1, 2] ?_
   refine sE (fun bk1 w1 kb1 lw1 => ?_)
   refine sO (fun bk2 w2 kb2 lw2 => ?_)
   refine sZ 1 ?_
   refine Wp.seq ?_
   refine Wp.seq ?_
   refine Wp.old (fun lo => ?_)
   refine wQ 1 ?_
   refine sT (bmade_yes (hR.later lo) hn.1) ?_
   rintro v w3 rfl lw3
   refine sZ 1 ?_
   refine Wp.condF rfl rfl ?_
   refine Wp.skip ?_
   refine Wp.seq ?_
   refine qQ 1 ?_
   refine sT (bmay_any d s a) ?_
   rintro v w4 rfl lw4
   rw [hU]
   refine sZ 1 ?_
   refine Wp.condF rfl rfl ?_
   refine Wp.skip ?_
   refine Wp.seq ?_
   refine Wp.var (h := 3) rfl (fun v3 => ?_)
   have q3 := v3.lt
   refine Wp.old (fun lo => ?_)
   refine wQ 1 ?_
   refine s_mkfun rfl rfl rfl rfl ?_
   refine s_callT rfl rfl rfl (by kernel_rfl) rfl (blatest_any (hR.later lo) (by omega) hcut (f := 110) (caps := [.pointer (some ⟨_, 0, none⟩)]) (by kernel_rfl) (fun W j s bh bl eh el lz _ _ _ => btai1_any (v3.later lz))) ?_
   rintro v w5 hlast lw5
   obtain ⟨bh, bl, eh, el, kb, ke, rfl⟩ : ∃ bh bl eh el, WideIs bh bl (begS y) ∧ WideIs eh el (endS l day off (K - 1)) ∧ v = .tuple #[.agg (partL y (untS l day (K - 1) - 1) bh bl eh el).toArray, .bool true] := by
    rcases hlast with ⟨h, _⟩ | ⟨_, s2, bh, bl, eh, el, h1, h2, h3, h4⟩
    ·omega
    ·rw [hy] at h1; cases h1; exact ⟨bh, bl, eh, el, h2, h3, h4⟩
   rw [hUU]
   refine sQ 3 ?_
   refine sO (fun bk6 w6 kb6 lw6 => ?_)
   refine sS (fun w7 sw7 vw7 => ?_)
   refine sZ 1 ?_
   refine Wp.seq ?_
   refine qZ ?_
   refine Wp.condF rfl rfl ?_
   refine Wp.skip ?_
   refine Wp.seq ?_
   refine qQ 4 ?_
   refine p_gtr rfl rfl rfl rfl rfl (fun h30 => ?_) (fun h30 => ?_)
   ·obtain rfl : 9 = E := by rw [← hE, rE_late hU hK (hlate.1 (by omega))]
    obtain rfl : Z = 0 := hno (by decide)
    refine vOrd_nil ?_
    refine Wp.condT rfl rfl ?_
    refine Wp.seq ?_
    refine wR [0, 1, 2] ?_
    refine sB ?_
    refine sS (fun w8 sw8 vw8 => ?_)
    refine sZ 1 ?_
    refine Wp.ret ⟨.inr rfl, fun lW => ⟨_, ⟨_, _, res_cell rfl rfl rfl rfl, res_tmp (P := Tryz.prog) rfl rfl, rfl⟩, _, rfl, ?_, lW⟩⟩
    clear lW
    exact ⟨_, rfl, _, _, rfl, (by unfold WideIs; omega)⟩
   ·have hdd : d < day := by
     have := fun q => hlate.2 q
     omega
    refine vOrd_nil ?_
    refine Wp.condF rfl rfl ?_
    refine Wp.skip ?_
    refine Wp.seq ?_
    refine qQ 2 ?_
    refine p_eql rfl rfl rfl rfl rfl (fun h34 => ?_) (fun h34 => ?_)
    ·refine sQ 5 ?_
     refine p_neq rfl rfl rfl rfl rfl (fun h40 => ?_) (fun h40 => ?_)
     ·obtain rfl : 6 = E := by rw [← hE, rE_none hU hK hdd (.inl (by omega))]
      obtain rfl : Z = 0 := hno (by decide)
      refine sZ 1 ?_
      refine Wp.condT rfl rfl ?_
      refine Wp.seq ?_
      refine wR [0, 1, 2] ?_
      refine sB ?_
      refine sS (fun w9 sw9 vw9 => ?_)
      refine sZ 1 ?_
      refine Wp.ret ⟨.inr rfl, fun lW => ⟨_, ⟨_, _, res_cell rfl rfl rfl rfl, res_tmp (P := Tryz.prog) rfl rfl, rfl⟩, _, rfl, ?_, lW⟩⟩
      clear lW
      exact ⟨_, rfl, _, _, rfl, (by unfold WideIs; omega)⟩
     ·refine sZ 1 ?_
      refine Wp.condF rfl rfl ?_
      refine Wp.skip ?_
      refine Wp.seq ?_
      refine wD [0, 1, 4, 2, 3, 5] [22, 17, 15, 0, 0, 0] (fun | 2 => fun v _ => IsW (cnt d s a) v | 3 => fun v _ => IsW (fZ y (cnt d s a)) v | _ => fun _ _ => True) (fun _ _ => ?_)
      refine sQ 2 ?_
      refine sO (fun bk10 w10 kb10 lw10 => ?_)
      refine s_callD rfl rfl rfl (by kernel_rfl) rfl (fun wc lc => bcount_any hU (by omega)) ?_
      rintro v w11 u11 k1 lw11 mw11
      refine s_callD rfl rfl rfl (by kernel_rfl) rfl (fun wc lc => binst_any hin k1 (by unfold cnt; omega) (by unfold cnt; omega)) ?_
      rintro v w12 u12 ⟨th, tl, rfl, k2⟩ lw12 mw12
      refine sS (fun w13 sw13 vw13 => ?_)
      refine vOrd_nil ?_
      refine Wp.seq ?_
      refine qQ 3 ?_
      refine sT (c_wcmp ⟨_, _, rfl, k2⟩ ⟨_, _, rfl, ke⟩ _) ?_
      rintro v w14 rfl lw14
      refine p_geq rfl rfl rfl rfl rfl (fun h51 => ?_) (fun h51 => ?_)
      ·have hge : endS l day off (K - 1) ≤ fZ (sgA l K) (cnt d s a) := by
        rw [sgA_at hy]
        have := cmpI_low (x := fZ y (cnt d s a)) (y := endS l day off (K - 1))
        omega
       obtain rfl : 6 = E := by rw [← hE, rE_none hU hK hdd (.inr hge)]
       obtain rfl : Z = 0 := hno (by decide)
       refine vOrd_nil ?_
       refine Wp.condT rfl rfl ?_
       refine Wp.seq ?_
       refine wR [0, 1, 2] ?_
       refine sB ?_
       refine sS (fun w15 sw15 vw15 => ?_)
       refine sZ 1 ?_
       refine Wp.ret ⟨.inr rfl, fun lW => ⟨_, ⟨_, _, res_cell rfl rfl rfl rfl, res_tmp (P := Tryz.prog) rfl rfl, rfl⟩, _, rfl, ?_, lW⟩⟩
       clear lW
       exact ⟨_, rfl, _, _, rfl, (by unfold WideIs; omega)⟩
      ·have hlt := cmpI_low.1 (show cmpI (fZ y (cnt d s a)) (endS l day off (K - 1)) < 0 by omega)
       obtain rfl : 0 = E := by rw [← hE, rE_ok hU hK hdd (by omega) (by rw [sgA_at hy]; exact hlt)]
       have hZ2 : Z = fZ y (cnt d s a) := by rw [← hZ, rT_ok hE, sgA_at hy]
       refine vOrd_nil ?_
       refine Wp.condF rfl rfl ?_
       refine Wp.skip ?_
       refine qQ 1 ?_
       refine sS (fun w16 sw16 vw16 => ?_)
       refine sZ 1 ?_
       refine Wp.ret ⟨.inr rfl, fun lW => ⟨_, ⟨_, _, res_cell rfl rfl rfl rfl, res_tmp (P := Tryz.prog) rfl rfl, rfl⟩, _, rfl, ?_, lW⟩⟩
       clear lW
       exact ⟨_, rfl, _, _, rfl, by rw [hZ2]; exact k2⟩
    ·refine sZ 7 ?_
     refine Wp.condF rfl rfl ?_
     refine Wp.skip ?_
     refine Wp.seq ?_
     refine wD [0, 1, 4, 2, 3, 5] [22, 17, 15, 0, 0, 0] (fun | 2 => fun v _ => IsW (cnt d s a) v | 3 => fun v _ => IsW (fZ y (cnt d s a)) v | _ => fun _ _ => True) (fun _ _ => ?_)
     refine sQ 2 ?_
     refine sO (fun bk17 w17 kb17 lw17 => ?_)
     refine s_callD rfl rfl rfl (by kernel_rfl) rfl (fun wc lc => bcount_any hU (by omega)) ?_
     rintro v w18 u18 k1 lw18 mw18
     refine s_callD rfl rfl rfl (by kernel_rfl) rfl (fun wc lc => binst_any hin k1 (by unfold cnt; omega) (by unfold cnt; omega)) ?_
     rintro v w19 u19 ⟨th, tl, rfl, k2⟩ lw19 mw19
     refine sS (fun w20 sw20 vw20 => ?_)
     refine vOrd_nil ?_
     refine Wp.seq ?_
     refine qQ 3 ?_
     refine sT (c_wcmp ⟨_, _, rfl, k2⟩ ⟨_, _, rfl, ke⟩ _) ?_
     rintro v w21 rfl lw21
     refine p_geq rfl rfl rfl rfl rfl (fun h51 => ?_) (fun h51 => ?_)
     ·have hge : endS l day off (K - 1) ≤ fZ (sgA l K) (cnt d s a) := by
       rw [sgA_at hy]
       have := cmpI_low (x := fZ y (cnt d s a)) (y := endS l day off (K - 1))
       omega
      obtain rfl : 6 = E := by rw [← hE, rE_none hU hK hdd (.inr hge)]
      obtain rfl : Z = 0 := hno (by decide)
      refine vOrd_nil ?_
      refine Wp.condT rfl rfl ?_
      refine Wp.seq ?_
      refine wR [0, 1, 2] ?_
      refine sB ?_
      refine sS (fun w22 sw22 vw22 => ?_)
      refine sZ 1 ?_
      refine Wp.ret ⟨.inr rfl, fun lW => ⟨_, ⟨_, _, res_cell rfl rfl rfl rfl, res_tmp (P := Tryz.prog) rfl rfl, rfl⟩, _, rfl, ?_, lW⟩⟩
      clear lW
      exact ⟨_, rfl, _, _, rfl, (by unfold WideIs; omega)⟩
     ·have hlt := cmpI_low.1 (show cmpI (fZ y (cnt d s a)) (endS l day off (K - 1)) < 0 by omega)
      obtain rfl : 0 = E := by rw [← hE, rE_ok hU hK hdd (by omega) (by rw [sgA_at hy]; exact hlt)]
      have hZ2 : Z = fZ y (cnt d s a) := by rw [← hZ, rT_ok hE, sgA_at hy]
      refine vOrd_nil ?_
      refine Wp.condF rfl rfl ?_
      refine Wp.skip ?_
      refine qQ 1 ?_
      refine sS (fun w23 sw23 vw23 => ?_)
      refine sZ 1 ?_
      refine Wp.ret ⟨.inr rfl, fun lW => ⟨_, ⟨_, _, res_cell rfl rfl rfl rfl, res_tmp (P := Tryz.prog) rfl rfl, rfl⟩, _, rfl, ?_, lW⟩⟩
      clear lW
      exact ⟨_, rfl, _, _, rfl, by rw [hZ2]; exact k2⟩
theorem psegs_any {w : World} : Calls Tryz.prog 39 #[] w fun e w' => ∃ r, e = .returned r ∧ (∃ c, r = .slice (some ⟨c, 0, none⟩) 13 13 ∧ w.heap.size ≤ c ∧ Var w' c (segC pubS)) ∧ Below w.heap.size w w' := by
 refine calls_Wp (args := []) (n := 15) Tryz.func39 rfl rfl (by simp) ?_
 refine qZ ?_
 refine Wp.seq ?_
 refine Wp.old (fun lo => ?_)
 have hsz := lo.size
 refine wR [0, 1, 2, 3, 4, 5, 6, 7, 8, 9, 10, 11, 12, 13, 14] ?_
 refine sB ?_
 refine sB ?_
 refine sB ?_
 refine sB ?_
 refine sB ?_
 refine sB ?_
 refine sB ?_
 refine sB ?_
 refine sB ?_
 refine sB ?_
 refine sB ?_
 refine sB ?_
 refine sB ?_
 refine s_bs (e := 125) (cs := segC pubS) rfl rfl rfl (fun _ => by kernel_rfl) ?_
 intro cb wb hcb lb hrow
 have vb := hrow.var
 refine sZ 1 ?_
 refine Wp.ret ⟨.inr rfl, fun lW => ⟨_, res_tmp (P := Tryz.prog) rfl rfl, _, rfl, ?_, lW⟩⟩
 clear lW
 exact ⟨_, rfl, by omega, vb⟩
end Go.Proofs.YthihioakjpmnbaaGreat

namespace Go.Proofs.YthihioakjpmnbaaGreat
open Go.RowKit

section
variable {P : Program} {n : Nat} {fn : Func} {w : World}
def St.argsC (b : Nat) (cs : List Value) (args : List Value) : St := ⟨fun s => (args[s]?).map .v, fun h => bif Nat.beq h 899 then some (b, cs) else none⟩
theorem calls_WpC {f : FuncId} {c : Code} {args : List Value} {R : Ending → World → Prop} {b : Nat} {cs : List Value} (hv : Var w b cs) (hf : P.funcs[f]? = some fn) (hb : fn.body = some c) (hn : fn.ntmps = n) (ha : args.length ≤ n)
  (h : Wp P n (holO (some b)) w c (St.argsC b cs args) w (fun e st' w' => (e = .normal ∨ e = .ret) ∧ (InMem st' w' → w.grownBy w' (some b) → ∃ v, Resd P st' fn.results.toList v ∧ R (.returned v) w'))) : Calls P f args.toArray w R := by
 have H0 : Holds n (holO (some b)) w (St.argsC b cs args) { tmps := args.toArray ++ Array.replicate (fn.ntmps - args.toArray.size) undef, defers := [] } w := by
  have key : ∀ h b' cs', (St.argsC b cs args).mem h = some (b', cs') → h = 899 ∧ b' = b ∧ cs' = cs := fun h b' cs' e => by
   simp only [St.argsC] at e
   cases hh : Nat.beq h 899 with
   | false => rw [hh] at e; cases e
   | true =>
    rw [hh] at e
    simp only [cond, Option.some.injEq, Prod.mk.injEq] at e
    exact ⟨Nat.eq_of_beq_eq_true hh, e.1.symm, e.2.symm⟩
  refine ⟨by simp [hn]; omega, rfl, fun s x hs => ?_, fun h b' cs' e => ?_, fun h b' cs' e => ?_, fun h b' cs' h' b'' cs'' e e' hne => ?_, Grown.of_later (Later.refl w) _⟩
  ·simp only [St.argsC, Option.map_eq_some_iff] at hs
   obtain ⟨y, hy, rfl⟩ := hs
   have hlt := (List.getElem?_eq_some_iff.1 hy).1
   simp [Array.getElem?_append, hlt, SV.val, (List.getElem?_eq_some_iff.1 hy).2]
  ·obtain ⟨rfl, rfl, rfl⟩ := key h b' cs' e
   exact hv
  ·obtain ⟨rfl, rfl, rfl⟩ := key h b' cs' e
   exact .inr ⟨rfl, by simp [holO]⟩
  ·exact absurd ((key h b' cs' e).1.trans (key h' b'' cs'' e').1.symm) hne
 refine calls_of_wp hf hb (Code.wp_mono (fun e a' w' q => ?_) (h _ H0))
 obtain ⟨st', H', he, q⟩ := q
 obtain ⟨v, hv', hR⟩ := q H'.mem H'.old.by
 have hr := resd_run H' hv'
 rcases he with rfl | rfl <;> exact ⟨H'.defers, v, hr, hR⟩
end
end Go.Proofs.YthihioakjpmnbaaGreat
