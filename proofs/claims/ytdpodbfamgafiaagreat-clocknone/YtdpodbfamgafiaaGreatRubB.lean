/-
 The contracts of rubber.First, Tai, Label and Segments (P14.1 to P14.3), of segments that may be. No other conditions.
-/
import Derived.Test.YtdpodbfamgafiaaGreatRubD
namespace Go.Proofs.YtdpodbfamgafiaaGreat
open Go.RowKit
set_option maxRecDepth 100000

theorem Rb.len {w : World} {b : Nat} {bs : List Nat} {l : List Sg} {day off : Int} (_h : Rb w b bs l day off) (hm : mayS l day off = true) : 1 ≤ l.length ∧ l.length ≤ 32 := (may0_iff.1 (may_spec.1 hm).1).1

theorem bmade_yes {w : World} {b : Nat} {bs : List Nat} {l : List Sg} {day off : Int} (hR : Rb w b bs l day off) (hn : 1 ≤ l.length) : Calls Tryz.prog 88 #[.pointer (some ⟨b, 0, none⟩)] w fun e w' => ∃ r, e = .returned r ∧ r = .bool true ∧ Below w.heap.size w w' := by
 obtain ⟨c, cs, rfl, hbc, hv, vc, hp⟩ := hR
 refine calls_Wp (args := [_]) (n := 13) Tryz.func88 rfl rfl (by simp) ?_
 refine qZ ?_
 refine Wp.seq ?_
 refine Wp.old (fun lo => ?_)
 refine wQ 1 ?_
 refine s_nilNe (some ⟨b, 0, none⟩) rfl rfl rfl rfl rfl ?_
 refine sQ 2 ?_
 refine s_nilV rfl rfl rfl rfl ?_
 refine s_fieldV 0 rfl rfl rfl rfl 0 rfl rfl ?_
 refine s_ldU rfl rfl rfl rfl (hv.later lo) rfl ?_
 refine x_len rfl rfl rfl rfl rfl ?_
 refine t_gtr rfl rfl rfl rfl rfl (by omega) ?_
 refine sZ 2 ?_
 refine Wp.ret ⟨.inr rfl, fun lW => ⟨_, res_tmp (P := Tryz.prog) rfl rfl, _, rfl, ?_, lW⟩⟩
 clear lW
 rfl
theorem btai1_any {s : Sg} {la bh bl eh el d x y : Int} {k : Nat} {w : World} (hv : Var w k [.int .i64 d, .int .i64 x, .int .i64 y]) : Calls Tryz.prog 91 #[.agg #[.int .i64 s.d, .int .i64 s.b, .int .i64 s.f, .int .i64 s.r, .int .i64 la, .int .i64 bh, .int .u64 bl, .int .i64 eh, .int .u64 el], .pointer (some ⟨k, 0, none⟩)] w fun e w' => ∃ r, e = .returned r ∧ r = .bool (pSD d s) ∧ Below w.heap.size w w' := by
 refine calls_Wp (args := [_, _]) (n := 10) Tryz.func91 rfl rfl (by simp) ?_
 refine Wp.seq ?_
 refine wR [0, 1] ?_
 refine sE (fun bk1 w1 kb1 lw1 => ?_)
 refine sZ 1 ?_
 refine Wp.seq ?_
 refine Wp.old (fun lo => ?_)
 refine wQ 3 ?_
 refine s_fieldV 0 rfl rfl rfl rfl 0 rfl rfl ?_
 refine s_ldU rfl rfl rfl rfl (hv.later lo) rfl ?_
 refine p_leq rfl rfl rfl rfl rfl (fun h9 => ?_) (fun h9 => ?_)
 ·refine sZ 1 ?_
  refine Wp.ret ⟨.inr rfl, fun lW => ⟨_, res_tmp (P := Tryz.prog) rfl rfl, _, rfl, ?_, lW⟩⟩
  clear lW
  unfold pSD
  rw [decide_eq_true (show s.d ≤ d by omega)]
 ·refine sZ 1 ?_
  refine Wp.ret ⟨.inr rfl, fun lW => ⟨_, res_tmp (P := Tryz.prog) rfl rfl, _, rfl, ?_, lW⟩⟩
  clear lW
  unfold pSD
  rw [decide_eq_false (show ¬ s.d ≤ d by omega)]
theorem blabel1_any {s : Sg} {la bh bl eh el t h o : Int} (hb : WideIs bh bl (begS s)) (ht : WideIs h o t) {k : Nat} {w : World} (hv : Var w k [.int .i64 h, .int .u64 o]) : Calls Tryz.prog 100 #[.agg #[.int .i64 s.d, .int .i64 s.b, .int .i64 s.f, .int .i64 s.r, .int .i64 la, .int .i64 bh, .int .u64 bl, .int .i64 eh, .int .u64 el], .pointer (some ⟨k, 0, none⟩)] w fun e w' => ∃ r, e = .returned r ∧ r = .bool (pSB t s) ∧ Below w.heap.size w w' := by
 refine calls_Wp (args := [_, _]) (n := 9) Tryz.func100 rfl rfl (by simp) ?_
 refine Wp.seq ?_
 refine wR [0, 1] ?_
 refine sE (fun bk1 w1 kb1 lw1 => ?_)
 refine sZ 1 ?_
 refine Wp.seq ?_
 refine Wp.old (fun lo => ?_)
 refine wQ 2 ?_
 refine s_ldU rfl rfl rfl rfl (hv.later lo) rfl ?_
 refine sT (c_wcmp ⟨_, _, rfl, hb⟩ ⟨_, _, rfl, ht⟩ _) ?_
 rintro v w3 rfl lw3
 refine p_leq rfl rfl rfl rfl rfl (fun h8 => ?_) (fun h8 => ?_)
 ·refine sZ 1 ?_
  refine Wp.ret ⟨.inr rfl, fun lW => ⟨_, res_tmp (P := Tryz.prog) rfl rfl, _, rfl, ?_, lW⟩⟩
  clear lW
  unfold pSB
  rw [decide_eq_true (cmpI_le.1 h8)]
 ·refine sZ 1 ?_
  refine Wp.ret ⟨.inr rfl, fun lW => ⟨_, res_tmp (P := Tryz.prog) rfl rfl, _, rfl, ?_, lW⟩⟩
  clear lW
  unfold pSB
  rw [decide_eq_false (fun q => by have := cmpI_le.2 q; omega)]
theorem ptai_any {w : World} {b : Nat} {bs : List Nat} {l : List Sg} {day off : Int} (hR : Rb w b bs l day off) (hm : mayS l day off = true) {d s a : Int} (_hd : I64 d) (_hs : I64 s) (_ha : I64 a) {K : Nat} (hcut : CutP (pSD d) l K) : Calls Tryz.prog 55 #[.pointer (some ⟨b, 0, none⟩), .agg #[.int .i64 d, .int .i64 s, .int .i64 a]] w fun e w' => ∃ r, e = .returned r ∧ (∃ u, r = .tuple #[u, .int .i64 (rE l day off K d s a)] ∧ IsW (rT l day off K d s a) u) ∧ Below w.heap.size w w' := by
 have hn := hR.len hm
 obtain ⟨Z, hZ⟩ : ∃ Z, rT l day off K d s a = Z := ⟨_, rfl⟩
 obtain ⟨E, hE⟩ : ∃ E, rE l day off K d s a = E := ⟨_, rfl⟩
 rw [hZ, hE]
 have hno : E ≠ 0 → Z = 0 := fun h => by rw [← hZ]; exact rT_no (by rw [hE]; exact h)
 cases hU : isU s a with
 | false =>
  obtain rfl : 1 = E := by rw [← hE, rE_arg hU]
  obtain rfl : Z = 0 := hno (by decide)
  refine calls_Wp (args := [_, _]) (n := 54) Tryz.func55 rfl rfl (by simp) ?_
  refine Wp.seq ?_
  refine wR [0, 1, 2] ?_
  refine sE (fun bk1 w1 kb1 lw1 => ?_)
  refine sO (fun bk2 w2 kb2 lw2 => ?_)
  refine sZ 1 ?_
  refine Wp.seq ?_
  refine Wp.seq ?_
  refine Wp.old (fun lo => ?_)
  refine wQ 1 ?_
  refine sT (bmade_yes (hR.later lo) hn.1) ?_
  rintro v w3 rfl lw3
  refine sZ 1 ?_
  refine Wp.condF rfl rfl ?_
  refine Wp.skip ?_
  refine Wp.seq ?_
  refine qQ 1 ?_
  refine sT (bmay_any d s a) ?_
  rintro v w4 rfl lw4
  rw [hU]
  refine sZ 1 ?_
  refine Wp.condT rfl rfl ?_
  refine Wp.seq ?_
  refine wR [0, 1, 2] ?_
  refine sB ?_
  refine sS (fun w5 sw5 vw5 => ?_)
  refine sZ 1 ?_
  refine Wp.ret ⟨.inr rfl, fun lW => ⟨_, ⟨_, _, res_cell rfl rfl rfl rfl, res_tmp (P := Tryz.prog) rfl rfl, rfl⟩, _, rfl, ?_, lW⟩⟩
  clear lW
  exact ⟨_, rfl, _, _, rfl, (by unfold WideIs; omega)⟩
 | true =>
  have hU' := isU_iff.1 hU
  rcases Nat.eq_zero_or_pos K with hK | hK
  ·obtain rfl : 8 = E := by rw [← hE, rE_early hU hK]
   obtain rfl : Z = 0 := hno (by decide)
   refine calls_Wp (args := [_, _]) (n := 54) Tryz.func55 rfl rfl (by simp) ?_
   refine Wp.seq ?_
   refine wR [0, 1, 2] ?_
   refine sE (fun bk1 w1 kb1 lw1 => ?_)
   refine sO (fun bk2 w2 kb2 lw2 => ?_)
   refine sZ 1 ?_
   refine Wp.seq ?_
   refine Wp.seq ?_
   refine Wp.old (fun lo => ?_)
   refine wQ 1 ?_
   refine sT (bmade_yes (hR.later lo) hn.1) ?_
   rintro v w3 rfl lw3
   refine sZ 1 ?_
   refine Wp.condF rfl rfl ?_
   refine Wp.skip ?_
   refine Wp.seq ?_
   refine qQ 1 ?_
   refine sT (bmay_any d s a) ?_
   rintro v w4 rfl lw4
   rw [hU]
   refine sZ 1 ?_
   refine Wp.condF rfl rfl ?_
   refine Wp.skip ?_
   refine Wp.seq ?_
   refine Wp.var (h := 3) rfl (fun v3 => ?_)
   have q3 := v3.lt
   refine Wp.old (fun lo => ?_)
   refine wQ 1 ?_
   refine s_mkfun rfl rfl rfl rfl ?_
   refine s_callT rfl rfl rfl (by kernel_rfl) rfl (blatest_any (hR.later lo) (by omega) hcut (f := 91) (caps := [.pointer (some ⟨_, 0, none⟩)]) (by kernel_rfl) (fun W j s bh bl eh el lz _ _ _ => btai1_any (v3.later lz))) ?_
   rintro v w5 hlast lw5
   obtain rfl : v = .tuple #[.agg zeroP.toArray, .bool false] := by
    rcases hlast with ⟨_, h⟩ | ⟨h, _⟩
    ·exact h
    ·omega
   refine sQ 3 ?_
   refine sO (fun bk6 w6 kb6 lw6 => ?_)
   refine sS (fun w7 sw7 vw7 => ?_)
   refine sZ 1 ?_
   refine Wp.seq ?_
   refine qZ ?_
   refine Wp.condT rfl rfl ?_
   refine Wp.seq ?_
   refine wR [0, 1, 2] ?_
   refine sB ?_
   refine sS (fun w8 sw8 vw8 => ?_)
   refine sZ 1 ?_
   refine Wp.ret ⟨.inr rfl, fun lW => ⟨_, ⟨_, _, res_cell rfl rfl rfl rfl, res_tmp (P := Tryz.prog) rfl rfl, rfl⟩, _, rfl, ?_, lW⟩⟩
   clear lW
   exact ⟨_, rfl, _, _, rfl, (by unfold WideIs; omega)⟩
  ·obtain ⟨y, hy, hpy⟩ := cutP_in hcut hK
   unfold pSD at hpy
   rw [decide_eq_true_eq] at hpy
   have hma := may_at hm hy
   obtain ⟨hin, _, _, _, hend, _⟩ := hma
   have hlate := cut_late hm hcut hK hy
   have hui := bunt_in (may_bdd hm) hy
   have hyd := (sgIn_iff.1 hin).1
   obtain ⟨U, hUU⟩ : ∃ U, untS l day (K - 1) = U := ⟨_, rfl⟩
   refine calls_Wp (args := [_, _]) (n := 54) Tryz.func55 rfl rfl (by simp) ?_
   refine Wp.seq ?_
   refine wR [0, 1, 2] ?_
   refine sE (fun bk1 w1 kb1 lw1 => ?_)
   refine sO (fun bk2 w2 kb2 lw2 => ?_)
   refine sZ 1 ?_
   refine Wp.seq ?_
   refine Wp.seq ?_
   refine Wp.old (fun lo => ?_)
   refine wQ 1 ?_
   refine sT (bmade_yes (hR.later lo) hn.1) ?_
   rintro v w3 rfl lw3
   refine sZ 1 ?_
   refine Wp.condF rfl rfl ?_
   refine Wp.skip ?_
   refine Wp.seq ?_
   refine qQ 1 ?_
   refine sT (bmay_any d s a) ?_
   rintro v w4 rfl lw4
   rw [hU]
   refine sZ 1 ?_
   refine Wp.condF rfl rfl ?_
   refine Wp.skip ?_
   refine Wp.seq ?_
   refine Wp.var (h := 3) rfl (fun v3 => ?_)
   have q3 := v3.lt
   refine Wp.old (fun lo => ?_)
   refine wQ 1 ?_
   refine s_mkfun rfl rfl rfl rfl ?_
   refine s_callT rfl rfl rfl (by kernel_rfl) rfl (blatest_any (hR.later lo) (by omega) hcut (f := 91) (caps := [.pointer (some ⟨_, 0, none⟩)]) (by kernel_rfl) (fun W j s bh bl eh el lz _ _ _ => btai1_any (v3.later lz))) ?_
   rintro v w5 hlast lw5
   obtain ⟨bh, bl, eh, el, kb, ke, rfl⟩ : ∃ bh bl eh el, WideIs bh bl (begS y) ∧ WideIs eh el (endS l day off (K - 1)) ∧ v = .tuple #[.agg (partL y (untS l day (K - 1) - 1) bh bl eh el).toArray, .bool true] := by
    rcases hlast with ⟨h, _⟩ | ⟨_, s2, bh, bl, eh, el, h1, h2, h3, h4⟩
    ·omega
    ·rw [hy] at h1; cases h1; exact ⟨bh, bl, eh, el, h2, h3, h4⟩
   rw [hUU]
   refine sQ 3 ?_
   refine sO (fun bk6 w6 kb6 lw6 => ?_)
   refine sS (fun w7 sw7 vw7 => ?_)
   refine sZ 1 ?_
   refine Wp.seq ?_
   refine qZ ?_
   refine Wp.condF rfl rfl ?_
   refine Wp.skip ?_
   refine Wp.seq ?_
   refine qQ 4 ?_
   refine p_gtr rfl rfl rfl rfl rfl (fun h30 => ?_) (fun h30 => ?_)
   ·obtain rfl : 9 = E := by rw [← hE, rE_late hU hK (hlate.1 (by omega))]
    obtain rfl : Z = 0 := hno (by decide)
    refine vOrd_nil ?_
    refine Wp.condT rfl rfl ?_
    refine Wp.seq ?_
    refine wR [0, 1, 2] ?_
    refine sB ?_
    refine sS (fun w8 sw8 vw8 => ?_)
    refine sZ 1 ?_
    refine Wp.ret ⟨.inr rfl, fun lW => ⟨_, ⟨_, _, res_cell rfl rfl rfl rfl, res_tmp (P := Tryz.prog) rfl rfl, rfl⟩, _, rfl, ?_, lW⟩⟩
    clear lW
    exact ⟨_, rfl, _, _, rfl, (by unfold WideIs; omega)⟩
   ·have hdd : d < day := by
     have := fun q => hlate.2 q
     omega
    refine vOrd_nil ?_
    refine Wp.condF rfl rfl ?_
    refine Wp.skip ?_
    refine Wp.seq ?_
    refine qQ 2 ?_
    refine p_eql rfl rfl rfl rfl rfl (fun h34 => ?_) (fun h34 => ?_)
    ·refine sQ 5 ?_
     refine p_neq rfl rfl rfl rfl rfl (fun h40 => ?_) (fun h40 => ?_)
     ·obtain rfl : 6 = E := by rw [← hE, rE_none hU hK hdd (.inl (by omega))]
      obtain rfl : Z = 0 := hno (by decide)
      refine sZ 1 ?_
      refine Wp.condT rfl rfl ?_
      refine Wp.seq ?_
      refine wR [0, 1, 2] ?_
      refine sB ?_
      refine sS (fun w9 sw9 vw9 => ?_)
      refine sZ 1 ?_
      refine Wp.ret ⟨.inr rfl, fun lW => ⟨_, ⟨_, _, res_cell rfl rfl rfl rfl, res_tmp (P := Tryz.prog) rfl rfl, rfl⟩, _, rfl, ?_, lW⟩⟩
      clear lW
      exact ⟨_, rfl, _, _, rfl, (by unfold WideIs; omega)⟩
     ·refine sZ 1 ?_
      refine Wp.condF rfl rfl ?_
      refine Wp.skip ?_
      refine Wp.seq ?_
      refine wD [0, 1, 4, 2, 3, 5] [22, 17, 15, 0, 0, 0] (fun | 2 => fun v _ => IsW (cnt d s a) v | 3 => fun v _ => IsW (fZ y (cnt d s a)) v | _ => fun _ _ => True) (fun _ _ => ?_)
      refine sQ 2 ?_
      refine sO (fun bk10 w10 kb10 lw10 => ?_)
      refine s_callD rfl rfl rfl (by kernel_rfl) rfl (fun wc lc => bcount_any hU (by omega)) ?_
      rintro v w11 u11 k1 lw11 mw11
      refine s_callD rfl rfl rfl (by kernel_rfl) rfl (fun wc lc => binst_any hin k1 (by unfold cnt; omega) (by unfold cnt; omega)) ?_
      rintro v w12 u12 ⟨th, tl, rfl, k2⟩ lw12 mw12
      refine sS (fun w13 sw13 vw13 => ?_)
      refine vOrd_nil ?_
      refine Wp.seq ?_
      refine qQ 3 ?_
      refine sT (c_wcmp ⟨_, _, rfl, k2⟩ ⟨_, _, rfl, ke⟩ _) ?_
      rintro v w14 rfl lw14
      refine p_geq rfl rfl rfl rfl rfl (fun h51 => ?_) (fun h51 => ?_)
      ·have hge : endS l day off (K - 1) ≤ fZ (sgA l K) (cnt d s a) := by
        rw [sgA_at hy]
        have := cmpI_low (x := fZ y (cnt d s a)) (y := endS l day off (K - 1))
        omega
       obtain rfl : 6 = E := by rw [← hE, rE_none hU hK hdd (.inr hge)]
       obtain rfl : Z = 0 := hno (by decide)
       refine vOrd_nil ?_
       refine Wp.condT rfl rfl ?_
       refine Wp.seq ?_
       refine wR [0, 1, 2] ?_
       refine sB ?_
       refine sS (fun w15 sw15 vw15 => ?_)
       refine sZ 1 ?_
       refine Wp.ret ⟨.inr rfl, fun lW => ⟨_, ⟨_, _, res_cell rfl rfl rfl rfl, res_tmp (P := Tryz.prog) rfl rfl, rfl⟩, _, rfl, ?_, lW⟩⟩
       clear lW
       exact ⟨_, rfl, _, _, rfl, (by unfold WideIs; omega)⟩
      ·have hlt := cmpI_low.1 (show cmpI (fZ y (cnt d s a)) (endS l day off (K - 1)) < 0 by omega)
       obtain rfl : 0 = E := by rw [← hE, rE_ok hU hK hdd (by omega) (by rw [sgA_at hy]; exact hlt)]
       have hZ2 : Z = fZ y (cnt d s a) := by rw [← hZ, rT_ok hE, sgA_at hy]
       refine vOrd_nil ?_
       refine Wp.condF rfl rfl ?_
       refine Wp.skip ?_
       refine qQ 1 ?_
       refine sS (fun w16 sw16 vw16 => ?_)
       refine sZ 1 ?_
       refine Wp.ret ⟨.inr rfl, fun lW => ⟨_, ⟨_, _, res_cell rfl rfl rfl rfl, res_tmp (P := Tryz.prog) rfl rfl, rfl⟩, _, rfl, ?_, lW⟩⟩
       clear lW
       exact ⟨_, rfl, _, _, rfl, by rw [hZ2]; exact k2⟩
    ·refine sZ 7 ?_
     refine Wp.condF rfl rfl ?_
     refine Wp.skip ?_
     refine Wp.seq ?_
     refine wD [0, 1, 4, 2, 3, 5] [22, 17, 15, 0, 0, 0] (fun | 2 => fun v _ => IsW (cnt d s a) v | 3 => fun v _ => IsW (fZ y (cnt d s a)) v | _ => fun _ _ => True) (fun _ _ => ?_)
     refine sQ 2 ?_
     refine sO (fun bk17 w17 kb17 lw17 => ?_)
     refine s_callD rfl rfl rfl (by kernel_rfl) rfl (fun wc lc => bcount_any hU (by omega)) ?_
     rintro v w18 u18 k1 lw18 mw18
     refine s_callD rfl rfl rfl (by kernel_rfl) rfl (fun wc lc => binst_any hin k1 (by unfold cnt; omega) (by unfold cnt; omega)) ?_
     rintro v w19 u19 ⟨th, tl, rfl, k2⟩ lw19 mw19
     refine sS (fun w20 sw20 vw20 => ?_)
     refine vOrd_nil ?_
     refine Wp.seq ?_
     refine qQ 3 ?_
     refine sT (c_wcmp ⟨_, _, rfl, k2⟩ ⟨_, _, rfl, ke⟩ _) ?_
     rintro v w21 rfl lw21
     refine p_geq rfl rfl rfl rfl rfl (fun h51 => ?_) (fun h51 => ?_)
     ·have hge : endS l day off (K - 1) ≤ fZ (sgA l K) (cnt d s a) := by
       rw [sgA_at hy]
       have := cmpI_low (x := fZ y (cnt d s a)) (y := endS l day off (K - 1))
       omega
      obtain rfl : 6 = E := by rw [← hE, rE_none hU hK hdd (.inr hge)]
      obtain rfl : Z = 0 := hno (by decide)
      refine vOrd_nil ?_
      refine Wp.condT rfl rfl ?_
      refine Wp.seq ?_
      refine wR [0, 1, 2] ?_
      refine sB ?_
      refine sS (fun w22 sw22 vw22 => ?_)
      refine sZ 1 ?_
      refine Wp.ret ⟨.inr rfl, fun lW => ⟨_, ⟨_, _, res_cell rfl rfl rfl rfl, res_tmp (P := Tryz.prog) rfl rfl, rfl⟩, _, rfl, ?_, lW⟩⟩
      clear lW
      exact ⟨_, rfl, _, _, rfl, (by unfold WideIs; omega)⟩
     ·have hlt := cmpI_low.1 (show cmpI (fZ y (cnt d s a)) (endS l day off (K - 1)) < 0 by omega)
      obtain rfl : 0 = E := by rw [← hE, rE_ok hU hK hdd (by omega) (by rw [sgA_at hy]; exact hlt)]
      have hZ2 : Z = fZ y (cnt d s a) := by rw [← hZ, rT_ok hE, sgA_at hy]
      refine vOrd_nil ?_
      refine Wp.condF rfl rfl ?_
      refine Wp.skip ?_
      refine qQ 1 ?_
      refine sS (fun w23 sw23 vw23 => ?_)
      refine sZ 1 ?_
      refine Wp.ret ⟨.inr rfl, fun lW => ⟨_, ⟨_, _, res_cell rfl rfl rfl rfl, res_tmp (P := Tryz.prog) rfl rfl, rfl⟩, _, rfl, ?_, lW⟩⟩
      clear lW
      exact ⟨_, rfl, _, _, rfl, by rw [hZ2]; exact k2⟩
theorem plabel_any {w : World} {b : Nat} {bs : List Nat} {l : List Sg} {day off : Int} (hR : Rb w b bs l day off) (hm : mayS l day off = true) {t : Int} {u : Value} (hu : IsW t u) {K : Nat} (hcut : CutP (pSB t) l K) : Calls Tryz.prog 71 #[.pointer (some ⟨b, 0, none⟩), u] w fun e w' => ∃ r, e = .returned r ∧ r = .tuple #[lU l day off K t, .int .i64 (lE l day off K t)] ∧ Below w.heap.size w w' := by
 have hn := hR.len hm
 obtain ⟨uh, ul, rfl, hu⟩ := hu
 rcases Nat.eq_zero_or_pos K with hK | hK
 ·obtain rfl := hK
  obtain ⟨e1, e2⟩ := lE_early (l := l) (day := day) (off := off) (t := t)
  rw [e1, e2]
  refine calls_Wp (args := [_, _]) (n := 50) Tryz.func71 rfl rfl (by simp) ?_
  refine Wp.seq ?_
  refine wR [0, 1, 2] ?_
  refine sE (fun bk1 w1 kb1 lw1 => ?_)
  refine sO (fun bk2 w2 kb2 lw2 => ?_)
  refine sZ 1 ?_
  refine Wp.seq ?_
  refine Wp.seq ?_
  refine Wp.old (fun lo => ?_)
  refine wQ 1 ?_
  refine sT (bmade_yes (hR.later lo) hn.1) ?_
  rintro v w3 rfl lw3
  refine sZ 1 ?_
  refine Wp.condF rfl rfl ?_
  refine Wp.skip ?_
  refine Wp.seq ?_
  refine Wp.var (h := 3) rfl (fun v3 => ?_)
  have q3 := v3.lt
  refine Wp.old (fun lo => ?_)
  refine wQ 1 ?_
  refine s_mkfun rfl rfl rfl rfl ?_
  refine s_callT rfl rfl rfl (by kernel_rfl) rfl (blatest_any (hR.later lo) (by omega) hcut (f := 100) (caps := [.pointer (some ⟨_, 0, none⟩)]) (by kernel_rfl) (fun W j s bh bl eh el lz _ hb _ => blabel1_any hb hu (v3.later lz))) ?_
  rintro v w4 hlast lw4
  obtain rfl : v = .tuple #[.agg zeroP.toArray, .bool false] := by
   rcases hlast with ⟨_, h⟩ | ⟨h, _⟩
   ·exact h
   ·omega
  refine sQ 3 ?_
  refine sO (fun bk5 w5 kb5 lw5 => ?_)
  refine sS (fun w6 sw6 vw6 => ?_)
  refine sZ 1 ?_
  refine Wp.seq ?_
  refine qZ ?_
  refine Wp.condT rfl rfl ?_
  refine Wp.seq ?_
  refine wR [0, 1, 2] ?_
  refine sB ?_
  refine sS (fun w7 sw7 vw7 => ?_)
  refine sZ 1 ?_
  refine Wp.ret ⟨.inr rfl, fun lW => ⟨_, ⟨_, _, res_cell rfl rfl rfl rfl, res_tmp (P := Tryz.prog) rfl rfl, rfl⟩, _, rfl, ?_, lW⟩⟩
  clear lW
  rfl
 ·obtain ⟨y, hy, hpy⟩ := cutP_in hcut hK
  unfold pSB at hpy
  rw [decide_eq_true_eq] at hpy
  obtain ⟨hin, hr, hdu, _, hend, _⟩ := may_at hm hy
  have hui := bunt_in (may_bdd hm) hy
  have hyd := (sgIn_iff.1 hin).1
  have hA := sgA_at hy
  have n1 := fZ_near hin (u := cnt y.d 0 0) (by unfold cnt; omega) (by unfold cnt; omega)
  have n2 := fZ_near hin (u := cnt (untS l day (K - 1)) 1 0) (by unfold cnt; omega) (by unfold cnt; omega)
  have hbg : begS y = fZ y (cnt y.d 0 0) := rfl
  have cc1 : cnt y.d 0 0 = y.d * 86400000000000000000000 := cnt_day _
  have cc2 : cnt (untS l day (K - 1)) 1 0 = untS l day (K - 1) * 86400000000000000000000 + 1000000000000000000 := by unfold cnt; omega
  obtain ⟨U, hUU⟩ : ∃ U, untS l day (K - 1) = U := ⟨_, rfl⟩
  obtain ⟨X, hX⟩ : ∃ X, endS l day off (K - 1) = X := ⟨_, rfl⟩
  rw [hUU] at hdu hend hui n2 cc2
  rw [hX] at hend
  refine calls_Wp (args := [_, _]) (n := 50) Tryz.func71 rfl rfl (by simp) ?_
  refine Wp.seq ?_
  refine wR [0, 1, 2] ?_
  refine sE (fun bk1 w1 kb1 lw1 => ?_)
  refine sO (fun bk2 w2 kb2 lw2 => ?_)
  refine sZ 1 ?_
  refine Wp.seq ?_
  refine Wp.seq ?_
  refine Wp.old (fun lo => ?_)
  refine wQ 1 ?_
  refine sT (bmade_yes (hR.later lo) hn.1) ?_
  rintro v w3 rfl lw3
  refine sZ 1 ?_
  refine Wp.condF rfl rfl ?_
  refine Wp.skip ?_
  refine Wp.seq ?_
  refine Wp.var (h := 3) rfl (fun v3 => ?_)
  have q3 := v3.lt
  refine Wp.old (fun lo => ?_)
  refine wQ 1 ?_
  refine s_mkfun rfl rfl rfl rfl ?_
  refine s_callT rfl rfl rfl (by kernel_rfl) rfl (blatest_any (hR.later lo) (by omega) hcut (f := 100) (caps := [.pointer (some ⟨_, 0, none⟩)]) (by kernel_rfl) (fun W j s bh bl eh el lz _ hb _ => blabel1_any hb hu (v3.later lz))) ?_
  rintro v w4 hlast lw4
  obtain ⟨bh, bl, eh, el, kb, ke, rfl⟩ : ∃ bh bl eh el, WideIs bh bl (begS y) ∧ WideIs eh el X ∧ v = .tuple #[.agg (partL y (U - 1) bh bl eh el).toArray, .bool true] := by
   rcases hlast with ⟨h, _⟩ | ⟨_, s2, bh, bl, eh, el, h1, h2, h3, h4⟩
   ·omega
   ·rw [hy] at h1; cases h1; rw [← hX, ← hUU]; exact ⟨bh, bl, eh, el, h2, h3, h4⟩
  refine sQ 3 ?_
  refine sO (fun bk5 w5 kb5 lw5 => ?_)
  refine sS (fun w6 sw6 vw6 => ?_)
  refine sZ 1 ?_
  refine Wp.seq ?_
  refine qZ ?_
  refine Wp.condF rfl rfl ?_
  refine Wp.skip ?_
  refine Wp.seq ?_
  refine qQ 3 ?_
  refine sT (c_wcmp ⟨_, _, rfl, hu⟩ ⟨_, _, rfl, ke⟩ _) ?_
  rintro v w7 rfl lw7
  refine p_geq rfl rfl rfl rfl rfl (fun h27 => ?_) (fun h27 => ?_)
  ·have hge : X ≤ t := by have := cmpI_low (x := t) (y := X); omega
   obtain ⟨e1, e2⟩ := lE_late (l := l) (day := day) (off := off) (t := t) hK (by rw [hX]; exact hge)
   rw [e1, e2]
   refine vOrd_nil ?_
   refine Wp.condT rfl rfl ?_
   refine Wp.seq ?_
   refine wR [0, 1, 2] ?_
   refine sB ?_
   refine sS (fun w8 sw8 vw8 => ?_)
   refine sZ 1 ?_
   refine Wp.ret ⟨.inr rfl, fun lW => ⟨_, ⟨_, _, res_cell rfl rfl rfl rfl, res_tmp (P := Tryz.prog) rfl rfl, rfl⟩, _, rfl, ?_, lW⟩⟩
   clear lW
   rfl
  ·have hlt := cmpI_low.1 (show cmpI t X < 0 by omega)
   obtain ⟨e1, e2⟩ := lE_ok (l := l) (day := day) (off := off) (t := t) hK (by rw [hX]; exact hlt)
   rw [e1, e2]
   obtain ⟨x0, hx0, _, g1, g2, _, _⟩ := gZ_in hm hcut e1
   rw [hy] at hx0
   cases hx0
   rw [hUU] at g2
   have hgd : inB (dayZ (gZ y t)) = true := inB_iff.2 (by unfold dayZ; omega)
   have hgs : dayZ (gZ y t) ≤ U ∧ (dayZ (gZ y t) = U → secZ (gZ y t) = 0) := by unfold dayZ secZ; omega
   have hgk : 0 ≤ secZ (gZ y t) ∧ secZ (gZ y t) < 86400 := by unfold secZ; omega
   have hgd2 := inB_iff.1 hgd
   obtain ⟨j1, j2, j3⟩ := spl_yes hgd
   refine vOrd_nil ?_
   refine Wp.condF rfl rfl ?_
   refine Wp.skip ?_
   refine qQ 2 ?_
   refine s_callT rfl rfl rfl (by kernel_rfl) rfl (bcnt_any hin ⟨_, _, rfl, hu⟩ (by omega) (by omega)) ?_
   rintro v w9 k1 lw9
   refine sT (dsplit_any k1 _) ?_
   rintro v w10 rfl lw10
   rw [j1, j2, j3]
   refine sQ 3 ?_
   refine sO (fun bk11 w11 kb11 lw11 => ?_)
   refine sS (fun w12 sw12 vw12 => ?_)
   refine sZ 1 ?_
   refine Wp.seq ?_
   refine qQ 4 ?_
   refine p_gtr rfl rfl rfl rfl rfl (fun h40 => ?_) (fun h40 => ?_)
   ·obtain ⟨m1, m2⟩ := l_hit (l := l) (day := day) (K := K) (t := t) (by rw [hUU, hA]; omega)
    rw [m1, m2, hA]
    refine vOrd_nil ?_
    refine Wp.condT rfl rfl ?_
    refine qQ 2 ?_
    refine aM (-9223372036854775808) 9223372036854775807 ?_
    refine sF 0 ?_
    refine sS (fun w13 sw13 vw13 => ?_)
    refine vOrd_nil ?_
    refine wQ 2 ?_
    refine aP (-9223372036854775808) 9223372036854775807 ?_
    refine sF 1 ?_
    refine sS (fun w14 sw14 vw14 => ?_)
    refine vOrd_nil ?_
    refine qQ 1 ?_
    refine sS (fun w15 sw15 vw15 => ?_)
    refine sZ 1 ?_
    refine Wp.ret ⟨.inr rfl, fun lW => ⟨_, ⟨_, _, res_cell rfl rfl rfl rfl, res_tmp (P := Tryz.prog) rfl rfl, rfl⟩, _, rfl, ?_, lW⟩⟩
    clear lW
    rfl
   ·obtain ⟨m1, m2⟩ := l_miss (l := l) (day := day) (K := K) (t := t) (by rw [hUU, hA]; omega)
    rw [m1, m2, hA]
    refine vOrd_nil ?_
    refine Wp.condF rfl rfl ?_
    refine Wp.skip ?_
    refine qQ 1 ?_
    refine sS (fun w16 sw16 vw16 => ?_)
    refine sZ 1 ?_
    refine Wp.ret ⟨.inr rfl, fun lW => ⟨_, ⟨_, _, res_cell rfl rfl rfl rfl, res_tmp (P := Tryz.prog) rfl rfl, rfl⟩, _, rfl, ?_, lW⟩⟩
    clear lW
    rfl
theorem psegs_any {w : World} : Calls Tryz.prog 28 #[] w fun e w' => ∃ r, e = .returned r ∧ (∃ c, r = .slice (some ⟨c, 0, none⟩) 13 13 ∧ w.heap.size ≤ c ∧ Var w' c (segC pubS)) ∧ Below w.heap.size w w' := by
 refine calls_Wp (args := []) (n := 15) Tryz.func28 rfl rfl (by simp) ?_
 refine qZ ?_
 refine Wp.seq ?_
 refine Wp.old (fun lo => ?_)
 have hsz := lo.size
 refine wR [0, 1, 2, 3, 4, 5, 6, 7, 8, 9, 10, 11, 12, 13, 14] ?_
 refine sB ?_
 refine sB ?_
 refine sB ?_
 refine sB ?_
 refine sB ?_
 refine sB ?_
 refine sB ?_
 refine sB ?_
 refine sB ?_
 refine sB ?_
 refine sB ?_
 refine sB ?_
 refine sB ?_
 refine s_bs (e := 115) (cs := segC pubS) rfl rfl rfl (fun _ => by kernel_rfl) ?_
 intro cb wb hcb lb hrow
 have vb := hrow.var
 refine sZ 1 ?_
 refine Wp.ret ⟨.inr rfl, fun lW => ⟨_, res_tmp (P := Tryz.prog) rfl rfl, _, rfl, ?_, lW⟩⟩
 clear lW
 exact ⟨_, rfl, by omega, vb⟩
end Go.Proofs.YtdpodbfamgafiaaGreat
