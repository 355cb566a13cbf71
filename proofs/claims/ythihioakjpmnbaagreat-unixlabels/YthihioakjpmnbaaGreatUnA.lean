/-
 Unix time in plain numbers: the Unix time of a label (unE, unV); which labels of a Unix time there are (ulP: the one of the day ahead, ulQ: the plain one); since there are leap seconds, when there are two, or none. Of tables that may be.
-/
import Derived.Test.YthihioakjpmnbaaGreatSegA
import Derived.Test.YthihioakjpmnbaaGreatSegS
namespace Go.Proofs.YthihioakjpmnbaaGreat
open Go.RowKit
set_option maxRecDepth 100000

theorem pub_may15 : mayS pubS 41317 10 = true := by decide +kernel
/-- Are there rates, too? -/
def ckOld (es : List Ent) : Bool := match es[0]? with | some x => decide (dayE x = 41317) && decide (x.2 = 10) | none => false
theorem ck_old {es : List Ent} {x : Ent} (h : es[0]? = some x) : ckOld es = (decide (dayE x = 41317) && decide (x.2 = 10)) := by unfold ckOld; rw [h]
/-- Is a label expired? -/
def ckOver (e d s : Int) : Bool := decide (e ≤ (d - 15020) * 86400 + s)
/-- Is a label told by the rates? -/
def ckR (es : List Ent) (d : Int) : Bool := ckOld es && decide (d < 41317)
def ckW (es : List Ent) (J K : Nat) (d s a : Int) : Int := if ckR es d = true then rE pubS 41317 10 J d s a else whyE es K d s a
def ckG (es : List Ent) (J K : Nat) (d s a : Int) : Int := if ckR es d = true then rT pubS 41317 10 J d s a else taiZ es K d s a
/-- What is told of a label: the error, and the instant. -/
def ckE (t : Tb) (lax : Bool) (J K : Nat) (d s a : Int) : Int := if ckW t.es J K d s a = 0 then (if (!lax && ckOver t.e d s) = true then 9 else 0) else ckW t.es J K d s a
def ckT (t : Tb) (lax : Bool) (J K : Nat) (d s a : Int) : Int := if ckE t lax J K d s a = 0 then ckG t.es J K d s a else 0
theorem ckE_bad {t : Tb} {lax : Bool} {J K : Nat} {d s a : Int} (h : ckW t.es J K d s a ≠ 0) : ckE t lax J K d s a = ckW t.es J K d s a := if_neg h
theorem ckE_ok {t : Tb} {lax : Bool} {J K : Nat} {d s a : Int} (h : ckW t.es J K d s a = 0) (k : (!lax && ckOver t.e d s) = false) : ckE t lax J K d s a = 0 := by unfold ckE; rw [if_pos h, k]; rfl
theorem ckE_out {t : Tb} {lax : Bool} {J K : Nat} {d s a : Int} (h : ckW t.es J K d s a = 0) (k : (!lax && ckOver t.e d s) = true) : ckE t lax J K d s a = 9 := by unfold ckE; rw [if_pos h, k]; rfl
theorem ckE_zero {t : Tb} {lax : Bool} {J K : Nat} {d s a : Int} (h : ckE t lax J K d s a = 0) : ckW t.es J K d s a = 0 ∧ (!lax && ckOver t.e d s) = false := by
 unfold ckE at h
 split at h
 ·rename_i h0
  split at h
  ·omega
  ·rename_i h1
   exact ⟨h0, by cases q : (!lax && ckOver t.e d s) with | true => exact absurd q h1 | false => rfl⟩
 ·rename_i h0; exact absurd h h0
theorem ckT_no {t : Tb} {lax : Bool} {J K : Nat} {d s a : Int} (h : ckE t lax J K d s a ≠ 0) : ckT t lax J K d s a = 0 := if_neg h
theorem ckT_ok {t : Tb} {lax : Bool} {J K : Nat} {d s a : Int} (h : ckE t lax J K d s a = 0) : ckT t lax J K d s a = ckG t.es J K d s a := if_pos h
theorem ckW_r {es : List Ent} {J K : Nat} {d s a : Int} (h : ckR es d = true) : ckW es J K d s a = rE pubS 41317 10 J d s a ∧ ckG es J K d s a = rT pubS 41317 10 J d s a := ⟨if_pos h, if_pos h⟩
theorem ckW_u {es : List Ent} {J K : Nat} {d s a : Int} (h : ckR es d = false) : ckW es J K d s a = whyE es K d s a ∧ ckG es J K d s a = taiZ es K d s a := ⟨if_neg (by rw [h]; decide), if_neg (by rw [h]; decide)⟩
/-! ### Instants -/
/-! ### Both ways -/
theorem cut_early {t : Tb} {d : Int} {K : Nat} (hcut : Cut (pDay d) t.es K) {x : Ent} (hx : t.es[0]? = some x) : K = 0 ↔ d < dayE x := by
 have h := hcut.2 0 x hx
 unfold pDay at h
 rw [decide_eq_decide] at h
 omega
end Go.Proofs.YthihioakjpmnbaaGreat

namespace Go.Proofs.YthihioakjpmnbaaGreat
open Go.RowKit
set_option maxRecDepth 100000

def unE (d s a : Int) : Int := if isU s a = true then (if inB d = true then 0 else 2) else 1
def unV (d s a : Int) : Int := if unE d s a = 0 then cnt d s a - cnt 40587 0 0 else 0
theorem un_bad {d s a : Int} (h : isU s a = false) : unE d s a = 1 ∧ unV d s a = 0 := by
 have e : unE d s a = 1 := by unfold unE; rw [h]; rfl
 exact ⟨e, if_neg (by rw [e]; decide)⟩
theorem un_far {d s a : Int} (h : isU s a = true) (k : inB d = false) : unE d s a = 2 ∧ unV d s a = 0 := by
 have e : unE d s a = 2 := by unfold unE; rw [if_pos h, k]; rfl
 exact ⟨e, if_neg (by rw [e]; decide)⟩
theorem un_ok {d s a : Int} (h : isU s a = true) (k : inB d = true) : unE d s a = 0 ∧ unV d s a = cnt d s a - cnt 40587 0 0 := by
 have e : unE d s a = 0 := by unfold unE; rw [if_pos h, if_pos k]
 exact ⟨e, if_pos e⟩
/-- The plain label's count. -/
def ulZ (z : Int) : Int := z + cnt 40587 0 0
/-- Is there the label of the day ahead; is there the plain one? -/
def ulP (t : Tb) (J K : Nat) (z : Int) : Bool := decide (secZ (ulZ z) = 0) && decide (ckE t true J K (dayZ (ulZ z) - 1) 86400 (attZ (ulZ z)) = 0)
def ulQ (t : Tb) (J K : Nat) (z : Int) : Bool := decide (ckE t true J K (dayZ (ulZ z)) (secZ (ulZ z)) (attZ (ulZ z)) = 0)
theorem ulP_iff {t : Tb} {J K : Nat} {z : Int} : ulP t J K z = true ↔ secZ (ulZ z) = 0 ∧ ckE t true J K (dayZ (ulZ z) - 1) 86400 (attZ (ulZ z)) = 0 := by
 unfold ulP; rw [Bool.and_eq_true, decide_eq_true_eq, decide_eq_true_eq]
theorem ulQ_iff {t : Tb} {J K : Nat} {z : Int} : ulQ t J K z = true ↔ ckE t true J K (dayZ (ulZ z)) (secZ (ulZ z)) (attZ (ulZ z)) = 0 := by
 unfold ulQ; exact decide_eq_true_iff
theorem ul_plain {d s a : Int} (h : isL s a = true) : dayZ (ulZ (cnt d s a - cnt 40587 0 0)) = d ∧ secZ (ulZ (cnt d s a - cnt 40587 0 0)) = s ∧ attZ (ulZ (cnt d s a - cnt 40587 0 0)) = a := by
 have e : ulZ (cnt d s a - cnt 40587 0 0) = cnt d s a := by unfold ulZ; omega
 rw [e]
 exact splitZ h
theorem ul_over {d a : Int} (h : 0 ≤ a ∧ a < 1000000000000000000) : dayZ (ulZ (cnt d 86400 a - cnt 40587 0 0)) = d + 1 ∧ secZ (ulZ (cnt d 86400 a - cnt 40587 0 0)) = 0 ∧ attZ (ulZ (cnt d 86400 a - cnt 40587 0 0)) = a := by
 have e : ulZ (cnt d 86400 a - cnt 40587 0 0) = cnt (d + 1) 0 a := by unfold ulZ cnt; omega
 rw [e]
 exact splitZ (isL_iff.2 ⟨by omega, by omega, h⟩)
/-- Days of rates lie ahead of the first entry's day. -/
theorem ck_late {t : Tb} {x : Ent} (hx : t.es[0]? = some x) {d : Int} (h : dayE x ≤ d) : ckR t.es d = false := by
 unfold ckR
 cases ho : ckOld t.es with
 | false => rfl
 | true =>
  rw [ck_old hx, Bool.and_eq_true, decide_eq_true_eq, decide_eq_true_eq] at ho
  rw [Bool.true_and]
  exact decide_eq_false (by omega)
theorem ck_why {t : Tb} {x : Ent} (hx : t.es[0]? = some x) {J K : Nat} {d s a : Int} (h : dayE x ≤ d) : ckE t true J K d s a = whyE t.es K d s a := by
 have hr := ck_late hx h
 have e := (ckW_u (J := J) (K := K) (s := s) (a := a) hr).1
 by_cases q : ckW t.es J K d s a = 0
 ·rw [ckE_ok q rfl, ← e, q]
 ·rw [ckE_bad q, e]
theorem cut_pos {t : Tb} {d : Int} {K : Nat} (hK : Cut (pDay d) t.es K) {x : Ent} (hx : t.es[0]? = some x) (h : dayE x ≤ d) : 0 < K := by
 have := cut_early hK hx
 omega
/-- When there are two labels, and when none: behind the first entry's day. -/
theorem ul_two {t : Tb} (hb : canBe t = true) {x : Ent} (hx : t.es[0]? = some x) {J K J' K' : Nat} {d s a : Int} (hB : inB d = true) (hl : isL s a = true) (hd : dayE x < d) (hK : Cut (pDay d) t.es K) (hK' : Cut (pDay (d - 1)) t.es K') :
  (ulP t J' K' (cnt d s a - cnt 40587 0 0) = true ↔ s = 0 ∧ moreA t.es K' (d - 1) = 1) ∧ (ulQ t J K (cnt d s a - cnt 40587 0 0) = false ↔ s = 86399 ∧ moreA t.es K d = -1) ∧ (ulQ t J K (cnt d s a - cnt 40587 0 0) = false → ckE t true J K d s a = 6) := by
 obtain ⟨p1, p2, p3⟩ := ul_plain (d := d) hl
 have hl' := isL_iff.1 hl
 have hB' := inB_iff.1 hB
 have hx1 := (can_in hb hx).2.2.1
 have m1 := more_one hb K d
 have m2 := more_one hb K' (d - 1)
 have k1 := cut_pos hK hx (by omega)
 have k2 := cut_pos hK' hx (show dayE x ≤ d - 1 by omega)
 have u1 : isU s a = true := isU_iff.2 ⟨by omega, by omega, by omega, by omega⟩
 have u2 : isU 86400 a = true := isU_iff.2 ⟨by omega, by omega, by omega, by omega⟩
 have e1 := ck_why (J := J) (K := K) (s := s) (a := a) hx (show dayE x ≤ d by omega)
 have e2 := ck_why (J := J') (K := K') (s := 86400) (a := a) hx (show dayE x ≤ d - 1 by omega)
 have q1 : whyE t.es K d s a = 0 ↔ s < 86400 + moreA t.es K d := ⟨fun h => (why_zero h).2.2.2, fun h => why_ok u1 hB k1 h⟩
 have q2 : whyE t.es K' (d - 1) 86400 a = 0 ↔ (86400 : Int) < 86400 + moreA t.es K' (d - 1) := ⟨fun h => (why_zero h).2.2.2, fun h => why_ok u2 (inB_iff.2 (by omega)) k2 h⟩
 refine ⟨?_, ?_, fun h => ?_⟩
 ·rw [ulP_iff, p1, p2, p3, e2, q2]
  omega
 ·rw [← Bool.not_eq_true, ulQ_iff, p1, p2, p3, e1, q1]
  omega
 ·rw [← Bool.not_eq_true, ulQ_iff, p1, p2, p3, e1, q1] at h
  rw [e1]
  exact why_none u1 hB k1 (by omega)
/-- Each label that there is is one of those of its Unix time, and that one's plain label is in range. -/
theorem ul_back {t : Tb} (hb : canBe t = true) {J K : Nat} {d s a : Int} (hJ : CutP (pSD d) pubS J) (hK : Cut (pDay d) t.es K) (h : ckE t true J K d s a = 0) :
  isU s a = true ∧ inB d = true ∧ (s < 86400 ∨ (s = 86400 ∧ inB (d + 1) = true)) := by
 have hw := (ckE_zero h).1
 cases hr : ckR t.es d with
 | true =>
  rw [(ckW_r (J := J) (K := K) (s := s) (a := a) hr).1] at hw
  have hU := (rE_zero hw).1
  have hU' := isU_iff.1 hU
  have hd := (rE_zero hw).2.2.1
  obtain ⟨y, hy, -, hlow, -⟩ := rE_facts pub_may15 hJ hw
  have hs := sgIn_iff.1 (may_at pub_may15 hy).1
  exact ⟨hU, inB_iff.2 (by omega), by rcases (by omega : s < 86400 ∨ s = 86400) with q | q; exact .inl q; exact .inr ⟨q, inB_iff.2 (by omega)⟩⟩
 | false =>
  rw [(ckW_u (J := J) (K := K) (s := s) (a := a) hr).1] at hw
  obtain ⟨hU, hB, hK0, hs⟩ := why_zero hw
  have hU' := isU_iff.1 hU
  have hB' := inB_iff.1 hB
  refine ⟨hU, hB, ?_⟩
  rcases (by omega : s < 86400 ∨ s = 86400) with q | q
  ·exact .inl q
  ·refine .inr ⟨q, inB_iff.2 ?_⟩
   have hm : moreA t.es K d ≠ 0 := by omega
   have hu : d = untilA t.es K - 1 := by
    unfold moreA at hm
    split at hm
    ·assumption
    ·exact absurd rfl hm
   have hc : chgA t.es K ≠ 0 := by
    unfold moreA at hm
    rw [if_pos hu] at hm
    exact hm
   obtain ⟨j, rfl⟩ : ∃ j, K = j + 1 := ⟨K - 1, by omega⟩
   unfold untilA untilE at hu
   unfold chgA chgE at hc
   cases hz : t.es[j + 1]? with
   | none => simp only [hz] at hc; exact absurd (by cases t.es[j]? <;> rfl) hc
   | some y =>
    have hy := (can_in hb hz).2.2.1
    simp only [hz] at hu
    omega
/-- What Labels and Find answer (e: the plain one's error). -/
def ulV : Bool → Bool → Int → Int → Int → Int → Value
 | true, true, D, S, A, _ => .tuple #[.agg #[.int .i64 (D - 1), .int .i64 86400, .int .i64 A], .agg #[.int .i64 D, .int .i64 S, .int .i64 A], .int .i64 2, .int .i64 0]
 | true, false, D, _, A, _ => .tuple #[.agg #[.int .i64 (D - 1), .int .i64 86400, .int .i64 A], .agg #[.int .i64 (D - 1), .int .i64 86400, .int .i64 A], .int .i64 1, .int .i64 0]
 | false, true, D, S, A, _ => .tuple #[.agg #[.int .i64 D, .int .i64 S, .int .i64 A], .agg #[.int .i64 D, .int .i64 S, .int .i64 A], .int .i64 1, .int .i64 0]
 | false, false, _, _, _, e => .tuple #[.agg #[.int .i64 0, .int .i64 0, .int .i64 0], .agg #[.int .i64 0, .int .i64 0, .int .i64 0], .int .i64 0, .int .i64 e]
def ufV : Bool → Bool → Int → Int → Int → Int → Int → Value
 | true, true, k, D, S, A, _ => if k = 1 then .tuple #[.agg #[.int .i64 (D - 1), .int .i64 86400, .int .i64 A], .int .i64 0] else if k = 2 then .tuple #[.agg #[.int .i64 D, .int .i64 S, .int .i64 A], .int .i64 0] else .tuple #[.agg #[.int .i64 0, .int .i64 0, .int .i64 0], .int .i64 7]
 | true, false, _, D, _, A, _ => .tuple #[.agg #[.int .i64 (D - 1), .int .i64 86400, .int .i64 A], .int .i64 0]
 | false, true, _, D, S, A, _ => .tuple #[.agg #[.int .i64 D, .int .i64 S, .int .i64 A], .int .i64 0]
 | false, false, _, _, _, _, e => .tuple #[.agg #[.int .i64 0, .int .i64 0, .int .i64 0], .int .i64 e]
theorem ulV_tt {D S A e : Int} : ulV true true D S A e = .tuple #[.agg #[.int .i64 (D - 1), .int .i64 86400, .int .i64 A], .agg #[.int .i64 D, .int .i64 S, .int .i64 A], .int .i64 2, .int .i64 0] := rfl
theorem ulV_tf {D S A e : Int} : ulV true false D S A e = .tuple #[.agg #[.int .i64 (D - 1), .int .i64 86400, .int .i64 A], .agg #[.int .i64 (D - 1), .int .i64 86400, .int .i64 A], .int .i64 1, .int .i64 0] := rfl
theorem ulV_ft {D S A e : Int} : ulV false true D S A e = .tuple #[.agg #[.int .i64 D, .int .i64 S, .int .i64 A], .agg #[.int .i64 D, .int .i64 S, .int .i64 A], .int .i64 1, .int .i64 0] := rfl
theorem ulV_ff {D S A e : Int} : ulV false false D S A e = .tuple #[.agg #[.int .i64 0, .int .i64 0, .int .i64 0], .agg #[.int .i64 0, .int .i64 0, .int .i64 0], .int .i64 0, .int .i64 e] := rfl
theorem ufV_tt {k D S A e : Int} : ufV true true k D S A e = if k = 1 then .tuple #[.agg #[.int .i64 (D - 1), .int .i64 86400, .int .i64 A], .int .i64 0] else if k = 2 then .tuple #[.agg #[.int .i64 D, .int .i64 S, .int .i64 A], .int .i64 0] else .tuple #[.agg #[.int .i64 0, .int .i64 0, .int .i64 0], .int .i64 7] := rfl
theorem ufV_tf {k D S A e : Int} : ufV true false k D S A e = .tuple #[.agg #[.int .i64 (D - 1), .int .i64 86400, .int .i64 A], .int .i64 0] := rfl
theorem ufV_ft {k D S A e : Int} : ufV false true k D S A e = .tuple #[.agg #[.int .i64 D, .int .i64 S, .int .i64 A], .int .i64 0] := rfl
theorem ufV_ff {k D S A e : Int} : ufV false false k D S A e = .tuple #[.agg #[.int .i64 0, .int .i64 0, .int .i64 0], .int .i64 e] := rfl
end Go.Proofs.YthihioakjpmnbaaGreat
