/-
 A clock in plain numbers: whether it is old, what is told of a label (ckE, ckT) and of an instant (ckF, ckX, ckY, ckZ), and that each comes again out of the other one. Of tables that may be.
-/
import Derived.Test.YtdpodbfamgafiaaGreatUtA
import Derived.Test.YtdpodbfamgafiaaGreatSegS
namespace Go.Proofs.YtdpodbfamgafiaaGreat
open Go.RowKit
set_option maxRecDepth 100000

theorem pub_may15 : mayS pubS 41317 10 = true := by decide +kernel
/-- Are there rates, too? -/
def ckOld (es : List Ent) : Bool := match es[0]? with | some x => decide (dayE x = 41317) && decide (x.2 = 10) | none => false
theorem ck_old {es : List Ent} {x : Ent} (h : es[0]? = some x) : ckOld es = (decide (dayE x = 41317) && decide (x.2 = 10)) := by unfold ckOld; rw [h]
/-- Is a label expired? -/
def ckOver (e d s : Int) : Bool := decide (e ≤ (d - 15020) * 86400 + s)
/-- Is a label told by the rates? -/
def ckR (es : List Ent) (d : Int) : Bool := ckOld es && decide (d < 41317)
def ckW (es : List Ent) (J K : Nat) (d s a : Int) : Int := if ckR es d = true then rE pubS 41317 10 J d s a else whyE es K d s a
def ckG (es : List Ent) (J K : Nat) (d s a : Int) : Int := if ckR es d = true then rT pubS 41317 10 J d s a else taiZ es K d s a
/-- What is told of a label: the error, and the instant. -/
def ckE (t : Tb) (lax : Bool) (J K : Nat) (d s a : Int) : Int := if ckW t.es J K d s a = 0 then (if (!lax && ckOver t.e d s) = true then 9 else 0) else ckW t.es J K d s a
def ckT (t : Tb) (lax : Bool) (J K : Nat) (d s a : Int) : Int := if ckE t lax J K d s a = 0 then ckG t.es J K d s a else 0
theorem ckE_bad {t : Tb} {lax : Bool} {J K : Nat} {d s a : Int} (h : ckW t.es J K d s a ≠ 0) : ckE t lax J K d s a = ckW t.es J K d s a := if_neg h
theorem ckE_ok {t : Tb} {lax : Bool} {J K : Nat} {d s a : Int} (h : ckW t.es J K d s a = 0) (k : (!lax && ckOver t.e d s) = false) : ckE t lax J K d s a = 0 := by unfold ckE; rw [if_pos h, k]; rfl
theorem ckE_out {t : Tb} {lax : Bool} {J K : Nat} {d s a : Int} (h : ckW t.es J K d s a = 0) (k : (!lax && ckOver t.e d s) = true) : ckE t lax J K d s a = 9 := by unfold ckE; rw [if_pos h, k]; rfl
theorem ckE_zero {t : Tb} {lax : Bool} {J K : Nat} {d s a : Int} (h : ckE t lax J K d s a = 0) : ckW t.es J K d s a = 0 ∧ (!lax && ckOver t.e d s) = false := by
 unfold ckE at h
 split at h
 ·rename_i h0
  split at h
  ·omega
  ·rename_i h1
   exact ⟨h0, by cases q : (!lax && ckOver t.e d s) with | true => exact absurd q h1 | false => rfl⟩
 ·rename_i h0; exact absurd h h0
theorem ckT_no {t : Tb} {lax : Bool} {J K : Nat} {d s a : Int} (h : ckE t lax J K d s a ≠ 0) : ckT t lax J K d s a = 0 := if_neg h
theorem ckT_ok {t : Tb} {lax : Bool} {J K : Nat} {d s a : Int} (h : ckE t lax J K d s a = 0) : ckT t lax J K d s a = ckG t.es J K d s a := if_pos h
theorem ckW_r {es : List Ent} {J K : Nat} {d s a : Int} (h : ckR es d = true) : ckW es J K d s a = rE pubS 41317 10 J d s a ∧ ckG es J K d s a = rT pubS 41317 10 J d s a := ⟨if_pos h, if_pos h⟩
theorem ckW_u {es : List Ent} {J K : Nat} {d s a : Int} (h : ckR es d = false) : ckW es J K d s a = whyE es K d s a ∧ ckG es J K d s a = taiZ es K d s a := ⟨if_neg (by rw [h]; decide), if_neg (by rw [h]; decide)⟩
/-! ### Instants -/
/-- Is an instant told by the rates? -/
def ckI (es : List Ent) (K : Nat) : Bool := ckOld es && decide (K = 0)
def ckV (es : List Ent) (J K : Nat) (z : Int) : Int := if ckI es K = true then lE pubS 41317 10 J z else lbE es K z
/-- The label's Day, Sec and Atto, whatever is told. -/
def ckD (es : List Ent) (J K : Nat) (z : Int) : Int := if ckI es K = true then lD pubS 41317 J z else lbD es K z
def ckS (es : List Ent) (J K : Nat) (z : Int) : Int := if ckI es K = true then lS pubS 41317 J z else lbS es K z
def ckA (es : List Ent) (J K : Nat) (z : Int) : Int := if ckI es K = true then attZ (gZ (sgA pubS J) z) else z % 1000000000000000000
/-- What is told of an instant: the error, and the label. -/
def ckF (t : Tb) (lax : Bool) (J K : Nat) (z : Int) : Int := if ckV t.es J K z = 0 then (if (!lax && ckOver t.e (ckD t.es J K z) (ckS t.es J K z)) = true then 9 else 0) else ckV t.es J K z
def ckU (t : Tb) (lax : Bool) (J K : Nat) (z : Int) : Value := if ckF t lax J K z = 0 then .agg #[.int .i64 (ckD t.es J K z), .int .i64 (ckS t.es J K z), .int .i64 (ckA t.es J K z)] else .agg #[.int .i64 0, .int .i64 0, .int .i64 0]
theorem ckF_bad {t : Tb} {lax : Bool} {J K : Nat} {z : Int} (h : ckV t.es J K z ≠ 0) : ckF t lax J K z = ckV t.es J K z ∧ ckU t lax J K z = .agg #[.int .i64 0, .int .i64 0, .int .i64 0] := by
 have e : ckF t lax J K z = ckV t.es J K z := if_neg h
 exact ⟨e, if_neg (by rw [e]; exact h)⟩
theorem ckF_out {t : Tb} {lax : Bool} {J K : Nat} {z : Int} (h : ckV t.es J K z = 0) (k : (!lax && ckOver t.e (ckD t.es J K z) (ckS t.es J K z)) = true) : ckF t lax J K z = 9 ∧ ckU t lax J K z = .agg #[.int .i64 0, .int .i64 0, .int .i64 0] := by
 have e : ckF t lax J K z = 9 := by unfold ckF; rw [if_pos h, k]; rfl
 exact ⟨e, if_neg (by rw [e]; decide)⟩
theorem ckF_ok {t : Tb} {lax : Bool} {J K : Nat} {z : Int} (h : ckV t.es J K z = 0) (k : (!lax && ckOver t.e (ckD t.es J K z) (ckS t.es J K z)) = false) : ckF t lax J K z = 0 ∧ ckU t lax J K z = .agg #[.int .i64 (ckD t.es J K z), .int .i64 (ckS t.es J K z), .int .i64 (ckA t.es J K z)] := by
 have e : ckF t lax J K z = 0 := by unfold ckF; rw [if_pos h, k]; rfl
 exact ⟨e, if_pos e⟩
theorem ckF_zero {t : Tb} {lax : Bool} {J K : Nat} {z : Int} (h : ckF t lax J K z = 0) : ckV t.es J K z = 0 ∧ (!lax && ckOver t.e (ckD t.es J K z) (ckS t.es J K z)) = false := by
 unfold ckF at h
 split at h
 ·rename_i h0
  split at h
  ·omega
  ·rename_i h1
   exact ⟨h0, by cases q : (!lax && ckOver t.e (ckD t.es J K z) (ckS t.es J K z)) with | true => exact absurd q h1 | false => rfl⟩
 ·rename_i h0; exact absurd h h0
theorem ckV_r {es : List Ent} {J K : Nat} {z : Int} (h : ckI es K = true) : ckV es J K z = lE pubS 41317 10 J z ∧ ckD es J K z = lD pubS 41317 J z ∧ ckS es J K z = lS pubS 41317 J z ∧ ckA es J K z = attZ (gZ (sgA pubS J) z) := ⟨if_pos h, if_pos h, if_pos h, if_pos h⟩
theorem ckV_u {es : List Ent} {J K : Nat} {z : Int} (h : ckI es K = false) : ckV es J K z = lbE es K z ∧ ckD es J K z = lbD es K z ∧ ckS es J K z = lbS es K z ∧ ckA es J K z = z % 1000000000000000000 := ⟨if_neg (by rw [h]; decide), if_neg (by rw [h]; decide), if_neg (by rw [h]; decide), if_neg (by rw [h]; decide)⟩
/-! ### Both ways -/
theorem pub_rE {J : Nat} {d s a : Int} (hJ : CutP (pSD d) pubS J) (h : rE pubS 41317 10 J d s a = 0) : rT pubS 41317 10 J d s a < cnt 41317 10 0 := by
 obtain ⟨x, hx, hA, h1, h2, h3, h4⟩ := rE_facts pub_may15 hJ h
 rw [rT_ok h, hA]
 have hl := (List.getElem?_eq_some_iff.1 hx).1
 rcases (by omega : pubS.length = J - 1 + 1 ∨ J - 1 + 1 < pubS.length) with q | q
 ·rw [end_none (by omega)] at h4; exact h4
 ·obtain ⟨e, he⟩ : ∃ e, pubS[pubS.length - 1]? = some e := ⟨_, List.getElem?_eq_getElem (by rw [pub_len]; decide)⟩
  have k1 := (may_less pub_may15 (show J - 1 < pubS.length - 1 by omega) hx he).2.2.1
  have k2 := (may_at pub_may15 he).2.2.2.2.2
  rw [end_none (by omega)] at k2
  omega
theorem cut_none {t : Tb} {s : Int} {K : Nat} (hcut : Cut (pAt s) t.es K) {x : Ent} (hx : t.es[0]? = some x) : K = 0 ↔ s < startE x := by
 have h := hcut.2 0 x hx
 unfold pAt at h
 rw [decide_eq_decide] at h
 omega
theorem cut_early {t : Tb} {d : Int} {K : Nat} (hcut : Cut (pDay d) t.es K) {x : Ent} (hx : t.es[0]? = some x) : K = 0 ↔ d < dayE x := by
 have h := hcut.2 0 x hx
 unfold pDay at h
 rw [decide_eq_decide] at h
 omega
/-- A label that there is comes again out of its instant. -/
theorem ck_again {t : Tb} (hb : canBe t = true) {x : Ent} (hx : t.es[0]? = some x) {J K : Nat} {d s a : Int} (hJ : CutP (pSD d) pubS J) (hK : Cut (pDay d) t.es K) (he : ckE t true J K d s a = 0) : ∃ J' K', CutP (pSB (ckT t true J K d s a)) pubS J' ∧ Cut (pAt (ckT t true J K d s a / 1000000000000000000)) t.es K' ∧ ckF t true J' K' (ckT t true J K d s a) = 0 ∧ ckU t true J' K' (ckT t true J K d s a) = .agg #[.int .i64 d, .int .i64 s, .int .i64 a] := by
 have hw := (ckE_zero he).1
 rw [ckT_ok he]
 cases hr : ckR t.es d with
 | true =>
  obtain ⟨e1, e2⟩ := ckW_r (J := J) (K := K) (s := s) (a := a) hr
  rw [e1] at hw
  rw [e2]
  obtain ⟨k1, k2, k3⟩ := rub_again pub_may15 hJ hw
  have hlt := pub_rE hJ hw
  obtain ⟨K', hK'⟩ := cut_at hb (rT pubS 41317 10 J d s a / 1000000000000000000)
  have ho : ckOld t.es = true := by
   unfold ckR at hr
   exact (Bool.and_eq_true_iff.1 hr).1
  have hz : K' = 0 := (cut_none hK' hx).2 (by
   rw [ck_old hx, Bool.and_eq_true, decide_eq_true_eq, decide_eq_true_eq] at ho
   have : startE x = dayE x * 86400 + x.2 := rfl
   rw [this, ho.1, ho.2]
   unfold cnt at hlt
   omega)
  have hi : ckI t.es K' = true := by unfold ckI; rw [ho, hz]; rfl
  obtain ⟨v1, v2, v3, v4⟩ := ckV_r (J := J) (z := rT pubS 41317 10 J d s a) hi
  obtain ⟨f1, f2⟩ := ckF_ok (t := t) (lax := true) (J := J) (K := K') (z := rT pubS 41317 10 J d s a) (by rw [v1, k2]) rfl
  refine ⟨J, K', k1, hK', f1, ?_⟩
  rw [f2, v2, v3, v4, ← k3]
  exact ((lE_ok (lE_zero k2).1 (lE_zero k2).2).2).symm
 | false =>
  obtain ⟨e1, e2⟩ := ckW_u (J := J) (K := K) (s := s) (a := a) hr
  rw [e1] at hw
  rw [e2]
  have hcz := cut_of_tai hb hK hw
  obtain ⟨l1, l2⟩ := lab_again hb hK hw
  have hK0 := (why_zero hw).2.2.1
  have hi : ckI t.es K = false := by unfold ckI; rw [decide_eq_false (by omega), Bool.and_false]
  obtain ⟨J', hJ'⟩ := cutS_at pub_may15 (taiZ t.es K d s a)
  obtain ⟨v1, v2, v3, v4⟩ := ckV_u (J := J') (z := taiZ t.es K d s a) hi
  obtain ⟨f1, f2⟩ := ckF_ok (t := t) (lax := true) (J := J') (K := K) (z := taiZ t.es K d s a) (by rw [v1, l1]) rfl
  refine ⟨J', K, hJ', hcz, f1, ?_⟩
  rw [f2, v2, v3, v4, ← l2]
  exact (lb_val l1).symm
/-- The label of an instant has an instant: that one, or, told by the rates, the one ahead of it. -/
theorem ck_tai {t : Tb} (hb : canBe t = true) {x : Ent} (hx : t.es[0]? = some x) {J K : Nat} {z : Int} (hJ : CutP (pSB z) pubS J) (hK : Cut (pAt (z / 1000000000000000000)) t.es K) (he : ckF t true J K z = 0) : ∃ J' K', CutP (pSD (ckD t.es J K z)) pubS J' ∧ Cut (pDay (ckD t.es J K z)) t.es K' ∧ ckE t true J' K' (ckD t.es J K z) (ckS t.es J K z) (ckA t.es J K z) = 0 ∧ (z - ckT t true J' K' (ckD t.es J K z) (ckS t.es J K z) (ckA t.es J K z) = 0 ∨ (ckOld t.es = true ∧ ckD t.es J K z < 41317 ∧ z - ckT t true J' K' (ckD t.es J K z) (ckS t.es J K z) (ckA t.es J K z) = 1)) := by
 have hv := (ckF_zero he).1
 cases hi : ckI t.es K with
 | true =>
  obtain ⟨v1, v2, v3, v4⟩ := ckV_r (J := J) (z := z) hi
  rw [v1] at hv
  rw [v2, v3, v4]
  obtain ⟨k1, k2, k3⟩ := lab_tai pub_may15 hJ hv
  obtain ⟨K', hK'⟩ := cut_day hb (lD pubS 41317 J z)
  have ho : ckOld t.es = true := by
   unfold ckI at hi
   exact (Bool.and_eq_true_iff.1 hi).1
  have hd : lD pubS 41317 J z < 41317 := (rE_zero k2).2.2.1
  have hr : ckR t.es (lD pubS 41317 J z) = true := by unfold ckR; rw [ho, decide_eq_true hd]; rfl
  obtain ⟨e1, e2⟩ := ckW_r (J := J) (K := K') (s := lS pubS 41317 J z) (a := attZ (gZ (sgA pubS J) z)) hr
  have f1 := ckE_ok (t := t) (lax := true) (J := J) (K := K') (d := lD pubS 41317 J z) (s := lS pubS 41317 J z) (a := attZ (gZ (sgA pubS J) z)) (by rw [e1, k2]) rfl
  refine ⟨J, K', k1, hK', f1, ?_⟩
  rw [ckT_ok f1, e2]
  rcases k3 with q | q
  ·exact .inl q
  ·exact .inr ⟨ho, hd, q⟩
 | false =>
  obtain ⟨v1, v2, v3, v4⟩ := ckV_u (J := J) (z := z) hi
  rw [v1] at hv
  rw [v2, v3, v4]
  obtain ⟨k1, k2, k3⟩ := tai_again hb hK hv
  obtain ⟨J', hJ'⟩ := cutS_day pub_may15 (lbD t.es K z)
  have hK0 := (lb_zero hv).1
  have hr : ckR t.es (lbD t.es K z) = false := by
   unfold ckR
   cases ho : ckOld t.es with
   | false => rfl
   | true =>
    rw [ck_old hx, Bool.and_eq_true, decide_eq_true_eq, decide_eq_true_eq] at ho
    have := (cut_early k1 hx)
    rw [Bool.true_and]
    exact decide_eq_false (by omega)
  obtain ⟨e1, e2⟩ := ckW_u (J := J') (K := K) (s := lbS t.es K z) (a := z % 1000000000000000000) hr
  have f1 := ckE_ok (t := t) (lax := true) (J := J') (K := K) (d := lbD t.es K z) (s := lbS t.es K z) (a := z % 1000000000000000000) (by rw [e1, k2]) rfl
  refine ⟨J', K, hJ', k1, f1, .inl ?_⟩
  rw [ckT_ok f1, e2, k3]
  omega
end Go.Proofs.YtdpodbfamgafiaaGreat
