/-
 Labels of UTC in plain numbers: which may be (isU), what is wrong with one (whyE), the instant of one (taiZ); the label of an instant (lbD, lbS) and what is wrong with that (lbE). Each comes again out of the other one. No conditions but that the table may be.
-/
import Derived.Test.YtdpodbfamgafiaaGreatDayA
import Derived.Test.YtdpodbfamgafiaaGreatLpE
namespace Go.Proofs.YtdpodbfamgafiaaGreat
open Go.RowKit
set_option maxRecDepth 100000

def whyE (es : List Ent) (K : Nat) (d s a : Int) : Int := if isU s a = true then (if inB d = true then (if K = 0 then 8 else if 86400 + moreA es K d ≤ s then 6 else 0) else 2) else 1
def taiZ (es : List Ent) (K : Nat) (d s a : Int) : Int := if whyE es K d s a = 0 then cnt d (s + offA es K) a else 0
theorem why_bad {es : List Ent} {K : Nat} {d s a : Int} (h : isU s a = false) : whyE es K d s a = 1 := by unfold whyE; rw [h]; rfl
theorem why_far {es : List Ent} {K : Nat} {d s a : Int} (h : isU s a = true) (k : inB d = false) : whyE es K d s a = 2 := by unfold whyE; rw [h, k]; rfl
theorem why_early {es : List Ent} {K : Nat} {d s a : Int} (h : isU s a = true) (k : inB d = true) (q : K = 0) : whyE es K d s a = 8 := by unfold whyE; rw [if_pos h, if_pos k, if_pos q]
theorem why_none {es : List Ent} {K : Nat} {d s a : Int} (h : isU s a = true) (k : inB d = true) (q : 0 < K) (g : 86400 + moreA es K d ≤ s) : whyE es K d s a = 6 := by unfold whyE; rw [if_pos h, if_pos k, if_neg (by omega), if_pos g]
theorem why_ok {es : List Ent} {K : Nat} {d s a : Int} (h : isU s a = true) (k : inB d = true) (q : 0 < K) (g : s < 86400 + moreA es K d) : whyE es K d s a = 0 := by unfold whyE; rw [if_pos h, if_pos k, if_neg (by omega), if_neg (by omega)]
theorem why_zero {es : List Ent} {K : Nat} {d s a : Int} (h : whyE es K d s a = 0) : isU s a = true ∧ inB d = true ∧ 0 < K ∧ s < 86400 + moreA es K d := by
 unfold whyE at h
 split at h
 ·split at h
  ·split at h
   ·omega
   ·split at h
    ·omega
    ·exact ⟨by assumption, by assumption, by omega, by omega⟩
  ·omega
 ·omega
theorem tai_no {es : List Ent} {K : Nat} {d s a : Int} (h : whyE es K d s a ≠ 0) : taiZ es K d s a = 0 := if_neg h
theorem tai_ok {es : List Ent} {K : Nat} {d s a : Int} (h : whyE es K d s a = 0) : taiZ es K d s a = cnt d (s + offA es K) a := if_pos h

/-! ### The label of an instant -/
def lbD (es : List Ent) (K : Nat) (z : Int) : Int := if (z / 1000000000000000000 - offA es K) / 86400 = untilA es K then (z / 1000000000000000000 - offA es K) / 86400 - 1 else (z / 1000000000000000000 - offA es K) / 86400
def lbS (es : List Ent) (K : Nat) (z : Int) : Int := if (z / 1000000000000000000 - offA es K) / 86400 = untilA es K then (z / 1000000000000000000 - offA es K) % 86400 + 86400 else (z / 1000000000000000000 - offA es K) % 86400
def lbE (es : List Ent) (K : Nat) (z : Int) : Int := if K = 0 then 8 else if 1099511627776 < lbD es K z then 2 else 0
def lbV (es : List Ent) (K : Nat) (z x : Int) : Int := if lbE es K z = 0 then x else 0
/-- The label, or zeros, as a value. -/
def lbU (es : List Ent) (K : Nat) (z : Int) : Value := .agg #[.int .i64 (lbV es K z (lbD es K z)), .int .i64 (lbV es K z (lbS es K z)), .int .i64 (lbV es K z (z % 1000000000000000000))]
theorem lb_early (es : List Ent) (z : Int) : lbE es 0 z = 8 ∧ lbU es 0 z = .agg #[.int .i64 0, .int .i64 0, .int .i64 0] := by
 have h : lbE es 0 z = 8 := rfl
 refine ⟨h, ?_⟩
 unfold lbU lbV
 rw [h]
 rfl
theorem lb_over {es : List Ent} {K : Nat} {z : Int} (hK : 0 < K) (h : 1099511627776 < lbD es K z) : lbE es K z = 2 ∧ lbU es K z = .agg #[.int .i64 0, .int .i64 0, .int .i64 0] := by
 have e : lbE es K z = 2 := by unfold lbE; rw [if_neg (by omega), if_pos h]
 refine ⟨e, ?_⟩
 unfold lbU lbV
 rw [e]
 rfl
theorem lb_ok {es : List Ent} {K : Nat} {z : Int} (hK : 0 < K) (h : ¬ 1099511627776 < lbD es K z) : lbE es K z = 0 ∧ lbU es K z = .agg #[.int .i64 (lbD es K z), .int .i64 (lbS es K z), .int .i64 (z % 1000000000000000000)] := by
 have e : lbE es K z = 0 := by unfold lbE; rw [if_neg (by omega), if_neg h]
 refine ⟨e, ?_⟩
 unfold lbU lbV
 rw [e]
 rfl
theorem lb_zero {es : List Ent} {K : Nat} {z : Int} (h : lbE es K z = 0) : 0 < K ∧ lbD es K z ≤ 1099511627776 := by
 unfold lbE at h
 split at h
 ·omega
 ·split at h <;> omega
theorem lb_hit {es : List Ent} {K : Nat} {z : Int} (h : (z / 1000000000000000000 - offA es K) / 86400 = untilA es K) : lbD es K z = (z / 1000000000000000000 - offA es K) / 86400 - 1 ∧ lbS es K z = (z / 1000000000000000000 - offA es K) % 86400 + 86400 := ⟨if_pos h, if_pos h⟩
theorem lb_miss {es : List Ent} {K : Nat} {z : Int} (h : ¬ (z / 1000000000000000000 - offA es K) / 86400 = untilA es K) : lbD es K z = (z / 1000000000000000000 - offA es K) / 86400 ∧ lbS es K z = (z / 1000000000000000000 - offA es K) % 86400 := ⟨if_neg h, if_neg h⟩
theorem lb_least (es : List Ent) (K : Nat) (z : Int) : (z / 1000000000000000000 - offA es K) / 86400 - 1 ≤ lbD es K z := by unfold lbD; split <;> omega
theorem until_some {es : List Ent} {j : Nat} {y : Ent} (hy : es[j + 1]? = some y) : untilA es (j + 1) = dayE y := by simp only [untilA, untilE, hy]
theorem until_none {es : List Ent} {j : Nat} (hy : es[j + 1]? = none) : untilA es (j + 1) = 4611686018427387904 := by simp only [untilA, untilE, hy]
theorem chg_some {es : List Ent} {j : Nat} {x y : Ent} (hx : es[j]? = some x) (hy : es[j + 1]? = some y) : chgA es (j + 1) = y.2 - x.2 := by simp only [chgA, chgE, hx, hy]
theorem chg_none {es : List Ent} {j : Nat} (hy : es[j + 1]? = none) : chgA es (j + 1) = 0 := by simp only [chgA, chgE, hy]
theorem until_in {t : Tb} (hb : canBe t = true) (K : Nat) : untilA t.es K ≤ 13031265020 ∨ untilA t.es K = 4611686018427387904 := by
 cases K with
 | zero => simp [untilA]
 | succ j =>
  cases hy : t.es[j + 1]? with
  | none => exact .inr (until_none hy)
  | some y => rw [until_some hy]; exact .inl (can_in hb hy).2.2.1.2

/-! ### Seconds that an int tells -/
def clampI (q : Int) : Int := if q < -9223372036854775808 then -9223372036854775808 else if 9223372036854775807 < q then 9223372036854775807 else q
theorem clamp_in (q : Int) : -9223372036854775808 ≤ clampI q ∧ clampI q ≤ 9223372036854775807 := by unfold clampI; split <;> (try split) <;> omega
theorem clamp_is (q : Int) : clampI q = q ∨ (clampI q = 9223372036854775807 ∧ 9223372036854775807 < q) ∨ (clampI q = -9223372036854775808 ∧ q < -9223372036854775808) := by unfold clampI; split <;> (try split) <;> omega
theorem clamp_yes {q : Int} (h : inI q = true) : clampI q = q := by have := inI_iff.1 h; unfold clampI; rw [if_neg (by omega), if_neg (by omega)]
theorem clamp_low {q : Int} (h : inI q = false) (k : q < 0) : clampI q = -9223372036854775808 := by have := inI_no.1 h; unfold clampI; rw [if_pos (by omega)]
theorem clamp_high {q : Int} (h : inI q = false) (k : 0 ≤ q) : clampI q = 9223372036854775807 := by have := inI_no.1 h; unfold clampI; rw [if_neg (by omega), if_pos (by omega)]
theorem cut_clamp {t : Tb} (hb : canBe t = true) {q : Int} {K : Nat} (h : Cut (pAt q) t.es K) : Cut (pAt (clampI q)) t.es K :=
 ⟨h.1, fun j e he => by
  rw [← h.2 j e he]
  have h1 := can_in hb he
  have h2 := clamp_is q
  unfold pAt
  rw [decide_eq_decide]
  omega⟩
/-- What holds of the entry that holds on a day: it is the one that holds at each second that the day has. -/
theorem cut_tai {t : Tb} (hb : canBe t = true) {K : Nat} {d s a : Int} (hcut : Cut (pDay d) t.es K) (h : whyE t.es K d s a = 0) : cnt d (s + offA t.es K) a / 1000000000000000000 = d * 86400 + s + offA t.es K ∧ cnt d (s + offA t.es K) a % 1000000000000000000 = a ∧ Cut (pAt (d * 86400 + s + offA t.es K)) t.es K := by
 obtain ⟨hU, hB, hK, hs⟩ := why_zero h
 have hU' := isU_iff.1 hU
 refine ⟨by unfold cnt; omega, by unfold cnt; omega, hcut.1, fun i e he => ?_⟩
 have hd := hcut.2 i e he
 obtain ⟨j, rfl⟩ : ∃ j, K = j + 1 := ⟨K - 1, by omega⟩
 have hjn : j < t.es.length := by have := hcut.1; omega
 obtain ⟨x, hx⟩ : ∃ x, t.es[j]? = some x := ⟨_, List.getElem?_eq_getElem hjn⟩
 have hdx := hcut.2 j x hx
 have ho := (A_at hx).2.2
 unfold pDay at hd hdx
 rw [decide_eq_decide] at hd hdx
 unfold pAt
 rw [decide_eq_decide, ho]
 have hx' : startE x = dayE x * 86400 + x.2 := rfl
 have he' : startE e = dayE e * 86400 + e.2 := rfl
 rcases (by omega : i < j ∨ i = j ∨ j < i) with q | q | q
 ·have := (can_less hb q he hx).2
  omega
 ·subst q
  rw [hx] at he; cases he
  omega
 ·-- an entry behind it: the next one, or one behind that
  have hl := (List.getElem?_eq_some_iff.1 he).1
  obtain ⟨y, hy⟩ : ∃ y, t.es[j + 1]? = some y := ⟨_, List.getElem?_eq_getElem (by omega)⟩
  have hdy := hcut.2 (j + 1) y hy
  unfold pDay at hdy
  rw [decide_eq_decide] at hdy
  have hn := can_next hb hx hy
  have hy' : startE y = dayE y * 86400 + y.2 := rfl
  have hye : startE y ≤ startE e := by
   rcases (by omega : i = j + 1 ∨ j + 1 < i) with g | g
   ·subst g; rw [hy] at he; cases he; omega
   ·have := (can_less hb g hy he).2; omega
  have hm : moreA t.es (j + 1) d = if d = dayE y - 1 then y.2 - x.2 else 0 := by
   unfold moreA untilA untilE chgA chgE
   simp only [hx, hy]
  rw [hm] at hs
  split at hs <;> omega
theorem cut_of_tai {t : Tb} (hb : canBe t = true) {K : Nat} {d s a : Int} (hcut : Cut (pDay d) t.es K) (h : whyE t.es K d s a = 0) : Cut (pAt (taiZ t.es K d s a / 1000000000000000000)) t.es K := by
 obtain ⟨h1, _, h3⟩ := cut_tai hb hcut h
 rw [tai_ok h, h1]
 exact h3
theorem lb_val {es : List Ent} {K : Nat} {z : Int} (h : lbE es K z = 0) : lbU es K z = .agg #[.int .i64 (lbD es K z), .int .i64 (lbS es K z), .int .i64 (z % 1000000000000000000)] := (lb_ok (lb_zero h).1 (by have := (lb_zero h).2; omega)).2
/-- A label that there is comes again out of its instant. -/
theorem lab_again {t : Tb} (hb : canBe t = true) {K : Nat} {d s a : Int} (hcut : Cut (pDay d) t.es K) (h : whyE t.es K d s a = 0) : lbE t.es K (taiZ t.es K d s a) = 0 ∧ lbU t.es K (taiZ t.es K d s a) = .agg #[.int .i64 d, .int .i64 s, .int .i64 a] := by
 obtain ⟨h1, h2, h3⟩ := cut_tai hb hcut h
 obtain ⟨hU, hB, hK, hs⟩ := why_zero h
 have hU' := isU_iff.1 hU
 have hB' := inB_iff.1 hB
 rw [tai_ok h]
 generalize cnt d (s + offA t.es K) a = z at h1 h2
 have hu := until_in hb K
 have key : lbD t.es K z = d ∧ lbS t.es K z = s := by
  by_cases q : s = 86400
  ·have hm : 0 < moreA t.es K d := by omega
   have hd : d = untilA t.es K - 1 := by
    unfold moreA at hm
    split at hm
    ·assumption
    ·omega
   obtain ⟨e1, e2⟩ := lb_hit (es := t.es) (K := K) (z := z) (by omega)
   rw [e1, e2]
   omega
  ·have hdu : d < untilA t.es K := by
    obtain ⟨j, rfl⟩ : ∃ j, K = j + 1 := ⟨K - 1, by omega⟩
    cases hy : t.es[j + 1]? with
    | none => rw [until_none hy]; omega
    | some y =>
     have := hcut.2 (j + 1) y hy
     unfold pDay at this
     rw [decide_eq_decide] at this
     rw [until_some hy]
     omega
   obtain ⟨e1, e2⟩ := lb_miss (es := t.es) (K := K) (z := z) (by omega)
   rw [e1, e2]
   omega
 obtain ⟨k1, k2⟩ := lb_ok (es := t.es) (z := z) hK (by rw [key.1]; omega)
 rw [k2, key.1, key.2, h2]
 exact ⟨k1, rfl⟩
/-- An instant that has a label comes again out of it. -/
theorem tai_again {t : Tb} (hb : canBe t = true) {K : Nat} {z : Int} (hcut : Cut (pAt (z / 1000000000000000000)) t.es K) (h : lbE t.es K z = 0) : Cut (pDay (lbD t.es K z)) t.es K ∧ whyE t.es K (lbD t.es K z) (lbS t.es K z) (z % 1000000000000000000) = 0 ∧ taiZ t.es K (lbD t.es K z) (lbS t.es K z) (z % 1000000000000000000) = z := by
 obtain ⟨hK, hD⟩ := lb_zero h
 obtain ⟨j, rfl⟩ : ∃ j, K = j + 1 := ⟨K - 1, by omega⟩
 have hjn : j < t.es.length := by have := hcut.1; omega
 obtain ⟨x, hx⟩ : ∃ x, t.es[j]? = some x := ⟨_, List.getElem?_eq_getElem hjn⟩
 have hdx := hcut.2 j x hx
 have ho := (A_at hx).2.2
 have hxi := can_in hb hx
 have hx' : startE x = dayE x * 86400 + x.2 := rfl
 unfold pAt at hdx
 rw [decide_eq_decide] at hdx
 obtain ⟨q, hq⟩ : ∃ q, z / 1000000000000000000 = q := ⟨_, rfl⟩
 obtain ⟨a, ha⟩ : ∃ a, z % 1000000000000000000 = a := ⟨_, rfl⟩
 have hz : z = q * 1000000000000000000 + a ∧ 0 ≤ a ∧ a < 1000000000000000000 := by omega
 have hlow : dayE x * 86400 + x.2 ≤ q := by omega
 -- the next entry, if there is one
 have hnx : ∀ y, t.es[j + 1]? = some y → q < dayE y * 86400 + y.2 ∧ (y.2 = x.2 + 1 ∨ y.2 = x.2 - 1) ∧ dayE x < dayE y ∧ untilA t.es (j + 1) = dayE y ∧ chgA t.es (j + 1) = y.2 - x.2 := fun y hy => by
  have hdy := hcut.2 (j + 1) y hy
  unfold pAt at hdy
  rw [decide_eq_decide] at hdy
  have hy' : startE y = dayE y * 86400 + y.2 := rfl
  exact ⟨by omega, (can_next hb hx hy).2.1, (can_less hb (Nat.lt_succ_self j) hx hy).1, until_some hy, chg_some hx hy⟩
 have hnone : t.es[j + 1]? = none → untilA t.es (j + 1) = 4611686018427387904 := until_none
 have key : dayE x ≤ lbD t.es (j + 1) z ∧ (∀ y, t.es[j + 1]? = some y → lbD t.es (j + 1) z < dayE y) ∧ 0 ≤ lbS t.es (j + 1) z ∧ lbS t.es (j + 1) z ≤ 86400 ∧ lbS t.es (j + 1) z < 86400 + moreA t.es (j + 1) (lbD t.es (j + 1) z) ∧ lbD t.es (j + 1) z * 86400 + lbS t.es (j + 1) z + x.2 = q := by
  by_cases g : (z / 1000000000000000000 - offA t.es (j + 1)) / 86400 = untilA t.es (j + 1)
  ·obtain ⟨e1, e2⟩ := lb_hit g
   rw [e1, hq, ho] at hD
   rw [e1, e2, hq, ho]
   rw [hq, ho] at g
   cases hy : t.es[j + 1]? with
   | none => have := hnone hy; omega
   | some y =>
    obtain ⟨y1, y2, y3, y4, y5⟩ := hnx y hy
    have hm : moreA t.es (j + 1) ((q - x.2) / 86400 - 1) = y.2 - x.2 := by
     unfold moreA
     rw [if_pos (by omega), y5]
    rw [hm]
    refine ⟨by omega, fun y' e => by cases e; omega, by omega, by omega, by omega, by omega⟩
  ·obtain ⟨e1, e2⟩ := lb_miss g
   rw [e1, hq, ho] at hD
   rw [e1, e2, hq, ho]
   rw [hq, ho] at g
   refine ⟨by omega, fun y' e => ?_, by omega, by omega, ?_, by omega⟩
   ·obtain ⟨y1, y2, y3, y4, y5⟩ := hnx y' e
    omega
   ·unfold moreA
    split
    ·rename_i g2
     cases hy : t.es[j + 1]? with
     | none => rw [chg_none hy]; omega
     | some y =>
      obtain ⟨y1, y2, y3, y4, y5⟩ := hnx y hy
      rw [y5]
      omega
    ·omega
 obtain ⟨k1, k2, k3, k4, k5, k6⟩ := key
 have hcut2 : Cut (pDay (lbD t.es (j + 1) z)) t.es (j + 1) := ⟨hcut.1, fun i e he => by
  unfold pDay
  rw [decide_eq_decide]
  rcases (by omega : i < j ∨ i = j ∨ j < i) with g | g | g
  ·have := (can_less hb g he hx).1; omega
  ·subst g; rw [hx] at he; cases he; omega
  ·have hl := (List.getElem?_eq_some_iff.1 he).1
   obtain ⟨y, hy⟩ : ∃ y, t.es[j + 1]? = some y := ⟨_, List.getElem?_eq_getElem (by omega)⟩
   have hd := k2 y hy
   have hye : dayE y ≤ dayE e := by
    rcases (by omega : i = j + 1 ∨ j + 1 < i) with u | u
    ·subst u; rw [hy] at he; cases he; omega
    ·have := (can_less hb u hy he).1; omega
   omega⟩
 have hw : whyE t.es (j + 1) (lbD t.es (j + 1) z) (lbS t.es (j + 1) z) a = 0 := why_ok (isU_iff.2 ⟨k3, k4, hz.2⟩) (inB_iff.2 ⟨by omega, hD⟩) hK k5
 rw [ha]
 refine ⟨hcut2, hw, ?_⟩
 rw [tai_ok hw, ho]
 unfold cnt
 omega
theorem more_one {t : Tb} (hb : canBe t = true) (K : Nat) (d : Int) : -1 ≤ moreA t.es K d ∧ moreA t.es K d ≤ 1 := by
 unfold moreA
 split
 ·cases K with
  | zero => simp [chgA]
  | succ j =>
   cases hy : t.es[j + 1]? with
   | none => rw [chg_none hy]; omega
   | some y =>
    obtain ⟨x, hx⟩ : ∃ x, t.es[j]? = some x := ⟨_, List.getElem?_eq_getElem (by have := (List.getElem?_eq_some_iff.1 hy).1; omega)⟩
    have := (can_next hb hx hy).2.1
    rw [chg_some hx hy]
    omega
 ·omega
end Go.Proofs.YtdpodbfamgafiaaGreat
