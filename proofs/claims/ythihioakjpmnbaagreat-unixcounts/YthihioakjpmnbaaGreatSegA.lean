/-
 Rates of old in plain numbers: the instant of a count (fZ), the greatest count of an instant (gZ), which segments may be (mayS), the segment that holds (CutP), what is told of a label (rE, rT) and of an instant (lE, lX); each comes again out of the other one. No conditions but that the segments may be.
-/
import Derived.Test.YthihioakjpmnbaaGreatDayA
import Derived.Test.YthihioakjpmnbaaGreatLpE
import Derived.Test.YthihioakjpmnbaaGreatDayR
namespace Go.Proofs.YthihioakjpmnbaaGreat
open Go.RowKit
set_option maxRecDepth 100000

def whyE (es : List Ent) (K : Nat) (d s a : Int) : Int := if isU s a = true then (if inB d = true then (if K = 0 then 8 else if 86400 + moreA es K d ≤ s then 6 else 0) else 2) else 1
def taiZ (es : List Ent) (K : Nat) (d s a : Int) : Int := if whyE es K d s a = 0 then cnt d (s + offA es K) a else 0
theorem why_bad {es : List Ent} {K : Nat} {d s a : Int} (h : isU s a = false) : whyE es K d s a = 1 := by unfold whyE; rw [h]; rfl
theorem why_far {es : List Ent} {K : Nat} {d s a : Int} (h : isU s a = true) (k : inB d = false) : whyE es K d s a = 2 := by unfold whyE; rw [h, k]; rfl
theorem why_early {es : List Ent} {K : Nat} {d s a : Int} (h : isU s a = true) (k : inB d = true) (q : K = 0) : whyE es K d s a = 8 := by unfold whyE; rw [if_pos h, if_pos k, if_pos q]
theorem why_none {es : List Ent} {K : Nat} {d s a : Int} (h : isU s a = true) (k : inB d = true) (q : 0 < K) (g : 86400 + moreA es K d ≤ s) : whyE es K d s a = 6 := by unfold whyE; rw [if_pos h, if_pos k, if_neg (by omega), if_pos g]
theorem why_ok {es : List Ent} {K : Nat} {d s a : Int} (h : isU s a = true) (k : inB d = true) (q : 0 < K) (g : s < 86400 + moreA es K d) : whyE es K d s a = 0 := by unfold whyE; rw [if_pos h, if_pos k, if_neg (by omega), if_neg (by omega)]
theorem why_zero {es : List Ent} {K : Nat} {d s a : Int} (h : whyE es K d s a = 0) : isU s a = true ∧ inB d = true ∧ 0 < K ∧ s < 86400 + moreA es K d := by
 unfold whyE at h
 split at h
 ·split at h
  ·split at h
   ·omega
   ·split at h
    ·omega
    ·exact ⟨by assumption, by assumption, by omega, by omega⟩
  ·omega
 ·omega
theorem tai_no {es : List Ent} {K : Nat} {d s a : Int} (h : whyE es K d s a ≠ 0) : taiZ es K d s a = 0 := if_neg h
theorem tai_ok {es : List Ent} {K : Nat} {d s a : Int} (h : whyE es K d s a = 0) : taiZ es K d s a = cnt d (s + offA es K) a := if_pos h

/-! ### The label of an instant -/
theorem chg_some {es : List Ent} {j : Nat} {x y : Ent} (hx : es[j]? = some x) (hy : es[j + 1]? = some y) : chgA es (j + 1) = y.2 - x.2 := by simp only [chgA, chgE, hx, hy]
theorem chg_none {es : List Ent} {j : Nat} (hy : es[j + 1]? = none) : chgA es (j + 1) = 0 := by simp only [chgA, chgE, hy]

/-! ### Seconds that an int tells -/
theorem more_one {t : Tb} (hb : canBe t = true) (K : Nat) (d : Int) : -1 ≤ moreA t.es K d ∧ moreA t.es K d ≤ 1 := by
 unfold moreA
 split
 ·cases K with
  | zero => simp [chgA]
  | succ j =>
   cases hy : t.es[j + 1]? with
   | none => rw [chg_none hy]; omega
   | some y =>
    obtain ⟨x, hx⟩ : ∃ x, t.es[j]? = some x := ⟨_, List.getElem?_eq_getElem (by have := (List.getElem?_eq_some_iff.1 hy).1; omega)⟩
    have := (can_next hb hx hy).2.1
    rw [chg_some hx hy]
    omega
 ·omega
end Go.Proofs.YthihioakjpmnbaaGreat

namespace Go.Proofs.YthihioakjpmnbaaGreat
open Go.RowKit
set_option maxRecDepth 100000

structure Sg where
 d : Int
 b : Int
 f : Int
 r : Int
def uZ (n : Int) : Int := n * 100000000000
def fZ (s : Sg) (u : Int) : Int := u + uZ s.b + uZ s.r * (u - cnt s.f 0 0) / cnt 1 0 0
theorem cnt_1 : cnt 1 0 0 = 86400000000000000000000 := rfl
theorem cnt_day (d : Int) : cnt d 0 0 = d * 86400000000000000000000 := by unfold cnt; omega
def sgIn (s : Sg) : Bool := decide (-1048576 ≤ s.d ∧ s.d ≤ 1048576) && decide (-1048576 ≤ s.f ∧ s.f ≤ 1048576) && decide (-1000000000 ≤ s.b ∧ s.b ≤ 1000000000) && decide (0 ≤ s.r ∧ s.r ≤ 1000000)
theorem sgIn_iff {s : Sg} : sgIn s = true ↔ (-1048576 ≤ s.d ∧ s.d ≤ 1048576) ∧ (-1048576 ≤ s.f ∧ s.f ≤ 1048576) ∧ (-1000000000 ≤ s.b ∧ s.b ≤ 1000000000) ∧ (0 ≤ s.r ∧ s.r ≤ 1000000) := by
 simp only [sgIn, Bool.and_eq_true, decide_eq_true_eq, and_assoc]
/-! ### The instant of a count -/
theorem fZ_up {s : Sg} (hr : 0 ≤ s.r ∧ s.r ≤ 1000000) {u v : Int} (h : u ≤ v) : fZ s u + (v - u) ≤ fZ s v := by
 unfold fZ
 rw [cnt_1]
 have e : uZ s.r * (u - cnt s.f 0 0) ≤ uZ s.r * (v - cnt s.f 0 0) := Int.mul_le_mul_of_nonneg_left (by omega) (by unfold uZ; omega)
 generalize uZ s.r * (u - cnt s.f 0 0) = p at e ⊢
 generalize uZ s.r * (v - cnt s.f 0 0) = q at e ⊢
 omega
theorem fZ_lt {s : Sg} (hr : 0 ≤ s.r ∧ s.r ≤ 1000000) {u v : Int} : fZ s u < fZ s v ↔ u < v := by
 constructor
 ·intro h
  rcases Int.lt_or_le u v with q | q
  ·exact q
  ·have := fZ_up hr q; omega
 ·intro h
  have := fZ_up hr (show u ≤ v by omega)
  omega
theorem fZ_le {s : Sg} (hr : 0 ≤ s.r ∧ s.r ≤ 1000000) {u v : Int} : fZ s u ≤ fZ s v ↔ u ≤ v := by
 have := fZ_lt hr (u := v) (v := u)
 omega
theorem mul_in {m v M V : Int} (h0 : 0 ≤ m) (h1 : m ≤ M) (h2 : -V ≤ v) (h3 : v ≤ V) : -(M * V) ≤ m * v ∧ m * v ≤ M * V := by
 have hV : 0 ≤ V := by omega
 have a1 : m * v ≤ m * V := Int.mul_le_mul_of_nonneg_left h3 h0
 have a2 : m * V ≤ M * V := Int.mul_le_mul_of_nonneg_right h1 hV
 have a3 : m * -V ≤ m * v := Int.mul_le_mul_of_nonneg_left h2 h0
 rw [Int.mul_neg] at a3
 omega
/-- How far an instant is from its count. -/
theorem fZ_near {s : Sg} (h : sgIn s = true) {u : Int} (h0 : -200000000000000000000000000000 ≤ u) (h1 : u ≤ 200000000000000000000000000000) : u - 400000000000000000000000 ≤ fZ s u ∧ fZ s u ≤ u + 400000000000000000000000 := by
 obtain ⟨hd, hf, hb, hr⟩ := sgIn_iff.1 h
 unfold fZ
 rw [cnt_1, cnt_day]
 have := mul_in (m := uZ s.r) (M := 100000000000000000) (V := 300000000000000000000000000000) (v := u - s.f * 86400000000000000000000) (by unfold uZ; omega) (by unfold uZ; omega) (by omega) (by omega)
 generalize uZ s.r * (u - s.f * 86400000000000000000000) = p at this ⊢
 unfold uZ
 omega

/-! ### Which segments may be -/
def untS (l : List Sg) (day : Int) (i : Nat) : Int := match l[i + 1]? with | some y => y.d | none => day
def endS (l : List Sg) (day off : Int) (i : Nat) : Int := match l[i + 1]? with | some y => fZ y (cnt y.d 0 0) | none => cnt day off 0
def begS (s : Sg) : Int := fZ s (cnt s.d 0 0)
def may1 (l : List Sg) (day : Int) (i : Nat) : Bool := match l[i]? with | some s => sgIn s && decide (s.d < untS l day i) | none => true
def may2 (l : List Sg) (day off : Int) (i : Nat) : Bool := match l[i]? with | some s => decide (fZ s (cnt (untS l day i - 1) 0 0) < endS l day off i) && decide (endS l day off i ≤ fZ s (cnt (untS l day i) 1 0)) | none => true
def may0 (l : List Sg) (day off : Int) : Bool := decide (1 ≤ l.length ∧ l.length ≤ 32) && decide (-1048576 ≤ day ∧ day ≤ 1048576) && decide (0 ≤ off ∧ off ≤ 1000)
def mayS (l : List Sg) (day off : Int) : Bool := may0 l day off && (decide (∀ i, i < l.length → may1 l day i = true) && decide (∀ i, i < l.length → may2 l day off i = true))
theorem may_spec {l : List Sg} {day off : Int} : mayS l day off = true ↔ may0 l day off = true ∧ (∀ i, i < l.length → may1 l day i = true) ∧ (∀ i, i < l.length → may2 l day off i = true) := by
 simp only [mayS, Bool.and_eq_true, decide_eq_true_eq]
theorem may0_iff {l : List Sg} {day off : Int} : may0 l day off = true ↔ (1 ≤ l.length ∧ l.length ≤ 32) ∧ (-1048576 ≤ day ∧ day ≤ 1048576) ∧ (0 ≤ off ∧ off ≤ 1000) := by
 simp only [may0, Bool.and_eq_true, decide_eq_true_eq, and_assoc]
theorem unt_some {l : List Sg} {day : Int} {i : Nat} {y : Sg} (h : l[i + 1]? = some y) : untS l day i = y.d := by unfold untS; rw [h]
theorem unt_none {l : List Sg} {day : Int} {i : Nat} (h : l.length ≤ i + 1) : untS l day i = day := by unfold untS; rw [List.getElem?_eq_none h]
theorem end_some {l : List Sg} {day off : Int} {i : Nat} {y : Sg} (h : l[i + 1]? = some y) : endS l day off i = begS y := by unfold endS; rw [h]; rfl
theorem end_none {l : List Sg} {day off : Int} {i : Nat} (h : l.length ≤ i + 1) : endS l day off i = cnt day off 0 := by unfold endS; rw [List.getElem?_eq_none h]
/-- What is known of one segment of those that may be. -/
theorem may_at {l : List Sg} {day off : Int} (h : mayS l day off = true) {i : Nat} {s : Sg} (hs : l[i]? = some s) : sgIn s = true ∧ (0 ≤ s.r ∧ s.r ≤ 1000000) ∧ s.d < untS l day i ∧ fZ s (cnt (untS l day i - 1) 0 0) < endS l day off i ∧ endS l day off i ≤ fZ s (cnt (untS l day i) 1 0) ∧ begS s < endS l day off i := by
 obtain ⟨h0, h1, h2⟩ := may_spec.1 h
 have hl := (List.getElem?_eq_some_iff.1 hs).1
 have a := h1 i hl
 have b := h2 i hl
 unfold may1 at a
 unfold may2 at b
 rw [hs] at a b
 simp only [Bool.and_eq_true, decide_eq_true_eq] at a b
 have hr := (sgIn_iff.1 a.1).2.2.2
 refine ⟨a.1, hr, a.2, b.1, b.2, ?_⟩
 have := (fZ_le hr (u := cnt s.d 0 0) (v := cnt (untS l day i - 1) 0 0)).2 (by rw [cnt_day, cnt_day]; omega)
 unfold begS
 omega
theorem may_rise {l : List Sg} {day off : Int} (h : mayS l day off = true) : ∀ (n i : Nat) (a e : Sg), l[i]? = some a → l[i + n + 1]? = some e → untS l day i ≤ e.d ∧ endS l day off i ≤ begS e
 | 0, i, a, e, ha, he => by
  rw [unt_some he, end_some he]
  exact ⟨Int.le_refl _, Int.le_refl _⟩
 | n + 1, i, a, e, ha, he => by
  have hlt := (List.getElem?_eq_some_iff.1 he).1
  obtain ⟨m, hm⟩ : ∃ m, l[i + n + 1]? = some m := ⟨_, List.getElem?_eq_getElem (by omega)⟩
  have h1 := may_rise h n i a m ha hm
  have h2 := may_at h hm
  have h3 : untS l day (i + n + 1) = e.d := unt_some he
  have h4 : endS l day off (i + n + 1) = begS e := end_some he
  omega
theorem may_less {l : List Sg} {day off : Int} (h : mayS l day off = true) {i j : Nat} {a e : Sg} (hij : i < j) (ha : l[i]? = some a) (he : l[j]? = some e) : untS l day i ≤ e.d ∧ a.d < e.d ∧ endS l day off i ≤ begS e ∧ begS a < begS e := by
 have h1 := may_rise h (j - i - 1) i a e ha (by rw [show i + (j - i - 1) + 1 = j by omega]; exact he)
 have h2 := may_at h ha
 omega
/-- The elements that p holds of are the first k ones. -/
def CutP {α : Type} (p : α → Bool) (l : List α) (k : Nat) : Prop := k ≤ l.length ∧ ∀ j e, l[j]? = some e → p e = decide (j < k)
theorem cutP_exists {α : Type} {p : α → Bool} : ∀ {es : List α}, (∀ (i j : Nat) (a e : α), i < j → es[i]? = some a → es[j]? = some e → p e = true → p a = true) → ∃ k, CutP p es k
 | [], _ => ⟨0, Nat.le_refl _, fun j e h => by simp at h⟩
 | x :: es, h => by
  obtain ⟨k, hk, hc⟩ := cutP_exists (p := p) (es := es) (fun i j a e hij ha he hp => h (i + 1) (j + 1) a e (by omega) (by simpa using ha) (by simpa using he) hp)
  cases hx : p x with
  | true =>
   refine ⟨k + 1, by simp; omega, fun j e he => ?_⟩
   cases j with
   | zero => simp at he; subst he; rw [hx]; simp
   | succ j => rw [hc j e (by simpa using he)]; simp
  | false =>
   refine ⟨0, Nat.zero_le _, fun j e he => ?_⟩
   cases j with
   | zero => simp at he; subst he; rw [hx]; simp
   | succ j =>
    cases hq : p e with
    | false => simp
    | true => rw [h 0 (j + 1) x e (by omega) rfl he hq] at hx; cases hx
def pSD (d : Int) (s : Sg) : Bool := decide (s.d ≤ d)
theorem cutS_day {l : List Sg} {day off : Int} (h : mayS l day off = true) (d : Int) : ∃ k, CutP (pSD d) l k := cutP_exists (fun i j a e hij ha he hp => by
 have := (may_less h hij ha he).2.1
 simp only [pSD, decide_eq_true_eq] at hp ⊢
 omega)
theorem cutP_in {α : Type} {p : α → Bool} {l : List α} {k : Nat} (h : CutP p l k) (hk : 0 < k) : ∃ x, l[k - 1]? = some x ∧ p x = true := by
 obtain ⟨x, hx⟩ : ∃ x, l[k - 1]? = some x := ⟨_, List.getElem?_eq_getElem (by have := h.1; omega)⟩
 exact ⟨x, hx, by rw [h.2 _ _ hx]; exact decide_eq_true (by omega)⟩

/-! ### What is told of a label -/
def sgA (l : List Sg) (K : Nat) : Sg := match l[K - 1]? with | some s => s | none => ⟨0, 0, 0, 0⟩
theorem sgA_at {l : List Sg} {K : Nat} {s : Sg} (h : l[K - 1]? = some s) : sgA l K = s := by unfold sgA; rw [h]
def rE (l : List Sg) (day off : Int) (K : Nat) (d s a : Int) : Int :=
 if isU s a = true then (if K = 0 then 8 else if day ≤ d then 9 else if (s = 86400 ∧ d + 1 ≠ untS l day (K - 1)) ∨ endS l day off (K - 1) ≤ fZ (sgA l K) (cnt d s a) then 6 else 0) else 1
def rT (l : List Sg) (day off : Int) (K : Nat) (d s a : Int) : Int := if rE l day off K d s a = 0 then fZ (sgA l K) (cnt d s a) else 0
theorem rE_arg {l : List Sg} {day off : Int} {K : Nat} {d s a : Int} (h : isU s a = false) : rE l day off K d s a = 1 := by unfold rE; rw [h]; rfl
theorem rE_early {l : List Sg} {day off : Int} {K : Nat} {d s a : Int} (h : isU s a = true) (k : K = 0) : rE l day off K d s a = 8 := by unfold rE; rw [if_pos h, if_pos k]
theorem rE_late {l : List Sg} {day off : Int} {K : Nat} {d s a : Int} (h : isU s a = true) (k : 0 < K) (g : day ≤ d) : rE l day off K d s a = 9 := by unfold rE; rw [if_pos h, if_neg (by omega), if_pos g]
theorem rE_none {l : List Sg} {day off : Int} {K : Nat} {d s a : Int} (h : isU s a = true) (k : 0 < K) (g : d < day) (q : (s = 86400 ∧ d + 1 ≠ untS l day (K - 1)) ∨ endS l day off (K - 1) ≤ fZ (sgA l K) (cnt d s a)) : rE l day off K d s a = 6 := by unfold rE; rw [if_pos h, if_neg (by omega), if_neg (by omega), if_pos q]
theorem rE_ok {l : List Sg} {day off : Int} {K : Nat} {d s a : Int} (h : isU s a = true) (k : 0 < K) (g : d < day) (q1 : ¬ (s = 86400 ∧ d + 1 ≠ untS l day (K - 1))) (q2 : fZ (sgA l K) (cnt d s a) < endS l day off (K - 1)) : rE l day off K d s a = 0 := by unfold rE; rw [if_pos h, if_neg (by omega), if_neg (by omega), if_neg (by omega)]
theorem rE_zero {l : List Sg} {day off : Int} {K : Nat} {d s a : Int} (h : rE l day off K d s a = 0) : isU s a = true ∧ 0 < K ∧ d < day ∧ ¬ (s = 86400 ∧ d + 1 ≠ untS l day (K - 1)) ∧ fZ (sgA l K) (cnt d s a) < endS l day off (K - 1) := by
 unfold rE at h
 split at h
 ·split at h
  ·omega
  ·split at h
   ·omega
   ·split at h
    ·omega
    ·rename_i h1 h2 h3 h4
     exact ⟨h1, by omega, by omega, fun q => h4 (.inl q), by omega⟩
 ·omega
theorem rT_no {l : List Sg} {day off : Int} {K : Nat} {d s a : Int} (h : rE l day off K d s a ≠ 0) : rT l day off K d s a = 0 := if_neg h
theorem rT_ok {l : List Sg} {day off : Int} {K : Nat} {d s a : Int} (h : rE l day off K d s a = 0) : rT l day off K d s a = fZ (sgA l K) (cnt d s a) := if_pos h
/-! ### What is told of an instant -/
theorem unt_le {l : List Sg} {day off : Int} (h : mayS l day off = true) {k : Nat} {s : Sg} (hs : l[k]? = some s) : untS l day k ≤ day := by
 have hl := (List.getElem?_eq_some_iff.1 hs).1
 rcases (by omega : l.length = k + 1 ∨ k + 1 < l.length) with q | q
 ·rw [unt_none (by omega)]; exact Int.le_refl _
 ·obtain ⟨e, he⟩ : ∃ e, l[l.length - 1]? = some e := ⟨_, List.getElem?_eq_getElem (by omega)⟩
  have h1 := (may_less h (show k < l.length - 1 by omega) hs he).1
  have h2 := (may_at h he).2.2.1
  rw [unt_none (by omega)] at h2
  omega
/-- What a label that there is has. -/
theorem rE_facts {l : List Sg} {day off : Int} (h : mayS l day off = true) {K : Nat} {d s a : Int} (hcut : CutP (pSD d) l K) (he : rE l day off K d s a = 0) : ∃ x, l[K - 1]? = some x ∧ sgA l K = x ∧ x.d ≤ d ∧ d < untS l day (K - 1) ∧ begS x ≤ fZ x (cnt d s a) ∧ fZ x (cnt d s a) < endS l day off (K - 1) := by
 obtain ⟨hU, hK, hd, hq, hend⟩ := rE_zero he
 have hU' := isU_iff.1 hU
 obtain ⟨x, hx, hp⟩ := cutP_in hcut hK
 have hm := may_at h hx
 unfold pSD at hp
 rw [decide_eq_true_eq] at hp
 rw [sgA_at hx] at hend
 refine ⟨x, hx, sgA_at hx, hp, ?_, (fZ_le hm.2.1).2 (by unfold cnt; omega), hend⟩
 have hl := (List.getElem?_eq_some_iff.1 hx).1
 rcases (by omega : l.length = K ∨ K < l.length) with g | g
 ·rw [unt_none (by omega)]; exact hd
 ·obtain ⟨y, hy⟩ : ∃ y, l[K]? = some y := ⟨_, List.getElem?_eq_getElem g⟩
  have hc := hcut.2 K y hy
  unfold pSD at hc
  rw [decide_eq_decide] at hc
  rw [unt_some (y := y) (by rw [show K - 1 + 1 = K by omega]; exact hy)]
  omega
end Go.Proofs.YthihioakjpmnbaaGreat
