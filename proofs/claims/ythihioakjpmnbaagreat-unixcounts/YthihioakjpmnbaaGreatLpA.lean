/-
 Leap seconds in plain lists: an entry's day and beginning, how far a list of entries goes up to a day or a second, what is kept of each entry; how that lies in memory. No conditions.
-/
import Derived.Test.YthihioakjpmnbaaGreatOnc
namespace Go.Proofs.YthihioakjpmnbaaGreat
open Go.RowKit
set_option maxRecDepth 100000

def dayE (e : Ent) : Int := 15020 + e.1 / 86400
def startE (e : Ent) : Int := dayE e * 86400 + e.2
/-- The entries that p holds of are the first k ones. -/
def Cut (p : Ent → Bool) (es : List Ent) (k : Nat) : Prop := k ≤ es.length ∧ ∀ j e, es[j]? = some e → p e = decide (j < k)
theorem cut_exists {p : Ent → Bool} : ∀ {es : List Ent}, (∀ (i j : Nat) (a e : Ent), i < j → es[i]? = some a → es[j]? = some e → p e = true → p a = true) → ∃ k, Cut p es k
 | [], _ => ⟨0, Nat.le_refl _, fun j e h => by simp at h⟩
 | x :: es, h => by
  obtain ⟨k, hk, hc⟩ := cut_exists (p := p) (es := es) (fun i j a e hij ha he hp => h (i + 1) (j + 1) a e (by omega) (by simpa using ha) (by simpa using he) hp)
  cases hx : p x with
  | true =>
   refine ⟨k + 1, by simp; omega, fun j e he => ?_⟩
   cases j with
   | zero => simp at he; subst he; rw [hx]; simp
   | succ j => rw [hc j e (by simpa using he)]; simp
  | false =>
   refine ⟨0, Nat.zero_le _, fun j e he => ?_⟩
   cases j with
   | zero => simp at he; subst he; rw [hx]; simp
   | succ j =>
    cases hq : p e with
    | false => simp
    | true => rw [h 0 (j + 1) x e (by omega) rfl he hq] at hx; cases hx
/-- Of a table that may be, one entry behind the other. -/
theorem can_next {t : Tb} (hb : canBe t = true) {j : Nat} {a e : Ent} (ha : t.es[j]? = some a) (he : t.es[j + 1]? = some e) : a.1 < e.1 ∧ (e.2 = a.2 + 1 ∨ e.2 = a.2 - 1) ∧ a.1 % 86400 = 0 ∧ e.1 % 86400 = 0 := by
 have hlt := (List.getElem?_eq_some_iff.1 he).1
 have h1 := can_all hb hlt
 have h0 := can_all hb (j := j) (by omega)
 rw [ok_at he] at h1
 rw [ok_at ha] at h0
 simp only [stand, entIn, lastOk, Bool.and_eq_true, decide_eq_true_eq] at h0 h1
 have hl : (t.es.take (j + 1))[(t.es.take (j + 1)).length - 1]? = some a := by
  rw [List.length_take, Nat.min_eq_left (by omega), List.getElem?_take_of_lt (by omega)]
  simpa using ha
 rw [hl] at h1
 simp only [Bool.and_eq_true, Bool.or_eq_true, decide_eq_true_eq] at h1
 exact ⟨h1.2.1, h1.2.2, h0.1.2.1.1.2, h1.1.2.1.1.2⟩
theorem can_rise {t : Tb} (hb : canBe t = true) : ∀ (n i : Nat) (a e : Ent), t.es[i]? = some a → t.es[i + n + 1]? = some e → dayE a < dayE e ∧ startE a < startE e
 | 0, i, a, e, ha, he => by
  have h := can_next hb ha he
  unfold startE dayE
  omega
 | n + 1, i, a, e, ha, he => by
  have hlt := (List.getElem?_eq_some_iff.1 he).1
  obtain ⟨m, hm⟩ : ∃ m, t.es[i + n + 1]? = some m := ⟨_, List.getElem?_eq_getElem (by omega)⟩
  have h1 := can_rise hb n i a m ha hm
  have h := can_next hb hm he
  have h2 : dayE m < dayE e ∧ startE m < startE e := by
   unfold startE dayE
   omega
  omega
theorem can_less {t : Tb} (hb : canBe t = true) {i j : Nat} {a e : Ent} (hij : i < j) (ha : t.es[i]? = some a) (he : t.es[j]? = some e) : dayE a < dayE e ∧ startE a < startE e :=
 can_rise hb (j - i - 1) i a e ha (by rw [show i + (j - i - 1) + 1 = j by omega]; exact he)
def pDay (d : Int) (e : Ent) : Bool := decide (dayE e ≤ d)
theorem cut_day {t : Tb} (hb : canBe t = true) (d : Int) : ∃ k, Cut (pDay d) t.es k := cut_exists (fun i j a e hij ha he hp => by
 have := (can_less hb hij ha he).1
 simp only [pDay, decide_eq_true_eq] at hp ⊢
 omega)
/-- Numbers of entries of a table that may be. -/
theorem can_in {t : Tb} (hb : canBe t = true) {j : Nat} {e : Ent} (he : t.es[j]? = some e) : (0 ≤ e.1 ∧ e.1 ≤ 1125899906842624) ∧ (0 ≤ e.2 ∧ e.2 ≤ 1000) ∧ (15020 ≤ dayE e ∧ dayE e ≤ 13031265020) ∧ (0 ≤ startE e ∧ startE e ≤ 1125901294629728) := by
 have h := can_ent hb he
 unfold startE dayE
 omega

/-! ### What is kept of entries -/
def untilE (es : List Ent) (j : Nat) : Int :=
 match es[j + 1]? with
 | some e => dayE e
 | none => 4611686018427387904
def chgE (es : List Ent) (j : Nat) : Int :=
 match es[j + 1]?, es[j]? with
 | some e, some a => e.2 - a.2
 | _, _ => 0
def eraV (d s o u c : Int) : List Value := [.int .i64 d, .int .i64 s, .int .i64 o, .int .i64 u, .int .i64 c]
def eraC (es : List Ent) (j : Nat) : List Value :=
 match es[j]? with
 | some e => eraV (dayE e) (startE e) e.2 (untilE es j) (chgE es j)
 | none => []
def EraL (es : List Ent) (xs : List Value) : Prop := xs.length = es.length * 5 ∧ ∀ j q x, (eraC es j)[q]? = some x → xs[j * 5 + q]? = some x
theorem eraC_len (es : List Ent) {j q : Nat} {x : Value} (h : (eraC es j)[q]? = some x) : j < es.length ∧ q < 5 := by
 unfold eraC at h
 cases he : es[j]? with
 | none => rw [he] at h; simp at h
 | some e =>
  rw [he] at h
  have := (List.getElem?_eq_some_iff.1 h).1
  exact ⟨(List.getElem?_eq_some_iff.1 he).1, by simpa [eraV] using this⟩
theorem EraL.nil : EraL [] [] := ⟨rfl, fun j q x h => by have := eraC_len [] h; simp at this⟩
def newV (e : Ent) : List Value := eraV (dayE e) (startE e) e.2 4611686018427387904 0
theorem eraC_last (l : List Ent) (e : Ent) : eraC (l ++ [e]) l.length = newV e := by
 unfold eraC untilE chgE newV
 simp
theorem eraC_old {l : List Ent} (e : Ent) {j : Nat} (h : j + 1 < l.length) : eraC (l ++ [e]) j = eraC l j := by
 unfold eraC untilE chgE
 rw [List.getElem?_append_left (by omega), List.getElem?_append_left (by omega)]
theorem eraC_turn {l : List Ent} {a : Ent} (e : Ent) {j : Nat} (hj : j + 1 = l.length) (ha : l[j]? = some a) : eraC (l ++ [e]) j = eraV (dayE a) (startE a) a.2 (dayE e) (e.2 - a.2) ∧ eraC l j = newV a := by
 have h1 : (l ++ [e])[j + 1]? = some e := by rw [hj]; simp
 have h2 : l[j + 1]? = none := by rw [hj]; simp
 have h3 : (l ++ [e])[j]? = some a := by rw [List.getElem?_append_left (by omega)]; exact ha
 unfold eraC untilE chgE
 simp only [h1, h2, h3, ha]
 constructor <;> first | trivial | rfl
theorem EraL.first (e : Ent) : EraL [e] ([] ++ newV e) := by
 refine ⟨rfl, fun j q x h => ?_⟩
 have hl := eraC_len _ h
 have : j = 0 := by simp at hl; omega
 subst this
 have := eraC_last [] e
 rw [List.nil_append, List.length_nil] at this
 rw [this] at h
 simpa using h
theorem EraL.next {l : List Ent} {xs : List Value} (h : EraL l xs) {j : Nat} {a : Ent} (hj : j + 1 = l.length) (ha : l[j]? = some a) (e : Ent) :
  EraL (l ++ [e]) (((xs.set (j * 5 + 3) (.int .i64 (dayE e))).set (j * 5 + 4) (.int .i64 (e.2 - a.2))) ++ newV e) := by
 have hlen : ((xs.set (j * 5 + 3) (Value.int .i64 (dayE e))).set (j * 5 + 4) (.int .i64 (e.2 - a.2))).length = l.length * 5 := by rw [List.length_set, List.length_set]; exact h.1
 refine ⟨by rw [List.length_append, hlen, List.length_append]; simp [newV, eraV]; omega, fun i q x hx => ?_⟩
 have hl := eraC_len _ hx
 rw [List.length_append, List.length_singleton] at hl
 obtain ⟨e1, e2⟩ := eraC_turn e hj ha
 rcases (by omega : i + 1 < l.length ∨ i = j ∨ i = l.length) with q1 | q1 | q1
 ·rw [eraC_old e q1] at hx
  rw [List.getElem?_append_left (by omega), List.getElem?_set_ne (by omega), List.getElem?_set_ne (by omega)]
  exact h.2 i q x hx
 ·subst q1
  rw [e1] at hx
  have hold := fun q x => h.2 i q x
  rw [e2] at hold
  rw [List.getElem?_append_left (by omega)]
  have hx5 : i * 5 + 5 ≤ xs.length := by rw [h.1]; omega
  match q, hl.2 with
  | 0, _ => rw [List.getElem?_set_ne (by omega), List.getElem?_set_ne (by omega)]; exact hold 0 x hx
  | 1, _ => rw [List.getElem?_set_ne (by omega), List.getElem?_set_ne (by omega)]; exact hold 1 x hx
  | 2, _ => rw [List.getElem?_set_ne (by omega), List.getElem?_set_ne (by omega)]; exact hold 2 x hx
  | 3, _ => rw [List.getElem?_set_ne (by omega), List.getElem?_set_self (by omega)]; exact hx
  | 4, _ => rw [List.getElem?_set_self (by rw [List.length_set]; omega)]; exact hx
 ·subst q1
  rw [eraC_last] at hx
  rw [List.getElem?_append_right (by omega), hlen, show l.length * 5 + q - l.length * 5 = q by omega]
  exact hx
/-- Cells of a row at which element j begins. -/
theorem EraL.cells {es : List Ent} {xs : List Value} (h : EraL es xs) {j : Nat} {e : Ent} (he : es[j]? = some e) : xs[j * 5]? = some (.int .i64 (dayE e)) ∧ xs[j * 5 + 1]? = some (.int .i64 (startE e)) ∧ xs[j * 5 + 2]? = some (.int .i64 e.2) ∧ xs[j * 5 + 3]? = some (.int .i64 (untilE es j)) ∧ xs[j * 5 + 4]? = some (.int .i64 (chgE es j)) := by
 have hc : eraC es j = eraV (dayE e) (startE e) e.2 (untilE es j) (chgE es j) := by unfold eraC; rw [he]
 have hh := fun q x => h.2 j q x
 rw [hc] at hh
 exact ⟨hh 0 _ rfl, hh 1 _ rfl, hh 2 _ rfl, hh 3 _ rfl, hh 4 _ rfl⟩

/-! ### In memory -/
/-- The cells of a Leaps: its table, how often it was asked, whether its eras are made, its lock, them. -/
def leapC (t : Tb) (c : Nat) (k d m : Int) (v : Value) : List Value := [.int .i64 t.u, .int .i64 t.e, .slice (some ⟨c, 0, none⟩) t.es.length t.es.length, .int .i64 k, .int .u32 d, .int .i32 m, .int .u32 0, v]
/-- Row r holds the eras. -/
def Eras (w : World) (b r : Nat) (v : Value) (es : List Ent) : Prop := ∃ cr cs, v = .slice (some ⟨r, 0, none⟩) es.length cr ∧ b < r ∧ es.length ≤ cr ∧ Var w r cs ∧ EraL es (cs.take (es.length * 5))
/-- Block b is a Leaps of table t, that was asked so often; c: its entries; R: its eras, if they are made. -/
def Lp (w : World) (b c : Nat) (R : Option Nat) (t : Tb) (k : Int) : Prop := ∃ d v, Var w b (leapC t c k d 0 v) ∧ Var w c (entC t.es) ∧ c < b ∧ ((d = 0 ∧ v = .slice none 0 0 ∧ R = none) ∨ (d = 1 ∧ ∃ r, R = some r ∧ Eras w b r v t.es))
/-- The eras are where they were, or were made behind w. -/
def Nx (w : World) (R R' : Option Nat) : Prop := R' = R ∨ ∃ r, R' = some r ∧ w.heap.size ≤ r
theorem Nx.trans {w w' : World} {R R' R2 : Option Nat} (h : Nx w R R') (k : Nx w' R' R2) (l : w.heap.size ≤ w'.heap.size) : Nx w R R2 := by
 rcases k with rfl | ⟨r, rfl, h2⟩
 ·exact h
 ·exact .inr ⟨r, rfl, by omega⟩
theorem Nx.ne {w : World} {R R' : Option Nat} {q : Nat} (h : Nx w R R') (hR : R ≠ some q) (hq : q < w.heap.size) : R' ≠ some q := by
 rcases h with rfl | ⟨r, rfl, h2⟩
 ·exact hR
 ·simp only [ne_eq, Option.some.injEq]; omega
theorem Eras.later {w w' : World} {b r : Nat} {v : Value} {es : List Ent} (h : Eras w b r v es) (l : Later w w') : Eras w' b r v es := by
 obtain ⟨cr, cs, h1, h2, h3, h4, h5⟩ := h
 exact ⟨cr, cs, h1, h2, h3, h4.later l, h5⟩
theorem Eras.grown {w w' : World} {b r : Nat} {v : Value} {es : List Ent} (h : Eras w b r v es) (l : w.grownBy w' (some b)) : Eras w' b r v es := by
 obtain ⟨cr, cs, h1, h2, h3, h4, h5⟩ := h
 exact ⟨cr, cs, h1, h2, h3, h4.grown l (by simp; omega), h5⟩
theorem Eras.sto {w w' : World} {b r q : Nat} {v : Value} {es : List Ent} (h : Eras w b r v es) (l : Stored q w w') (hq : r ≠ q) : Eras w' b r v es := by
 obtain ⟨cr, cs, h1, h2, h3, h4, h5⟩ := h
 exact ⟨cr, cs, h1, h2, h3, h4.sto l hq, h5⟩
theorem Eras.lt {w : World} {b r : Nat} {v : Value} {es : List Ent} (h : Eras w b r v es) : r < w.heap.size := by
 obtain ⟨cr, cs, h1, h2, h3, h4, h5⟩ := h
 exact h4.lt
theorem Lp.later {w w' : World} {b c : Nat} {R : Option Nat} {t : Tb} {k : Int} (h : Lp w b c R t k) (l : Later w w') : Lp w' b c R t k := by
 obtain ⟨d, v, h1, h2, h3, h4⟩ := h
 exact ⟨d, v, h1.later l, h2.later l, h3, h4.imp id (fun ⟨q1, r, q2, q3⟩ => ⟨q1, r, q2, q3.later l⟩)⟩
theorem Lp.sto {w w' : World} {b c q : Nat} {R : Option Nat} {t : Tb} {k : Int} (h : Lp w b c R t k) (l : Stored q w w') (hq : b ≠ q ∧ c ≠ q ∧ R ≠ some q) : Lp w' b c R t k := by
 obtain ⟨d, v, h1, h2, h3, h4⟩ := h
 refine ⟨d, v, h1.sto l hq.1, h2.sto l hq.2.1, h3, h4.imp id (fun ⟨q1, r, q2, q3⟩ => ⟨q1, r, q2, q3.sto l (fun e => hq.2.2 (by rw [q2, e]))⟩)⟩
theorem Lp.var {w : World} {b c : Nat} {R : Option Nat} {t : Tb} {k : Int} (h : Lp w b c R t k) : ∃ cs, Var w b cs := by
 obtain ⟨d, v, h1, _⟩ := h
 exact ⟨_, h1⟩
/-- None of its blocks is one that is laid later. -/
theorem Lp.ne {w : World} {b c q : Nat} {R : Option Nat} {t : Tb} {k : Int} (h : Lp w b c R t k) (hq : w.heap.size ≤ q) : b ≠ q ∧ c ≠ q ∧ R ≠ some q := by
 obtain ⟨d, v, h1, h2, h3, h4⟩ := h
 have := h1.lt
 have := h2.lt
 refine ⟨by omega, by omega, ?_⟩
 rcases h4 with ⟨_, _, rfl⟩ | ⟨_, r, rfl, h5⟩
 ·simp
 ·have := h5.lt
  simp only [ne_eq, Option.some.injEq]
  omega
theorem Eras.at {w : World} {b r : Nat} {v : Value} {es : List Ent} (h : Eras w b r v es) : ∃ cr, v = .slice (some ⟨r, 0, none⟩) es.length cr ∧ ∀ j e, es[j]? = some e → w.cell? ⟨r, j * 5, none⟩ = some (.int .i64 (dayE e)) ∧ w.cell? ⟨r, j * 5 + 1, none⟩ = some (.int .i64 (startE e)) ∧ w.cell? ⟨r, j * 5 + 2, none⟩ = some (.int .i64 e.2) ∧ w.cell? ⟨r, j * 5 + 3, none⟩ = some (.int .i64 (untilE es j)) ∧ w.cell? ⟨r, j * 5 + 4, none⟩ = some (.int .i64 (chgE es j)) := by
 obtain ⟨cr, cs, h1, h2, h3, h4, h5⟩ := h
 refine ⟨cr, h1, fun j e he => ?_⟩
 have hlt := (List.getElem?_eq_some_iff.1 he).1
 have key : ∀ q u, q < es.length * 5 → (cs.take (es.length * 5))[q]? = some u → w.cell? ⟨r, q, none⟩ = some u := fun q u hq hu => by
  obtain ⟨ty, hg⟩ := h4
  rw [cell_of_row w r q _ _ _ hg]
  rw [List.getElem?_take_of_lt hq] at hu
  simpa using hu
 have := h5.cells he
 exact ⟨key _ _ (by omega) this.1, key _ _ (by omega) this.2.1, key _ _ (by omega) this.2.2.1, key _ _ (by omega) this.2.2.2.1, key _ _ (by omega) this.2.2.2.2⟩
/-! ### What is answered -/
def dayA (es : List Ent) : Nat → Int
 | 0 => 0
 | j + 1 => match es[j]? with | some x => dayE x | none => 0
def startA (es : List Ent) : Nat → Int
 | 0 => 0
 | j + 1 => match es[j]? with | some x => startE x | none => 0
def offA (es : List Ent) : Nat → Int
 | 0 => 0
 | j + 1 => match es[j]? with | some x => x.2 | none => 0
def untilA (es : List Ent) : Nat → Int
 | 0 => 0
 | j + 1 => untilE es j
def chgA (es : List Ent) : Nat → Int
 | 0 => 0
 | j + 1 => chgE es j
def errA : Nat → Int
 | 0 => 8
 | _ + 1 => 0
def askV (es : List Ent) (K : Nat) : Value := .tuple #[.agg (eraV (dayA es K) (startA es K) (offA es K) (untilA es K) (chgA es K)).toArray, .int .i64 (errA K)]
def moreA (es : List Ent) (K : Nat) (day : Int) : Int := if day = untilA es K - 1 then chgA es K else 0
theorem ask_at {es : List Ent} {j : Nat} {x : Ent} (hx : es[j]? = some x) : askV es (j + 1) = .tuple #[.agg (eraV (dayE x) (startE x) x.2 (untilE es j) (chgE es j)).toArray, .int .i64 0] := by
 unfold askV dayA startA offA untilA chgA errA
 simp only [hx]
theorem A_at {es : List Ent} {j : Nat} {x : Ent} (hx : es[j]? = some x) : dayA es (j + 1) = dayE x ∧ startA es (j + 1) = startE x ∧ offA es (j + 1) = x.2 := by
 unfold dayA startA offA
 simp only [hx]
 exact ⟨trivial, trivial, trivial⟩
theorem can_A {t : Tb} (hb : canBe t = true) (K : Nat) : (0 ≤ offA t.es K ∧ offA t.es K ≤ 1000) ∧ (0 ≤ untilA t.es K ∧ untilA t.es K ≤ 4611686018427387904) ∧ (-1000 ≤ chgA t.es K ∧ chgA t.es K ≤ 1000) := by
 cases K with
 | zero => simp [offA, untilA, chgA]
 | succ j =>
  unfold offA untilA chgA untilE chgE
  cases hx : t.es[j]? with
  | none =>
   cases hy : t.es[j + 1]? with
   | none => simp [hx, hy]
   | some y => have := can_in hb hy; simp only [hx, hy]; omega
  | some x =>
   have h1 := can_in hb hx
   cases hy : t.es[j + 1]? with
   | none => simp only [hx, hy]; omega
   | some y => have := can_in hb hy; simp only [hx, hy]; omega
theorem more_in {t : Tb} (hb : canBe t = true) (K : Nat) (day : Int) : -1000 ≤ moreA t.es K day ∧ moreA t.es K day ≤ 1000 := by
 have := can_A hb K
 unfold moreA
 split <;> omega
theorem ent_cells {w : World} {c : Nat} {es : List Ent} (h : Var w c (entC es)) {j : Nat} {e : Ent} (he : es[j]? = some e) : w.cell? ⟨c, j * 2, none⟩ = some (.int .i64 e.1) ∧ w.cell? ⟨c, j * 2 + 1, none⟩ = some (.int .i64 e.2) := by
 rw [cell_var h, cell_var h]
 exact entC_at es j e he
end Go.Proofs.YthihioakjpmnbaaGreat
