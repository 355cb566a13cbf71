/-
  Leap second tables in plain lists: which entries may stand behind others, which tables may be; how a list of entries lies in memory. No conditions.
-/
import Derived.Test.YtnjolcmclcengaaVcN
import Derived.Test.YtnjolcmclcengaaProg
namespace Go.Proofs.Ytnjolcmclcengaa
open Go.RowKit
set_option maxRecDepth 100000

abbrev Ent := Int × Int
structure Tb where
  u : Int
  e : Int
  es : List Ent
def entIn (e : Ent) : Bool := decide (0 ≤ e.1) && decide (e.1 ≤ 1125899906842624) && decide (e.1 % 86400 = 0) && decide (0 ≤ e.2) && decide (e.2 ≤ 1000)
def lastOk (l : List Ent) (e : Ent) : Bool :=
  match l[l.length - 1]? with
  | none => true
  | some a => decide (a.1 < e.1) && (decide (e.2 = a.2 + 1) || decide (e.2 = a.2 - 1))
def stand (l : List Ent) (e : Ent) : Bool := decide (l.length < 64) && entIn e && lastOk l e
theorem stand_full {l : List Ent} {e : Ent} (h : 64 ≤ l.length) : stand l e = false := by
  unfold stand; rw [decide_eq_false (by omega)]; rfl
theorem stand_in {l : List Ent} {e : Ent} (h : entIn e = false) : stand l e = false := by
  unfold stand; rw [h, Bool.and_false]; rfl
theorem stand_first {l : List Ent} {e : Ent} (hl : l.length = 0) (h : entIn e = true) : stand l e = true := by
  have : l = [] := List.eq_nil_of_length_eq_zero hl
  subst this
  unfold stand; rw [h]; rfl
theorem stand_next {l : List Ent} {e a : Ent} (h64 : l.length < 64) (ha : l[l.length - 1]? = some a) (h : entIn e = true) : stand l e = (decide (a.1 < e.1) && (decide (e.2 = a.2 + 1) || decide (e.2 = a.2 - 1))) := by
  unfold stand lastOk
  rw [h, ha, decide_eq_true h64]; rfl
theorem entIn_yes {a b : Int} (h1 : 0 ≤ a) (h2 : a ≤ 1125899906842624) (h3 : a % 86400 = 0) (h4 : 0 ≤ b) (h5 : b ≤ 1000) : entIn (a, b) = true := by
  simp [entIn, h1, h2, h3, h4, h5]
theorem entIn_no {a b : Int} (h : ¬ (0 ≤ a ∧ a ≤ 1125899906842624 ∧ a % 86400 = 0 ∧ 0 ≤ b ∧ b ≤ 1000)) : entIn (a, b) = false := by
  rw [← Bool.not_eq_true]
  intro q
  simp only [entIn, Bool.and_eq_true, decide_eq_true_eq] at q
  exact h ⟨q.1.1.1.1, q.1.1.1.2, q.1.1.2, q.1.2, q.2⟩
theorem stand_spec {l : List Ent} {e : Ent} (h : stand l e = true) : l.length < 64 ∧ (0 ≤ e.1 ∧ e.1 ≤ 1125899906842624) ∧ (0 ≤ e.2 ∧ e.2 ≤ 1000) := by
  simp only [stand, entIn, Bool.and_eq_true, decide_eq_true_eq] at h
  exact ⟨h.1.1, ⟨h.1.2.1.1.1.1, h.1.2.1.1.1.2⟩, h.1.2.1.2, h.1.2.2⟩
/-- The entry at a place may stand behind those ahead of it. -/
def okAt (es : List Ent) (j : Nat) : Bool :=
  match es[j]? with
  | some e => stand (es.take j) e
  | none => false
def badFrom (es : List Ent) : Nat → Nat → Nat
  | 0, i => i
  | f + 1, i => if okAt es i = true then badFrom es f (i + 1) else i
def firstBad (es : List Ent) : Nat := badFrom es es.length 0
theorem bad_le (es : List Ent) : ∀ f i, i ≤ badFrom es f i ∧ badFrom es f i ≤ i + f
  | 0, i => ⟨Nat.le_refl _, Nat.le_refl _⟩
  | f + 1, i => by
    rw [badFrom]
    split
    · have := bad_le es f (i + 1); omega
    · omega
theorem bad_ok (es : List Ent) : ∀ f i j, i ≤ j → j < badFrom es f i → okAt es j = true
  | 0, i, j, h1, h2 => by rw [badFrom] at h2; omega
  | f + 1, i, j, h1, h2 => by
    rw [badFrom] at h2
    split at h2
    · rename_i h
      by_cases q : j = i
      · subst q; exact h
      · exact bad_ok es f (i + 1) j (by omega) h2
    · omega
theorem bad_step {es : List Ent} {i : Nat} (hi : i < es.length) (h : badFrom es (es.length - i) i = firstBad es) : (okAt es i = true → badFrom es (es.length - (i + 1)) (i + 1) = firstBad es) ∧ (okAt es i = false → firstBad es = i) := by
  rw [show es.length - i = (es.length - (i + 1)) + 1 by omega, badFrom] at h
  constructor
  · intro q; rw [if_pos q] at h; exact h
  · intro q; rw [if_neg (by rw [q]; decide)] at h; exact h.symm
theorem bad_end {es : List Ent} {i : Nat} (hi : i = es.length) (h : badFrom es (es.length - i) i = firstBad es) : firstBad es = es.length := by
  rw [hi, Nat.sub_self, badFrom] at h
  exact h.symm
def inS (n : Int) : Bool := decide (0 ≤ n) && decide (n < 1000000000000000000)
def canBe (t : Tb) : Bool := decide (firstBad t.es = t.es.length) && decide (0 < t.es.length) && (inS t.u && inS t.e)
def place (t : Tb) : Nat := if canBe t = true then 0 else firstBad t.es
theorem inS_spec {n : Int} : inS n = true ↔ 0 ≤ n ∧ n < 1000000000000000000 := by simp [inS]
theorem can_all {t : Tb} (h : canBe t = true) {j : Nat} (hj : j < t.es.length) : okAt t.es j = true := by
  simp only [canBe, Bool.and_eq_true, decide_eq_true_eq] at h
  have h1 := h.1.1
  unfold firstBad at h1
  exact bad_ok t.es t.es.length 0 j (Nat.zero_le _) (by omega)
theorem can_num {t : Tb} (h : canBe t = true) : (0 ≤ t.u ∧ t.u < 1000000000000000000) ∧ (0 ≤ t.e ∧ t.e < 1000000000000000000) ∧ 0 < t.es.length := by
  simp only [canBe, Bool.and_eq_true, decide_eq_true_eq] at h
  exact ⟨inS_spec.1 h.2.1, inS_spec.1 h.2.2, h.1.2⟩
theorem ok_at {es : List Ent} {j : Nat} {e : Ent} (he : es[j]? = some e) : okAt es j = stand (es.take j) e := by unfold okAt; rw [he]
theorem can_ent {t : Tb} (h : canBe t = true) {j : Nat} {e : Ent} (he : t.es[j]? = some e) : (0 ≤ e.1 ∧ e.1 ≤ 1125899906842624) ∧ (0 ≤ e.2 ∧ e.2 ≤ 1000) := by
  have := can_all h (List.getElem?_eq_some_iff.1 he).1
  rw [ok_at he] at this
  exact (stand_spec this).2
theorem can_len {t : Tb} (h : canBe t = true) : t.es.length ≤ 64 := by
  rcases Nat.lt_or_ge 64 t.es.length with q | q
  · obtain ⟨e, he⟩ : ∃ e, t.es[64]? = some e := ⟨t.es[64], List.getElem?_eq_getElem q⟩
    have := can_all h q
    rw [ok_at he] at this
    have := (stand_spec this).1
    rw [List.length_take] at this
    omega
  · exact q
/-- What the last one of those ahead has. -/
theorem ok_last {es : List Ent} {i : Nat} (hi : i ≤ es.length) (h : ∀ j, j < i → okAt es j = true) {a : Ent} (ha : (es.take i)[(es.take i).length - 1]? = some a) : 0 ≤ a.2 ∧ a.2 ≤ 1000 := by
  have h0 : 0 < (es.take i).length := by
    have := (List.getElem?_eq_some_iff.1 ha).1
    omega
  rw [List.length_take, Nat.min_eq_left hi] at ha h0
  rw [List.getElem?_take_of_lt (by omega)] at ha
  have := h (i - 1) (by omega)
  rw [ok_at ha] at this
  exact (stand_spec this).2.2

theorem okAt_app {es : List Ent} {e : Ent} {j : Nat} (hj : j < es.length) : okAt (es ++ [e]) j = okAt es j := by
  obtain ⟨x, hx⟩ : ∃ x, es[j]? = some x := ⟨es[j], List.getElem?_eq_getElem hj⟩
  rw [ok_at hx, ok_at (e := x) (by rw [List.getElem?_append_left hj]; exact hx), List.take_append_of_le_length (by omega)]
theorem okAt_new (es : List Ent) (e : Ent) : okAt (es ++ [e]) es.length = stand es e := by
  rw [ok_at (e := e) (by simp), List.take_append_of_le_length (Nat.le_refl _), List.take_length]
theorem ok_ents {es : List Ent} (h : ∀ j, j < es.length → okAt es j = true) {j : Nat} {e : Ent} (he : es[j]? = some e) : (0 ≤ e.1 ∧ e.1 ≤ 1125899906842624) ∧ (0 ≤ e.2 ∧ e.2 ≤ 1000) := by
  have := h j (List.getElem?_eq_some_iff.1 he).1
  rw [ok_at he] at this
  exact (stand_spec this).2
theorem ok_len {es : List Ent} (h : ∀ j, j < es.length → okAt es j = true) : es.length ≤ 64 := by
  rcases Nat.lt_or_ge 64 es.length with q | q
  · have := h 64 q
    rw [ok_at (List.getElem?_eq_getElem q)] at this
    have := (stand_spec this).1
    rw [List.length_take] at this
    omega
  · exact q
theorem bad_all {es : List Ent} (h : ∀ j, j < es.length → okAt es j = true) : firstBad es = es.length := by
  have key : ∀ f i, i + f = es.length → badFrom es f i = es.length := by
    intro f
    induction f with
    | zero => intro i hi; rw [badFrom]; exact hi
    | succ f ih => intro i hi; rw [badFrom, if_pos (h i (by omega))]; exact ih (i + 1) (by omega)
  exact key es.length 0 (by omega)
theorem can_place {t : Tb} (h : canBe t = true) : place t = 0 := if_pos h
theorem can_bad {t : Tb} {i : Nat} (hi : i < t.es.length) (h : firstBad t.es = i) : canBe t = false ∧ place t = i := by
  have e : canBe t = false := by unfold canBe; rw [h, decide_eq_false (by omega)]; rfl
  exact ⟨e, by unfold place; rw [e, ← h]; rfl⟩
theorem can_end {t : Tb} (h : firstBad t.es = t.es.length) (hb : (decide (0 < t.es.length) && (inS t.u && inS t.e)) = false) : canBe t = false ∧ place t = t.es.length := by
  have e : canBe t = false := by unfold canBe; rw [h, decide_eq_true rfl, Bool.true_and]; exact hb
  exact ⟨e, by unfold place; rw [e, ← h]; rfl⟩
theorem can_yes {t : Tb} (h : firstBad t.es = t.es.length) (hb : (decide (0 < t.es.length) && (inS t.u && inS t.e)) = true) : canBe t = true := by
  unfold canBe; rw [h, decide_eq_true rfl, Bool.true_and]; exact hb
theorem takeE_snoc {α : Type} {l : List α} {i : Nat} {x : α} (h : l[i]? = some x) : l.take (i + 1) = l.take i ++ [x] := by rw [List.take_add_one, h]; rfl
/-! ### How a list of entries lies in memory -/
def EntAt (w : World) (v : Value) (es : List Ent) : Prop :=
  ∃ a c, v = .slice a es.length c ∧ es.length ≤ c ∧ ∀ j x, es[j]? = some x → I64 x.1 ∧ I64 x.2 ∧ ∃ b off, a = some ⟨b, off, none⟩ ∧ w.cell? ⟨b, off + j * 2, none⟩ = some (.int .i64 x.1) ∧ w.cell? ⟨b, off + j * 2 + 1, none⟩ = some (.int .i64 x.2)
theorem EntAt.later {w w' : World} {v : Value} {es : List Ent} (h : EntAt w v es) (l : Later w w') : EntAt w' v es := by
  obtain ⟨a, c, h1, h2, h3⟩ := h
  refine ⟨a, c, h1, h2, fun j x hj => ?_⟩
  obtain ⟨i1, i2, b, off, e, k1, k2⟩ := h3 j x hj
  exact ⟨i1, i2, b, off, e, (World.cell?_of_block (l.block b (World.block_lt_of_cell? w _ k1))).trans k1, (World.cell?_of_block (l.block b (World.block_lt_of_cell? w _ k2))).trans k2⟩
theorem EntAt.nil (w : World) : EntAt w (.slice none 0 0) [] := ⟨none, 0, rfl, Nat.le_refl _, fun j x hj => by simp at hj⟩
theorem EntAt.take {w : World} {a : Option Addr} {n c : Nat} {es : List Ent} (h : EntAt w (.slice a n c) es) {i : Nat} (hi : i ≤ es.length) : EntAt w (.slice a i c) (es.take i) := by
  obtain ⟨a', c', h1, h2, h3⟩ := h
  cases h1
  refine ⟨a, c, by rw [List.length_take, Nat.min_eq_left hi], by rw [List.length_take]; omega, fun j x hj => ?_⟩
  have hlt := (List.getElem?_eq_some_iff.1 hj).1
  rw [List.length_take] at hlt
  rw [List.getElem?_take_of_lt (by omega)] at hj
  exact h3 j x hj
end Go.Proofs.Ytnjolcmclcengaa
