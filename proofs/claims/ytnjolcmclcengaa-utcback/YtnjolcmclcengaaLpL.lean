/-
  Leap seconds: what the laws of layer 12 share, and the walk of LeapsNone.
-/
import Derived.Test.YtnjolcmclcengaaLpE
import Derived.Test.YtnjolcmclcengaaLpR
namespace Go.Proofs.Ytnjolcmclcengaa
open Go.RowKit
set_option maxRecDepth 100000

theorem Later.past {w w1 w2 : World} {b : Nat} (h : Later w w1) (g : w1.grownBy w2 (some b)) (hb : w.heap.size ≤ b) : Later w w2 :=
  ⟨g.os.trans h.os, g.tape.trans h.tape, g.output.trans h.output, Nat.le_trans h.size g.size, fun k hk => (g.block k (Nat.lt_of_lt_of_le hk h.size) (by simp; omega)).trans (h.block k hk)⟩
theorem Later.sto {w w1 w2 : World} {q : Nat} (h : Later w w1) (s : Stored q w1 w2) (hq : w.heap.size ≤ q) : Later w w2 := h.past (grown_of_stored s) hq
theorem run_eql_boolL (a b : Bool) (w : World) : (binOp .eql 4 (.bool a) (.bool b)).run Try.prog w = .ok (.bool (a == b)) w := by
  cases a <;> cases b <;> simp [go_sem]
theorem cut_dec {p : Ent → Bool} {es : List Ent} {k : Nat} (hk : k ≤ es.length) (h : (List.range es.length).all (fun j => match es[j]? with | some e => p e == decide (j < k) | none => true) = true) : Cut p es k :=
  ⟨hk, fun j e he => by
    have hl := (List.getElem?_eq_some_iff.1 he).1
    have := List.all_eq_true.1 h j (by simpa using hl)
    rw [he] at this
    simpa using this⟩
def tY : Tb := ⟨0, 0, [(2272060800, 10), (2287785600, 11)]⟩
theorem tY_can : canBe tY = true := by decide
theorem tY_1 : Cut (pDay 41498) tY.es 1 := cut_dec (by decide) (by decide)
theorem tY_2 : Cut (pDay 41499) tY.es 2 := cut_dec (by decide) (by decide)
theorem rowY {w : World} {c : Nat} (h : RowIs w c 44 [.int .i64 2272060800, .int .i64 10, .int .i64 2287785600, .int .i64 11]) : EntAt w (.slice (some ⟨c, 0, none⟩) tY.es.length 2) tY.es :=
  ents_own (base := 0) (own_of_row (xs := entC tY.es) h (Nat.zero_le _) rfl (by decide)) (fun j hj => can_all tY_can hj)
theorem in0 : I64 0 := by unfold I64; decide
theorem sum_step {t : Tb} (hb : canBe t = true) {K K2 : Nat} {day : Int} (h1 : Cut (pDay day) t.es K) (h2 : Cut (pDay (day + 1)) t.es K2) (hK : 0 < K) : offA t.es K2 - offA t.es K = moreA t.es K day ∧ -1 ≤ moreA t.es K day ∧ moreA t.es K day ≤ 1 := by
  obtain ⟨j, rfl⟩ : ∃ j, K = j + 1 := ⟨K - 1, by omega⟩
  have hjn : j < t.es.length := by have := h1.1; omega
  obtain ⟨x, hx⟩ : ∃ x, t.es[j]? = some x := ⟨t.es[j], List.getElem?_eq_getElem hjn⟩
  have p1 : ∀ i e, t.es[i]? = some e → (dayE e ≤ day ↔ i < j + 1) := fun i e he => by have := h1.2 i e he; unfold pDay at this; rwa [decide_eq_decide] at this
  have p2 : ∀ i e, t.es[i]? = some e → (dayE e ≤ day + 1 ↔ i < K2) := fun i e he => by have := h2.2 i e he; unfold pDay at this; rwa [decide_eq_decide] at this
  have hjK : j < K2 := (p2 j x hx).1 (by have := (p1 j x hx).2 (by omega); omega)
  cases hy : t.es[j + 1]? with
  | none =>
    have hn : t.es.length ≤ j + 1 := List.getElem?_eq_none_iff.1 hy
    obtain rfl : K2 = j + 1 := by have := h2.1; omega
    have e : moreA t.es (j + 1) day = 0 := by
      simp only [moreA, chgA, chgE, hy]
      split <;> rfl
    rw [e]
    omega
  | some y =>
    have hyl := (List.getElem?_eq_some_iff.1 hy).1
    have hnx := can_next hb hx hy
    have hny : ¬ dayE y ≤ day := fun q => by have := (p1 (j + 1) y hy).1 q; omega
    have ex := (A_at hx).2.2
    by_cases q : dayE y = day + 1
    · have hlt := (p2 (j + 1) y hy).1 (by omega)
      have hge : ¬ j + 2 < K2 := fun z => by
        have hl2 : j + 2 < t.es.length := by have := h2.1; omega
        obtain ⟨u, hu⟩ : ∃ u, t.es[j + 2]? = some u := ⟨t.es[j + 2], List.getElem?_eq_getElem hl2⟩
        have := (p2 (j + 2) u hu).2 z
        have := (can_less hb (Nat.lt_succ_self (j + 1)) hy hu).1
        omega
      obtain rfl : K2 = j + 2 := by omega
      have ey := (A_at hy).2.2
      have e : moreA t.es (j + 1) day = y.2 - x.2 := by
        simp only [moreA, untilA, untilE, chgA, chgE, hy, hx]
        rw [if_pos (by omega)]
      rw [e, ex, ey]
      omega
    · have hge : ¬ j + 1 < K2 := fun z => by have := (p2 (j + 1) y hy).2 z; omega
      obtain rfl : K2 = j + 1 := by omega
      have e : moreA t.es (j + 1) day = 0 := by
        simp only [moreA, untilA, untilE, hy]
        rw [if_neg (by omega)]
      rw [e]
      omega
theorem EntAt.formL {w : World} {v : Value} {es : List Ent} (h : EntAt w v es) : ∃ a c, v = .slice a es.length c := by
  obtain ⟨a, c, h1, _⟩ := h
  exact ⟨a, c, h1⟩
end Go.Proofs.Ytnjolcmclcengaa
