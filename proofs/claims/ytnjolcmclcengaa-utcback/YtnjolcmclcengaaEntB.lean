/-
  Leap second tables: rows of entries of the call's own. No conditions.
-/
import Derived.Test.YtnjolcmclcengaaListR
namespace Go.Proofs.Ytnjolcmclcengaa
open Go.RowKit
set_option maxRecDepth 100000

theorem own_ne {w : World} {base : Nat} {e : TypeId} {sz : Nat} {v : Value} {n b : Nat} {xs : List Value} (h : w.ownsRow base e sz v n xs) (hb : b < base ∨ w.heap.size ≤ b) : v.ownBlock ≠ some b := by
  rcases h.2 with ⟨h1, _⟩ | ⟨g, cap, cur, h1, h2, h3, _⟩
  · subst h1; simp [Value.ownBlock]
  · subst h1
    have := (Array.getElem?_eq_some_iff.1 h3).1
    simp only [Value.ownBlock, ne_eq, Option.some.injEq]
    omega
theorem own_sto {w w' : World} {base : Nat} {e : TypeId} {sz : Nat} {v : Value} {n b : Nat} {xs : List Value} (h : w.ownsRow base e sz v n xs) (s : Stored b w w') (hb : v.ownBlock ≠ some b) : w'.ownsRow base e sz v n xs := h.kept (grown_of_stored s) (.inr hb)
theorem Var.sto {w w' : World} {g b : Nat} {cs : List Value} (h : Var w g cs) (s : Stored b w w') (hb : g ≠ b) : Var w' g cs := by
  obtain ⟨t, h⟩ := h
  exact ⟨t, by rw [s.block g hb]; exact h⟩
theorem Var.grown {w w' : World} {g : Nat} {row : Option Nat} {cs : List Value} (h : Var w g cs) (s : w.grownBy w' row) (hb : some g ≠ row) : Var w' g cs := by
  have hlt := h.lt
  obtain ⟨t, h⟩ := h
  exact ⟨t, by rw [s.block g hlt hb]; exact h⟩
/-- The cells of a list of entries. -/
def entC (es : List Ent) : List Value := (es.map fun a => [.int .i64 a.1, .int .i64 a.2]).flatten
theorem entC_app (es : List Ent) (a : Ent) : entC (es ++ [a]) = entC es ++ [.int .i64 a.1, .int .i64 a.2] := by simp [entC]
theorem entC_at : ∀ (es : List Ent) (j : Nat) (x : Ent), es[j]? = some x → (entC es)[j * 2]? = some (.int .i64 x.1) ∧ (entC es)[j * 2 + 1]? = some (.int .i64 x.2)
  | [], j, x, h => by simp at h
  | a :: es, 0, x, h => by
    simp only [List.getElem?_cons_zero, Option.some.injEq] at h
    subst h
    exact ⟨rfl, rfl⟩
  | a :: es, j + 1, x, h => by
    have := entC_at es j x (by simpa using h)
    rw [show (j + 1) * 2 = j * 2 + 1 + 1 by omega]
    exact this
theorem entC_len (es : List Ent) : (entC es).length = es.length * 2 := by
  induction es with
  | nil => rfl
  | cons a es ih => simp only [entC, List.map_cons, List.flatten_cons, List.length_append, List.length_cons, List.length_nil] at ih ⊢; omega
theorem ents_own {w : World} {base : Nat} {v : Value} {es : List Ent} (h : w.ownsRow base 44 2 v es.length (entC es)) (hi : ∀ j, j < es.length → okAt es j = true) : EntAt w v es := by
  rcases h.2 with ⟨h1, h2⟩ | ⟨g, cap, cur, h1, _, h3, h4, _, _, h7⟩
  · subst h1
    exact ⟨none, 0, by rw [h2], by omega, fun j x hj => by have := (List.getElem?_eq_some_iff.1 hj).1; omega⟩
  · refine ⟨_, cap, h1, h4, fun j x hj => ?_⟩
    have hx := ok_ents hi hj
    have hlt := (List.getElem?_eq_some_iff.1 hj).1
    have hc := entC_at es j x hj
    have key : ∀ q u, q < es.length * 2 → (entC es)[q]? = some u → w.cell? ⟨g, 0 + q, none⟩ = some u := fun q u hq hu => by
      rw [Nat.zero_add, cell_of_row w g q _ _ _ h3]
      rw [← h7, List.getElem?_take_of_lt hq] at hu
      simpa using hu
    refine ⟨by unfold I64; omega, by unfold I64; omega, g, 0, rfl, key _ _ (by omega) hc.1, ?_⟩
    have := key _ _ (by omega) hc.2
    rwa [← Nat.add_assoc] at this
theorem ents_calm {es : List Ent} (h : ∀ j, j < es.length → okAt es j = true) : Calm es := fun a ha => by
  have := (ok_ents h ha).2
  omega
/-! ### Lists of ints -/
def IntsAt (w : World) (v : Value) (l : List Int) : Prop :=
  ∃ a c, v = .slice a l.length c ∧ l.length ≤ c ∧ ∀ j x, l[j]? = some x → I64 x ∧ ∃ b off, a = some ⟨b, off, none⟩ ∧ w.cell? ⟨b, off + j, none⟩ = some (.int .i64 x)
theorem IntsAt.later {w w' : World} {v : Value} {l : List Int} (h : IntsAt w v l) (k : Later w w') : IntsAt w' v l := by
  obtain ⟨a, c, h1, h2, h3⟩ := h
  refine ⟨a, c, h1, h2, fun j x hj => ?_⟩
  obtain ⟨i1, b, off, e, q⟩ := h3 j x hj
  exact ⟨i1, b, off, e, (World.cell?_of_block (k.block b (World.block_lt_of_cell? w _ q))).trans q⟩
theorem IntsAt.form {w : World} {v : Value} {l : List Int} (h : IntsAt w v l) : ∃ a c, v = .slice a l.length c := by
  obtain ⟨a, c, h1, _⟩ := h
  exact ⟨a, c, h1⟩
end Go.Proofs.Ytnjolcmclcengaa
