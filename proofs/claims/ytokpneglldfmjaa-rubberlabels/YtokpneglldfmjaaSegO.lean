/-
  How a list of segments lies in memory. No conditions.
-/
import Derived.Test.YtokpneglldfmjaaSegA
import Derived.Test.YtokpneglldfmjaaRowX
namespace Go.Proofs.Ytokpneglldfmjaa
open Go.RowKit
set_option maxRecDepth 100000

def sgV (s : Sg) : Value := .agg #[.int .i64 s.d, .int .i64 s.b, .int .i64 s.f, .int .i64 s.r]
def Sg64 (s : Sg) : Prop := I64 s.d ∧ I64 s.b ∧ I64 s.f ∧ I64 s.r
def SegAt (w : World) (v : Value) (l : List Sg) : Prop :=
  ∃ a c, v = .slice a l.length c ∧ l.length ≤ c ∧ ∀ j x, l[j]? = some x → Sg64 x ∧ ∃ b off, a = some ⟨b, off, none⟩ ∧ w.cell? ⟨b, off + j * 4, none⟩ = some (.int .i64 x.d) ∧ w.cell? ⟨b, off + j * 4 + 1, none⟩ = some (.int .i64 x.b) ∧ w.cell? ⟨b, off + j * 4 + 2, none⟩ = some (.int .i64 x.f) ∧ w.cell? ⟨b, off + j * 4 + 3, none⟩ = some (.int .i64 x.r)
theorem SegAt.later {w w' : World} {v : Value} {l : List Sg} (h : SegAt w v l) (g : Later w w') : SegAt w' v l := by
  obtain ⟨a, c, h1, h2, h3⟩ := h
  refine ⟨a, c, h1, h2, fun j x hj => ?_⟩
  obtain ⟨i1, b, off, e, k1, k2, k3, k4⟩ := h3 j x hj
  exact ⟨i1, b, off, e, cell_later g k1, cell_later g k2, cell_later g k3, cell_later g k4⟩
theorem SegAt.nil (w : World) : SegAt w (.slice none 0 0) [] := ⟨none, 0, rfl, Nat.le_refl _, fun j x hj => by simp at hj⟩
theorem SegAt.form {w : World} {v : Value} {l : List Sg} (h : SegAt w v l) : ∃ a c, v = .slice a l.length c := by
  obtain ⟨a, c, h1, _⟩ := h
  exact ⟨a, c, h1⟩
theorem SegAt.all {w : World} {v : Value} {l : List Sg} (h : SegAt w v l) {j : Nat} {x : Sg} (hx : l[j]? = some x) : Sg64 x := by
  obtain ⟨a, c, _, _, h3⟩ := h
  exact (h3 j x hx).1
theorem seg_at {w : World} {a : Option Addr} {c0 : Nat} {l : List Sg} (hv : SegAt w (.slice a l.length c0) l) (h0 : 0 < l.length) : ∃ ab ao, a = some ⟨ab, ao, none⟩ ∧ ∀ j x, l[j]? = some x → w.cell? ⟨ab, ao + j * 4, none⟩ = some (.int .i64 x.d) ∧ w.cell? ⟨ab, ao + j * 4 + 1, none⟩ = some (.int .i64 x.b) ∧ w.cell? ⟨ab, ao + j * 4 + 2, none⟩ = some (.int .i64 x.f) ∧ w.cell? ⟨ab, ao + j * 4 + 3, none⟩ = some (.int .i64 x.r) := by
  obtain ⟨a', c', h1, h2, h3⟩ := hv
  cases h1
  obtain ⟨x, hx⟩ : ∃ x, l[0]? = some x := ⟨_, List.getElem?_eq_getElem h0⟩
  obtain ⟨_, b, off, e, _⟩ := h3 0 x hx
  refine ⟨b, off, e, fun j y hy => ?_⟩
  obtain ⟨_, b', off', e', k⟩ := h3 j y hy
  rw [e] at e'
  cases e'
  exact k
/-- The cells of a list of segments. -/
def segC (l : List Sg) : List Value := (l.map fun s => [.int .i64 s.d, .int .i64 s.b, .int .i64 s.f, .int .i64 s.r]).flatten
theorem segC_app (l : List Sg) (s : Sg) : segC (l ++ [s]) = segC l ++ [.int .i64 s.d, .int .i64 s.b, .int .i64 s.f, .int .i64 s.r] := by simp [segC]
theorem segC_at : ∀ (l : List Sg) (j : Nat) (x : Sg), l[j]? = some x → (segC l)[j * 4]? = some (.int .i64 x.d) ∧ (segC l)[j * 4 + 1]? = some (.int .i64 x.b) ∧ (segC l)[j * 4 + 2]? = some (.int .i64 x.f) ∧ (segC l)[j * 4 + 3]? = some (.int .i64 x.r)
  | [], j, x, h => by simp at h
  | a :: l, 0, x, h => by
    simp only [List.getElem?_cons_zero, Option.some.injEq] at h
    subst h
    exact ⟨rfl, rfl, rfl, rfl⟩
  | a :: l, j + 1, x, h => by
    have := segC_at l j x (by simpa using h)
    rw [show (j + 1) * 4 = j * 4 + 1 + 1 + 1 + 1 by omega]
    exact this
theorem segC_len (l : List Sg) : (segC l).length = l.length * 4 := by
  induction l with
  | nil => rfl
  | cons a l ih => simp only [segC, List.map_cons, List.flatten_cons, List.length_append, List.length_cons, List.length_nil] at ih ⊢; omega
theorem segC_one (l : List Sg) : (segC l).all (·.oneCell') = true := by
  induction l with
  | nil => rfl
  | cons a l ih => simp only [segC, List.map_cons, List.flatten_cons, List.all_append] at ih ⊢; rw [ih]; rfl
theorem seg_row {w : World} {g : Nat} {n c : Nat} {cs : List Value} {l : List Sg} (hv : Var w g cs) (hc : cs.take (n * 4) = segC l) (hn : l.length = n) (hnc : n ≤ c) (hi : ∀ (j : Nat) (x : Sg), l[j]? = some x → Sg64 x) : SegAt w (.slice (some ⟨g, 0, none⟩) n c) l := by
  subst hn
  refine ⟨_, _, rfl, hnc, fun j x hx => ⟨hi j x hx, g, 0, rfl, ?_⟩⟩
  have hl := (List.getElem?_eq_some_iff.1 hx).1
  have h := segC_at l j x hx
  rw [← hc] at h
  rw [List.getElem?_take_of_lt (by omega), List.getElem?_take_of_lt (by omega), List.getElem?_take_of_lt (by omega), List.getElem?_take_of_lt (by omega)] at h
  rw [Nat.zero_add, cell_var hv, cell_var hv, cell_var hv, cell_var hv]
  exact h
theorem segs_own {w : World} {base : Nat} {t : TypeId} {v : Value} {l : List Sg} (h : w.ownsRow base t 4 v l.length (segC l)) (hi : ∀ (j : Nat) (x : Sg), l[j]? = some x → Sg64 x) : SegAt w v l := by
  rcases Nat.eq_zero_or_pos l.length with q | q
  · obtain rfl : l = [] := List.eq_nil_of_length_eq_zero q
    obtain ⟨a, c, rfl⟩ := own_sliceK h
    exact ⟨a, c, rfl, Nat.zero_le _, fun j x hx => by simp at hx⟩
  · obtain ⟨g, cap, cs, rfl, _, hrow, hic, _, hct, _⟩ := own_rowK h q
    exact seg_row hrow.var hct rfl hic hi
end Go.Proofs.Ytokpneglldfmjaa
