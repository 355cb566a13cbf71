/-
  The walks of the laws LexLines and LexJoins of layer 10. Of texts and lists of no more than 2^20 bytes.
-/
import Derived.Test.YthjgilocbfhffaaDoorLexB
namespace Go.Proofs.YthjgilocbfhffaaDoor
open Go.RowKit
set_option maxRecDepth 100000

/-- A slice that holds these texts. -/
def StrAt (w : World) (a : Option Addr) (L : List (List UInt8)) : Prop := ∀ j x, L[j]? = some x → ∃ b off, a = some ⟨b, off, none⟩ ∧ w.cell? ⟨b, off + j, none⟩ = some (.string ⟨⟨x⟩⟩)
theorem StrAt.later {w w' : World} {a : Option Addr} {L : List (List UInt8)} (h : StrAt w a L) (l : Later w w') : StrAt w' a L := fun j x hj => by
  obtain ⟨b, off, h1, h2⟩ := h j x hj
  exact ⟨b, off, h1, (World.cell?_of_block (l.block b (World.block_lt_of_cell? w _ h2))).trans h2⟩
theorem own_strs {w : World} {base : Nat} {e : TypeId} {v : Value} {L : List (List UInt8)} (h : w.ownsRow base e 1 v L.length (strsV L)) : ∃ a c, v = .slice a L.length c ∧ StrAt w a L := by
  by_cases h0 : 0 < L.length
  · obtain ⟨g, cap, cs, rfl, _, hv, ht⟩ := own_row h h0
    refine ⟨_, _, rfl, fun j x hj => ⟨g, 0, rfl, ?_⟩⟩
    obtain ⟨t, hg⟩ := hv
    have hlt := (List.getElem?_eq_some_iff.1 hj).1
    rw [Nat.zero_add, cell_of_row w g j _ t (0, 0) hg]
    have : (strsV L)[j]? = some (.string ⟨⟨x⟩⟩) := by simp [strsV, hj]
    rw [← ht, List.getElem?_take_of_lt hlt] at this
    simpa using this
  · obtain ⟨a, c, rfl⟩ := own_slice h
    refine ⟨a, c, rfl, fun j x hj => ?_⟩
    have hlt := (List.getElem?_eq_some_iff.1 hj).1
    omega
theorem get_line {L : List (List UInt8)} {i : Nat} (h : i < L.length) : ∃ x, L[i]? = some x := ⟨L[i], List.getElem?_eq_getElem h⟩
theorem join_take : ∀ (L : List (List UInt8)) (i : Nat), (joinL (L.take i)).length ≤ (joinL L).length
  | [], i => by simp
  | x :: L, 0 => Nat.zero_le _
  | x :: L, i + 1 => by
    have := join_take L i
    rw [List.take_succ_cons, joinL, joinL]
    simp; omega
theorem join_len : ∀ L : List (List UInt8), L.length ≤ (joinL L).length
  | [] => Nat.le_refl _
  | x :: L => by have := join_len L; rw [joinL]; simp; omega
theorem join_mem {x : List UInt8} : ∀ {L : List (List UInt8)} {i : Nat}, L[i]? = some x → x.length ≤ (joinL L).length
  | [], i, h => by simp at h
  | y :: L, 0, h => by simp at h; subst h; rw [joinL]; simp
  | y :: L, i + 1, h => by have := join_mem (by simpa using h); rw [joinL]; simp; omega
theorem join_succ {L : List (List UInt8)} {i : Nat} {x : List UInt8} (h : L[i]? = some x) : joinL (L.take i) ++ x ++ [10] = joinL (L.take (i + 1)) := by
  rw [List.take_add_one, h, join_app]; simp [joinL]
theorem lines_take {L : List (List UInt8)} {x : List UInt8} (hx : L[L.length - 1]? = some x) (h0 : x ≠ []) (hall : ∀ y ∈ L, y.all no10 = true) : linesL ((joinL L).take ((joinL L).length - 1)) = L := by
  have hlt := (List.getElem?_eq_some_iff.1 hx).1
  have e1 : L = L.take (L.length - 1) ++ [x] := by
    have := List.take_add_one (l := L) (i := L.length - 1)
    rw [hx, show L.length - 1 + 1 = L.length by omega, List.take_length] at this
    exact this
  obtain ⟨I, hI⟩ : ∃ I, I = L.take (L.length - 1) := ⟨_, rfl⟩
  rw [← hI] at e1
  have hxa : x.all no10 = true := hall x (List.mem_of_getElem? hx)
  have hIa : ∀ y ∈ I, y.all no10 = true := fun y hy => hall y (by rw [e1]; simp [hy])
  clear hx hlt hall hI
  subst e1
  have e2 : joinL (I ++ [x]) = (joinL I ++ x) ++ [10] := by rw [join_app]; simp [joinL]
  rw [e2]
  have e3 : ((joinL I ++ x) ++ [10]).take (((joinL I ++ x) ++ [10]).length - 1) = joinL I ++ x := by
    rw [List.length_append, List.length_singleton, Nat.add_sub_cancel, List.take_left']
    rfl
  rw [e3, lines_join _ hIa, lines_one hxa h0]
theorem all_next {L : List (List UInt8)} {i : Nat} {x : List UInt8} (h : ∀ y ∈ L.take i, y.all no10 = true) (hx : L[i]? = some x) (hxa : x.all no10 = true) : ∀ y ∈ L.take (i + 1), y.all no10 = true := fun y hy => by
  rw [List.take_add_one, hx, List.mem_append] at hy
  rcases hy with hy | hy
  · exact h y hy
  · simp at hy; subst hy; exact hxa
end Go.Proofs.YthjgilocbfhffaaDoor
