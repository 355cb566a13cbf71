/-
  What is left behind a statement that lays two struct variables, in whatever order: worlds, no program. No conditions.
-/
import Derived.Test.YtlpenfganhaclaaRefI
namespace Go.Proofs.Ytlpenfganhaclaa
open Go.RowKit

theorem BigIs.set1 {n : Nat} {w : World} {s : Value} {z : Int} (h : BigIs n w s z) {a : Addr} {u : Value} (h1 : w.cell? a = some u) (h2 : NoInt u) (x : Value) : BigIs n (w.setCell a x) s z := by
  obtain ⟨ds, h3, h4⟩ := h
  exact ⟨ds, h3.store h1 h2 x, h4⟩
theorem BigIs.alloc {n : Nat} {w : World} {s : Value} {z : Int} (h : BigIs n w s z) (o : Obj) : BigIs n (w.alloc o) s z := h.later ((Below.refl _ _).alloc (Nat.le_refl _) o)
theorem Two.set {w : World} {b : Nat} {u v : Value} (h : Two w b u v) (x y : Value) : Two ((w.setCell ⟨b, 0, none⟩ x).setCell ⟨b, 1, none⟩ y) b x y := by
  obtain ⟨h1, h2, h3, h4⟩ := h
  refine ⟨?_, ?_, by rw [World.frozen?_setCell, World.frozen?_setCell]; exact h3, by rw [World.frozen?_setCell, World.frozen?_setCell]; exact h4⟩
  · rw [World.cell?_setCell_other _ _ _ _ (by simp), World.cell?_setCell_same _ _ _ h1]
  · rw [World.cell?_setCell_same (w := w.setCell ⟨b, 0, none⟩ x) (a := ⟨b, 1, none⟩) (u := v) (h := by rw [World.cell?_setCell_other _ _ _ _ (by simp)]; exact h2)]
theorem Two.alloc {w : World} {b : Nat} {u v : Value} (h : Two w b u v) (o : Obj) : Two (w.alloc o) b u v := (two_later ((Below.refl _ _).alloc (Nat.le_refl _) o) h).1
theorem Two.new (w : World) (u v : Value) (t : TypeId) : Two (w.alloc (.cells #[u, v] t)) w.heap.size u v := ⟨by simp [go_sem], by simp [go_sem], by simp [go_sem], by simp [go_sem]⟩
theorem Two.lt {w : World} {b : Nat} {u v : Value} (h : Two w b u v) : b < w.heap.size := World.block_lt_of_cell? _ _ h.1

/-- The variable of block A holds x0, x1, that of B y0, y1; numbers that were there are there. -/
def Fin2 (w wc : World) (A B : Nat) (x0 x1 y0 y1 : Value) : Prop := Two wc A x0 x1 ∧ Two wc B y0 y1 ∧ ∀ n s z, BigIs n w s z → BigIs n wc s z
section
variable {w : World} {A B : Nat} {x0 x1 y0 y1 : Value} {t : TypeId}
theorem BigIs.set2 {n : Nat} {s : Value} {z : Int} (h : BigIs n w s z) (hA : Two w A (.bool false) (.slice none 0 0)) : BigIs n ((w.setCell ⟨A, 0, none⟩ x0).setCell ⟨A, 1, none⟩ x1) s z := h.put hA (noInt_bool _) (noInt_slice _ _ _) _ _
theorem fin_bb (hA : Two w A (.bool false) (.slice none 0 0)) (hB : Two w B (.bool false) (.slice none 0 0)) (hne : A ≠ B) :
    Fin2 w ((((w.setCell ⟨A, 0, none⟩ x0).setCell ⟨A, 1, none⟩ x1).setCell ⟨B, 0, none⟩ y0).setCell ⟨B, 1, none⟩ y1) A B x0 x1 y0 y1 :=
  ⟨((hA.set x0 x1).other hne).other hne, ((hB.other (Ne.symm hne)).other (Ne.symm hne)).set y0 y1, fun _ _ _ h => (h.set2 hA).set2 ((hB.other (Ne.symm hne)).other (Ne.symm hne))⟩
theorem fin_ab (hA : Two w A (.bool false) (.slice none 0 0)) : Fin2 w (((w.setCell ⟨A, 0, none⟩ x0).setCell ⟨A, 1, none⟩ x1).alloc (.cells #[y0, y1] t)) A w.heap.size x0 x1 y0 y1 :=
  ⟨(hA.set x0 x1).alloc _, by have h := Two.new ((w.setCell ⟨A, 0, none⟩ x0).setCell ⟨A, 1, none⟩ x1) y0 y1 t; simp only [World.size_setCell] at h; exact h, fun _ _ _ h => (h.set2 hA).alloc _⟩
theorem fin_ba (hB : Two w B (.bool false) (.slice none 0 0)) : Fin2 w (((w.setCell ⟨B, 0, none⟩ y0).setCell ⟨B, 1, none⟩ y1).alloc (.cells #[x0, x1] t)) w.heap.size B x0 x1 y0 y1 :=
  ⟨by have h := Two.new ((w.setCell ⟨B, 0, none⟩ y0).setCell ⟨B, 1, none⟩ y1) x0 x1 t; simp only [World.size_setCell] at h; exact h, (hB.set y0 y1).alloc _, fun _ _ _ h => (h.set2 hB).alloc _⟩
theorem fin_aa : Fin2 w ((w.alloc (.cells #[x0, x1] t)).alloc (.cells #[y0, y1] t)) w.heap.size (w.heap.size + 1) x0 x1 y0 y1 :=
  ⟨(Two.new w x0 x1 t).alloc _, by have h := Two.new (w.alloc (.cells #[x0, x1] t)) y0 y1 t; simp only [World.size_alloc] at h; exact h, fun _ _ _ h => (h.alloc _).alloc _⟩
theorem fin_aa' : Fin2 w ((w.alloc (.cells #[y0, y1] t)).alloc (.cells #[x0, x1] t)) (w.heap.size + 1) w.heap.size x0 x1 y0 y1 :=
  ⟨by have h := Two.new (w.alloc (.cells #[y0, y1] t)) x0 x1 t; simp only [World.size_alloc] at h; exact h, (Two.new w y0 y1 t).alloc _, fun _ _ _ h => (h.alloc _).alloc _⟩
end
/-- From there to what a cut asks. -/
theorem Fin2.meets {w0 w wc : World} {A B n m l c l' c' : Nat} {a a' : Option Addr} {x y : Int} (f : Fin2 w wc A B (.bool (sg x)) (.slice a l c) (.bool (sg y)) (.slice a' l' c'))
    (hx : Hid (BigIs n w (.slice a l c) x)) (hy : Hid (BigIs m w (.slice a' l' c') y)) (hb : Below w0.heap.size w0 wc) (hA : w0.heap.size ≤ A) (hB : w0.heap.size ≤ B) (hne : A ≠ B) :
    Hid (Two wc A (.bool (sg x)) (.slice a l c) ∧ Two wc B (.bool (sg y)) (.slice a' l' c') ∧ w0.heap.size ≤ A ∧ w0.heap.size ≤ B ∧ A ≠ B ∧ BigIs n wc (.slice a l c) x ∧ BigIs m wc (.slice a' l' c') y ∧ Below w0.heap.size w0 wc) :=
  ⟨f.1, f.2.1, hA, hB, hne, f.2.2 _ _ _ hx, f.2.2 _ _ _ hy, hb⟩
end Go.Proofs.Ytlpenfganhaclaa
