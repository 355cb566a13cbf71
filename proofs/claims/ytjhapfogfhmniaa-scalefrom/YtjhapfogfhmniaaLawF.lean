/-
 What is left behind a statement that lays two struct variables, in whatever order: worlds, no program. No conditions.
-/
import Derived.Test.YtjhapfogfhmniaaRefI
namespace Go.Proofs.Ytjhapfogfhmniaa
open Go.RowKit

theorem BigIs.alloc {n : Nat} {w : World} {s : Value} {z : Int} (h : BigIs n w s z) (o : Obj) : BigIs n (w.alloc o) s z := h.later ((Below.refl _ _).alloc (Nat.le_refl _) o)
theorem Two.set {w : World} {b : Nat} {u v : Value} (h : Two w b u v) (x y : Value) : Two ((w.setCell ⟨b, 0, none⟩ x).setCell ⟨b, 1, none⟩ y) b x y := by
 obtain ⟨h1, h2, h3, h4⟩ := h
 refine ⟨?_, ?_, by rw [World.frozen?_setCell, World.frozen?_setCell]; exact h3, by rw [World.frozen?_setCell, World.frozen?_setCell]; exact h4⟩
 ·rw [World.cell?_setCell_other _ _ _ _ (by simp), World.cell?_setCell_same _ _ _ h1]
 ·rw [World.cell?_setCell_same (w := w.setCell ⟨b, 0, none⟩ x) (a := ⟨b, 1, none⟩) (u := v) (h := by rw [World.cell?_setCell_other _ _ _ _ (by simp)]; exact h2)]
theorem Two.alloc {w : World} {b : Nat} {u v : Value} (h : Two w b u v) (o : Obj) : Two (w.alloc o) b u v := (two_later ((Below.refl _ _).alloc (Nat.le_refl _) o) h).1
theorem Two.new (w : World) (u v : Value) (t : TypeId) : Two (w.alloc (.cells #[u, v] t)) w.heap.size u v := ⟨by simp [go_sem], by simp [go_sem], by simp [go_sem], by simp [go_sem]⟩
theorem Two.lt {w : World} {b : Nat} {u v : Value} (h : Two w b u v) : b < w.heap.size := World.block_lt_of_cell? _ _ h.1

section
variable {w : World} {A B : Nat} {x0 x1 y0 y1 : Value} {t : TypeId}
end
end Go.Proofs.Ytjhapfogfhmniaa
