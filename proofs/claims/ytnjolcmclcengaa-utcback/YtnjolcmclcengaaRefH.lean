/-
  The contracts of the reference numbers' trim, told more closely, and digit: the greatest digit with which the divisor is not more than what is left. No conditions beside the memory's own.
-/
import Derived.Test.YtnjolcmclcengaaRefF
namespace Go.Proofs.Ytnjolcmclcengaa
open Go.RowKit

/-- A store into another block leaves the digits as they are. -/
theorem Digs.apart {w : World} {g off l c : Nat} {zs : List Int} (h : Digs w (.slice (some ⟨g, off, none⟩) l c) zs) {r o : Nat} (hn : g ≠ r) (x : Value) : Digs (w.setCell ⟨r, o, none⟩ x) (.slice (some ⟨g, off, none⟩) l c) zs := by
  obtain ⟨ao, b, off', cap, h1, h2, h3, h4, h5⟩ := h
  refine ⟨ao, b, off', cap, h1, h2, h3, h4, fun j hj => ?_⟩
  have e : ao = some ⟨g, off, none⟩ := by simp at h1; exact h1.1.symm
  have eb : b = g := by
    rcases h4 with h4 | h4
    · rw [h4.1] at e; cases e
    · rw [h4] at e; simp at e; exact e.1
  rw [World.cell?_setCell_other _ _ _ _ (fun e => hn (by have := congrArg Addr.block e; simp at this; omega))]
  exact h5 j hj


theorem Digs.big {w : World} {v : Value} {zs : List Int} (h : Digs w v zs) (hd : Dig zs) (hc : Canon zs) : BigIs zs.length w v (val zs) := ⟨zs, h, hd, hc, Nat.le_refl _, by rw [ab_pos (val_range hd).1]⟩

end Go.Proofs.Ytnjolcmclcengaa
