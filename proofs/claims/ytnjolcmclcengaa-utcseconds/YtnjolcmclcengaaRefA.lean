/-
  The contracts of the reference numbers' first functions: a slice that reads as digits; trim; cmp. No conditions beside the memory's own.
-/
import Derived.Test.YtnjolcmclcengaaRows
import Derived.Test.YtnjolcmclcengaaRefM
import Derived.WalkKit
import Derived.WalkSpells
import Derived.WalkLawsBesides
import Derived.Handy
import Derived.Deep.QuietTactic
import Derived.BigQuiet
import Derived.Deep.RegionHeld3
import Derived.Deep.AppendLies
namespace Go.Proofs.Ytnjolcmclcengaa
open Go.RowKit

/-- The slice value v reads, in w, as the numbers zs. -/
def Digs (w : World) (v : Value) (zs : List Int) : Prop :=
  ∃ (ao : Option Addr) (b off cap : Nat), v = .slice ao zs.length cap ∧ zs.length ≤ cap ∧ cap ≤ maxLen ∧ (ao = none ∧ cap = 0 ∨ ao = some ⟨b, off, none⟩) ∧
    ∀ j, j < zs.length → w.cell? ⟨b, off + j, none⟩ = some (.int .i64 (dg zs j))
theorem some_of {ao : Option Addr} {b off cap : Nat} (h : ao = none ∧ cap = 0 ∨ ao = some ⟨b, off, none⟩) (hc : 0 < cap) : ao = some ⟨b, off, none⟩ := by
  rcases h with h | h
  · omega
  · exact h
theorem Digs.later {w w' : World} {v : Value} {zs : List Int} (h : Digs w v zs) (hb : Below w.heap.size w w') : Digs w' v zs := by
  obtain ⟨ao, b, off, cap, h1, h2, h3, h4, h5⟩ := h
  exact ⟨ao, b, off, cap, h1, h2, h3, h4, fun j hj => cell_later hb (h5 j hj)⟩



/-- No number. -/
def NoInt (u : Value) : Prop := ∀ n, u ≠ .int .i64 n
theorem noInt_bool (b : Bool) : NoInt (.bool b) := fun n h => by cases h
theorem noInt_slice (a : Option Addr) (l c : Nat) : NoInt (.slice a l c) := fun n h => by cases h
theorem Digs.form {w : World} {v : Value} {zs : List Int} (h : Digs w v zs) : ∃ a c, v = .slice a zs.length c := by
  obtain ⟨ao, b, off, cap, rfl, _⟩ := h
  exact ⟨_, _, rfl⟩
theorem Digs.noInt {w : World} {v : Value} {zs : List Int} (h : Digs w v zs) : NoInt v := by
  obtain ⟨ao, b, off, cap, rfl, _⟩ := h
  exact noInt_slice _ _ _
/-- A store into a cell that holds no number leaves all digits as they are. -/
theorem Digs.store {w : World} {v : Value} {zs : List Int} (h : Digs w v zs) {a : Addr} {u : Value} (hu : w.cell? a = some u) (hn : NoInt u) (x : Value) : Digs (w.setCell a x) v zs := by
  obtain ⟨ao, b, off, cap, h1, h2, h3, h4, h5⟩ := h
  refine ⟨ao, b, off, cap, h1, h2, h3, h4, fun j hj => ?_⟩
  rw [World.cell?_setCell_other]
  · exact h5 j hj
  · intro e
    rw [e, h5 j hj] at hu
    exact hn _ (by injection hu with hu; exact hu.symm)

end Go.Proofs.Ytnjolcmclcengaa
