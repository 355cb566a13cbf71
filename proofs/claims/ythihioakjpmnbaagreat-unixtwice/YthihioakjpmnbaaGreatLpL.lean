/-
 Leap seconds: what the laws of layer 12 share, and the walk of LeapsNone.
-/
import Derived.Test.YthihioakjpmnbaaGreatLpE
import Derived.Test.YthihioakjpmnbaaGreatUtR
namespace Go.Proofs.YthihioakjpmnbaaGreat
open Go.RowKit
set_option maxRecDepth 100000

theorem cut_dec {p : Ent → Bool} {es : List Ent} {k : Nat} (hk : k ≤ es.length) (h : (List.range es.length).all (fun j => match es[j]? with | some e => p e == decide (j < k) | none => true) = true) : Cut p es k :=
 ⟨hk, fun j e he => by
  have hl := (List.getElem?_eq_some_iff.1 he).1
  have := List.all_eq_true.1 h j (by simpa using hl)
  rw [he] at this
  simpa using this⟩
theorem in0 : I64 0 := by unfold I64; decide
theorem EntAt.formL {w : World} {v : Value} {es : List Ent} (h : EntAt w v es) : ∃ a c, v = .slice a es.length c := by
 obtain ⟨a, c, h1, _⟩ := h
 exact ⟨a, c, h1⟩
end Go.Proofs.YthihioakjpmnbaaGreat
