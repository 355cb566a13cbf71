/-
  What the proofs of laws over plain numbers and texts share. No conditions.
-/
import Derived.Test.YtpglfepkbkfgoaaDoorRows
import Derived.ProofKit
import Derived.Lib.SmallJoins
namespace Go.Proofs.YtpglfepkbkfgoaaDoor
open Go.ChangeShapes Go.WideShapes Go.ChangeAt Go.RowKit Go.Joins

theorem num_of_wf {k : IntKind} {n : Int} (wn : (Lit.int k n).wf = true) (hk : k.signed = false := by decide) : 0 ≤ n := by
  simp only [Lit.wf, Bool.and_eq_true, decide_eq_true_eq] at wn
  have h : k.min = 0 := by cases k <;> first | rfl | cases hk
  omega
theorem text_small {H : Type} {s : ChangeSpec} {t : List UInt8} (hcond : ∀ k, (Rows.OpenSpec.upto s).cond = some k → k H ([DataW.lit (.string t)] ++ []) = true) : t.length ≤ 1048576 := by
  have h := of_decide_eq_true (hcond _ rfl)
  simp only [List.append_nil, Rows.uptoBulkAll, Rows.uptoBulk] at h
  omega
end Go.Proofs.YtpglfepkbkfgoaaDoor
