/-
  The contract of the reference numbers' Wide: a number as a Wide, if it fits. No conditions beside the memory's own.
-/
import Derived.Test.YtnjolcmclcengaaRefK
namespace Go.Proofs.Ytnjolcmclcengaa
open Go.RowKit

theorem canon8 {ds : List Int} (hd : Dig ds) (hc : Canon ds) (h : val ds < 340282366920938463463374607431768211456) : ds.length ≤ 8 := by
  by_cases g : ds = []
  · subst g; simp
  · have h1 := canon_low hd hc g
    by_cases h2 : ds.length ≤ 8
    · exact h2
    · exfalso
      have h3 : pw 8 ≤ pw (ds.length - 1) := pw_mono (by omega)
      have h4 : pw 8 = 340282366920938463463374607431768211456 := by decide
      omega
attribute [local go_sem ↓] Go.wp_at_zero Go.wp_at_succ

end Go.Proofs.Ytnjolcmclcengaa
