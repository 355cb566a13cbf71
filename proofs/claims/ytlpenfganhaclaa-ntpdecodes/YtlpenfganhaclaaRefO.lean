/-
  The contract of the reference Div for a dividend of either sign (the divisor is above 0); eqI of equal numbers. No conditions.
-/
import Derived.Test.YtlpenfganhaclaaRefN
namespace Go.Proofs.Ytlpenfganhaclaa
open Go.RowKit

theorem bdiv_any {n m : Nat} {a a' : Option Addr} {l l' c c' : Nat} {x y : Int} {w : World} (ha : BigIs n w (.slice a l c) x) (hb : BigIs m w (.slice a' l' c') y) (hy0 : 0 < y) (hn : n ≤ 100000) (hm : m ≤ 100000) :
    Calls Try.prog 52 #[.agg #[.bool (sg x), .slice a l c], .agg #[.bool (sg y), .slice a' l' c']] w fun e w' =>
      ∃ b k d b' k' d', e = .returned (.tuple #[.agg #[.bool (sg (x / y)), .slice b k d], .agg #[.bool (sg (x % y)), .slice b' k' d']]) ∧ BigIs (max n 4 + 1) w' (.slice b k d) (x / y) ∧ BigIs (m + 1) w' (.slice b' k' d') (x % y) ∧ Below w.heap.size w w' := by
  by_cases h : 0 ≤ x
  · refine (bdiv_pos ha hb h hy0 hn hm).mono ?_
    rintro e w1 ⟨b, k, d, b', k', d', he, h1, h2, h3⟩
    exact ⟨b, k, d, b', k', d', he, h1.wide (by omega), h2.wide (by omega), h3⟩
  · exact bdiv_neg ha hb (by omega) hy0 hn hm
theorem eqI_refl (z : Int) : eqI z z = true := by unfold eqI; simp
end Go.Proofs.Ytlpenfganhaclaa
