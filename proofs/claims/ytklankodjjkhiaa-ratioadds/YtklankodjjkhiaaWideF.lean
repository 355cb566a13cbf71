/-
  The contracts of wide.MulDiv and wide.Div: a product by a number above 0, rounded down, and what is left, or why there is none (P2.3, P2.4). No conditions.
-/
import Derived.Test.YtklankodjjkhiaaWideF1
import Derived.Test.YtklankodjjkhiaaWideF2
import Derived.Test.YtklankodjjkhiaaWideF3
import Derived.Test.YtklankodjjkhiaaWideF4
import Derived.Deep.DeepCutAuto
namespace Go.Proofs.Ytklankodjjkhiaa
open Go.RowKit

theorem wmuldiv_any {ah al bh bl dh dl a b d : Int} (ha : WideIs ah al a) (hb : WideIs bh bl b) (hd : WideIs dh dl d) (h0 : 0 < d) (w : World) :
    Calls Try.prog 43 #[.agg #[.int .i64 ah, .int .u64 al], .agg #[.int .i64 bh, .int .u64 bl], .agg #[.int .i64 dh, .int .u64 dl]] w fun e w' => ∃ qh ql rh rl : Int, WideIs qh ql (fitV (a * b / d)) ∧ WideIs rh rl (fitR (a * b / d) (a * b % d)) ∧ e = .returned (.tuple #[.agg #[.int .i64 qh, .int .u64 ql], .agg #[.int .i64 rh, .int .u64 rl], .int .i64 (fitE (a * b / d))]) ∧ Below w.heap.size w w' := by
  by_cases g0 : d ≤ ab a * ab b / 340282366920938463463374607431768211456
  · exact wmuldiv_no ha hb hd h0 g0 w
  by_cases hs : sg a = sg b
  · exact wmuldiv_like ha hb hd h0 (by omega) hs w
  by_cases hr : ab a * ab b % d = 0
  · exact wmuldiv_even ha hb hd h0 (by omega) hs hr w
  · exact wmuldiv_odd ha hb hd h0 (by omega) hs hr w
end Go.Proofs.Ytklankodjjkhiaa
