/-
  What the proofs of the laws over fractions share: a fraction that is read as data, and read again. No conditions.
-/
import Derived.Test.YtklankodjjkhiaaRatC
import Derived.Test.YtklankodjjkhiaaWideP
namespace Go.Proofs.Ytklankodjjkhiaa
open Go.ChangeShapes Go.WideShapes Go.ChangeAt Go.RowKit Go.Joins

theorem Try.cellsRatio : Try.prog.cellsOf 26 = 4 := by kernel_rfl
theorem array_4 {cs : Array Value} (h : cs.size = 4) : ∃ a b c d, cs = #[a, b, c, d] := by
  obtain ⟨l⟩ := cs
  match l, h with
  | [a, b, c, d], _ => exact ⟨a, b, c, d, rfl⟩
theorem ratio_open {H : Type} {enc : TypeId × Value → H} {w : World} {base : Nat} {sp : Nat → Bool} {hd : Bool} {r : Reach} {b0 : Nat} {v : Value} {d : DataW H} {p : List MemPlace}
    (hv : Value.okWide Try.prog w r b0 26 v) (h : DataW.Trod enc Try.prog w base sp hd 26 v d p) :
    ∃ nh nl dh dl : Int, v = .agg #[.int .i64 nh, .int .u64 nl, .int .i64 dh, .int .u64 dl] ∧ d = .agg [.agg [.lit (.int .i64 nh), .lit (.int .u64 nl)], .agg [.lit (.int .i64 dh), .lit (.int .u64 dl)]] ∧ p = [] ∧
      (Lit.int .i64 nh).wf = true ∧ (Lit.int .u64 nl).wf = true ∧ (Lit.int .i64 dh).wf = true ∧ (Lit.int .u64 dl).wf = true := by
  obtain ⟨cs, rfl, hsz⟩ := okWide_struct Try.underlying26 hv
  obtain ⟨a, b, c, e, rfl⟩ := array_4 (hsz.trans Try.cellsRatio)
  obtain ⟨fuel, hf⟩ := h
  obtain ⟨y0, y1, n, hx, _, h0, h1⟩ := trod_struct2 Try.underlying26 hf
  simp only [Value.cells, Try.cellsWide] at h0 h1
  obtain ⟨z0, z1, m, hy0, _, k0, k1⟩ := trod_struct2 Try.underlying24 h0
  obtain ⟨z2, z3, m', hy1, _, k2, k3⟩ := trod_struct2 Try.underlying24 h1
  have c1 : Try.prog.cellsOf 2 = 1 := by kernel_rfl
  have c2 : Try.prog.cellsOf 22 = 1 := by kernel_rfl
  simp [c1, c2] at k0 k1 k2 k3
  obtain ⟨nh, e0, rfl, w0⟩ := DataW.trod_int Try.underlying2 k0
  obtain ⟨nl, e1, rfl, w1⟩ := DataW.trod_int Try.underlying22 k1
  obtain ⟨dh, e2, rfl, w2⟩ := DataW.trod_int Try.underlying2 k2
  obtain ⟨dl, e3, rfl, w3⟩ := DataW.trod_int Try.underlying22 k3
  simp at e0 e1 e2 e3
  subst e0 e1 e2 e3 hy0 hy1
  simp at hx
  exact ⟨nh, nl, dh, dl, rfl, hx.1, hx.2, w0, w1, w2, w3⟩
theorem ratio_reads {H : Type} {enc : TypeId × Value → H} {W' : World} {base : Nat} {sp : Nat → Bool} {hd : Bool} {nh nl dh dl : Int} (w0 : (Lit.int .i64 nh).wf = true) (w1 : (Lit.int .u64 nl).wf = true) (w2 : (Lit.int .i64 dh).wf = true) (w3 : (Lit.int .u64 dl).wf = true) :
    DataW.Trod enc Try.prog W' base sp hd 26 (.agg #[.int .i64 nh, .int .u64 nl, .int .i64 dh, .int .u64 dl]) (.agg [.agg [.lit (.int .i64 nh), .lit (.int .u64 nl)], .agg [.lit (.int .i64 dh), .lit (.int .u64 dl)]]) [] := by
  have c1 : Try.prog.cellsOf 2 = 1 := by kernel_rfl
  have c2 : Try.prog.cellsOf 22 = 1 := by kernel_rfl
  have a0 : DataW.trod enc Try.prog W' base sp hd 2 24 [.int .i64 nh, .int .u64 nl] = some (.agg [.lit (.int .i64 nh), .lit (.int .u64 nl)], []) :=
    trod_struct2_mk (n := 1) (y0 := (.lit (.int .i64 nh), [])) (y1 := (.lit (.int .u64 nl), [])) Try.underlying24 (by simp [Try.cellsWide]) (by simpa [c1] using trod_int_mk 0 Try.underlying2 w0) (by simpa [c2] using trod_int_mk 0 Try.underlying22 w1)
  have a1 : DataW.trod enc Try.prog W' base sp hd 2 24 [.int .i64 dh, .int .u64 dl] = some (.agg [.lit (.int .i64 dh), .lit (.int .u64 dl)], []) :=
    trod_struct2_mk (n := 1) (y0 := (.lit (.int .i64 dh), [])) (y1 := (.lit (.int .u64 dl), [])) Try.underlying24 (by simp [Try.cellsWide]) (by simpa [c1] using trod_int_mk 0 Try.underlying2 w2) (by simpa [c2] using trod_int_mk 0 Try.underlying22 w3)
  exact ⟨3, trod_struct2_mk (n := 2) (y0 := (.agg [.lit (.int .i64 nh), .lit (.int .u64 nl)], [])) (y1 := (.agg [.lit (.int .i64 dh), .lit (.int .u64 dl)], [])) Try.underlying26 (by simp [Value.cells, Try.cellsRatio]) (by simpa [Value.cells, Try.cellsWide] using a0) (by simpa [Value.cells, Try.cellsWide] using a1)⟩
theorem ratio_of_wf {nh nl dh dl : Int} (w0 : (Lit.int .i64 nh).wf = true) (w1 : (Lit.int .u64 nl).wf = true) (w2 : (Lit.int .i64 dh).wf = true) (w3 : (Lit.int .u64 dl).wf = true) :
    IsR (nh * 18446744073709551616 + nl) (dh * 18446744073709551616 + dl) (.agg #[.int .i64 nh, .int .u64 nl, .int .i64 dh, .int .u64 dl]) := ⟨_, _, _, _, rfl, wide_of_wf w0 w1, wide_of_wf w2 w3⟩
end Go.Proofs.Ytklankodjjkhiaa
