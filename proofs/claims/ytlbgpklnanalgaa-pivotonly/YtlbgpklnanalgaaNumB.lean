/-
  More contracts of wide (Sub, Neg, Int) and of the reference numbers (Sub, Neg), in the form of NumA. No conditions.
-/
import Derived.Test.YtlbgpklnanalgaaNumA
import Derived.Test.YtlbgpklnanalgaaVcX
namespace Go.Proofs.Ytlbgpklnanalgaa
open Go.RowKit
set_option maxRecDepth 100000

theorem c_rsub {n m : Nat} {x y : Int} {u v : Value} {w : World} (hu : IsBig n x u w) (hv : IsBig m y v w) (hn : n ≤ 10000000) (hm : m ≤ 10000000) :
    Calls Try.prog 15 #[u, v] w fun e w' => ∃ r, e = .returned r ∧ IsBig (max n m + 1) (x - y) r w' ∧ Below w.heap.size w w' := by
  obtain ⟨_, _, _, rfl, hu⟩ := hu
  obtain ⟨_, _, _, rfl, hv⟩ := hv
  refine (bsub_any hu hv (by omega) (by omega)).mono ?_
  rintro e w' ⟨b, k, d, rfl, h1, h2⟩
  exact ⟨_, rfl, ⟨_, _, _, rfl, h1⟩, h2⟩
theorem c_wsub {a b : Int} {u v : Value} (hu : IsW a u) (hv : IsW b v) (w : World) : Calls Try.prog 33 #[u, v] w fun e w' => ∃ r, e = .returned r ∧ (∃ s, r = .tuple #[s, .int .i64 (fitE (a - b))] ∧ IsW (fitV (a - b)) s) ∧ Below w.heap.size w w' := by
  obtain ⟨_, _, rfl, hu⟩ := hu
  obtain ⟨_, _, rfl, hv⟩ := hv
  refine (wsub_any hu hv w).mono ?_
  rintro e w' ⟨h, l, i, rfl, hb⟩
  exact ⟨_, rfl, ⟨_, rfl, ⟨_, _, rfl, i⟩⟩, hb⟩
theorem cmpI_low {x y : Int} : cmpI x y < 0 ↔ x < y := by unfold cmpI; split <;> (try split) <;> omega
theorem cmpI_le {x y : Int} : cmpI x y ≤ 0 ↔ x ≤ y := by unfold cmpI; split <;> (try split) <;> omega
theorem cmpI_in (x y : Int) : -1 ≤ cmpI x y ∧ cmpI x y ≤ 1 := by unfold cmpI; split <;> (try split) <;> omega
def intV (z : Int) : Int := if inI z = true then z else 0
def intE (z : Int) : Int := if inI z = true then 0 else 2
theorem inI_iff {z : Int} : inI z = true ↔ -9223372036854775808 ≤ z ∧ z < 9223372036854775808 := by unfold inI; exact decide_eq_true_iff
theorem inI_no {z : Int} : inI z = false ↔ ¬ (-9223372036854775808 ≤ z ∧ z < 9223372036854775808) := by unfold inI; exact decide_eq_false_iff_not
theorem int_yes {z : Int} (h : inI z = true) : intV z = z ∧ intE z = 0 := by unfold intV intE; rw [h]; exact ⟨rfl, rfl⟩
theorem int_bad {z : Int} (h : inI z = false) : intV z = 0 ∧ intE z = 2 := by unfold intV intE; rw [h]; exact ⟨rfl, rfl⟩
theorem wrap_low {h l z : Int} (k : WideIs h l z) (g : inI z = true) : IntKind.i64.wrap l = z := by
  rw [inI_iff] at g
  obtain ⟨_, _, _, _, _⟩ := k
  rw [IntKind.wrap_i64]; omega
theorem wrap_not {h l z : Int} (k : WideIs h l z) (g : inI z = false) : ∃ t, IntKind.i64.wrap l = t ∧ t ≠ z ∧ I64 t := by
  rw [inI_no] at g
  obtain ⟨_, _, _, _, _⟩ := k
  refine ⟨_, rfl, ?_⟩
  rw [IntKind.wrap_i64]; unfold I64; omega
theorem eqL_not {a b c d z z' : Int} (h : WideIs a b z) (k : WideIs c d z') (n : z ≠ z') : eqL a b c d = false := by
  unfold eqL; simpa using h.other k n
theorem eqI_not {x y : Int} (h : x ≠ y) : eqI x y = false := by unfold eqI; simpa using h
end Go.Proofs.Ytlbgpklnanalgaa
