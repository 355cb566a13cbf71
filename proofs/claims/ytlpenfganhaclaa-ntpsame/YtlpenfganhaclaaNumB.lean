/-
  More contracts of wide (Sub, Neg, Int) and of the reference numbers (Sub, Neg), in the form of NumA. No conditions.
-/
import Derived.Test.YtlpenfganhaclaaNumA
import Derived.Test.YtlpenfganhaclaaVcX
namespace Go.Proofs.Ytlpenfganhaclaa
open Go.RowKit
set_option maxRecDepth 100000

theorem c_rsub {n m : Nat} {x y : Int} {u v : Value} {w : World} (hu : IsBig n x u w) (hv : IsBig m y v w) (hn : n ≤ 10000000) (hm : m ≤ 10000000) :
    Calls Try.prog 14 #[u, v] w fun e w' => ∃ r, e = .returned r ∧ IsBig (max n m + 1) (x - y) r w' ∧ Below w.heap.size w w' := by
  obtain ⟨_, _, _, rfl, hu⟩ := hu
  obtain ⟨_, _, _, rfl, hv⟩ := hv
  refine (bsub_any hu hv (by omega) (by omega)).mono ?_
  rintro e w' ⟨b, k, d, rfl, h1, h2⟩
  exact ⟨_, rfl, ⟨_, _, _, rfl, h1⟩, h2⟩
theorem c_wsub {a b : Int} {u v : Value} (hu : IsW a u) (hv : IsW b v) (w : World) : Calls Try.prog 73 #[u, v] w fun e w' => ∃ r, e = .returned r ∧ (∃ s, r = .tuple #[s, .int .i64 (fitE (a - b))] ∧ IsW (fitV (a - b)) s) ∧ Below w.heap.size w w' := by
  obtain ⟨_, _, rfl, hu⟩ := hu
  obtain ⟨_, _, rfl, hv⟩ := hv
  refine (wsub_any hu hv w).mono ?_
  rintro e w' ⟨h, l, i, rfl, hb⟩
  exact ⟨_, rfl, ⟨_, rfl, ⟨_, _, rfl, i⟩⟩, hb⟩
theorem cmpI_low {x y : Int} : cmpI x y < 0 ↔ x < y := by unfold cmpI; split <;> (try split) <;> omega
theorem cmpI_le {x y : Int} : cmpI x y ≤ 0 ↔ x ≤ y := by unfold cmpI; split <;> (try split) <;> omega
theorem cmpI_in (x y : Int) : -1 ≤ cmpI x y ∧ cmpI x y ≤ 1 := by unfold cmpI; split <;> (try split) <;> omega
def intV (z : Int) : Int := if inI z = true then z else 0
def intE (z : Int) : Int := if inI z = true then 0 else 2
theorem inI_iff {z : Int} : inI z = true ↔ -9223372036854775808 ≤ z ∧ z < 9223372036854775808 := by unfold inI; exact decide_eq_true_iff
theorem inI_no {z : Int} : inI z = false ↔ ¬ (-9223372036854775808 ≤ z ∧ z < 9223372036854775808) := by unfold inI; exact decide_eq_false_iff_not
theorem int_yes {z : Int} (h : inI z = true) : intV z = z ∧ intE z = 0 := by unfold intV intE; rw [h]; exact ⟨rfl, rfl⟩
theorem int_bad {z : Int} (h : inI z = false) : intV z = 0 ∧ intE z = 2 := by unfold intV intE; rw [h]; exact ⟨rfl, rfl⟩
theorem wrap_low {h l z : Int} (k : WideIs h l z) (g : inI z = true) : IntKind.i64.wrap l = z := by
  rw [inI_iff] at g
  obtain ⟨_, _, _, _, _⟩ := k
  rw [IntKind.wrap_i64]; omega
theorem wrap_not {h l z : Int} (k : WideIs h l z) (g : inI z = false) : ∃ t, IntKind.i64.wrap l = t ∧ t ≠ z ∧ I64 t := by
  rw [inI_no] at g
  obtain ⟨_, _, _, _, _⟩ := k
  refine ⟨_, rfl, ?_⟩
  rw [IntKind.wrap_i64]; unfold I64; omega
theorem eqL_not {a b c d z z' : Int} (h : WideIs a b z) (k : WideIs c d z') (n : z ≠ z') : eqL a b c d = false := by
  unfold eqL; simpa using h.other k n
theorem eqI_not {x y : Int} (h : x ≠ y) : eqI x y = false := by unfold eqI; simpa using h
theorem wint_any {h l z : Int} (k : WideIs h l z) (w : World) : Calls Try.prog 22 #[.agg #[.int .i64 h, .int .u64 l]] w fun e w' => ∃ r, e = .returned r ∧ r = .tuple #[.int .i64 (intV z), .int .i64 (intE z)] ∧ Below w.heap.size w w' := by
  cases hI : inI z with
  | true =>
    have hw := wrap_low k hI
    obtain ⟨e1, e2⟩ := int_yes hI
    rw [e1, e2]
    rw [inI_iff] at hI
    refine calls_Wp (args := [_]) (n := 13) Try.func22 rfl rfl (by simp) ?_
    refine Wp.seq ?_
    refine wR [0, 1, 2] ?_
    refine sE (fun bk1 w1 kb1 lw1 => ?_)
    refine sZ 2 ?_
    refine qQ 2 ?_
    refine a_wconv rfl rfl rfl rfl rfl rfl ?_
    rw [hw]
    refine sZ 1 ?_
    refine Wp.seq ?_
    refine Wp.seq ?_
    refine wD [0, 2, 1, 3] [4, 3, 0, 0] (fun | 1 => fun v _ => IsW z v | _ => fun _ _ => True) (fun _ _ => ?_)
    refine sQ 2 ?_
    refine s_callD rfl rfl rfl (by kernel_rfl) rfl (fun wc lc => c_wof z (by omega) (by omega) wc) ?_
    rintro v w4 u4 ⟨uh, ul, rfl, hu⟩ lw4 mw4
    refine s_eqv (c := false) rfl rfl rfl rfl rfl (fun _ => by kernel_rfl) (fun w => by simp only [run_neq_wide, eqW_same hu k, Bool.not_true]) ?_
    refine vOrd_nil ?_
    refine Wp.condF rfl rfl ?_
    refine Wp.skip ?_
    refine qZ ?_
    refine Wp.ret ⟨.inr rfl, fun lW => ⟨_, ⟨_, _, res_tmp (P := Try.prog) rfl rfl, res_tmp (P := Try.prog) rfl rfl, rfl⟩, _, rfl, ?_, lW⟩⟩
    clear lW
    rfl
  | false =>
    obtain ⟨t, hw, hn, h0, h1⟩ := wrap_not k hI
    obtain ⟨e1, e2⟩ := int_bad hI
    rw [e1, e2]
    refine calls_Wp (args := [_]) (n := 13) Try.func22 rfl rfl (by simp) ?_
    refine Wp.seq ?_
    refine wR [0, 1, 2] ?_
    refine sE (fun bk1 w1 kb1 lw1 => ?_)
    refine sZ 2 ?_
    refine qQ 2 ?_
    refine a_wconv rfl rfl rfl rfl rfl rfl ?_
    rw [hw]
    refine sZ 1 ?_
    refine Wp.seq ?_
    refine Wp.seq ?_
    refine wD [0, 2, 1, 3] [4, 3, 0, 0] (fun | 1 => fun v _ => IsW t v | _ => fun _ _ => True) (fun _ _ => ?_)
    refine sQ 2 ?_
    refine s_callD rfl rfl rfl (by kernel_rfl) rfl (fun wc lc => c_wof t (by omega) (by omega) wc) ?_
    rintro v w4 u4 ⟨uh, ul, rfl, hu⟩ lw4 mw4
    refine s_eqv (c := true) rfl rfl rfl rfl rfl (fun _ => by kernel_rfl) (fun w => by simp only [run_neq_wide, eqL_not hu k hn, Bool.not_false]) ?_
    refine vOrd_nil ?_
    refine Wp.condT rfl rfl ?_
    refine qZ ?_
    refine Wp.ret ⟨.inr rfl, fun lW => ⟨_, ⟨_, _, res_tmp (P := Try.prog) rfl rfl, res_tmp (P := Try.prog) rfl rfl, rfl⟩, _, rfl, ?_, lW⟩⟩
    clear lW
    rfl
theorem c_wint {z : Int} {u : Value} (hu : IsW z u) (w : World) : Calls Try.prog 22 #[u] w fun e w' => ∃ r, e = .returned r ∧ r = .tuple #[.int .i64 (intV z), .int .i64 (intE z)] ∧ Below w.heap.size w w' := by
  obtain ⟨_, _, rfl, hu⟩ := hu
  exact wint_any hu w
end Go.Proofs.Ytlpenfganhaclaa
