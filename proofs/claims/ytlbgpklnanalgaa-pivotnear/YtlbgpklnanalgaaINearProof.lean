/-
  Proved: the number of any field, by any era, near any pivot, or why there is none (P18.2).
  For every input: no conditions.
-/
import Derived.Test.YtlbgpklnanalgaaPvL
import Derived.Test.YtlbgpklnanalgaaWideP
namespace Go.Proofs.Ytlbgpklnanalgaa
open Go.ChangeShapes Go.WideShapes Go.ChangeAt Go.RowKit Go.Joins

set_option maxRecDepth 100000 in
theorem pivotNear_lifted (os : Os) (started : os.Started) (H : Type) (enc : TypeId × Value → H) :
    ReturnsInHanded {} Try.checked os 4 .any (Rows.pivotNearSpec.pre6 enc Try.prog Try.f4 Rows.pivotNearRow.domain false) (Rows.pivotNearSpec.post enc Try.prog Try.f4 false true false false) := by
  refine returnsInHanded_of_change (C := Try.checked) Try.own started (by kernel_rfl) Try.func4
    (ChangeSpec.witness6 (enc := enc) (C := Try.checked) false ⟨#[], #[.agg #[.int .i64 0, .int .u64 0], .agg #[.int .i64 0, .int .u64 0], .agg #[.int .i64 0, .int .u64 0]], []⟩ 8 (by kernel_rfl) (by kernel_rfl) (by kernel_rfl) (by kernel_rfl)) ?_
  intro W base args ds gs before hval0 hW _ _
  have hval : ∀ (j : Nat) t v, Try.f4.params[j]? = some t → args[j]? = some v → Value.okWide Try.prog W .any base t v := hval0
  have hW' := hW
  obtain ⟨p, q, hA0, hV, rfl, _, _⟩ := hW
  have hA : DataW.TrodAll enc Try.prog W 0 (fun _ => true) true Try.f4.params.toList args.toList ds p := hA0
  rw [Try.params4] at hA hval
  obtain ⟨v0, v1, v2, d0, d1, d2, p0, p1, p2, rfl, rfl, rfl, h0, h1, h2⟩ := trodAll_three hA
  obtain ⟨rfl, rfl⟩ := trodVars_none hV
  obtain ⟨c00, c01, y00, y01, m0, rfl, rfl, rfl, hy00, hy01⟩ := open_agg2 Try.underlying24 (by kernel_rfl) Try.cellsWide (hval 0 24 v0 rfl rfl) h0
  obtain ⟨fh, e00, rfl, wfh⟩ := DataW.trod_int Try.underlying2 hy00
  obtain ⟨fl, e01, rfl, wfl⟩ := DataW.trod_int Try.underlying22 hy01
  simp at e00 e01
  subst e00 e01
  obtain ⟨c10, c11, y10, y11, m1, rfl, rfl, rfl, hy10, hy11⟩ := open_agg2 Try.underlying24 (by kernel_rfl) Try.cellsWide (hval 1 24 v1 rfl rfl) h1
  obtain ⟨nh, e10, rfl, wnh⟩ := DataW.trod_int Try.underlying2 hy10
  obtain ⟨nl, e11, rfl, wnl⟩ := DataW.trod_int Try.underlying22 hy11
  simp at e10 e11
  subst e10 e11
  obtain ⟨c20, c21, y20, y21, m2, rfl, rfl, rfl, hy20, hy21⟩ := open_agg2 Try.underlying24 (by kernel_rfl) Try.cellsWide (hval 2 24 v2 rfl rfl) h2
  obtain ⟨ph, e20, rfl, wph⟩ := DataW.trod_int Try.underlying2 hy20
  obtain ⟨pl, e21, rfl, wpl⟩ := DataW.trod_int Try.underlying22 hy21
  simp at e20 e21
  subst e20 e21
  clear hA0 hval0
  simp only [List.append_nil] at hW'
  refine (law_pvnear (wide_of_wf wfh wfl) (wide_of_wf wnh wnl) (wide_of_wf wph wpl)).mono fun e W' ⟨r, he, hr, hb⟩ => ?_
  subst hr he
  exact ⟨_, rfl, _, _, _, [], _, [], hW', trodAll_mk1 (shut_bool Try.underlying4 _), trodAll_mk3 (wide_reads wfh wfl) (wide_reads wnh wnl) (wide_reads wph wpl), rfl, hb.frame _, fun h => by cases h⟩

theorem pivotNear_holds : Rows.PivotNearSaid :=
  OpenClaim.holds_of_wide 4 Try.f4 rfl rfl rfl rfl rfl rfl rfl ⟨rfl, rfl, rfl, rfl, rfl⟩ rfl rfl rfl rfl rfl (by kernel_rfl) Try.func4 (by kernel_rfl)
    (of_decide_eq_true (by kernel_rfl)) (by unfold Func.isWrapper; first | (rw [if_pos (by decide +kernel)]; kernel_rfl) | (rw [if_neg (by decide +kernel)]; exact ⟨rfl, rfl⟩))
    (fun os started H enc _ => pivotNear_lifted os started H enc)
#print axioms pivotNear_holds
end Go.Proofs.Ytlbgpklnanalgaa
