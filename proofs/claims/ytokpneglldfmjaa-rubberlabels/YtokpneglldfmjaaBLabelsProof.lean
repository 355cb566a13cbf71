/-
  Proved: the label of any instant, by any rates, or why there is none (P14.3).
  For every input: no conditions.
-/
import Derived.Test.YtokpneglldfmjaaSegN
import Derived.Test.YtokpneglldfmjaaSegP
import Derived.Test.YtokpneglldfmjaaDayP
namespace Go.Proofs.Ytokpneglldfmjaa
open Go.ChangeShapes Go.WideShapes Go.ChangeAt Go.RowKit Go.Joins

set_option maxRecDepth 100000 in
theorem rubberLabels_lifted (os : Os) (started : os.Started) (H : Type) (enc : TypeId × Value → H) :
    ReturnsInHanded {} Try.checked os 6 .any (Rows.rubberLabelsSpec.pre6 enc Try.prog Try.f6 Rows.rubberLabelsRow.domain false) (Rows.rubberLabelsSpec.post enc Try.prog Try.f6 false true false false) := by
  refine returnsInHanded_of_change (C := Try.checked) Try.own started (by kernel_rfl) Try.func6
    (ChangeSpec.witness6 (enc := enc) (C := Try.checked) false ⟨#[], #[.agg #[.slice none 0 0, .int .i64 0, .int .i64 0], .agg #[.int .i64 0, .int .u64 0]], []⟩ 8 (by kernel_rfl) (by kernel_rfl) (by kernel_rfl) (by kernel_rfl)) ?_
  intro W base args ds gs before hval0 hW _ _
  have hval : ∀ (j : Nat) t v, Try.f6.params[j]? = some t → args[j]? = some v → Value.okWide Try.prog W .any base t v := hval0
  have hW' := hW
  obtain ⟨p, q, hA0, hV, rfl, _, _⟩ := hW
  have hA : DataW.TrodAll enc Try.prog W 0 (fun _ => true) true Try.f6.params.toList args.toList ds p := hA0
  rw [Try.params6] at hA hval
  obtain ⟨v0, v1, d0, d1, p0, p1, rfl, rfl, rfl, h0, h1⟩ := trodAll_two hA
  obtain ⟨rfl, rfl⟩ := trodVars_none hV
  obtain ⟨ql, qv, qd, qo, rfl, dq, oq, sq, zq, fq⟩ := rates_open (hval 0 34 v0 rfl rfl) h0
  obtain ⟨c10, c11, y10, y11, m1, rfl, rfl, rfl, hy10, hy11⟩ := open_agg2 Try.underlying41 (by kernel_rfl) Try.cellsWide (hval 1 41 v1 rfl rfl) h1
  obtain ⟨nh, e10, rfl, wnh⟩ := DataW.trod_int Try.underlying2 hy10
  obtain ⟨nl, e11, rfl, wnl⟩ := DataW.trod_int Try.underlying39 hy11
  simp at e10 e11
  subst e10 e11
  clear hA0 hval0
  simp only [List.append_nil] at hW'
  refine (law_rblabels ql zq dq oq sq (wide_of_wf wnh wnl)).mono fun e W' ⟨r, he, hr, hb⟩ => ?_
  subst hr he
  exact ⟨_, rfl, _, _, _, [], _, [], hW', trodAll_mk1 (shut_bool Try.underlying4 _), trodAll_mk2 (rates_shut h0 hb) (wide_reads wnh wnl), rfl, hb.frame _, fun h => by cases h⟩

theorem rubberLabels_holds : Rows.RubberLabelsSaid :=
  OpenClaim.holds_of_wide 6 Try.f6 rfl rfl rfl rfl rfl rfl rfl ⟨rfl, rfl, rfl, rfl, rfl⟩ rfl rfl rfl rfl rfl (by kernel_rfl) Try.func6 (by kernel_rfl)
    (of_decide_eq_true (by kernel_rfl)) (by unfold Func.isWrapper; first | (rw [if_pos (by decide +kernel)]; kernel_rfl) | (rw [if_neg (by decide +kernel)]; exact ⟨rfl, rfl⟩))
    (fun os started H enc _ => rubberLabels_lifted os started H enc)
#print axioms rubberLabels_holds
end Go.Proofs.Ytokpneglldfmjaa
