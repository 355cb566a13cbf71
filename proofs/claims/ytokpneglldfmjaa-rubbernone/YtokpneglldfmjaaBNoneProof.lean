/-
  Proved: rates that are none; lists that are changed behind their back (P14.2, P14.3, R4).
  For every input: no conditions.
-/
import Derived.Test.YtokpneglldfmjaaSegI
import Derived.Test.YtokpneglldfmjaaSegP
import Derived.Test.YtokpneglldfmjaaDayP
namespace Go.Proofs.Ytokpneglldfmjaa
open Go.ChangeShapes Go.WideShapes Go.ChangeAt Go.RowKit Go.Joins

set_option maxRecDepth 100000 in
theorem rubberNone_lifted (os : Os) (started : os.Started) (H : Type) (enc : TypeId × Value → H) :
    ReturnsInHanded {} Try.checked os 9 .any (Rows.rubberNoneSpec.pre6 enc Try.prog Try.f9 Rows.rubberNoneRow.domain false) (Rows.rubberNoneSpec.post enc Try.prog Try.f9 false true false false) := by
  refine returnsInHanded_of_change_sized (C := Try.checked) Try.own started (by kernel_rfl) Try.func9
    (ChangeSpec.witness6 (enc := enc) (C := Try.checked) false ⟨#[], #[.agg #[.slice none 0 0, .int .i64 0, .int .i64 0], .agg #[.int .i64 0, .int .i64 0, .int .i64 0], .agg #[.int .i64 0, .int .u64 0]], []⟩ 8 (by kernel_rfl) (by kernel_rfl) (by kernel_rfl) (by kernel_rfl)) ?_
  intro W base args ds gs before hval0 hW _ hsz0 _
  have hsz : (DataW.weightsEach Try.prog (Try.f9.params.toList ++ Rows.rubberNoneSpec.plain.varTypes Try.prog) (ds ++ gs)).all (· ≤ reachBytes) = true := hsz0
  clear hsz0
  have hval : ∀ (j : Nat) t v, Try.f9.params[j]? = some t → args[j]? = some v → Value.okWide Try.prog W .any base t v := hval0
  have hW' := hW
  obtain ⟨p, q, hA0, hV, rfl, _, _⟩ := hW
  have hA : DataW.TrodAll enc Try.prog W 0 (fun _ => true) true Try.f9.params.toList args.toList ds p := hA0
  rw [Try.params9] at hA hval hsz
  obtain ⟨v0, v1, v2, d0, d1, d2, p0, p1, p2, rfl, rfl, rfl, h0, h1, h2⟩ := trodAll_three hA
  obtain ⟨rfl, rfl⟩ := trodVars_none hV
  obtain ⟨ql, qv, qd, qo, rfl, dq, oq, sq, zq, fq⟩ := rates_open (hval 0 34 v0 rfl rfl) h0
  have nq := rates_len hsz (j := 0) rfl rfl fq
  obtain ⟨x0, x1, x2, rfl, rfl, rfl, wx0, wx1, wx2⟩ := label_open (hval 1 38 v1 rfl rfl) h1
  obtain ⟨c20, c21, y20, y21, m2, rfl, rfl, rfl, hy20, hy21⟩ := open_agg2 Try.underlying41 (by kernel_rfl) Try.cellsWide (hval 2 41 v2 rfl rfl) h2
  obtain ⟨nh, e20, rfl, wnh⟩ := DataW.trod_int Try.underlying2 hy20
  obtain ⟨nl, e21, rfl, wnl⟩ := DataW.trod_int Try.underlying39 hy21
  simp at e20 e21
  subst e20 e21
  clear hA0 hval0
  simp only [List.append_nil] at hW'
  refine (law_rbnone ql nq dq oq sq (rates_form fq) (int_of_wf wx0) (int_of_wf wx1) (int_of_wf wx2) (wide_of_wf wnh wnl)).mono fun e W' ⟨r, he, hr, hb⟩ => ?_
  subst hr he
  exact ⟨_, rfl, _, _, _, [], _, [], hW', trodAll_mk1 (shut_bool Try.underlying4 _), trodAll_mk3 (rates_shut h0 hb) (label_reads wx0 wx1 wx2) (wide_reads wnh wnl), rfl, hb.frame _, fun h => by cases h⟩

theorem rubberNone_holds : Rows.RubberNoneSaid :=
  OpenClaim.holds_of_wide 9 Try.f9 rfl rfl rfl rfl rfl rfl rfl ⟨rfl, rfl, rfl, rfl, rfl⟩ rfl rfl rfl rfl rfl (by kernel_rfl) Try.func9 (by kernel_rfl)
    (of_decide_eq_true (by kernel_rfl)) (by unfold Func.isWrapper; first | (rw [if_pos (by decide +kernel)]; kernel_rfl) | (rw [if_neg (by decide +kernel)]; exact ⟨rfl, rfl⟩))
    (fun os started H enc _ => rubberNone_lifted os started H enc)
#print axioms rubberNone_holds
end Go.Proofs.Ytokpneglldfmjaa
