/-
 Proved: without a clock there are no labels (P17.2, P17.3).
 For every input: no conditions.
-/
import Derived.Test.YthihioakjpmnbaaGreatUnL
import Derived.Test.YthihioakjpmnbaaGreatDayP
namespace Go.Proofs.YthihioakjpmnbaaGreat
open Go.ChangeShapes Go.WideShapes Go.ChangeAt Go.RowKit Go.Joins

set_option maxRecDepth 100000 in
theorem unixNone_lifted (os : Os) (started : os.Started) (H : Type) (enc : TypeId × Value → H) :
  ReturnsInHanded {} Tryz.checked os 8 .any (Rows.unixNoneSpec.pre6 enc Tryz.prog Tryz.f8 Rows.unixNoneRow.domain false) (Rows.unixNoneSpec.post enc Tryz.prog Tryz.f8 false true false false) := by
 refine returnsInHanded_of_change (C := Tryz.checked) Tryz.own started (by kernel_rfl) Tryz.func8
  (ChangeSpec.witness6 (enc := enc) (C := Tryz.checked) false ⟨#[], #[.agg #[.int .i64 0, .int .u64 0], .int .i64 0], []⟩ 8 (by kernel_rfl) (by kernel_rfl) (by kernel_rfl) (by kernel_rfl)) ?_
 intro W base args ds gs before hval0 hW _ _
 have hval : ∀ (j : Nat) t v, Tryz.f8.params[j]? = some t → args[j]? = some v → Value.okWide Tryz.prog W .any base t v := hval0
 have hW' := hW
 obtain ⟨p, q, hA0, hV, rfl, _, _⟩ := hW
 have hA : DataW.TrodAll enc Tryz.prog W 0 (fun _ => true) true Tryz.f8.params.toList args.toList ds p := hA0
 rw [Tryz.params8] at hA hval
 obtain ⟨v0, v1, d0, d1, p0, p1, rfl, rfl, rfl, h0, h1⟩ := trodAll_two hA
 obtain ⟨rfl, rfl⟩ := trodVars_none hV
 obtain ⟨c00, c01, y00, y01, m0, rfl, rfl, rfl, hy00, hy01⟩ := open_agg2 Tryz.underlying26 (by kernel_rfl) Tryz.cellsWide (hval 0 26 v0 rfl rfl) h0
 obtain ⟨nh, e00, rfl, wnh⟩ := DataW.trod_int Tryz.underlying2 hy00
 obtain ⟨nl, e01, rfl, wnl⟩ := DataW.trod_int Tryz.underlying24 hy01
 simp at e00 e01
 subst e00 e01
 obtain ⟨pick, rfl, rfl, rfl, wpick⟩ := open_int Tryz.underlying3 (hval 1 3 v1 rfl rfl) h1
 clear hA0 hval0
 simp only [List.append_nil] at hW'
 refine (law_unnone (wide_of_wf wnh wnl)).mono fun e W' ⟨r, he, hr, hb⟩ => ?_
 subst hr he
 exact ⟨_, rfl, _, _, _, [], _, [], hW', trodAll_mk1 (shut_bool Tryz.underlying4 _), trodAll_mk2 (wide_reads wnh wnl) (shut_int Tryz.underlying3 wpick), rfl, hb.frame _, fun h => by cases h⟩

theorem unixNone_holds : Rows.UnixNoneSaid :=
 OpenClaim.holds_of_wide 8 Tryz.f8 rfl rfl rfl rfl rfl rfl rfl ⟨rfl, rfl, rfl, rfl, rfl⟩ rfl rfl rfl rfl rfl (by kernel_rfl) Tryz.func8 (by kernel_rfl)
  (of_decide_eq_true (by kernel_rfl)) (by unfold Func.isWrapper; first | (rw [if_pos (by decide +kernel)]; kernel_rfl) | (rw [if_neg (by decide +kernel)]; exact ⟨rfl, rfl⟩))
  (fun os started H enc _ => unixNone_lifted os started H enc)
#print axioms unixNone_holds
end Go.Proofs.YthihioakjpmnbaaGreat
