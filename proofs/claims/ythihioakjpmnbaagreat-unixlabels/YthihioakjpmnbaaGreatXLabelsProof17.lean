/-
 Proved: which labels any Unix time has, by any clock, or why it has none; and which one is found (P17.2, P17.3).
 For every input: no conditions.
-/
import Derived.Test.YthihioakjpmnbaaGreatUnN
import Derived.Test.YthihioakjpmnbaaGreatTabP
import Derived.Test.YthihioakjpmnbaaGreatDayP
namespace Go.Proofs.YthihioakjpmnbaaGreat
open Go.ChangeShapes Go.WideShapes Go.ChangeAt Go.RowKit Go.Joins

set_option maxRecDepth 100000 in
theorem unixLabels_lifted (os : Os) (started : os.Started) (H : Type) (enc : TypeId × Value → H) :
  ReturnsInHanded {} Tryz.checked os 4 .any (Rows.unixLabelsSpec.pre6 enc Tryz.prog Tryz.f4 Rows.unixLabelsRow.domain false) (Rows.unixLabelsSpec.post enc Tryz.prog Tryz.f4 false true false false) := by
 refine returnsInHanded_of_change (C := Tryz.checked) Tryz.own started (by kernel_rfl) Tryz.func4
  (ChangeSpec.witness6 (enc := enc) (C := Tryz.checked) false ⟨#[], #[.agg #[.int .i64 0, .int .i64 0, .slice none 0 0], .agg #[.int .i64 0, .int .u64 0], .int .i64 0], []⟩ 8 (by kernel_rfl) (by kernel_rfl) (by kernel_rfl) (by kernel_rfl)) ?_
 intro W base args ds gs before hval0 hW _ _
 have hval : ∀ (j : Nat) t v, Tryz.f4.params[j]? = some t → args[j]? = some v → Value.okWide Tryz.prog W .any base t v := hval0
 have hW' := hW
 obtain ⟨p, q, hA0, hV, rfl, _, _⟩ := hW
 have hA : DataW.TrodAll enc Tryz.prog W 0 (fun _ => true) true Tryz.f4.params.toList args.toList ds p := hA0
 rw [Tryz.params4] at hA hval
 obtain ⟨v0, v1, v2, d0, d1, d2, p0, p1, p2, rfl, rfl, rfl, h0, h1, h2⟩ := trodAll_three hA
 obtain ⟨rfl, rfl⟩ := trodVars_none hV
 obtain ⟨t, tv, rfl, ut, et, st, zt⟩ := table_open (hval 0 41 v0 rfl rfl) h0
 obtain ⟨c10, c11, y10, y11, m1, rfl, rfl, rfl, hy10, hy11⟩ := open_agg2 Tryz.underlying26 (by kernel_rfl) Tryz.cellsWide (hval 1 26 v1 rfl rfl) h1
 obtain ⟨nh, e10, rfl, wnh⟩ := DataW.trod_int Tryz.underlying2 hy10
 obtain ⟨nl, e11, rfl, wnl⟩ := DataW.trod_int Tryz.underlying24 hy11
 simp at e10 e11
 subst e10 e11
 obtain ⟨pick, rfl, rfl, rfl, wpick⟩ := open_int Tryz.underlying3 (hval 2 3 v2 rfl rfl) h2
 clear hA0 hval0
 simp only [List.append_nil] at hW'
 refine (law_unlabels t ut et st (wide_of_wf wnh wnl) pick).mono fun e W' ⟨r, he, hr, hb⟩ => ?_
 subst hr he
 exact ⟨_, rfl, _, _, _, [], _, [], hW', trodAll_mk1 (shut_bool Tryz.underlying4 _), trodAll_mk3 (table_shut h0 hb) (wide_reads wnh wnl) (shut_int Tryz.underlying3 wpick), rfl, hb.frame _, fun h => by cases h⟩

theorem unixLabels_holds : Rows.UnixLabelsSaid :=
 OpenClaim.holds_of_wide 4 Tryz.f4 rfl rfl rfl rfl rfl rfl rfl ⟨rfl, rfl, rfl, rfl, rfl⟩ rfl rfl rfl rfl rfl (by kernel_rfl) Tryz.func4 (by kernel_rfl)
  (of_decide_eq_true (by kernel_rfl)) (by unfold Func.isWrapper; first | (rw [if_pos (by decide +kernel)]; kernel_rfl) | (rw [if_neg (by decide +kernel)]; exact ⟨rfl, rfl⟩))
  (fun os started H enc _ => unixLabels_lifted os started H enc)
#print axioms unixLabels_holds
end Go.Proofs.YthihioakjpmnbaaGreat
