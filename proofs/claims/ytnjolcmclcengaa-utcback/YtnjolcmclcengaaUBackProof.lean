/-
  Proved: each label that there is comes again out of its instant, and each instant that has a label comes again out of it (P13.1, P13.2).
  For every input: no conditions.
-/
import Derived.Test.YtnjolcmclcengaaUtN
import Derived.Test.YtnjolcmclcengaaTabP
import Derived.Test.YtnjolcmclcengaaDayP
namespace Go.Proofs.Ytnjolcmclcengaa
open Go.ChangeShapes Go.WideShapes Go.ChangeAt Go.RowKit Go.Joins

set_option maxRecDepth 100000 in
theorem utcBack_lifted (os : Os) (started : os.Started) (H : Type) (enc : TypeId × Value → H) :
    ReturnsInHanded {} Try.checked os 3 .any (Rows.utcBackSpec.pre6 enc Try.prog Try.f3 Rows.utcBackRow.domain false) (Rows.utcBackSpec.post enc Try.prog Try.f3 false true false false) := by
  refine returnsInHanded_of_change (C := Try.checked) Try.own started (by kernel_rfl) Try.func3
    (ChangeSpec.witness6 (enc := enc) (C := Try.checked) false ⟨#[], #[.agg #[.int .i64 0, .int .i64 0, .slice none 0 0], .agg #[.int .i64 0, .int .i64 0, .int .i64 0], .agg #[.int .i64 0, .int .u64 0]], []⟩ 8 (by kernel_rfl) (by kernel_rfl) (by kernel_rfl) (by kernel_rfl)) ?_
  intro W base args ds gs before hval0 hW _ _
  have hval : ∀ (j : Nat) t v, Try.f3.params[j]? = some t → args[j]? = some v → Value.okWide Try.prog W .any base t v := hval0
  have hW' := hW
  obtain ⟨p, q, hA0, hV, rfl, _, _⟩ := hW
  have hA : DataW.TrodAll enc Try.prog W 0 (fun _ => true) true Try.f3.params.toList args.toList ds p := hA0
  rw [Try.params3] at hA hval
  obtain ⟨v0, v1, v2, d0, d1, d2, p0, p1, p2, rfl, rfl, rfl, h0, h1, h2⟩ := trodAll_three hA
  obtain ⟨rfl, rfl⟩ := trodVars_none hV
  obtain ⟨t, tv, rfl, ut, et, st, zt⟩ := table_open (hval 0 24 v0 rfl rfl) h0
  obtain ⟨x0, x1, x2, rfl, rfl, rfl, wx0, wx1, wx2⟩ := label_open (hval 1 26 v1 rfl rfl) h1
  obtain ⟨c20, c21, y20, y21, m2, rfl, rfl, rfl, hy20, hy21⟩ := open_agg2 Try.underlying29 (by kernel_rfl) Try.cellsWide (hval 2 29 v2 rfl rfl) h2
  obtain ⟨nh, e20, rfl, wnh⟩ := DataW.trod_int Try.underlying2 hy20
  obtain ⟨nl, e21, rfl, wnl⟩ := DataW.trod_int Try.underlying27 hy21
  simp at e20 e21
  subst e20 e21
  clear hA0 hval0
  simp only [List.append_nil] at hW'
  refine (law_utback t ut et st (int_of_wf wx0) (int_of_wf wx1) (int_of_wf wx2) (wide_of_wf wnh wnl)).mono fun e W' ⟨r, he, hr, hb⟩ => ?_
  subst hr he
  exact ⟨_, rfl, _, _, _, [], _, [], hW', trodAll_mk1 (shut_bool Try.underlying4 _), trodAll_mk3 (table_shut h0 hb) (label_reads wx0 wx1 wx2) (wide_reads wnh wnl), rfl, hb.frame _, fun h => by cases h⟩

theorem utcBack_holds : Rows.UtcBackSaid :=
  OpenClaim.holds_of_wide 3 Try.f3 rfl rfl rfl rfl rfl rfl rfl ⟨rfl, rfl, rfl, rfl, rfl⟩ rfl rfl rfl rfl rfl (by kernel_rfl) Try.func3 (by kernel_rfl)
    (of_decide_eq_true (by kernel_rfl)) (by unfold Func.isWrapper; first | (rw [if_pos (by decide +kernel)]; kernel_rfl) | (rw [if_neg (by decide +kernel)]; exact ⟨rfl, rfl⟩))
    (fun os started H enc _ => utcBack_lifted os started H enc)
#print axioms utcBack_holds
end Go.Proofs.Ytnjolcmclcengaa
