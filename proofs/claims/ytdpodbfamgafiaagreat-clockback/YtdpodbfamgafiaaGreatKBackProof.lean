/-
 Proved: each label that there is comes again out of its instant, and an instant is that of its label, or one attosecond behind it (P15.2, P15.3, P14.4).
 For every input: no conditions.
-/
import Derived.Test.YtdpodbfamgafiaaGreatClN
import Derived.Test.YtdpodbfamgafiaaGreatDayP
namespace Go.Proofs.YtdpodbfamgafiaaGreat
open Go.ChangeShapes Go.WideShapes Go.ChangeAt Go.RowKit Go.Joins

set_option maxRecDepth 100000 in
theorem clockBack_lifted (os : Os) (started : os.Started) (H : Type) (enc : TypeId × Value → H) :
  ReturnsInHanded {} Tryz.checked os 6 .any (Rows.clockBackSpec.pre6 enc Tryz.prog Tryz.f6 Rows.clockBackRow.domain false) (Rows.clockBackSpec.post enc Tryz.prog Tryz.f6 false true false false) := by
 refine returnsInHanded_of_change (C := Tryz.checked) Tryz.own started (by kernel_rfl) Tryz.func6
  (ChangeSpec.witness6 (enc := enc) (C := Tryz.checked) false ⟨#[], #[.agg #[.int .i64 0, .int .i64 0, .slice none 0 0], .agg #[.int .i64 0, .int .i64 0, .int .i64 0], .agg #[.int .i64 0, .int .u64 0]], []⟩ 8 (by kernel_rfl) (by kernel_rfl) (by kernel_rfl) (by kernel_rfl)) ?_
 intro W base args ds gs before hval0 hW _ _
 have hval : ∀ (j : Nat) t v, Tryz.f6.params[j]? = some t → args[j]? = some v → Value.okWide Tryz.prog W .any base t v := hval0
 have hW' := hW
 obtain ⟨p, q, hA0, hV, rfl, _, _⟩ := hW
 have hA : DataW.TrodAll enc Tryz.prog W 0 (fun _ => true) true Tryz.f6.params.toList args.toList ds p := hA0
 rw [Tryz.params6] at hA hval
 obtain ⟨v0, v1, v2, d0, d1, d2, p0, p1, p2, rfl, rfl, rfl, h0, h1, h2⟩ := trodAll_three hA
 obtain ⟨rfl, rfl⟩ := trodVars_none hV
 obtain ⟨t, tv, rfl, ut, et, st, zt⟩ := table_open (hval 0 24 v0 rfl rfl) h0
 obtain ⟨x0, x1, x2, rfl, rfl, rfl, wx0, wx1, wx2⟩ := label_open (hval 1 38 v1 rfl rfl) h1
 obtain ⟨c20, c21, y20, y21, m2, rfl, rfl, rfl, hy20, hy21⟩ := open_agg2 Tryz.underlying41 (by kernel_rfl) Tryz.cellsWide (hval 2 41 v2 rfl rfl) h2
 obtain ⟨nh, e20, rfl, wnh⟩ := DataW.trod_int Tryz.underlying2 hy20
 obtain ⟨nl, e21, rfl, wnl⟩ := DataW.trod_int Tryz.underlying39 hy21
 simp at e20 e21
 subst e20 e21
 clear hA0 hval0
 simp only [List.append_nil] at hW'
 refine (law_ckback t ut et st (int_of_wf wx0) (int_of_wf wx1) (int_of_wf wx2) (wide_of_wf wnh wnl)).mono fun e W' ⟨r, he, hr, hb⟩ => ?_
 subst hr he
 exact ⟨_, rfl, _, _, _, [], _, [], hW', trodAll_mk1 (shut_bool Tryz.underlying4 _), trodAll_mk3 (table_shut h0 hb) (label_reads wx0 wx1 wx2) (wide_reads wnh wnl), rfl, hb.frame _, fun h => by cases h⟩

theorem clockBack_holds : Rows.ClockBackSaid :=
 OpenClaim.holds_of_wide 6 Tryz.f6 rfl rfl rfl rfl rfl rfl rfl ⟨rfl, rfl, rfl, rfl, rfl⟩ rfl rfl rfl rfl rfl (by kernel_rfl) Tryz.func6 (by kernel_rfl)
  (of_decide_eq_true (by kernel_rfl)) (by unfold Func.isWrapper; first | (rw [if_pos (by decide +kernel)]; kernel_rfl) | (rw [if_neg (by decide +kernel)]; exact ⟨rfl, rfl⟩))
  (fun os started H enc _ => clockBack_lifted os started H enc)
#print axioms clockBack_holds
end Go.Proofs.YtdpodbfamgafiaaGreat
