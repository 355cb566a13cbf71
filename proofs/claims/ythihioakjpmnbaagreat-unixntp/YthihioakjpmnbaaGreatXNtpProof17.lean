/-
 Proved: NTP counts 2208988800 seconds more (P17.4).
 For every input: no conditions.
-/
import Derived.Test.YthihioakjpmnbaaGreatUnL
import Derived.Test.YthihioakjpmnbaaGreatDayP
namespace Go.Proofs.YthihioakjpmnbaaGreat
open Go.ChangeShapes Go.WideShapes Go.ChangeAt Go.RowKit Go.Joins

set_option maxRecDepth 100000 in
theorem unixNtp_lifted (os : Os) (started : os.Started) (H : Type) (enc : TypeId × Value → H) :
  ReturnsInHanded {} Tryz.checked os 7 .any (Rows.unixNtpSpec.pre6 enc Tryz.prog Tryz.f7 Rows.unixNtpRow.domain false) (Rows.unixNtpSpec.post enc Tryz.prog Tryz.f7 false true false false) := by
 refine returnsInHanded_of_change (C := Tryz.checked) Tryz.own started (by kernel_rfl) Tryz.func7
  (ChangeSpec.witness6 (enc := enc) (C := Tryz.checked) false ⟨#[], #[.agg #[.int .i64 0, .int .u64 0]], []⟩ 8 (by kernel_rfl) (by kernel_rfl) (by kernel_rfl) (by kernel_rfl)) ?_
 intro W base args ds gs before hval0 hW _ _
 have hval : ∀ (j : Nat) t v, Tryz.f7.params[j]? = some t → args[j]? = some v → Value.okWide Tryz.prog W .any base t v := hval0
 have hW' := hW
 obtain ⟨p, q, hA0, hV, rfl, _, _⟩ := hW
 have hA : DataW.TrodAll enc Tryz.prog W 0 (fun _ => true) true Tryz.f7.params.toList args.toList ds p := hA0
 rw [Tryz.params7] at hA hval
 obtain ⟨v0, d0, rfl, rfl, h0⟩ := trodAll_one hA
 obtain ⟨rfl, rfl⟩ := trodVars_none hV
 obtain ⟨c00, c01, y00, y01, m0, rfl, rfl, rfl, hy00, hy01⟩ := open_agg2 Tryz.underlying26 (by kernel_rfl) Tryz.cellsWide (hval 0 26 v0 rfl rfl) h0
 obtain ⟨nh, e00, rfl, wnh⟩ := DataW.trod_int Tryz.underlying2 hy00
 obtain ⟨nl, e01, rfl, wnl⟩ := DataW.trod_int Tryz.underlying24 hy01
 simp at e00 e01
 subst e00 e01
 clear hA0 hval0
 simp only [List.append_nil] at hW'
 refine (law_unntp (wide_of_wf wnh wnl)).mono fun e W' ⟨r, he, hr, hb⟩ => ?_
 subst hr he
 exact ⟨_, rfl, _, _, _, [], _, [], hW', trodAll_mk1 (shut_bool Tryz.underlying4 _), trodAll_mk1 (wide_reads wnh wnl), rfl, hb.frame _, fun h => by cases h⟩

theorem unixNtp_holds : Rows.UnixNtpSaid :=
 OpenClaim.holds_of_wide 7 Tryz.f7 rfl rfl rfl rfl rfl rfl rfl ⟨rfl, rfl, rfl, rfl, rfl⟩ rfl rfl rfl rfl rfl (by kernel_rfl) Tryz.func7 (by kernel_rfl)
  (of_decide_eq_true (by kernel_rfl)) (by unfold Func.isWrapper; first | (rw [if_pos (by decide +kernel)]; kernel_rfl) | (rw [if_neg (by decide +kernel)]; exact ⟨rfl, rfl⟩))
  (fun os started H enc _ => unixNtp_lifted os started H enc)
#print axioms unixNtp_holds
end Go.Proofs.YthihioakjpmnbaaGreat
