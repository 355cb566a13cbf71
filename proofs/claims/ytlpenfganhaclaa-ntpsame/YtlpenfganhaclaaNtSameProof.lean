/-
  Proved: octets that are decoded, whatever the pivot is, are encoded the same (P20.1, P20.2).
  For every input: no conditions.
-/
import Derived.Test.YtlpenfganhaclaaNtL
import Derived.Test.YtlpenfganhaclaaWideP
import Derived.Test.YtlpenfganhaclaaBytesP
import Derived.Test.YtlpenfganhaclaaOwnP
namespace Go.Proofs.Ytlpenfganhaclaa
open Go.ChangeShapes Go.WideShapes Go.ChangeAt Go.RowKit Go.Joins

set_option maxRecDepth 100000 in
theorem ntpSame_lifted (os : Os) (started : os.Started) (H : Type) (enc : TypeId × Value → H) :
    ReturnsInHanded {} Try.checked os 6 .any (Rows.ntpSameSpec.pre6 enc Try.prog Try.f6 Rows.ntpSameRow.domain false) (Rows.ntpSameSpec.post enc Try.prog Try.f6 false true false false) := by
  refine returnsInHanded_of_change_sized (C := Try.checked) Try.own started (by kernel_rfl) Try.func6
    (ChangeSpec.witness6 (enc := enc) (C := Try.checked) false ⟨#[], #[.int .i64 0, .slice none 0 0, .agg #[.int .i64 0, .int .u64 0]], []⟩ 8 (by kernel_rfl) (by kernel_rfl) (by kernel_rfl) (by kernel_rfl)) ?_
  intro W base args ds gs before hval0 hW _ hsz0 _
  have hsz : (DataW.weightsEach Try.prog (Try.f6.params.toList ++ Rows.ntpSameSpec.plain.varTypes Try.prog) (ds ++ gs)).all (· ≤ reachBytes) = true := hsz0
  clear hsz0
  have hval : ∀ (j : Nat) t v, Try.f6.params[j]? = some t → args[j]? = some v → Value.okWide Try.prog W .any base t v := hval0
  have hW' := hW
  obtain ⟨p, q, hA0, hV, rfl, _, _⟩ := hW
  have hA : DataW.TrodAll enc Try.prog W 0 (fun _ => true) true Try.f6.params.toList args.toList ds p := hA0
  rw [Try.params6] at hA hval hsz
  obtain ⟨v0, v1, v2, d0, d1, d2, p0, p1, p2, rfl, rfl, rfl, h0, h1, h2⟩ := trodAll_three hA
  obtain ⟨rfl, rfl⟩ := trodVars_none hV
  obtain ⟨b, rfl, rfl, rfl, wb⟩ := open_int Try.underlying3 (hval 0 3 v0 rfl rfl) h0
  obtain ⟨l, bl, zl⟩ := bytes_open (hval 1 25 v1 rfl rfl) h1
  have nl := bytes_len hsz (j := 1) rfl rfl zl
  obtain ⟨c20, c21, y20, y21, m2, rfl, rfl, rfl, hy20, hy21⟩ := open_agg2 Try.underlying24 (by kernel_rfl) Try.cellsWide (hval 2 24 v2 rfl rfl) h2
  obtain ⟨ph, e20, rfl, wph⟩ := DataW.trod_int Try.underlying2 hy20
  obtain ⟨pl, e21, rfl, wpl⟩ := DataW.trod_int Try.underlying22 hy21
  simp at e20 e21
  subst e20 e21
  clear hA0 hval0
  simp only [List.append_nil] at hW'
  refine (law_ntsame (int_of_wf wb) (by omega) (wide_of_wf wph wpl) bl).mono fun e W' ⟨r, he, hr, hb⟩ => ?_
  subst hr he
  exact ⟨_, rfl, _, _, _, [], _, [], hW', trodAll_mk1 (shut_bool Try.underlying4 _), trodAll_mk3 (shut_int Try.underlying3 wb) (bytes_shut h1 hb) (wide_reads wph wpl), rfl, hb.frame _, fun h => by cases h⟩

theorem ntpSame_holds : Rows.NtpSameSaid :=
  OpenClaim.holds_of_wide 6 Try.f6 rfl rfl rfl rfl rfl rfl rfl ⟨rfl, rfl, rfl, rfl, rfl⟩ rfl rfl rfl rfl rfl (by kernel_rfl) Try.func6 (by kernel_rfl)
    (of_decide_eq_true (by kernel_rfl)) (by unfold Func.isWrapper; first | (rw [if_pos (by decide +kernel)]; kernel_rfl) | (rw [if_neg (by decide +kernel)]; exact ⟨rfl, rfl⟩))
    (fun os started H enc _ => ntpSame_lifted os started H enc)
#print axioms ntpSame_holds
end Go.Proofs.Ytlpenfganhaclaa
