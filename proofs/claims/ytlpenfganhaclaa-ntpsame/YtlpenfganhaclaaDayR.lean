/-
  Labels in plain numbers (isL, cnt, labE, dayZ, secZ, attZ), and the contracts of the reference's Plain, In, Join, Small, Split. Conditions: fields are ints; a number's digits are few.
-/
import Derived.Test.YtlpenfganhaclaaNumB
import Derived.Test.YtlpenfganhaclaaGregO
namespace Go.Proofs.Ytlpenfganhaclaa
open Go.RowKit
set_option maxRecDepth 100000

def isL (s a : Int) : Bool := decide (0 ≤ s ∧ s < 86400 ∧ 0 ≤ a ∧ a < 1000000000000000000)
theorem isL_iff {s a : Int} : isL s a = true ↔ 0 ≤ s ∧ s < 86400 ∧ 0 ≤ a ∧ a < 1000000000000000000 := by unfold isL; exact decide_eq_true_iff
theorem isL_no {s a : Int} : isL s a = false ↔ ¬ (0 ≤ s ∧ s < 86400 ∧ 0 ≤ a ∧ a < 1000000000000000000) := by unfold isL; exact decide_eq_false_iff_not
def cnt (d s a : Int) : Int := (d * 86400 + s) * 1000000000000000000 + a
def labE (d s a : Int) : Int := if isL s a = true then (if inB d = true then 0 else 2) else 1
def labV (d s a : Int) : Int := if isL s a = true then (if inB d = true then cnt d s a else 0) else 0
theorem lab_bad {d s a : Int} (h : isL s a = false) : labE d s a = 1 ∧ labV d s a = 0 := by unfold labE labV; rw [h]; exact ⟨rfl, rfl⟩
theorem lab_far {d s a : Int} (h : isL s a = true) (k : inB d = false) : labE d s a = 2 ∧ labV d s a = 0 := by unfold labE labV; rw [h, k]; exact ⟨rfl, rfl⟩
theorem lab_ok {d s a : Int} (h : isL s a = true) (k : inB d = true) : labE d s a = 0 ∧ labV d s a = cnt d s a := by unfold labE labV; rw [h, k]; exact ⟨rfl, rfl⟩
def dayZ (z : Int) : Int := z / 1000000000000000000 / 86400
def secZ (z : Int) : Int := z / 1000000000000000000 % 86400
def attZ (z : Int) : Int := z % 1000000000000000000
/-- A label as a value. -/
def labU (d s a : Int) : Value := .agg #[.int .i64 d, .int .i64 s, .int .i64 a]
theorem splitZ {d s a : Int} (h : isL s a = true) : dayZ (cnt d s a) = d ∧ secZ (cnt d s a) = s ∧ attZ (cnt d s a) = a := by
  rw [isL_iff] at h; unfold dayZ secZ attZ cnt; omega
theorem joinZ (z : Int) : isL (secZ z) (attZ z) = true ∧ cnt (dayZ z) (secZ z) (attZ z) = z := by
  rw [isL_iff]; unfold dayZ secZ attZ cnt; omega
/-! ### '==' of two Labels -/
theorem eqD_eq {a b c x y z : Int} (h1 : a = x) (h2 : b = y) (h3 : c = z) : eqD a b c x y z = true := by subst h1 h2 h3; exact eqD_same _ _ _

theorem rsmall_any {n : Nat} {z : Int} {u : Value} {w : World} (hu : IsBig n z u w) (hn : n ≤ 100000) : Calls Try.prog 28 #[u] w fun e w' => ∃ r, e = .returned r ∧ r = .tuple #[.int .i64 (intV z), .bool (inI z)] ∧ Below w.heap.size w w' := by
  obtain ⟨na, nl, nc, rfl, -⟩ := id hu
  cases hW : inW z with
  | false =>
    have hI : inI z = false := by unfold inW at hW; rw [decide_eq_false_iff_not] at hW; rw [inI_no]; omega
    rw [(int_bad hI).1, hI]
    refine calls_Wp (args := [_]) (n := 25) Try.func28 rfl rfl (by simp) ?_
    refine Wp.seq ?_
    refine wR [0, 1, 2] ?_
    refine sE (fun bk1 w1 kb1 lw1 => ?_)
    refine sZ 2 ?_
    refine qQ 1 ?_
    refine s_callT rfl rfl rfl (by kernel_rfl) rfl (c_rwide (hu.kp) (by omega)) ?_
    rintro v w2 ⟨s, rfl, wh, wl, rfl, hw⟩ lw2
    rw [hW]
    refine sQ 3 ?_
    refine sO (fun bk3 w3 kb3 lw3 => ?_)
    refine sS (fun w4 sw4 vw4 => ?_)
    refine sZ 1 ?_
    refine Wp.seq ?_
    refine Wp.seq ?_
    refine wD [0, 1, 2, 3, 4, 5, 6, 7, 8, 9, 10] [0, 0, 0, 247, 0, 0, 0, 0, 0, 0, 0] (fun _ _ _ => True) (fun _ _ => ?_)
    refine sZ 11 ?_
    refine Wp.condT rfl rfl ?_
    refine qZ ?_
    refine Wp.ret ⟨.inr rfl, fun lW => ⟨_, ⟨_, _, res_tmp (P := Try.prog) rfl rfl, res_tmp (P := Try.prog) rfl rfl, rfl⟩, _, rfl, ?_, lW⟩⟩
    clear lW
    rfl
  | true =>
    have hf : fitV z = z := by unfold fitV; rw [if_pos hW]
    cases hI : inI z with
    | false =>
      rw [(int_bad hI).1]
      refine calls_Wp (args := [_]) (n := 25) Try.func28 rfl rfl (by simp) ?_
      refine Wp.seq ?_
      refine wR [0, 1, 2] ?_
      refine sE (fun bk1 w1 kb1 lw1 => ?_)
      refine sZ 2 ?_
      refine qQ 1 ?_
      refine s_callT rfl rfl rfl (by kernel_rfl) rfl (c_rwide (hu.kp) (by omega)) ?_
      rintro v w2 ⟨s, rfl, wh, wl, rfl, hw⟩ lw2
      rw [hW]
      rw [hf] at hw
      obtain ⟨t, hx, hne, h0, h1⟩ := wrap_not hw hI
      refine sQ 3 ?_
      refine sO (fun bk3 w3 kb3 lw3 => ?_)
      refine sS (fun w4 sw4 vw4 => ?_)
      refine sZ 1 ?_
      refine Wp.seq ?_
      refine Wp.seq ?_
      refine wD [0, 1, 2, 3, 4, 5, 6, 7, 8, 9, 10] [0, 0, 0, 247, 0, 0, 0, 0, 0, 0, 0] (fun | 7 => IsBig 5 t | 8 => fun v _ => v = .bool (eqI z t) | _ => fun _ _ => True) (fun _ _ => ?_)
      refine sQ 6 ?_
      refine a_wconv rfl rfl rfl rfl rfl rfl ?_
      rw [hx]
      refine s_callD rfl rfl rfl (by kernel_rfl) rfl (fun wc lc => c_rint t (by omega) (by omega) wc) ?_
      rintro v w7 u7 hi lw7 mw7
      refine s_callD rfl rfl rfl (by kernel_rfl) rfl (fun wc lc => c_same (hu.kp) (hi.kp) (by omega) (by omega)) ?_
      rintro v w8 u8 rfl lw8 mw8
      rw [eqI_not (fun q => hne q.symm)]
      refine sZ 2 ?_
      refine Wp.condT rfl rfl ?_
      refine qZ ?_
      refine Wp.ret ⟨.inr rfl, fun lW => ⟨_, ⟨_, _, res_tmp (P := Try.prog) rfl rfl, res_tmp (P := Try.prog) rfl rfl, rfl⟩, _, rfl, ?_, lW⟩⟩
      clear lW
      rfl
    | true =>
      rw [(int_yes hI).1]
      have hI' := inI_iff.1 hI
      refine calls_Wp (args := [_]) (n := 25) Try.func28 rfl rfl (by simp) ?_
      refine Wp.seq ?_
      refine wR [0, 1, 2] ?_
      refine sE (fun bk1 w1 kb1 lw1 => ?_)
      refine sZ 2 ?_
      refine qQ 1 ?_
      refine s_callT rfl rfl rfl (by kernel_rfl) rfl (c_rwide (hu.kp) (by omega)) ?_
      rintro v w2 ⟨s, rfl, wh, wl, rfl, hw⟩ lw2
      rw [hW]
      rw [hf] at hw
      have hx := wrap_low hw hI
      refine sQ 3 ?_
      refine sO (fun bk3 w3 kb3 lw3 => ?_)
      refine sS (fun w4 sw4 vw4 => ?_)
      refine sZ 1 ?_
      refine Wp.seq ?_
      refine Wp.seq ?_
      refine wD [0, 1, 2, 3, 4, 5, 6, 7, 8, 9, 10] [0, 0, 0, 247, 0, 0, 0, 0, 0, 0, 0] (fun | 7 => IsBig 5 z | 8 => fun v _ => v = .bool (eqI z z) | _ => fun _ _ => True) (fun _ _ => ?_)
      refine sQ 6 ?_
      refine a_wconv rfl rfl rfl rfl rfl rfl ?_
      rw [hx]
      refine s_callD rfl rfl rfl (by kernel_rfl) rfl (fun wc lc => c_rint z (by omega) (by omega) wc) ?_
      rintro v w7 u7 hi lw7 mw7
      refine s_callD rfl rfl rfl (by kernel_rfl) rfl (fun wc lc => c_same (hu.kp) (hi.kp) (by omega) (by omega)) ?_
      rintro v w8 u8 rfl lw8 mw8
      rw [eqI_refl]
      refine sZ 2 ?_
      refine Wp.condF rfl rfl ?_
      refine Wp.skip ?_
      refine qQ 2 ?_
      refine a_wconv rfl rfl rfl rfl rfl rfl ?_
      rw [hx]
      refine sZ 2 ?_
      refine Wp.ret ⟨.inr rfl, fun lW => ⟨_, ⟨_, _, res_tmp (P := Try.prog) rfl rfl, res_tmp (P := Try.prog) rfl rfl, rfl⟩, _, rfl, ?_, lW⟩⟩
      clear lW
      rfl
def splD (z : Int) : Int := if inB (dayZ z) = true then dayZ z else 0
def splS (z : Int) : Int := if inB (dayZ z) = true then secZ z else 0
def splA (z : Int) : Int := if inB (dayZ z) = true then attZ z else 0
theorem spl_no {z : Int} (h : inB (dayZ z) = false) : splD z = 0 ∧ splS z = 0 ∧ splA z = 0 := by unfold splD splS splA; rw [h]; exact ⟨rfl, rfl, rfl⟩
theorem spl_yes {z : Int} (h : inB (dayZ z) = true) : splD z = dayZ z ∧ splS z = secZ z ∧ splA z = attZ z := by unfold splD splS splA; rw [if_pos h, if_pos h, if_pos h]; exact ⟨rfl, rfl, rfl⟩
def splE (z : Int) : Int := if inB (dayZ z) = true then 0 else 2
theorem splE_no {z : Int} (h : inB (dayZ z) = false) : splE z = 2 := by unfold splE; rw [h]; rfl
theorem splE_yes {z : Int} (h : inB (dayZ z) = true) : splE z = 0 := by unfold splE; rw [if_pos h]
/-! ### Julian dates -/
def jD (d s : Int) : Int := d + 2400000 + (s + 43200) / 86400
def jS (s : Int) : Int := (s + 43200) % 86400
def cD (d s : Int) : Int := d - 2400001 + (s + 43200) / 86400
def cS (s : Int) : Int := (s + 43200) % 86400
end Go.Proofs.Ytlpenfganhaclaa
