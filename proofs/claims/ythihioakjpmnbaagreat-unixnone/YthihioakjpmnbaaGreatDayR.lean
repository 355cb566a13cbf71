/-
 Labels in plain numbers (isL, cnt, labE, dayZ, secZ, attZ), and the contracts of the reference's Plain, In, Join, Small, Split. Conditions: fields are ints; a number's digits are few.
-/
import Derived.Test.YthihioakjpmnbaaGreatGregO
namespace Go.Proofs.YthihioakjpmnbaaGreat
open Go.RowKit
set_option maxRecDepth 100000

def isL (s a : Int) : Bool := decide (0 ≤ s ∧ s < 86400 ∧ 0 ≤ a ∧ a < 1000000000000000000)
theorem isL_iff {s a : Int} : isL s a = true ↔ 0 ≤ s ∧ s < 86400 ∧ 0 ≤ a ∧ a < 1000000000000000000 := by unfold isL; exact decide_eq_true_iff
theorem isL_no {s a : Int} : isL s a = false ↔ ¬ (0 ≤ s ∧ s < 86400 ∧ 0 ≤ a ∧ a < 1000000000000000000) := by unfold isL; exact decide_eq_false_iff_not
def cnt (d s a : Int) : Int := (d * 86400 + s) * 1000000000000000000 + a
def labE (d s a : Int) : Int := if isL s a = true then (if inB d = true then 0 else 2) else 1
def labV (d s a : Int) : Int := if isL s a = true then (if inB d = true then cnt d s a else 0) else 0
theorem lab_bad {d s a : Int} (h : isL s a = false) : labE d s a = 1 ∧ labV d s a = 0 := by unfold labE labV; rw [h]; exact ⟨rfl, rfl⟩
theorem lab_far {d s a : Int} (h : isL s a = true) (k : inB d = false) : labE d s a = 2 ∧ labV d s a = 0 := by unfold labE labV; rw [h, k]; exact ⟨rfl, rfl⟩
theorem lab_ok {d s a : Int} (h : isL s a = true) (k : inB d = true) : labE d s a = 0 ∧ labV d s a = cnt d s a := by unfold labE labV; rw [h, k]; exact ⟨rfl, rfl⟩
def dayZ (z : Int) : Int := z / 1000000000000000000 / 86400
def secZ (z : Int) : Int := z / 1000000000000000000 % 86400
def attZ (z : Int) : Int := z % 1000000000000000000
theorem splitZ {d s a : Int} (h : isL s a = true) : dayZ (cnt d s a) = d ∧ secZ (cnt d s a) = s ∧ attZ (cnt d s a) = a := by
 rw [isL_iff] at h; unfold dayZ secZ attZ cnt; omega
theorem joinZ (z : Int) : isL (secZ z) (attZ z) = true ∧ cnt (dayZ z) (secZ z) (attZ z) = z := by
 rw [isL_iff]; unfold dayZ secZ attZ cnt; omega
/-! ### '==' of two Labels -/
theorem run_eql_label (a b c x y z : Int) (w : World) : (binOp .eql 23 (.agg #[.int .i64 a, .int .i64 b, .int .i64 c]) (.agg #[.int .i64 x, .int .i64 y, .int .i64 z])).run Tryz.prog w = .ok (.bool (eqD a b c x y z)) w := by
 unfold eqD
 by_cases h1 : a = x <;> by_cases h2 : b = y <;> by_cases h3 : c = z <;> simp [go_sem, h1, h2, h3]

theorem din_any (n : Int) (w : World) : Calls Tryz.prog 12 #[.int .i64 n] w fun e w' => ∃ r, e = .returned r ∧ r = .bool (inB n) ∧ Below w.heap.size w w' := by
 refine calls_Wp (args := [_]) (n := 9) Tryz.func12 rfl rfl (by simp) ?_
 refine qZ ?_
 refine qQ 1 ?_
 refine p_geq rfl rfl rfl rfl rfl (fun h4 => ?_) (fun h4 => ?_)
 ·refine sQ 2 ?_
  refine p_leq rfl rfl rfl rfl rfl (fun h7 => ?_) (fun h7 => ?_)
  ·refine sZ 2 ?_
   refine Wp.ret ⟨.inr rfl, fun lW => ⟨_, res_tmp (P := Tryz.prog) rfl rfl, _, rfl, ?_, lW⟩⟩
   clear lW
   rw [inB_iff.2 (by omega)]
  ·refine sZ 2 ?_
   refine Wp.ret ⟨.inr rfl, fun lW => ⟨_, res_tmp (P := Tryz.prog) rfl rfl, _, rfl, ?_, lW⟩⟩
   clear lW
   rw [inB_no.2 (by omega)]
 ·refine sZ 5 ?_
  refine Wp.ret ⟨.inr rfl, fun lW => ⟨_, res_tmp (P := Tryz.prog) rfl rfl, _, rfl, ?_, lW⟩⟩
  clear lW
  rw [inB_no.2 (by omega)]
theorem rjoin_any {d s a : Int} (hd : I64 d) (hs : I64 s) (ha : I64 a) (w : World) : Calls Tryz.prog 25 #[.agg #[.int .i64 d, .int .i64 s, .int .i64 a]] w fun e w' => ∃ r, e = .returned r ∧ IsBig 17 (cnt d s a) r w' ∧ Below w.heap.size w w' := by
 unfold cnt
 obtain ⟨hd0, hd1⟩ := hd
 obtain ⟨hs0, hs1⟩ := hs
 obtain ⟨ha0, ha1⟩ := ha
 refine calls_Wp (args := [_]) (n := 20) Tryz.func25 rfl rfl (by simp) ?_
 refine Wp.seq ?_
 refine wR [0, 1] ?_
 refine sE (fun bk1 w1 kb1 lw1 => ?_)
 refine sO (fun bk2 w2 kb2 lw2 => ?_)
 refine vOrd_nil ?_
 refine Wp.seq ?_
 refine wD [0, 1, 5, 6, 9, 2, 3, 4, 7, 8, 10] [608, 609, 543, 575, 511, 0, 0, 0, 0, 0, 0] (fun | 2 => IsBig 5 d | 3 => IsBig 5 86400 | 4 => IsBig 10 (d * 86400) | 7 => IsBig 5 s | 8 => IsBig 11 (d * 86400 + s) | _ => fun _ _ => True) (fun _ _ => ?_)
 refine sQ 4 ?_
 refine sO (fun bk3 w3 kb3 lw3 => ?_)
 refine s_callD rfl rfl rfl (by kernel_rfl) rfl (fun wc lc => c_rint d (by omega) (by omega) wc) ?_
 rintro v w4 u4 h1 lw4 mw4
 refine s_callD rfl rfl rfl (by kernel_rfl) rfl (fun wc lc => c_rint 86400 (by decide) (by decide) wc) ?_
 rintro v w5 u5 h2 lw5 mw5
 refine s_callD rfl rfl rfl (by kernel_rfl) rfl (fun wc lc => c_mul (h1.kp) (h2.kp) (by decide) (by decide)) ?_
 rintro v w6 u6 h3 lw6 mw6
 refine s_callD rfl rfl rfl (by kernel_rfl) rfl (fun wc lc => c_rint s (by omega) (by omega) wc) ?_
 rintro v w7 u7 h4 lw7 mw7
 refine s_callD rfl rfl rfl (by kernel_rfl) rfl (fun wc lc => c_add (h3.kp) (h4.kp) (by decide) (by decide)) ?_
 rintro v w8 u8 h5 lw8 mw8
 obtain ⟨xa, xl, xc, rfl, -⟩ := id h5
 refine sS (fun w9 sw9 vw9 => ?_)
 refine vOrd_nil ?_
 refine Wp.seq ?_
 refine wD [0, 3, 4, 1, 2, 5, 6, 7] [26, 7, 15, 0, 0, 0, 0, 0] (fun | 1 => IsBig 5 1000000000000000000 | 2 => IsBig 16 ((d * 86400 + s) * 1000000000000000000) | 5 => IsBig 5 a | 6 => IsBig 17 ((d * 86400 + s) * 1000000000000000000 + a) | _ => fun _ _ => True) (fun _ _ => ?_)
 refine sQ 3 ?_
 refine s_callD rfl rfl rfl (by kernel_rfl) rfl (fun wc lc => c_rint 1000000000000000000 (by decide) (by decide) wc) ?_
 rintro v w10 u10 h6 lw10 mw10
 refine s_callD rfl rfl rfl (by kernel_rfl) rfl (fun wc lc => c_mul (h5.kp) (h6.kp) (by decide) (by decide)) ?_
 rintro v w11 u11 h7 lw11 mw11
 refine s_callD rfl rfl rfl (by kernel_rfl) rfl (fun wc lc => c_rint a (by omega) (by omega) wc) ?_
 rintro v w12 u12 h8 lw12 mw12
 refine s_callD rfl rfl rfl (by kernel_rfl) rfl (fun wc lc => c_add (h7.kp) (h8.kp) (by decide) (by decide)) ?_
 rintro v w13 u13 h9 lw13 mw13
 obtain ⟨ya, yl, yc, rfl, -⟩ := id h9
 refine sS (fun w14 sw14 vw14 => ?_)
 refine vOrd_nil ?_
 refine Wp.ret ⟨.inr rfl, fun lW => ⟨_, res_cell rfl rfl rfl rfl, _, rfl, ?_, lW⟩⟩
 clear lW
 exact h9.kp
theorem rsmall_any {n : Nat} {z : Int} {u : Value} {w : World} (hu : IsBig n z u w) (hn : n ≤ 100000) : Calls Tryz.prog 67 #[u] w fun e w' => ∃ r, e = .returned r ∧ r = .tuple #[.int .i64 (intV z), .bool (inI z)] ∧ Below w.heap.size w w' := by
 obtain ⟨na, nl, nc, rfl, -⟩ := id hu
 cases hW : inW z with
 | false =>
  have hI : inI z = false := by unfold inW at hW; rw [decide_eq_false_iff_not] at hW; rw [inI_no]; omega
  rw [(int_bad hI).1, hI]
  refine calls_Wp (args := [_]) (n := 25) Tryz.func67 rfl rfl (by simp) ?_
  refine Wp.seq ?_
  refine wR [0, 1, 2] ?_
  refine sE (fun bk1 w1 kb1 lw1 => ?_)
  refine sZ 2 ?_
  refine qQ 1 ?_
  refine s_callT rfl rfl rfl (by kernel_rfl) rfl (c_rwide (hu.kp) (by omega)) ?_
  rintro v w2 ⟨s, rfl, wh, wl, rfl, hw⟩ lw2
  rw [hW]
  refine sQ 3 ?_
  refine sO (fun bk3 w3 kb3 lw3 => ?_)
  refine sS (fun w4 sw4 vw4 => ?_)
  refine sZ 1 ?_
  refine Wp.seq ?_
  refine Wp.seq ?_
  refine wD [0, 1, 2, 3, 4, 5, 6, 7, 8, 9, 10] [0, 0, 0, 247, 0, 0, 0, 0, 0, 0, 0] (fun _ _ _ => True) (fun _ _ => ?_)
  refine sZ 11 ?_
  refine Wp.condT rfl rfl ?_
  refine qZ ?_
  refine Wp.ret ⟨.inr rfl, fun lW => ⟨_, ⟨_, _, res_tmp (P := Tryz.prog) rfl rfl, res_tmp (P := Tryz.prog) rfl rfl, rfl⟩, _, rfl, ?_, lW⟩⟩
  clear lW
  rfl
 | true =>
  have hf : fitV z = z := by unfold fitV; rw [if_pos hW]
  cases hI : inI z with
  | false =>
   rw [(int_bad hI).1]
   refine calls_Wp (args := [_]) (n := 25) Tryz.func67 rfl rfl (by simp) ?_
   refine Wp.seq ?_
   refine wR [0, 1, 2] ?_
   refine sE (fun bk1 w1 kb1 lw1 => ?_)
   refine sZ 2 ?_
   refine qQ 1 ?_
   refine s_callT rfl rfl rfl (by kernel_rfl) rfl (c_rwide (hu.kp) (by omega)) ?_
   rintro v w2 ⟨s, rfl, wh, wl, rfl, hw⟩ lw2
   rw [hW]
   rw [hf] at hw
   obtain ⟨t, hx, hne, h0, h1⟩ := wrap_not hw hI
   refine sQ 3 ?_
   refine sO (fun bk3 w3 kb3 lw3 => ?_)
   refine sS (fun w4 sw4 vw4 => ?_)
   refine sZ 1 ?_
   refine Wp.seq ?_
   refine Wp.seq ?_
   refine wD [0, 1, 2, 3, 4, 5, 6, 7, 8, 9, 10] [0, 0, 0, 247, 0, 0, 0, 0, 0, 0, 0] (fun | 7 => IsBig 5 t | 8 => fun v _ => v = .bool (eqI z t) | _ => fun _ _ => True) (fun _ _ => ?_)
   refine sQ 6 ?_
   refine a_wconv rfl rfl rfl rfl rfl rfl ?_
   rw [hx]
   refine s_callD rfl rfl rfl (by kernel_rfl) rfl (fun wc lc => c_rint t (by omega) (by omega) wc) ?_
   rintro v w7 u7 hi lw7 mw7
   refine s_callD rfl rfl rfl (by kernel_rfl) rfl (fun wc lc => c_same (hu.kp) (hi.kp) (by omega) (by omega)) ?_
   rintro v w8 u8 rfl lw8 mw8
   rw [eqI_not (fun q => hne q.symm)]
   refine sZ 2 ?_
   refine Wp.condT rfl rfl ?_
   refine qZ ?_
   refine Wp.ret ⟨.inr rfl, fun lW => ⟨_, ⟨_, _, res_tmp (P := Tryz.prog) rfl rfl, res_tmp (P := Tryz.prog) rfl rfl, rfl⟩, _, rfl, ?_, lW⟩⟩
   clear lW
   rfl
  | true =>
   rw [(int_yes hI).1]
   have hI' := inI_iff.1 hI
   refine calls_Wp (args := [_]) (n := 25) Tryz.func67 rfl rfl (by simp) ?_
   refine Wp.seq ?_
   refine wR [0, 1, 2] ?_
   refine sE (fun bk1 w1 kb1 lw1 => ?_)
   refine sZ 2 ?_
   refine qQ 1 ?_
   refine s_callT rfl rfl rfl (by kernel_rfl) rfl (c_rwide (hu.kp) (by omega)) ?_
   rintro v w2 ⟨s, rfl, wh, wl, rfl, hw⟩ lw2
   rw [hW]
   rw [hf] at hw
   have hx := wrap_low hw hI
   refine sQ 3 ?_
   refine sO (fun bk3 w3 kb3 lw3 => ?_)
   refine sS (fun w4 sw4 vw4 => ?_)
   refine sZ 1 ?_
   refine Wp.seq ?_
   refine Wp.seq ?_
   refine wD [0, 1, 2, 3, 4, 5, 6, 7, 8, 9, 10] [0, 0, 0, 247, 0, 0, 0, 0, 0, 0, 0] (fun | 7 => IsBig 5 z | 8 => fun v _ => v = .bool (eqI z z) | _ => fun _ _ => True) (fun _ _ => ?_)
   refine sQ 6 ?_
   refine a_wconv rfl rfl rfl rfl rfl rfl ?_
   rw [hx]
   refine s_callD rfl rfl rfl (by kernel_rfl) rfl (fun wc lc => c_rint z (by omega) (by omega) wc) ?_
   rintro v w7 u7 hi lw7 mw7
   refine s_callD rfl rfl rfl (by kernel_rfl) rfl (fun wc lc => c_same (hu.kp) (hi.kp) (by omega) (by omega)) ?_
   rintro v w8 u8 rfl lw8 mw8
   rw [eqI_refl]
   refine sZ 2 ?_
   refine Wp.condF rfl rfl ?_
   refine Wp.skip ?_
   refine qQ 2 ?_
   refine a_wconv rfl rfl rfl rfl rfl rfl ?_
   rw [hx]
   refine sZ 2 ?_
   refine Wp.ret ⟨.inr rfl, fun lW => ⟨_, ⟨_, _, res_tmp (P := Tryz.prog) rfl rfl, res_tmp (P := Tryz.prog) rfl rfl, rfl⟩, _, rfl, ?_, lW⟩⟩
   clear lW
   rfl
def splD (z : Int) : Int := if inB (dayZ z) = true then dayZ z else 0
def splS (z : Int) : Int := if inB (dayZ z) = true then secZ z else 0
def splA (z : Int) : Int := if inB (dayZ z) = true then attZ z else 0
theorem spl_no {z : Int} (h : inB (dayZ z) = false) : splD z = 0 ∧ splS z = 0 ∧ splA z = 0 := by unfold splD splS splA; rw [h]; exact ⟨rfl, rfl, rfl⟩
theorem spl_yes {z : Int} (h : inB (dayZ z) = true) : splD z = dayZ z ∧ splS z = secZ z ∧ splA z = attZ z := by unfold splD splS splA; rw [if_pos h, if_pos h, if_pos h]; exact ⟨rfl, rfl, rfl⟩
def splE (z : Int) : Int := if inB (dayZ z) = true then 0 else 2
theorem splE_no {z : Int} (h : inB (dayZ z) = false) : splE z = 2 := by unfold splE; rw [h]; rfl
theorem splE_yes {z : Int} (h : inB (dayZ z) = true) : splE z = 0 := by unfold splE; rw [if_pos h]
/-! ### Julian dates -/
theorem rsplit_any {n : Nat} {z : Int} {u : Value} {w : World} (hu : IsBig n z u w) (hn : n ≤ 1000) : Calls Tryz.prog 43 #[u] w fun e w' => ∃ r, e = .returned r ∧ r = .tuple #[.agg #[.int .i64 (splD z), .int .i64 (splS z), .int .i64 (splA z)], .bool (inB (dayZ z))] ∧ Below w.heap.size w w' := by
 obtain ⟨na, nl, nc, rfl, -⟩ := id hu
 obtain ⟨D, hD⟩ : ∃ D, dayZ z = D := ⟨_, rfl⟩
 obtain ⟨Q, hQ⟩ : ∃ Q, secZ z = Q := ⟨_, rfl⟩
 obtain ⟨A, hA⟩ : ∃ A, attZ z = A := ⟨_, rfl⟩
 have bQ : 0 ≤ Q ∧ Q < 86400 := by rw [← hQ]; unfold secZ; omega
 have bA : 0 ≤ A ∧ A < 1000000000000000000 := by rw [← hA]; unfold attZ; omega
 cases hB : inB (dayZ z) with
 | false =>
  obtain ⟨e1, e2, e3⟩ := spl_no hB
  rw [e1, e2, e3]
  cases hI : inI D with
  | false =>
   refine calls_Wp (args := [_]) (n := 53) Tryz.func43 rfl rfl (by simp) ?_
   refine Wp.seq ?_
   refine wR [0, 1, 2] ?_
   refine sE (fun bk1 w1 kb1 lw1 => ?_)
   refine sO (fun bk2 w2 kb2 lw2 => ?_)
   refine sZ 1 ?_
   refine Wp.seq ?_
   refine wD [0, 6, 7, 1, 2, 3, 4, 5, 8, 9] [194, 191, 127, 0, 0, 0, 239, 479, 0, 0] (fun | 1 => IsBig 5 1000000000000000000 | 2 => fun v w => ∃ x y, v = .tuple #[x, y] ∧ IsBig (max n 4 + 1) (z / 1000000000000000000) x w ∧ IsBig 6 (z % 1000000000000000000) y w | _ => fun _ _ => True) (fun _ _ => ?_)
   refine sL ?_
   refine sO (fun bk3 w3 kb3 lw3 => ?_)
   refine sO (fun bk4 w4 kb4 lw4 => ?_)
   refine s_callD rfl rfl rfl (by kernel_rfl) rfl (fun wc lc => c_rint 1000000000000000000 (by decide) (by decide) wc) ?_
   rintro v w5 u5 h1 lw5 mw5
   refine s_callD rfl rfl rfl (by kernel_rfl) rfl (fun wc lc => c_div (hu.kp) (h1.kp) (by decide) (by omega) (by decide)) ?_
   rintro v w6 u6 ⟨x, y, rfl, hx, hy⟩ lw6 mw6
   rw [show z % 1000000000000000000 = A from hA] at hy
   obtain ⟨xa, xl, xc, rfl, -⟩ := id hx
   obtain ⟨ya, yl, yc, rfl, -⟩ := id hy
   refine sQ 3 ?_
   refine sS (fun w7 sw7 vw7 => ?_)
   refine sS (fun w8 sw8 vw8 => ?_)
   refine vOrd_nil ?_
   refine Wp.seq ?_
   refine wD [0, 6, 7, 1, 2, 3, 4, 5, 8, 9] [194, 191, 127, 0, 0, 0, 239, 479, 0, 0] (fun | 1 => IsBig 5 86400 | 2 => fun v w => ∃ x y, v = .tuple #[x, y] ∧ IsBig (max (max n 4 + 1) 4 + 1) (z / 1000000000000000000 / 86400) x w ∧ IsBig 6 (z / 1000000000000000000 % 86400) y w | _ => fun _ _ => True) (fun _ _ => ?_)
   refine sL ?_
   refine sO (fun bk9 w9 kb9 lw9 => ?_)
   refine sO (fun bk10 w10 kb10 lw10 => ?_)
   refine s_callD rfl rfl rfl (by kernel_rfl) rfl (fun wc lc => c_rint 86400 (by decide) (by decide) wc) ?_
   rintro v w11 u11 h2 lw11 mw11
   refine s_callD rfl rfl rfl (by kernel_rfl) rfl (fun wc lc => c_div (hx.kp) (h2.kp) (by decide) (by omega) (by decide)) ?_
   rintro v w12 u12 ⟨x2, y2, rfl, hx2, hy2⟩ lw12 mw12
   rw [show z / 1000000000000000000 / 86400 = D from hD] at hx2
   rw [show z / 1000000000000000000 % 86400 = Q from hQ] at hy2
   obtain ⟨x2a, x2l, x2c, rfl, -⟩ := id hx2
   obtain ⟨y2a, y2l, y2c, rfl, -⟩ := id hy2
   refine sQ 3 ?_
   refine sS (fun w13 sw13 vw13 => ?_)
   refine sS (fun w14 sw14 vw14 => ?_)
   refine vOrd_nil ?_
   refine qQ 1 ?_
   refine s_callT rfl rfl rfl (by kernel_rfl) rfl (rsmall_any (n := max (max n 4 + 1) 4 + 1) (hx2.kp) (by omega)) ?_
   rintro v w15 rfl lw15
   rw [(int_bad hI).1, hI]
   refine sZ 5 ?_
   refine Wp.seq ?_
   refine qZ ?_
   refine Wp.condT rfl rfl ?_
   refine Wp.seq ?_
   refine wR [0, 1, 2] ?_
   refine sB ?_
   refine sS (fun w16 sw16 vw16 => ?_)
   refine sZ 1 ?_
   refine Wp.ret ⟨.inr rfl, fun lW => ⟨_, ⟨_, _, res_cell rfl rfl rfl rfl, res_tmp (P := Tryz.prog) rfl rfl, rfl⟩, _, rfl, ?_, lW⟩⟩
   clear lW
   rfl
  | true =>
   refine calls_Wp (args := [_]) (n := 53) Tryz.func43 rfl rfl (by simp) ?_
   refine Wp.seq ?_
   refine wR [0, 1, 2] ?_
   refine sE (fun bk1 w1 kb1 lw1 => ?_)
   refine sO (fun bk2 w2 kb2 lw2 => ?_)
   refine sZ 1 ?_
   refine Wp.seq ?_
   refine wD [0, 6, 7, 1, 2, 3, 4, 5, 8, 9] [194, 191, 127, 0, 0, 0, 239, 479, 0, 0] (fun | 1 => IsBig 5 1000000000000000000 | 2 => fun v w => ∃ x y, v = .tuple #[x, y] ∧ IsBig (max n 4 + 1) (z / 1000000000000000000) x w ∧ IsBig 6 (z % 1000000000000000000) y w | _ => fun _ _ => True) (fun _ _ => ?_)
   refine sL ?_
   refine sO (fun bk3 w3 kb3 lw3 => ?_)
   refine sO (fun bk4 w4 kb4 lw4 => ?_)
   refine s_callD rfl rfl rfl (by kernel_rfl) rfl (fun wc lc => c_rint 1000000000000000000 (by decide) (by decide) wc) ?_
   rintro v w5 u5 h1 lw5 mw5
   refine s_callD rfl rfl rfl (by kernel_rfl) rfl (fun wc lc => c_div (hu.kp) (h1.kp) (by decide) (by omega) (by decide)) ?_
   rintro v w6 u6 ⟨x, y, rfl, hx, hy⟩ lw6 mw6
   rw [show z % 1000000000000000000 = A from hA] at hy
   obtain ⟨xa, xl, xc, rfl, -⟩ := id hx
   obtain ⟨ya, yl, yc, rfl, -⟩ := id hy
   refine sQ 3 ?_
   refine sS (fun w7 sw7 vw7 => ?_)
   refine sS (fun w8 sw8 vw8 => ?_)
   refine vOrd_nil ?_
   refine Wp.seq ?_
   refine wD [0, 6, 7, 1, 2, 3, 4, 5, 8, 9] [194, 191, 127, 0, 0, 0, 239, 479, 0, 0] (fun | 1 => IsBig 5 86400 | 2 => fun v w => ∃ x y, v = .tuple #[x, y] ∧ IsBig (max (max n 4 + 1) 4 + 1) (z / 1000000000000000000 / 86400) x w ∧ IsBig 6 (z / 1000000000000000000 % 86400) y w | _ => fun _ _ => True) (fun _ _ => ?_)
   refine sL ?_
   refine sO (fun bk9 w9 kb9 lw9 => ?_)
   refine sO (fun bk10 w10 kb10 lw10 => ?_)
   refine s_callD rfl rfl rfl (by kernel_rfl) rfl (fun wc lc => c_rint 86400 (by decide) (by decide) wc) ?_
   rintro v w11 u11 h2 lw11 mw11
   refine s_callD rfl rfl rfl (by kernel_rfl) rfl (fun wc lc => c_div (hx.kp) (h2.kp) (by decide) (by omega) (by decide)) ?_
   rintro v w12 u12 ⟨x2, y2, rfl, hx2, hy2⟩ lw12 mw12
   rw [show z / 1000000000000000000 / 86400 = D from hD] at hx2
   rw [show z / 1000000000000000000 % 86400 = Q from hQ] at hy2
   obtain ⟨x2a, x2l, x2c, rfl, -⟩ := id hx2
   obtain ⟨y2a, y2l, y2c, rfl, -⟩ := id hy2
   refine sQ 3 ?_
   refine sS (fun w13 sw13 vw13 => ?_)
   refine sS (fun w14 sw14 vw14 => ?_)
   refine vOrd_nil ?_
   refine qQ 1 ?_
   refine s_callT rfl rfl rfl (by kernel_rfl) rfl (rsmall_any (n := max (max n 4 + 1) 4 + 1) (hx2.kp) (by omega)) ?_
   rintro v w15 rfl lw15
   rw [(int_yes hI).1, hI]
   refine sZ 5 ?_
   refine Wp.seq ?_
   refine qQ 4 ?_
   refine sT (din_any D _) ?_
   rintro v w16 rfl lw16
   rw [← hD, hB]
   refine sZ 2 ?_
   refine Wp.condT rfl rfl ?_
   refine Wp.seq ?_
   refine wR [0, 1, 2] ?_
   refine sB ?_
   refine sS (fun w17 sw17 vw17 => ?_)
   refine sZ 1 ?_
   refine Wp.ret ⟨.inr rfl, fun lW => ⟨_, ⟨_, _, res_cell rfl rfl rfl rfl, res_tmp (P := Tryz.prog) rfl rfl, rfl⟩, _, rfl, ?_, lW⟩⟩
   clear lW
   rfl
 | true =>
  obtain ⟨e1, e2, e3⟩ := spl_yes hB
  rw [e1, e2, e3, hD, hQ, hA]
  rw [hD] at hB
  have hI : inI D = true := by rw [inB_iff] at hB; rw [inI_iff]; omega
  have hIQ : inI Q = true := by rw [inI_iff]; omega
  have hIA : inI A = true := by rw [inI_iff]; omega
  refine calls_Wp (args := [_]) (n := 53) Tryz.func43 rfl rfl (by simp) ?_
  refine Wp.seq ?_
  refine wR [0, 1, 2] ?_
  refine sE (fun bk1 w1 kb1 lw1 => ?_)
  refine sO (fun bk2 w2 kb2 lw2 => ?_)
  refine sZ 1 ?_
  refine Wp.seq ?_
  refine wD [0, 6, 7, 1, 2, 3, 4, 5, 8, 9] [194, 191, 127, 0, 0, 0, 239, 479, 0, 0] (fun | 1 => IsBig 5 1000000000000000000 | 2 => fun v w => ∃ x y, v = .tuple #[x, y] ∧ IsBig (max n 4 + 1) (z / 1000000000000000000) x w ∧ IsBig 6 (z % 1000000000000000000) y w | _ => fun _ _ => True) (fun _ _ => ?_)
  refine sL ?_
  refine sO (fun bk3 w3 kb3 lw3 => ?_)
  refine sO (fun bk4 w4 kb4 lw4 => ?_)
  refine s_callD rfl rfl rfl (by kernel_rfl) rfl (fun wc lc => c_rint 1000000000000000000 (by decide) (by decide) wc) ?_
  rintro v w5 u5 h1 lw5 mw5
  refine s_callD rfl rfl rfl (by kernel_rfl) rfl (fun wc lc => c_div (hu.kp) (h1.kp) (by decide) (by omega) (by decide)) ?_
  rintro v w6 u6 ⟨x, y, rfl, hx, hy⟩ lw6 mw6
  rw [show z % 1000000000000000000 = A from hA] at hy
  obtain ⟨xa, xl, xc, rfl, -⟩ := id hx
  obtain ⟨ya, yl, yc, rfl, -⟩ := id hy
  refine sQ 3 ?_
  refine sS (fun w7 sw7 vw7 => ?_)
  refine sS (fun w8 sw8 vw8 => ?_)
  refine vOrd_nil ?_
  refine Wp.seq ?_
  refine wD [0, 6, 7, 1, 2, 3, 4, 5, 8, 9] [194, 191, 127, 0, 0, 0, 239, 479, 0, 0] (fun | 1 => IsBig 5 86400 | 2 => fun v w => ∃ x y, v = .tuple #[x, y] ∧ IsBig (max (max n 4 + 1) 4 + 1) (z / 1000000000000000000 / 86400) x w ∧ IsBig 6 (z / 1000000000000000000 % 86400) y w | _ => fun _ _ => True) (fun _ _ => ?_)
  refine sL ?_
  refine sO (fun bk9 w9 kb9 lw9 => ?_)
  refine sO (fun bk10 w10 kb10 lw10 => ?_)
  refine s_callD rfl rfl rfl (by kernel_rfl) rfl (fun wc lc => c_rint 86400 (by decide) (by decide) wc) ?_
  rintro v w11 u11 h2 lw11 mw11
  refine s_callD rfl rfl rfl (by kernel_rfl) rfl (fun wc lc => c_div (hx.kp) (h2.kp) (by decide) (by omega) (by decide)) ?_
  rintro v w12 u12 ⟨x2, y2, rfl, hx2, hy2⟩ lw12 mw12
  rw [show z / 1000000000000000000 / 86400 = D from hD] at hx2
  rw [show z / 1000000000000000000 % 86400 = Q from hQ] at hy2
  obtain ⟨x2a, x2l, x2c, rfl, -⟩ := id hx2
  obtain ⟨y2a, y2l, y2c, rfl, -⟩ := id hy2
  refine sQ 3 ?_
  refine sS (fun w13 sw13 vw13 => ?_)
  refine sS (fun w14 sw14 vw14 => ?_)
  refine vOrd_nil ?_
  refine qQ 1 ?_
  refine s_callT rfl rfl rfl (by kernel_rfl) rfl (rsmall_any (n := max (max n 4 + 1) 4 + 1) (hx2.kp) (by omega)) ?_
  rintro v w15 rfl lw15
  rw [(int_yes hI).1, hI]
  refine sZ 5 ?_
  refine Wp.seq ?_
  refine qQ 4 ?_
  refine sT (din_any D _) ?_
  rintro v w16 rfl lw16
  rw [hB]
  refine sZ 2 ?_
  refine Wp.condF rfl rfl ?_
  refine Wp.skip ?_
  refine qQ 1 ?_
  refine s_callT rfl rfl rfl (by kernel_rfl) rfl (rsmall_any (n := 6) (hy2.kp) (by omega)) ?_
  rintro v w17 rfl lw17
  rw [(int_yes hIQ).1, hIQ]
  refine sZ 5 ?_
  refine qQ 1 ?_
  refine s_callT rfl rfl rfl (by kernel_rfl) rfl (rsmall_any (n := 6) (hy.kp) (by omega)) ?_
  rintro v w18 rfl lw18
  rw [(int_yes hIA).1, hIA]
  refine sZ 5 ?_
  refine qQ 3 ?_
  refine sB ?_
  refine sS (fun w19 sw19 vw19 => ?_)
  refine sZ 1 ?_
  refine Wp.ret ⟨.inr rfl, fun lW => ⟨_, ⟨_, _, res_cell rfl rfl rfl rfl, res_tmp (P := Tryz.prog) rfl rfl, rfl⟩, _, rfl, ?_, lW⟩⟩
  clear lW
  rfl
end Go.Proofs.YthihioakjpmnbaaGreat
