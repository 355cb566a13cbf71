/-
  Weekdays, days of years and weeks in plain numbers (wkd, wOne, weeks, ydB, wkB, dV, dE), and the contracts of the reference's Weekday, YearDay, WeekOne, Week. Conditions: days in range, years from -2^34 to 2^34.
-/
import Derived.Test.YtephjnnhfelkkaaDoorGregC
namespace Go.Proofs.YtephjnnhfelkkaaDoor
open Go.RowKit
set_option maxRecDepth 100000

def wkd (n : Int) : Int := (n + 2) % 7 + 1
theorem wkd_in (n : Int) : 1 ≤ wkd n ∧ wkd n ≤ 7 := by unfold wkd; omega
def wOne (y : Int) : Int := firstD y + 3 - wkd (firstD y + 3) + 1
def weeks (y : Int) : Int := (wOne (y + 1) - wOne y) / 7
theorem wOne_in (y : Int) : firstD y - 3 ≤ wOne y ∧ wOne y ≤ firstD y + 3 ∧ (wOne y + 2) % 7 = 0 := by unfold wOne wkd; omega
theorem weeks_is (y : Int) : wOne (y + 1) = wOne y + 7 * weeks y ∧ 52 ≤ weeks y ∧ weeks y ≤ 53 := by
  have h1 := wOne_in y
  have h2 := wOne_in (y + 1)
  have h3 := first_next y
  have h4 := lp_or y
  unfold weeks; omega
theorem wOne_up {y z : Int} (h : y < z) : wOne (y + 1) ≤ wOne z := by
  by_cases c : z = y + 1
  · subst c; exact Int.le_refl _
  · have h1 := first_up (show y + 1 < z by omega)
    have h2 := first_next (y + 1)
    have h3 := lp_or (y + 1)
    have h4 := wOne_in (y + 1)
    have h5 := wOne_in z
    omega
theorem one_week {y z n : Int} (h : wOne y ≤ n) (k : n < wOne (y + 1)) (h' : wOne z ≤ n) (k' : n < wOne (z + 1)) : y = z := by
  rcases Int.lt_trichotomy y z with c | c | c
  · have := wOne_up c; omega
  · exact c
  · have := wOne_up c; omega
theorem one_year {y z n : Int} (h : firstD y ≤ n) (k : n < firstD (y + 1)) (h' : firstD z ≤ n) (k' : n < firstD (z + 1)) : y = z := by
  rcases Int.lt_trichotomy y z with c | c | c
  · have := first_up c; omega
  · exact c
  · have := first_up c; omega
theorem wOne_cycle (y k : Int) : wOne (y + 400 * k) = wOne y + 146097 * k := by
  have h : firstD (y + 400 * k) = firstD y + 146097 * k := by unfold firstD ahead; omega
  unfold wOne wkd; rw [h]; omega
theorem weeks_mod {x y : Int} (h : x % 400 = y % 400) : weeks x = weeks y := by
  obtain ⟨k, rfl⟩ : ∃ k, x = y + 400 * k := ⟨(x - y) / 400, by omega⟩
  unfold weeks
  rw [show y + 400 * k + 1 = y + 1 + 400 * k by omega, wOne_cycle, wOne_cycle]
  congr 1; omega
theorem tmod_7 (n : Int) : ((n.tmod 7 + 7) % 7 + 2) % 7 + 1 = wkd n := by
  have hd : (0 : Int) < 7 := by decide
  unfold wkd
  by_cases c : n.tmod 7 < 0
  · have := (tdiv_low hd c).2; omega
  · have := (tdiv_high hd (by omega : 0 ≤ n.tmod 7)).2; omega
theorem tmod_400 (y : Int) : ((y.tmod 400 + 400) % 400 + 400) % 400 = y % 400 := by
  have hd : (0 : Int) < 400 := by decide
  by_cases c : y.tmod 400 < 0
  · have := (tdiv_low hd c).2; omega
  · have := (tdiv_high hd (by omega : 0 ≤ y.tmod 400)).2; omega
def ydB (y d : Int) : Bool := decide (1 ≤ d ∧ d ≤ 365 + lp y)
theorem ydB_iff {y d : Int} : ydB y d = true ↔ 1 ≤ d ∧ d ≤ 365 + lp y := by unfold ydB; exact decide_eq_true_iff
theorem ydB_no {y d : Int} : ydB y d = false ↔ ¬ (1 ≤ d ∧ d ≤ 365 + lp y) := by unfold ydB; exact decide_eq_false_iff_not
def ydN (y d : Int) : Int := firstD y + d - 1
def wkB (y k d : Int) : Bool := decide (1 ≤ d ∧ d ≤ 7 ∧ 1 ≤ k ∧ k ≤ weeks y)
theorem wkB_iff {y k d : Int} : wkB y k d = true ↔ 1 ≤ d ∧ d ≤ 7 ∧ 1 ≤ k ∧ k ≤ weeks y := by unfold wkB; exact decide_eq_true_iff
theorem wkB_no {y k d : Int} : wkB y k d = false ↔ ¬ (1 ≤ d ∧ d ≤ 7 ∧ 1 ≤ k ∧ k ≤ weeks y) := by unfold wkB; exact decide_eq_false_iff_not
def wkN (y k d : Int) : Int := wOne y + (k - 1) * 7 + d - 1
/-- What is answered of a day, and which error. -/
def dV (b : Bool) (n : Int) : Int := if b = true then (if inB n = true then n else 0) else 0
def dE (b : Bool) (n : Int) : Int := if b = true then (if inB n = true then 0 else 2) else 5
theorem d_bad {b : Bool} {n : Int} (h : b = false) : dV b n = 0 ∧ dE b n = 5 := by subst h; exact ⟨rfl, rfl⟩
theorem d_far {b : Bool} {n : Int} (h : b = true) (k : inB n = false) : dV b n = 0 ∧ dE b n = 2 := by subst h; unfold dV dE; rw [k]; exact ⟨rfl, rfl⟩
theorem d_ok {b : Bool} {n : Int} (h : b = true) (k : inB n = true) : dV b n = n ∧ dE b n = 0 := by subst h; unfold dV dE; rw [k]; exact ⟨rfl, rfl⟩
theorem yd_far {y d : Int} (h : ydB y d = true) (hy : y < -8589934592 ∨ 8589934592 < y) : inB (ydN y d) = false := by
  rw [ydB_iff] at h
  have := lp_or y
  rw [inB_no]; unfold ydN firstD ahead; omega
theorem wk_far {y k d : Int} (h : wkB y k d = true) (hy : y < -8589934592 ∨ 8589934592 < y) : inB (wkN y k d) = false := by
  rw [wkB_iff] at h
  have h1 := weeks_is y
  have h2 := wOne_in y
  rw [inB_no]; unfold wkN
  unfold firstD ahead at h2; omega
theorem wk_back {y n : Int} (h : wOne y ≤ n) (k : n < wOne (y + 1)) : wkB y ((n - wOne y) / 7 + 1) (wkd n) = true ∧ wkN y ((n - wOne y) / 7 + 1) (wkd n) = n := by
  have h1 := weeks_is y
  have h2 := wOne_in y
  rw [wkB_iff]; unfold wkN wkd; omega
theorem yd_back {y n : Int} (h : firstD y ≤ n) (k : n < firstD (y + 1)) : ydB y (n - firstD y + 1) = true ∧ ydN y (n - firstD y + 1) = n := by
  have h1 := first_next y
  rw [ydB_iff]; unfold ydN; omega
theorem year_in2 {y n : Int} (h : firstD y ≤ n) (k : n < firstD (y + 1)) (hI : inB n = true) : -8589934592 ≤ y ∧ y ≤ 8589934592 := by
  rw [inB_iff] at hI
  unfold firstD ahead at h k; omega
theorem week_in2 {y n : Int} (h : wOne y ≤ n) (k : n < wOne (y + 1)) (hI : inB n = true) : -8589934592 ≤ y ∧ y ≤ 8589934592 := by
  rw [inB_iff] at hI
  have h1 := wOne_in y
  have h2 := wOne_in (y + 1)
  unfold firstD ahead at h1 h2; omega
theorem week_near {y n : Int} (h : firstD y ≤ n) (k : n < firstD (y + 1)) : wOne (y - 1) ≤ n ∧ n < wOne (y + 1 + 1) := by
  have h1 := wOne_in (y - 1)
  have h2 := wOne_in (y + 1 + 1)
  have h3 := first_next (y - 1)
  have h4 := first_next (y + 1)
  have h5 := lp_or (y - 1)
  have h6 := lp_or (y + 1)
  rw [show y - 1 + 1 = y by omega] at h3
  omega

theorem rweekday_any (n : Int) (w : World) : Calls Tryd.prog 10 #[.int .i64 (n)] w fun e w' => ∃ r, e = .returned r ∧ r = .int .i64 (wkd n) ∧ Below w.heap.size w w' := by
  have hm := tmod_in (n := n) (show (0 : Int) < 7 by decide)
  have e := tmod_7 n
  refine calls_Wp (args := [_]) (n := 10) Tryd.func10 rfl rfl (by simp) ?_
  refine Wp.seq ?_
  refine Wp.region [0] (by kernel_rfl) (by kernel_rfl) ?_
  refine s_assign rfl rfl rfl rfl ?_
  refine vOrd_nil ?_
  refine Wp.seq ?_
  refine Wp.region [0, 1, 2, 3, 4, 5, 6, 7] (by kernel_rfl) (by kernel_rfl) ?_
  refine s_move rfl rfl rfl rfl ?_
  refine a_tmod rfl rfl rfl rfl rfl (by omega) ?_
  refine a_add (-9223372036854775808) 9223372036854775807 (by decide) rfl rfl rfl rfl rfl (by omega) (by omega) ?_
  refine a_rem rfl rfl rfl rfl rfl (by omega) (by omega) ?_
  refine a_add (-9223372036854775808) 9223372036854775807 (by decide) rfl rfl rfl rfl rfl (by omega) (by omega) ?_
  refine a_rem rfl rfl rfl rfl rfl (by omega) (by omega) ?_
  refine a_add (-9223372036854775808) 9223372036854775807 (by decide) rfl rfl rfl rfl rfl (by omega) (by omega) ?_
  refine s_assign rfl rfl rfl rfl ?_
  refine vOrd_nil ?_
  refine Wp.ret ⟨.inr rfl, fun lW => ⟨_, res_tmp (P := Tryd.prog) rfl rfl, _, rfl, ?_, lW⟩⟩
  clear lW
  rw [e]
theorem rweekone_any (y : Int) (h0 : -17179869184 ≤ y) (h1 : y ≤ 17179869184) (w : World) : Calls Tryd.prog 20 #[.int .i64 (y)] w fun e w' => ∃ r, e = .returned r ∧ r = .int .i64 (wOne y) ∧ Below w.heap.size w w' := by
  unfold wOne
  have hf := first_in (y := y) (by omega) (by omega)
  have hw := wkd_in (firstD y + 3)
  refine calls_Wp (args := [_]) (n := 12) Tryd.func20 rfl rfl (by simp) ?_
  refine Wp.seq ?_
  refine Wp.region [0] (by kernel_rfl) (by kernel_rfl) ?_
  refine s_assign rfl rfl rfl rfl ?_
  refine vOrd_nil ?_
  refine Wp.seq ?_
  refine Wp.region [0, 1, 2, 3] (by kernel_rfl) (by kernel_rfl) ?_
  refine s_move rfl rfl rfl rfl ?_
  refine s_callT rfl rfl rfl (by kernel_rfl) rfl (rfirst_any y h0 h1 _) ?_
  rintro v w1 rfl lw1
  refine a_add (-9223372036854775808) 9223372036854775807 (by decide) rfl rfl rfl rfl rfl (by omega) (by omega) ?_
  refine s_assign rfl rfl rfl rfl ?_
  refine vOrd_nil ?_
  refine Wp.seq ?_
  refine Wp.region [0, 1, 2, 3, 4, 5] (by kernel_rfl) (by kernel_rfl) ?_
  refine s_move rfl rfl rfl rfl ?_
  refine s_move rfl rfl rfl rfl ?_
  refine s_callT rfl rfl rfl (by kernel_rfl) rfl (rweekday_any (firstD y + 3) _) ?_
  rintro v w2 rfl lw2
  refine a_sub (-9223372036854775808) 9223372036854775807 (by decide) rfl rfl rfl rfl rfl (by omega) (by omega) ?_
  refine a_add (-9223372036854775808) 9223372036854775807 (by decide) rfl rfl rfl rfl rfl (by omega) (by omega) ?_
  refine s_assign rfl rfl rfl rfl ?_
  refine vOrd_nil ?_
  refine Wp.ret ⟨.inr rfl, fun lW => ⟨_, res_tmp (P := Tryd.prog) rfl rfl, _, rfl, ?_, lW⟩⟩
  clear lW
  rfl
theorem ryearday_any (n : Int) (hI : inB n = true) (w : World) : Calls Tryd.prog 13 #[.int .i64 (n)] w fun e w' => ∃ r, e = .returned r ∧ (∃ y, r = .tuple #[.int .i64 (y), .int .i64 (n - firstD y + 1)] ∧ firstD y ≤ n ∧ n < firstD (y + 1)) ∧ Below w.heap.size w w' := by
  have hI' := inB_iff.1 hI
  refine calls_Wp (args := [_]) (n := 14) Tryd.func13 rfl rfl (by simp) ?_
  refine Wp.seq ?_
  refine Wp.region [0, 1] (by kernel_rfl) (by kernel_rfl) ?_
  refine s_assign rfl rfl rfl rfl ?_
  refine s_assign rfl rfl rfl rfl ?_
  refine vOrd_nil ?_
  refine Wp.seq ?_
  refine Wp.region [0, 1, 2, 3] (by kernel_rfl) (by kernel_rfl) ?_
  refine s_move rfl rfl rfl rfl ?_
  refine s_callT rfl rfl rfl (by kernel_rfl) rfl (rdate_any n hI _) ?_
  rintro v w1 ⟨y, m, d, rfl, k1, k2⟩ lw1
  have h3 := day_in k1
  rw [k2] at h3
  have h4 := year_in2 h3.1 h3.2 hI
  have h5 := first_in (y := y) (by omega) (by omega)
  refine s_val rfl rfl rfl rfl (fun _ => rfl) ?_
  refine s_assign rfl rfl rfl rfl ?_
  refine vOrd_nil ?_
  refine Wp.seq ?_
  refine Wp.region [0, 1, 2, 3, 4, 5, 6, 7] (by kernel_rfl) (by kernel_rfl) ?_
  refine s_move rfl rfl rfl rfl ?_
  refine s_move rfl rfl rfl rfl ?_
  refine s_move rfl rfl rfl rfl ?_
  refine s_callT rfl rfl rfl (by kernel_rfl) rfl (rfirst_any y (by omega) (by omega) _) ?_
  rintro v w2 rfl lw2
  refine a_sub (-9223372036854775808) 9223372036854775807 (by decide) rfl rfl rfl rfl rfl (by omega) (by omega) ?_
  refine a_add (-9223372036854775808) 9223372036854775807 (by decide) rfl rfl rfl rfl rfl (by omega) (by omega) ?_
  refine s_assign rfl rfl rfl rfl ?_
  refine s_assign rfl rfl rfl rfl ?_
  refine vOrd_nil ?_
  refine Wp.ret ⟨.inr rfl, fun lW => ⟨_, ⟨_, _, res_tmp (P := Tryd.prog) rfl rfl, res_tmp (P := Tryd.prog) rfl rfl, rfl⟩, _, rfl, ?_, lW⟩⟩
  clear lW
  exact ⟨_, rfl, h3.1, h3.2⟩
theorem rweek_any (n : Int) (hI : inB n = true) (w : World) : Calls Tryd.prog 18 #[.int .i64 (n)] w fun e w' => ∃ r, e = .returned r ∧ (∃ y, r = .tuple #[.int .i64 (y), .int .i64 ((n - wOne y) / 7 + 1), .int .i64 (wkd n)] ∧ wOne y ≤ n ∧ n < wOne (y + 1)) ∧ Below w.heap.size w w' := by
  have hI' := inB_iff.1 hI
  refine calls_Wp (args := [_]) (n := 25) Tryd.func18 rfl rfl (by simp) ?_
  refine Wp.seq ?_
  refine Wp.region [0, 1, 2] (by kernel_rfl) (by kernel_rfl) ?_
  refine s_assign rfl rfl rfl rfl ?_
  refine s_assign rfl rfl rfl rfl ?_
  refine s_assign rfl rfl rfl rfl ?_
  refine vOrd_nil ?_
  refine Wp.seq ?_
  refine Wp.region [0, 1, 2, 3, 4] (by kernel_rfl) (by kernel_rfl) ?_
  refine s_move rfl rfl rfl rfl ?_
  refine s_callT rfl rfl rfl (by kernel_rfl) rfl (rdate_any n hI _) ?_
  rintro v w1 ⟨y, m, d, rfl, k1, k2⟩ lw1
  have h3 := day_in k1
  rw [k2] at h3
  have h4 := year_in2 h3.1 h3.2 hI
  have h5 := week_near h3.1 h3.2
  refine s_val rfl rfl rfl rfl (fun _ => rfl) ?_
  refine a_add (-9223372036854775808) 9223372036854775807 (by decide) rfl rfl rfl rfl rfl (by omega) (by omega) ?_
  refine s_assign rfl rfl rfl rfl ?_
  refine vOrd_nil ?_
  refine Wp.seq ?_
  refine Wp.block ?_
  refine Wp.loop (fun k st w2 => ∃ z : Int, st = St.of [(0, .v (.int .i64 n)), (5, .v (.int .i64 z))] [] ∧ y - 1 ≤ z ∧ z ≤ y + 1 ∧ n < wOne (z + 1) ∧ k = (z - (y - 1)).toNat) ?_ ?_
  · exact ⟨_, _, (St.of_le' (env := [(0, .v _), (5, .v _)]) (mem := []) ⟨rfl, rfl, trivial⟩ trivial), y + 1, rfl, by omega, by omega, h5.2, rfl⟩
  · rintro k st w2 ⟨z, rfl, hz0, hz1, hz2, rfl⟩
    refine Wp.seq ?_
    refine Wp.seq ?_
    refine Wp.region [0, 1, 2, 3] (by kernel_rfl) (by kernel_rfl) ?_
    refine s_move rfl rfl rfl rfl ?_
    refine s_callT rfl rfl rfl (by kernel_rfl) rfl (rweekone_any z (by omega) (by omega) _) ?_
    rintro v w3 rfl lw3
    refine s_move rfl rfl rfl rfl ?_
    refine p_gtr rfl rfl rfl rfl rfl (fun h13 => ?_) (fun h13 => ?_)
    · have hz3 : z ≠ y - 1 := fun q => by subst q; omega
      refine vOrd_nil ?_
      refine Wp.condT rfl rfl ?_
      refine Wp.skip ?_
      refine Wp.block ?_
      refine Wp.region [0, 1, 2] (by kernel_rfl) (by kernel_rfl) ?_
      refine s_move rfl rfl rfl rfl ?_
      refine a_sub (-9223372036854775808) 9223372036854775807 (by decide) rfl rfl rfl rfl rfl (by omega) (by omega) ?_
      refine s_assign rfl rfl rfl rfl ?_
      refine vOrd_nil ?_
      exact ⟨_, _, by omega, (St.of_le' (env := [(0, .v _), (5, .v _)]) (mem := []) ⟨rfl, rfl, trivial⟩ trivial), z - 1, rfl, by omega, by omega, by rw [show z - 1 + 1 = z by omega]; omega, rfl⟩
    · have b1 := wOne_in z
      have b2 := first_in (y := z) (by omega) (by omega)
      refine vOrd_nil ?_
      refine Wp.condF rfl rfl ?_
      refine Wp.exit ?_
      refine Wp.seq ?_
      refine Wp.region [0, 1, 2, 3, 4, 5, 6, 7, 8, 9, 10, 11] (by kernel_rfl) (by kernel_rfl) ?_
      refine s_move rfl rfl rfl rfl ?_
      refine s_move rfl rfl rfl rfl ?_
      refine s_move rfl rfl rfl rfl ?_
      refine s_callT rfl rfl rfl (by kernel_rfl) rfl (rweekone_any z (by omega) (by omega) _) ?_
      rintro v w4 rfl lw4
      refine a_sub (-9223372036854775808) 9223372036854775807 (by decide) rfl rfl rfl rfl rfl (by omega) (by omega) ?_
      refine a_quo rfl rfl rfl rfl rfl (by omega) (by omega) (by show _ ≤ (9223372036854775807 : Int); omega) ?_
      refine a_add (-9223372036854775808) 9223372036854775807 (by decide) rfl rfl rfl rfl rfl (by omega) (by omega) ?_
      refine s_move rfl rfl rfl rfl ?_
      refine s_callT rfl rfl rfl (by kernel_rfl) rfl (rweekday_any n _) ?_
      rintro v w5 rfl lw5
      refine s_assign rfl rfl rfl rfl ?_
      refine s_assign rfl rfl rfl rfl ?_
      refine s_assign rfl rfl rfl rfl ?_
      refine vOrd_nil ?_
      refine Wp.ret ⟨.inr rfl, fun lW => ⟨_, ⟨_, _, _, res_tmp (P := Tryd.prog) rfl rfl, res_tmp (P := Tryd.prog) rfl rfl, res_tmp (P := Tryd.prog) rfl rfl, rfl⟩, _, rfl, ?_, lW⟩⟩
      clear lW
      exact ⟨_, rfl, by omega, hz2⟩
end Go.Proofs.YtephjnnhfelkkaaDoor
