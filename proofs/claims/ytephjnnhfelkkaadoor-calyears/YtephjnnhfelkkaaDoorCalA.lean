/-
  The contracts of cal's functions (P8.1 to P8.3): Weekday, YearDay, FromYearDay, Week, FromWeek, and the inner ones. The table of lengths is as the program lays it (Tab).
-/
import Derived.Test.YtephjnnhfelkkaaDoorCalR
namespace Go.Proofs.YtephjnnhfelkkaaDoor
open Go.RowKit
set_option maxRecDepth 100000

theorem tmod_92 (n : Int) : (n.tmod 7 + 7 + 2) % 7 + 1 = wkd n := by
  have := tmod_7 n
  omega
theorem first_split (y : Int) : firstD (y.tmod 400) + 3 + y.tdiv 400 * 146097 = firstD y + 3 := by
  have h := Int.tmod_add_mul_tdiv y 400
  generalize y.tdiv 400 = q at h ⊢
  generalize y.tmod 400 = r at h ⊢
  subst h
  unfold firstD ahead; omega
theorem fourth_is {y : Int} (h0 : -400 ≤ y) (h1 : y ≤ 400) : dayV y 1 4 = firstD y + 3 := by
  have hm : mlen y 1 = 31 := rfl
  have hD : isD y 1 4 = true := isD_iff.2 (by omega)
  have hf : -1000000 ≤ firstD y ∧ firstD y ≤ 1000000 := by unfold firstD ahead; omega
  have hc := cum_one y
  have hd : dayOf y 1 4 = firstD y + 3 := by unfold dayOf; omega
  have hI : inB (dayOf y 1 4) = true := inB_iff.2 (by omega)
  rw [(dayE_ok hD hI).2, hd]
theorem weeks_tmod (y : Int) : weeks (y.tmod 400) = weeks y := by
  apply weeks_mod
  have := tmod_400 y
  have hm := tmod_in (n := y) (show (0 : Int) < 400 by decide)
  omega
theorem yd_is {y d j D : Int} (hB : ydB y d = true) (hD : isD y j D = true) (e : D + cum y j = d) : dayV y j D = dV (ydB y d) (ydN y d) ∧ dayE y j D = dE (ydB y d) (ydN y d) := by
  have h : dayOf y j D = ydN y d := by unfold dayOf ydN; omega
  unfold dayV dayE dV dE
  rw [hB, hD, h]; exact ⟨rfl, rfl⟩

theorem cweekday_any (n : Int) (_hn : I64 n) {w : World} (_hT : Tab w) : Calls Tryd.prog 9 #[.int .i64 (n)] w fun e w' => ∃ r, e = .returned r ∧ r = .int .i64 (wkd n) ∧ Below w.heap.size w w' := by
  have hm := tmod_in (n := n) (show (0 : Int) < 7 by decide)
  have e := tmod_92 n
  refine calls_Wp (args := [_]) (n := 9) Tryd.func9 rfl rfl (by simp) ?_
  refine Wp.seq ?_
  refine Wp.region [0] (by kernel_rfl) (by kernel_rfl) ?_
  refine s_assign rfl rfl rfl rfl ?_
  refine vOrd_nil ?_
  refine Wp.seq ?_
  refine Wp.region [0, 1, 2, 3, 4, 5, 6] (by kernel_rfl) (by kernel_rfl) ?_
  refine s_move rfl rfl rfl rfl ?_
  refine a_tmod rfl rfl rfl rfl rfl (by omega) ?_
  refine a_add (-9223372036854775808) 9223372036854775807 (by decide) rfl rfl rfl rfl rfl (by omega) (by omega) ?_
  refine a_add (-9223372036854775808) 9223372036854775807 (by decide) rfl rfl rfl rfl rfl (by omega) (by omega) ?_
  refine a_rem rfl rfl rfl rfl rfl (by omega) (by omega) ?_
  refine a_add (-9223372036854775808) 9223372036854775807 (by decide) rfl rfl rfl rfl rfl (by omega) (by omega) ?_
  refine s_assign rfl rfl rfl rfl ?_
  refine vOrd_nil ?_
  refine Wp.ret ⟨.inr rfl, fun lW => ⟨_, res_tmp (P := Tryd.prog) rfl rfl, _, rfl, ?_, lW⟩⟩
  clear lW
  rw [e]
theorem cyearlength_any (y : Int) {w : World} (hT : Tab w) : Calls Tryd.prog 24 #[.int .i64 (y)] w fun e w' => ∃ r, e = .returned r ∧ r = .int .i64 (365 + lp y) ∧ Below w.heap.size w w' := by
  refine calls_Wp (args := [_]) (n := 5) Tryd.func24 rfl rfl (by simp) ?_
  refine Wp.seq ?_
  refine Wp.region [0] (by kernel_rfl) (by kernel_rfl) ?_
  refine s_assign rfl rfl rfl rfl ?_
  refine vOrd_nil ?_
  refine Wp.seq ?_
  refine Wp.seq ?_
  refine Wp.old (fun lo => ?_)
  have tb := hT.later lo
  clear lo
  refine Wp.region [0, 1] (by kernel_rfl) (by kernel_rfl) ?_
  refine s_move rfl rfl rfl rfl ?_
  refine s_callT rfl rfl rfl (by kernel_rfl) rfl (leap_any y _) ?_
  rintro v w1 rfl lw1
  replace tb := tb.later lw1
  refine vOrd_nil ?_
  refine Wp.cond rfl (okOpd_spec rfl) (fun c4 => ?_) (fun c4 => ?_)
  · refine Wp.seq ?_
    refine Wp.region [0] (by kernel_rfl) (by kernel_rfl) ?_
    refine s_assign rfl rfl rfl rfl ?_
    refine vOrd_nil ?_
    refine Wp.ret ⟨.inr rfl, fun lW => ⟨_, res_tmp (P := Tryd.prog) rfl rfl, _, rfl, ?_, lW⟩⟩
    clear lW
    rw [lp_yes c4]; rfl
  · refine Wp.skip ?_
    refine Wp.seq ?_
    refine Wp.region [0] (by kernel_rfl) (by kernel_rfl) ?_
    refine s_assign rfl rfl rfl rfl ?_
    refine vOrd_nil ?_
    refine Wp.ret ⟨.inr rfl, fun lW => ⟨_, res_tmp (P := Tryd.prog) rfl rfl, _, rfl, ?_, lW⟩⟩
    clear lW
    rw [lp_no c4]; rfl
theorem cweekone_any (y : Int) (h0 : -1099511627777 ≤ y) (h1 : y ≤ 1099511627777) {w : World} (hT : Tab w) : Calls Tryd.prog 27 #[.int .i64 (y)] w fun e w' => ∃ r, e = .returned r ∧ r = .int .i64 (wOne y) ∧ Below w.heap.size w w' := by
  have hm := tmod_in (n := y) (show (0 : Int) < 400 by decide)
  have hq := tdiv_le (n := y) (show (0 : Int) < 400 by decide)
  have hF := first_in (y := y) (by omega) (by omega)
  have hf4 := fourth_is (y := y.tmod 400) (by omega) (by omega)
  have hs := first_split y
  have hf : -1000000 ≤ firstD (y.tmod 400) ∧ firstD (y.tmod 400) ≤ 1000000 := by
    clear hs hf4 hF
    generalize y.tmod 400 = r at hm ⊢
    unfold firstD ahead; omega
  have hw := wkd_in (firstD y + 3)
  unfold wOne
  refine calls_Wp (args := [_]) (n := 22) Tryd.func27 rfl rfl (by simp) ?_
  refine Wp.seq ?_
  refine Wp.region [0] (by kernel_rfl) (by kernel_rfl) ?_
  refine s_assign rfl rfl rfl rfl ?_
  refine vOrd_nil ?_
  refine Wp.seq ?_
  refine Wp.old (fun lo => ?_)
  have tb := hT.later lo
  clear lo
  refine Wp.region [0, 1, 2, 3, 4, 5, 6, 7, 8] (by kernel_rfl) (by kernel_rfl) ?_
  refine s_move rfl rfl rfl rfl ?_
  refine a_tmod rfl rfl rfl rfl rfl (by omega) ?_
  refine s_build rfl rfl rfl rfl rfl (by kernel_rfl) ?_
  refine s_callT rfl rfl rfl (by kernel_rfl) rfl (gday_any (y.tmod 400) 1 4 (by omega) (by omega) tb) ?_
  rintro v w1 rfl lw1
  replace tb := tb.later lw1
  rw [hf4]
  refine s_move rfl rfl rfl rfl ?_
  refine s_extract rfl rfl rfl rfl rfl ?_
  refine s_extract rfl rfl rfl rfl rfl ?_
  refine s_assign rfl rfl rfl rfl ?_
  refine s_assign rfl rfl rfl rfl ?_
  refine vOrd_nil ?_
  refine Wp.seq ?_
  refine Wp.region [0, 1, 2, 3, 4, 5] (by kernel_rfl) (by kernel_rfl) ?_
  refine s_move rfl rfl rfl rfl ?_
  refine s_move rfl rfl rfl rfl ?_
  refine a_tquo rfl rfl rfl rfl rfl (by omega) (by show (-9223372036854775808 : Int) ≤ _; omega) (by show _ ≤ (9223372036854775807 : Int); omega) ?_
  refine a_mul (-9223372036854775808) 9223372036854775807 (by decide) rfl rfl rfl rfl rfl (by omega) (by omega) ?_
  refine a_add (-9223372036854775808) 9223372036854775807 (by decide) rfl rfl rfl rfl rfl (by omega) (by omega) ?_
  rw [hs]
  refine s_assign rfl rfl rfl rfl ?_
  refine vOrd_nil ?_
  refine Wp.seq ?_
  refine Wp.old (fun lo => ?_)
  have tb := hT.later lo
  clear lo
  refine Wp.region [0, 1, 2, 3, 4, 5] (by kernel_rfl) (by kernel_rfl) ?_
  refine s_move rfl rfl rfl rfl ?_
  refine s_move rfl rfl rfl rfl ?_
  refine s_callT rfl rfl rfl (by kernel_rfl) rfl (cweekday_any (firstD y + 3) (by unfold I64; omega) tb) ?_
  rintro v w4 rfl lw4
  replace tb := tb.later lw4
  refine a_sub (-9223372036854775808) 9223372036854775807 (by decide) rfl rfl rfl rfl rfl (by omega) (by omega) ?_
  refine a_add (-9223372036854775808) 9223372036854775807 (by decide) rfl rfl rfl rfl rfl (by omega) (by omega) ?_
  refine s_assign rfl rfl rfl rfl ?_
  refine vOrd_nil ?_
  refine Wp.ret ⟨.inr rfl, fun lW => ⟨_, res_tmp (P := Tryd.prog) rfl rfl, _, rfl, ?_, lW⟩⟩
  clear lW
  rfl
theorem cweeks_any (y : Int) {w : World} (hT : Tab w) : Calls Tryd.prog 28 #[.int .i64 (y)] w fun e w' => ∃ r, e = .returned r ∧ r = .int .i64 (weeks y) ∧ Below w.heap.size w w' := by
  have hm := tmod_in (n := y) (show (0 : Int) < 400 by decide)
  rw [← weeks_tmod y]
  have b1 := wOne_in (y.tmod 400)
  have b2 := wOne_in (y.tmod 400 + 1)
  have b3 := first_in (y := y.tmod 400) (by omega) (by omega)
  have b4 := first_in (y := y.tmod 400 + 1) (by omega) (by omega)
  have b5 := weeks_is (y.tmod 400)
  refine calls_Wp (args := [_]) (n := 12) Tryd.func28 rfl rfl (by simp) ?_
  refine Wp.seq ?_
  refine Wp.region [0] (by kernel_rfl) (by kernel_rfl) ?_
  refine s_assign rfl rfl rfl rfl ?_
  refine vOrd_nil ?_
  refine Wp.seq ?_
  refine Wp.region [0, 1, 2] (by kernel_rfl) (by kernel_rfl) ?_
  refine s_move rfl rfl rfl rfl ?_
  refine a_tmod rfl rfl rfl rfl rfl (by omega) ?_
  refine s_assign rfl rfl rfl rfl ?_
  refine vOrd_nil ?_
  refine Wp.seq ?_
  refine Wp.old (fun lo => ?_)
  have tb := hT.later lo
  clear lo
  refine Wp.region [0, 1, 2, 3, 4, 5, 6, 7] (by kernel_rfl) (by kernel_rfl) ?_
  refine s_move rfl rfl rfl rfl ?_
  refine a_add (-9223372036854775808) 9223372036854775807 (by decide) rfl rfl rfl rfl rfl (by omega) (by omega) ?_
  refine s_callT rfl rfl rfl (by kernel_rfl) rfl (cweekone_any (y.tmod 400 + 1) (by omega) (by omega) tb) ?_
  rintro v w1 rfl lw1
  replace tb := tb.later lw1
  refine s_move rfl rfl rfl rfl ?_
  refine s_callT rfl rfl rfl (by kernel_rfl) rfl (cweekone_any (y.tmod 400) (by omega) (by omega) tb) ?_
  rintro v w2 rfl lw2
  replace tb := tb.later lw2
  refine a_sub (-9223372036854775808) 9223372036854775807 (by decide) rfl rfl rfl rfl rfl (by omega) (by omega) ?_
  refine a_quo rfl rfl rfl rfl rfl (by omega) (by omega) (by show _ ≤ (9223372036854775807 : Int); omega) ?_
  refine s_assign rfl rfl rfl rfl ?_
  refine vOrd_nil ?_
  refine Wp.ret ⟨.inr rfl, fun lW => ⟨_, res_tmp (P := Tryd.prog) rfl rfl, _, rfl, ?_, lW⟩⟩
  clear lW
  rfl
theorem cyearday_any (n : Int) (_hn : I64 n) {w : World} (hT : Tab w) : Calls Tryd.prog 11 #[.int .i64 (n)] w fun e w' => ∃ r, e = .returned r ∧ (∃ y d e, r = .tuple #[.int .i64 (y), .int .i64 (d), .int .i64 (e)] ∧ (inB n = false → y = 0 ∧ d = 0 ∧ e = 2) ∧ (inB n = true → e = 0 ∧ d = n - firstD y + 1 ∧ firstD y ≤ n ∧ n < firstD (y + 1))) ∧ Below w.heap.size w w' := by
  refine calls_Wp (args := [_]) (n := 32) Tryd.func11 rfl rfl (by simp) ?_
  refine Wp.seq ?_
  refine Wp.region [0, 1, 2] (by kernel_rfl) (by kernel_rfl) ?_
  refine s_assign rfl rfl rfl rfl ?_
  refine s_assign rfl rfl rfl rfl ?_
  refine s_assign rfl rfl rfl rfl ?_
  refine vOrd_nil ?_
  refine Wp.seq ?_
  refine Wp.old (fun lo => ?_)
  have tb := hT.later lo
  clear lo
  refine Wp.region [0, 1, 2, 3, 4, 5, 6, 7] (by kernel_rfl) (by kernel_rfl) ?_
  refine s_move rfl rfl rfl rfl ?_
  refine s_callT rfl rfl rfl (by kernel_rfl) rfl (gdate_any n tb) ?_
  rintro v w1 ⟨y, m, d, e, rfl, hy, hz⟩ lw1
  replace tb := tb.later lw1
  refine s_move rfl rfl rfl rfl ?_
  refine s_extract rfl rfl rfl rfl rfl ?_
  refine s_extract rfl rfl rfl rfl rfl ?_
  refine s_alloc rfl rfl rfl rfl rfl (fun bk2 w2 kb2 lw2 => ?_)
  refine s_store rfl rfl rfl rfl rfl rfl rfl (fun w3 sw3 vw3 => ?_)
  refine s_assign rfl rfl rfl rfl ?_
  refine vOrd_nil ?_
  refine Wp.seq ?_
  refine Wp.seq ?_
  refine Wp.region [0, 1] (by kernel_rfl) (by kernel_rfl) ?_
  refine s_move rfl rfl rfl rfl ?_
  refine p_neq rfl rfl rfl rfl rfl (fun h13 => ?_) (fun h13 => ?_)
  · have hI : inB n = false := by cases q : inB n with | false => rfl | true => exact absurd (hy q).1 h13
    obtain ⟨rfl, rfl, rfl, rfl⟩ := hz hI
    refine vOrd_nil ?_
    refine Wp.condT rfl rfl ?_
    refine Wp.seq ?_
    refine Wp.region [0, 1, 2, 3] (by kernel_rfl) (by kernel_rfl) ?_
    refine s_move rfl rfl rfl rfl ?_
    refine s_assign rfl rfl rfl rfl ?_
    refine s_assign rfl rfl rfl rfl ?_
    refine s_assign rfl rfl rfl rfl ?_
    refine vOrd_nil ?_
    refine Wp.ret ⟨.inr rfl, fun lW => ⟨_, ⟨_, _, _, res_tmp (P := Tryd.prog) rfl rfl, res_tmp (P := Tryd.prog) rfl rfl, res_tmp (P := Tryd.prog) rfl rfl, rfl⟩, _, rfl, ?_, lW⟩⟩
    clear lW
    exact ⟨_, _, _, rfl, fun _ => ⟨rfl, rfl, rfl⟩, fun q => by rw [hI] at q; cases q⟩
  · have hI : inB n = true := by cases q : inB n with | true => rfl | false => exact absurd (hz q).1 (by omega)
    obtain ⟨-, hD, hn2⟩ := hy hI
    obtain ⟨d1, d2⟩ := isD_iff.1 hD
    obtain ⟨m1, m2⟩ := mlen_month d1 d2
    have hml := mlen_le y m
    have hi := day_in hD
    rw [hn2] at hi
    have hy2 := year_in2 hi.1 hi.2 hI
    refine vOrd_nil ?_
    refine Wp.condF rfl rfl ?_
    refine Wp.skip ?_
    refine Wp.seq ?_
    refine Wp.region [0, 1, 2] (by kernel_rfl) (by kernel_rfl) ?_
    refine s_field 2 rfl rfl rfl rfl rfl ?_
    refine s_load rfl rfl rfl rfl rfl rfl rfl ?_
    refine s_assign rfl rfl rfl rfl ?_
    refine vOrd_nil ?_
    refine Wp.seq ?_
    refine Wp.seq ?_
    refine Wp.region [0] (by kernel_rfl) (by kernel_rfl) ?_
    refine s_assign rfl rfl rfl rfl ?_
    refine vOrd_nil ?_
    refine Wp.block ?_
    refine Wp.loop (fun k st _ => ∃ (j N : Int) (b5 : Nat), st = St.of [(5, .p 5 b5 0), (3, .v (.int .i64 N)), (6, .v (.int .i64 j))] [(5, b5, [.int .i64 y, .int .i64 m, .int .i64 d])] ∧ N = d + cum y j ∧ 1 ≤ j ∧ j ≤ m ∧ k = (m - j).toNat) ?_ ?_
    · exact ⟨_, _, (St.of_le' (env := [(5, .p 5 _ 0), (3, .v _), (6, .v _)]) (mem := [(5, _, [_, _, _])]) ⟨rfl, rfl, rfl, trivial⟩ ⟨rfl, trivial⟩), 1, _, _, rfl, by have := cum_one y; omega, by omega, by omega, rfl⟩
    · rintro k st w4 ⟨j, N, b5, rfl, hN, j1, j2, rfl⟩
      refine Wp.seq ?_
      refine Wp.seq ?_
      refine Wp.region [0, 1, 2, 3] (by kernel_rfl) (by kernel_rfl) ?_
      refine s_move rfl rfl rfl rfl ?_
      refine s_field 1 rfl rfl rfl rfl rfl ?_
      refine s_load rfl rfl rfl rfl rfl rfl rfl ?_
      refine p_lss rfl rfl rfl rfl rfl (fun h20 => ?_) (fun h20 => ?_)
      · refine vOrd_nil ?_
        refine Wp.condT rfl rfl ?_
        refine Wp.skip ?_
        refine Wp.seq ?_
        refine Wp.block ?_
        have hcj := cum_le (y := y) (m := j) (by omega) (by omega)
        have hlj := mlen_le y j
        refine Wp.old (fun lo => ?_)
        have tb := hT.later lo
        clear lo
        refine Wp.region [0, 1, 2, 3, 4, 5, 6] (by kernel_rfl) (by kernel_rfl) ?_
        refine s_move rfl rfl rfl rfl ?_
        refine s_field 0 rfl rfl rfl rfl rfl ?_
        refine s_load rfl rfl rfl rfl rfl rfl rfl ?_
        refine s_move rfl rfl rfl rfl ?_
        refine s_callT rfl rfl rfl (by kernel_rfl) rfl (length_any y j tb) ?_
        rintro v w5 rfl lw5
        replace tb := tb.later lw5
        refine a_add (-9223372036854775808) 9223372036854775807 (by decide) rfl rfl rfl rfl rfl (by omega) (by omega) ?_
        refine s_assign rfl rfl rfl rfl ?_
        refine vOrd_nil ?_
        refine Wp.region [0, 1, 2] (by kernel_rfl) (by kernel_rfl) ?_
        refine s_move rfl rfl rfl rfl ?_
        refine a_add (-9223372036854775808) 9223372036854775807 (by decide) rfl rfl rfl rfl rfl (by omega) (by omega) ?_
        refine s_assign rfl rfl rfl rfl ?_
        refine vOrd_nil ?_
        have hnx := cum_next (y := y) (m := j) (by omega) (by omega)
        exact ⟨_, _, by omega, (St.of_le' (env := [(5, .p 5 _ 0), (3, .v _), (6, .v _)]) (mem := [(5, _, [_, _, _])]) ⟨rfl, rfl, rfl, trivial⟩ ⟨rfl, trivial⟩), j + 1, _, _, rfl, by omega, by omega, by omega, rfl⟩
      · refine vOrd_nil ?_
        refine Wp.condF rfl rfl ?_
        refine Wp.exit ?_
        refine Wp.seq ?_
        have hj : j = m := by omega
        rw [hj] at hN
        have hN2 : N = n - firstD y + 1 := by unfold dayOf at hn2; omega
        rw [hN2]
        refine Wp.region [0, 1, 2, 3, 4, 5] (by kernel_rfl) (by kernel_rfl) ?_
        refine s_field 0 rfl rfl rfl rfl rfl ?_
        refine s_load rfl rfl rfl rfl rfl rfl rfl ?_
        refine s_move rfl rfl rfl rfl ?_
        refine s_assign rfl rfl rfl rfl ?_
        refine s_assign rfl rfl rfl rfl ?_
        refine s_assign rfl rfl rfl rfl ?_
        refine vOrd_nil ?_
        refine Wp.ret ⟨.inr rfl, fun lW => ⟨_, ⟨_, _, _, res_tmp (P := Tryd.prog) rfl rfl, res_tmp (P := Tryd.prog) rfl rfl, res_tmp (P := Tryd.prog) rfl rfl, rfl⟩, _, rfl, ?_, lW⟩⟩
        clear lW
        exact ⟨_, _, _, rfl, fun q => (by rw [hI] at q; cases q), fun _ => ⟨rfl, rfl, hi.1, hi.2⟩⟩
theorem cfromyearday_any (y d : Int) (hy : I64 y) (_hd : I64 d) {w : World} (hT : Tab w) : Calls Tryd.prog 14 #[.int .i64 (y), .int .i64 (d)] w fun e w' => ∃ r, e = .returned r ∧ r = .tuple #[.int .i64 (dV (ydB y d) (ydN y d)), .int .i64 (dE (ydB y d) (ydN y d))] ∧ Below w.heap.size w w' := by
  have hl := lp_or y
  have h13 := cum_13 y
  obtain ⟨hy0, hy1⟩ := hy
  refine calls_Wp (args := [_, _]) (n := 34) Tryd.func14 rfl rfl (by simp) ?_
  refine Wp.seq ?_
  refine Wp.region [0, 1] (by kernel_rfl) (by kernel_rfl) ?_
  refine s_assign rfl rfl rfl rfl ?_
  refine s_assign rfl rfl rfl rfl ?_
  refine vOrd_nil ?_
  refine Wp.seq ?_
  refine Wp.seq ?_
  refine Wp.old (fun lo => ?_)
  have tb := hT.later lo
  clear lo
  refine Wp.region [0, 1, 2, 3, 4, 5, 6, 7] (by kernel_rfl) (by kernel_rfl) ?_
  refine s_move rfl rfl rfl rfl ?_
  refine p_lss rfl rfl rfl rfl rfl (fun h8 => ?_) (fun h8 => ?_)
  · refine s_move rfl rfl rfl rfl ?_
    refine s_skip rfl rfl rfl ?_
    refine s_skip rfl rfl rfl ?_
    refine s_skip rfl rfl rfl ?_
    refine s_skip rfl rfl rfl ?_
    refine s_pick rfl rfl rfl rfl rfl ?_
    refine vOrd_nil ?_
    refine Wp.condT rfl rfl ?_
    refine Wp.seq ?_
    refine Wp.region [0, 1] (by kernel_rfl) (by kernel_rfl) ?_
    refine s_assign rfl rfl rfl rfl ?_
    refine s_assign rfl rfl rfl rfl ?_
    refine vOrd_nil ?_
    refine Wp.ret ⟨.inr rfl, fun lW => ⟨_, ⟨_, _, res_tmp (P := Tryd.prog) rfl rfl, res_tmp (P := Tryd.prog) rfl rfl, rfl⟩, _, rfl, ?_, lW⟩⟩
    clear lW
    obtain ⟨v1, v2⟩ := d_bad (n := ydN y d) (ydB_no.2 (show ¬ (1 ≤ d ∧ d ≤ 365 + lp y) by omega))
    rw [v1, v2]
  · refine s_move rfl rfl rfl rfl ?_
    refine s_move rfl rfl rfl rfl ?_
    refine s_move rfl rfl rfl rfl ?_
    refine s_callT rfl rfl rfl (by kernel_rfl) rfl (cyearlength_any y tb) ?_
    rintro v w1 rfl lw1
    replace tb := tb.later lw1
    refine p_gtr rfl rfl rfl rfl rfl (fun h13 => ?_) (fun h13 => ?_)
    · refine s_pick rfl rfl rfl rfl rfl ?_
      refine vOrd_nil ?_
      refine Wp.condT rfl rfl ?_
      refine Wp.seq ?_
      refine Wp.region [0, 1] (by kernel_rfl) (by kernel_rfl) ?_
      refine s_assign rfl rfl rfl rfl ?_
      refine s_assign rfl rfl rfl rfl ?_
      refine vOrd_nil ?_
      refine Wp.ret ⟨.inr rfl, fun lW => ⟨_, ⟨_, _, res_tmp (P := Tryd.prog) rfl rfl, res_tmp (P := Tryd.prog) rfl rfl, rfl⟩, _, rfl, ?_, lW⟩⟩
      clear lW
      obtain ⟨v1, v2⟩ := d_bad (n := ydN y d) (ydB_no.2 (show ¬ (1 ≤ d ∧ d ≤ 365 + lp y) by omega))
      rw [v1, v2]
    · refine s_pick rfl rfl rfl rfl rfl ?_
      refine vOrd_nil ?_
      refine Wp.condF rfl rfl ?_
      refine Wp.skip ?_
      refine Wp.seq ?_
      have hB : ydB y d = true := ydB_iff.2 (by omega)
      refine Wp.region [0] (by kernel_rfl) (by kernel_rfl) ?_
      refine s_assign rfl rfl rfl rfl ?_
      refine vOrd_nil ?_
      refine Wp.seq ?_
      refine Wp.block ?_
      refine Wp.loop (fun k st _ => ∃ (j N : Int), st = St.of [(0, .v (.int .i64 y)), (1, .v (.int .i64 N)), (6, .v (.int .i64 j))] [] ∧ N + cum y j = d ∧ 1 ≤ N ∧ 1 ≤ j ∧ j ≤ 12 ∧ k = (12 - j).toNat) ?_ ?_
      · exact ⟨_, _, (St.of_le' (env := [(0, .v _), (1, .v _), (6, .v _)]) (mem := []) ⟨rfl, rfl, rfl, trivial⟩ trivial), 1, _, rfl, by have := cum_one y; omega, by omega, by omega, by omega, rfl⟩
      · rintro k st w2 ⟨j, N, rfl, hN, N1, j1, j2, rfl⟩
        refine Wp.seq ?_
        refine Wp.seq ?_
        have hcj := cum_le (y := y) (m := j) (by omega) (by omega)
        have hlj := mlen_le y j
        refine Wp.old (fun lo => ?_)
        have tb := hT.later lo
        clear lo
        refine Wp.region [0, 1, 2, 3, 4] (by kernel_rfl) (by kernel_rfl) ?_
        refine s_move rfl rfl rfl rfl ?_
        refine s_move rfl rfl rfl rfl ?_
        refine s_move rfl rfl rfl rfl ?_
        refine s_callT rfl rfl rfl (by kernel_rfl) rfl (length_any y j tb) ?_
        rintro v w3 rfl lw3
        replace tb := tb.later lw3
        refine p_gtr rfl rfl rfl rfl rfl (fun h19 => ?_) (fun h19 => ?_)
        · refine vOrd_nil ?_
          refine Wp.condT rfl rfl ?_
          refine Wp.skip ?_
          refine Wp.block ?_
          refine Wp.seq ?_
          refine Wp.old (fun lo => ?_)
          have tb := hT.later lo
          clear lo
          refine Wp.region [0, 1, 2, 3, 4, 5] (by kernel_rfl) (by kernel_rfl) ?_
          refine s_move rfl rfl rfl rfl ?_
          refine s_move rfl rfl rfl rfl ?_
          refine s_move rfl rfl rfl rfl ?_
          refine s_callT rfl rfl rfl (by kernel_rfl) rfl (length_any y j tb) ?_
          rintro v w4 rfl lw4
          replace tb := tb.later lw4
          refine a_sub (-9223372036854775808) 9223372036854775807 (by decide) rfl rfl rfl rfl rfl (by omega) (by omega) ?_
          refine s_assign rfl rfl rfl rfl ?_
          refine vOrd_nil ?_
          refine Wp.region [0, 1, 2] (by kernel_rfl) (by kernel_rfl) ?_
          refine s_move rfl rfl rfl rfl ?_
          refine a_add (-9223372036854775808) 9223372036854775807 (by decide) rfl rfl rfl rfl rfl (by omega) (by omega) ?_
          refine s_assign rfl rfl rfl rfl ?_
          refine vOrd_nil ?_
          have hnx := cum_next (y := y) (m := j) (by omega) (by omega)
          have hj12 : j ≠ 12 := fun e => by subst e; rw [show (12 : Int) + 1 = 13 from rfl] at hnx; omega
          exact ⟨_, _, by omega, (St.of_le' (env := [(0, .v _), (1, .v _), (6, .v _)]) (mem := []) ⟨rfl, rfl, rfl, trivial⟩ trivial), j + 1, _, rfl, by omega, by omega, by omega, by omega, rfl⟩
        · refine vOrd_nil ?_
          refine Wp.condF rfl rfl ?_
          refine Wp.exit ?_
          refine Wp.seq ?_
          have hD : isD y j N = true := isD_iff.2 (by omega)
          obtain ⟨v1, v2⟩ := yd_is hB hD hN
          refine Wp.old (fun lo => ?_)
          have tb := hT.later lo
          clear lo
          refine Wp.region [0, 1, 2, 3, 4, 5, 6, 7, 8] (by kernel_rfl) (by kernel_rfl) ?_
          refine s_move rfl rfl rfl rfl ?_
          refine s_move rfl rfl rfl rfl ?_
          refine s_move rfl rfl rfl rfl ?_
          refine s_build rfl rfl rfl rfl rfl (by kernel_rfl) ?_
          refine s_callT rfl rfl rfl (by kernel_rfl) rfl (gday_any y j N hy0 hy1 tb) ?_
          rintro v w5 rfl lw5
          replace tb := tb.later lw5
          rw [v1, v2]
          refine s_extract rfl rfl rfl rfl rfl ?_
          refine s_extract rfl rfl rfl rfl rfl ?_
          refine s_assign rfl rfl rfl rfl ?_
          refine s_assign rfl rfl rfl rfl ?_
          refine vOrd_nil ?_
          refine Wp.ret ⟨.inr rfl, fun lW => ⟨_, ⟨_, _, res_tmp (P := Tryd.prog) rfl rfl, res_tmp (P := Tryd.prog) rfl rfl, rfl⟩, _, rfl, ?_, lW⟩⟩
          clear lW
          rfl
theorem cweek_any (n : Int) (hn : I64 n) {w : World} (hT : Tab w) : Calls Tryd.prog 17 #[.int .i64 (n)] w fun e w' => ∃ r, e = .returned r ∧ (∃ y x k e, r = .tuple #[.int .i64 (y), .int .i64 (x), .int .i64 (k), .int .i64 (e)] ∧ (inB n = false → y = 0 ∧ x = 0 ∧ k = 0 ∧ e = 2) ∧ (inB n = true → e = 0 ∧ x = (n - wOne y) / 7 + 1 ∧ k = wkd n ∧ wOne y ≤ n ∧ n < wOne (y + 1))) ∧ Below w.heap.size w w' := by
  obtain ⟨hn0, hn1⟩ := hn
  refine calls_Wp (args := [_]) (n := 32) Tryd.func17 rfl rfl (by simp) ?_
  refine Wp.seq ?_
  refine Wp.region [0, 1, 2, 3] (by kernel_rfl) (by kernel_rfl) ?_
  refine s_assign rfl rfl rfl rfl ?_
  refine s_assign rfl rfl rfl rfl ?_
  refine s_assign rfl rfl rfl rfl ?_
  refine s_assign rfl rfl rfl rfl ?_
  refine vOrd_nil ?_
  refine Wp.seq ?_
  refine Wp.old (fun lo => ?_)
  have tb := hT.later lo
  clear lo
  refine Wp.region [0, 1, 2, 3, 4, 5, 6, 7] (by kernel_rfl) (by kernel_rfl) ?_
  refine s_move rfl rfl rfl rfl ?_
  refine s_callT rfl rfl rfl (by kernel_rfl) rfl (cyearday_any n ⟨hn0, hn1⟩ tb) ?_
  rintro v w1 ⟨y, d, e, rfl, hz, hy⟩ lw1
  replace tb := tb.later lw1
  refine s_move rfl rfl rfl rfl ?_
  refine s_extract rfl rfl rfl rfl rfl ?_
  refine s_extract rfl rfl rfl rfl rfl ?_
  refine s_extract rfl rfl rfl rfl rfl ?_
  refine s_assign rfl rfl rfl rfl ?_
  refine s_assign rfl rfl rfl rfl ?_
  refine vOrd_nil ?_
  refine Wp.seq ?_
  refine Wp.seq ?_
  refine Wp.region [0, 1] (by kernel_rfl) (by kernel_rfl) ?_
  refine s_move rfl rfl rfl rfl ?_
  refine p_neq rfl rfl rfl rfl rfl (fun h13 => ?_) (fun h13 => ?_)
  · have hI : inB n = false := by cases q : inB n with | false => rfl | true => exact absurd (hy q).1 h13
    obtain ⟨rfl, rfl, rfl⟩ := hz hI
    refine vOrd_nil ?_
    refine Wp.condT rfl rfl ?_
    refine Wp.seq ?_
    refine Wp.region [0, 1, 2, 3, 4] (by kernel_rfl) (by kernel_rfl) ?_
    refine s_move rfl rfl rfl rfl ?_
    refine s_assign rfl rfl rfl rfl ?_
    refine s_assign rfl rfl rfl rfl ?_
    refine s_assign rfl rfl rfl rfl ?_
    refine s_assign rfl rfl rfl rfl ?_
    refine vOrd_nil ?_
    refine Wp.ret ⟨.inr rfl, fun lW => ⟨_, ⟨_, _, _, _, res_tmp (P := Tryd.prog) rfl rfl, res_tmp (P := Tryd.prog) rfl rfl, res_tmp (P := Tryd.prog) rfl rfl, res_tmp (P := Tryd.prog) rfl rfl, rfl⟩, _, rfl, ?_, lW⟩⟩
    clear lW
    exact ⟨_, _, _, _, rfl, fun _ => ⟨rfl, rfl, rfl, rfl⟩, fun q => by rw [hI] at q; cases q⟩
  · have hI : inB n = true := by cases q : inB n with | true => rfl | false => exact absurd (hz q).2.2 (by omega)
    obtain ⟨-, -, h3, h4⟩ := hy hI
    have hy2 := year_in2 h3 h4 hI
    have h5 := week_near h3 h4
    have hI2 := inB_iff.1 hI
    refine vOrd_nil ?_
    refine Wp.condF rfl rfl ?_
    refine Wp.skip ?_
    refine Wp.seq ?_
    refine Wp.region [0, 1, 2] (by kernel_rfl) (by kernel_rfl) ?_
    refine s_move rfl rfl rfl rfl ?_
    refine a_add (-9223372036854775808) 9223372036854775807 (by decide) rfl rfl rfl rfl rfl (by omega) (by omega) ?_
    refine s_assign rfl rfl rfl rfl ?_
    refine vOrd_nil ?_
    refine Wp.seq ?_
    refine Wp.block ?_
    refine Wp.loop (fun k st w2 => ∃ z : Int, st = St.of [(0, .v (.int .i64 n)), (2, .v (.int .i64 z))] [] ∧ y - 1 ≤ z ∧ z ≤ y + 1 ∧ n < wOne (z + 1) ∧ k = (z - (y - 1)).toNat) ?_ ?_
    · exact ⟨_, _, (St.of_le' (env := [(0, .v _), (2, .v _)]) (mem := []) ⟨rfl, rfl, trivial⟩ trivial), y + 1, rfl, by omega, by omega, h5.2, rfl⟩
    · rintro k st w2 ⟨z, rfl, hz0, hz1, hz2, rfl⟩
      refine Wp.seq ?_
      refine Wp.seq ?_
      refine Wp.old (fun lo => ?_)
      have tb := hT.later lo
      clear lo
      refine Wp.region [0, 1, 2, 3] (by kernel_rfl) (by kernel_rfl) ?_
      refine s_move rfl rfl rfl rfl ?_
      refine s_move rfl rfl rfl rfl ?_
      refine s_callT rfl rfl rfl (by kernel_rfl) rfl (cweekone_any z (by omega) (by omega) tb) ?_
      rintro v w3 rfl lw3
      replace tb := tb.later lw3
      refine p_lss rfl rfl rfl rfl rfl (fun h20 => ?_) (fun h20 => ?_)
      · have hz3 : z ≠ y - 1 := fun q => by subst q; omega
        refine vOrd_nil ?_
        refine Wp.condT rfl rfl ?_
        refine Wp.skip ?_
        refine Wp.block ?_
        refine Wp.region [0, 1, 2] (by kernel_rfl) (by kernel_rfl) ?_
        refine s_move rfl rfl rfl rfl ?_
        refine a_sub (-9223372036854775808) 9223372036854775807 (by decide) rfl rfl rfl rfl rfl (by omega) (by omega) ?_
        refine s_assign rfl rfl rfl rfl ?_
        refine vOrd_nil ?_
        exact ⟨_, _, by omega, (St.of_le' (env := [(0, .v _), (2, .v _)]) (mem := []) ⟨rfl, rfl, trivial⟩ trivial), z - 1, rfl, by omega, by omega, by rw [show z - 1 + 1 = z by omega]; omega, rfl⟩
      · have b1 := wOne_in z
        have b2 := first_in (y := z) (by omega) (by omega)
        refine vOrd_nil ?_
        refine Wp.condF rfl rfl ?_
        refine Wp.exit ?_
        refine Wp.seq ?_
        refine Wp.old (fun lo => ?_)
        have tb := hT.later lo
        clear lo
        refine Wp.region [0, 1, 2, 3, 4, 5, 6, 7, 8, 9, 10, 11, 12] (by kernel_rfl) (by kernel_rfl) ?_
        refine s_move rfl rfl rfl rfl ?_
        refine s_move rfl rfl rfl rfl ?_
        refine s_move rfl rfl rfl rfl ?_
        refine s_callT rfl rfl rfl (by kernel_rfl) rfl (cweekone_any z (by omega) (by omega) tb) ?_
        rintro v w4 rfl lw4
        replace tb := tb.later lw4
        refine a_sub (-9223372036854775808) 9223372036854775807 (by decide) rfl rfl rfl rfl rfl (by omega) (by omega) ?_
        refine a_quo rfl rfl rfl rfl rfl (by omega) (by omega) (by show _ ≤ (9223372036854775807 : Int); omega) ?_
        refine a_add (-9223372036854775808) 9223372036854775807 (by decide) rfl rfl rfl rfl rfl (by omega) (by omega) ?_
        refine s_move rfl rfl rfl rfl ?_
        refine s_callT rfl rfl rfl (by kernel_rfl) rfl (cweekday_any n ⟨hn0, hn1⟩ tb) ?_
        rintro v w5 rfl lw5
        replace tb := tb.later lw5
        refine s_assign rfl rfl rfl rfl ?_
        refine s_assign rfl rfl rfl rfl ?_
        refine s_assign rfl rfl rfl rfl ?_
        refine s_assign rfl rfl rfl rfl ?_
        refine vOrd_nil ?_
        refine Wp.ret ⟨.inr rfl, fun lW => ⟨_, ⟨_, _, _, _, res_tmp (P := Tryd.prog) rfl rfl, res_tmp (P := Tryd.prog) rfl rfl, res_tmp (P := Tryd.prog) rfl rfl, res_tmp (P := Tryd.prog) rfl rfl, rfl⟩, _, rfl, ?_, lW⟩⟩
        clear lW
        exact ⟨_, _, _, _, rfl, fun q => (by rw [hI] at q; cases q), fun _ => ⟨rfl, rfl, rfl, by omega, hz2⟩⟩
theorem cfromweek_any (y k d : Int) (_hy : I64 y) (_hk : I64 k) (_hd : I64 d) {w : World} (hT : Tab w) : Calls Tryd.prog 19 #[.int .i64 (y), .int .i64 (k), .int .i64 (d)] w fun e w' => ∃ r, e = .returned r ∧ r = .tuple #[.int .i64 (dV (wkB y k d) (wkN y k d)), .int .i64 (dE (wkB y k d) (wkN y k d))] ∧ Below w.heap.size w w' := by
  have b7 := weeks_is y
  refine calls_Wp (args := [_, _, _]) (n := 47) Tryd.func19 rfl rfl (by simp) ?_
  refine Wp.seq ?_
  refine Wp.region [0, 1] (by kernel_rfl) (by kernel_rfl) ?_
  refine s_assign rfl rfl rfl rfl ?_
  refine s_assign rfl rfl rfl rfl ?_
  refine vOrd_nil ?_
  refine Wp.seq ?_
  refine Wp.seq ?_
  refine Wp.old (fun lo => ?_)
  have tb := hT.later lo
  clear lo
  refine Wp.region [0, 1, 2, 3, 4, 5, 6, 7, 8, 9, 10, 11, 12, 13, 14, 15] (by kernel_rfl) (by kernel_rfl) ?_
  refine s_move rfl rfl rfl rfl ?_
  refine p_lss rfl rfl rfl rfl rfl (fun h10 => ?_) (fun h10 => ?_)
  · refine s_move rfl rfl rfl rfl ?_
    refine s_skip rfl rfl rfl ?_
    refine s_skip rfl rfl rfl ?_
    refine s_pick rfl rfl rfl rfl rfl ?_
    refine s_move rfl rfl rfl rfl ?_
    refine s_skip rfl rfl rfl ?_
    refine s_skip rfl rfl rfl ?_
    refine s_pick rfl rfl rfl rfl rfl ?_
    refine s_move rfl rfl rfl rfl ?_
    refine s_skip rfl rfl rfl ?_
    refine s_skip rfl rfl rfl ?_
    refine s_skip rfl rfl rfl ?_
    refine s_skip rfl rfl rfl ?_
    refine s_pick rfl rfl rfl rfl rfl ?_
    refine vOrd_nil ?_
    refine Wp.condT rfl rfl ?_
    refine Wp.seq ?_
    refine Wp.region [0, 1] (by kernel_rfl) (by kernel_rfl) ?_
    refine s_assign rfl rfl rfl rfl ?_
    refine s_assign rfl rfl rfl rfl ?_
    refine vOrd_nil ?_
    refine Wp.ret ⟨.inr rfl, fun lW => ⟨_, ⟨_, _, res_tmp (P := Tryd.prog) rfl rfl, res_tmp (P := Tryd.prog) rfl rfl, rfl⟩, _, rfl, ?_, lW⟩⟩
    clear lW
    obtain ⟨v1, v2⟩ := d_bad (n := wkN y k d) (wkB_no.2 (show ¬ (1 ≤ d ∧ d ≤ 7 ∧ 1 ≤ k ∧ k ≤ weeks y) by omega))
    rw [v1, v2]
  · refine s_move rfl rfl rfl rfl ?_
    refine s_move rfl rfl rfl rfl ?_
    refine p_gtr rfl rfl rfl rfl rfl (fun h13 => ?_) (fun h13 => ?_)
    · refine s_pick rfl rfl rfl rfl rfl ?_
      refine s_move rfl rfl rfl rfl ?_
      refine s_skip rfl rfl rfl ?_
      refine s_skip rfl rfl rfl ?_
      refine s_pick rfl rfl rfl rfl rfl ?_
      refine s_move rfl rfl rfl rfl ?_
      refine s_skip rfl rfl rfl ?_
      refine s_skip rfl rfl rfl ?_
      refine s_skip rfl rfl rfl ?_
      refine s_skip rfl rfl rfl ?_
      refine s_pick rfl rfl rfl rfl rfl ?_
      refine vOrd_nil ?_
      refine Wp.condT rfl rfl ?_
      refine Wp.seq ?_
      refine Wp.region [0, 1] (by kernel_rfl) (by kernel_rfl) ?_
      refine s_assign rfl rfl rfl rfl ?_
      refine s_assign rfl rfl rfl rfl ?_
      refine vOrd_nil ?_
      refine Wp.ret ⟨.inr rfl, fun lW => ⟨_, ⟨_, _, res_tmp (P := Tryd.prog) rfl rfl, res_tmp (P := Tryd.prog) rfl rfl, rfl⟩, _, rfl, ?_, lW⟩⟩
      clear lW
      obtain ⟨v1, v2⟩ := d_bad (n := wkN y k d) (wkB_no.2 (show ¬ (1 ≤ d ∧ d ≤ 7 ∧ 1 ≤ k ∧ k ≤ weeks y) by omega))
      rw [v1, v2]
    · refine s_pick rfl rfl rfl rfl rfl ?_
      refine s_move rfl rfl rfl rfl ?_
      refine s_move rfl rfl rfl rfl ?_
      refine p_lss rfl rfl rfl rfl rfl (fun h17 => ?_) (fun h17 => ?_)
      · refine s_pick rfl rfl rfl rfl rfl ?_
        refine s_move rfl rfl rfl rfl ?_
        refine s_skip rfl rfl rfl ?_
        refine s_skip rfl rfl rfl ?_
        refine s_skip rfl rfl rfl ?_
        refine s_skip rfl rfl rfl ?_
        refine s_pick rfl rfl rfl rfl rfl ?_
        refine vOrd_nil ?_
        refine Wp.condT rfl rfl ?_
        refine Wp.seq ?_
        refine Wp.region [0, 1] (by kernel_rfl) (by kernel_rfl) ?_
        refine s_assign rfl rfl rfl rfl ?_
        refine s_assign rfl rfl rfl rfl ?_
        refine vOrd_nil ?_
        refine Wp.ret ⟨.inr rfl, fun lW => ⟨_, ⟨_, _, res_tmp (P := Tryd.prog) rfl rfl, res_tmp (P := Tryd.prog) rfl rfl, rfl⟩, _, rfl, ?_, lW⟩⟩
        clear lW
        obtain ⟨v1, v2⟩ := d_bad (n := wkN y k d) (wkB_no.2 (show ¬ (1 ≤ d ∧ d ≤ 7 ∧ 1 ≤ k ∧ k ≤ weeks y) by omega))
        rw [v1, v2]
      · refine s_pick rfl rfl rfl rfl rfl ?_
        refine s_move rfl rfl rfl rfl ?_
        refine s_move rfl rfl rfl rfl ?_
        refine s_move rfl rfl rfl rfl ?_
        refine s_callT rfl rfl rfl (by kernel_rfl) rfl (cweeks_any y tb) ?_
        rintro v w1 rfl lw1
        replace tb := tb.later lw1
        refine p_gtr rfl rfl rfl rfl rfl (fun h23 => ?_) (fun h23 => ?_)
        · refine s_pick rfl rfl rfl rfl rfl ?_
          refine vOrd_nil ?_
          refine Wp.condT rfl rfl ?_
          refine Wp.seq ?_
          refine Wp.region [0, 1] (by kernel_rfl) (by kernel_rfl) ?_
          refine s_assign rfl rfl rfl rfl ?_
          refine s_assign rfl rfl rfl rfl ?_
          refine vOrd_nil ?_
          refine Wp.ret ⟨.inr rfl, fun lW => ⟨_, ⟨_, _, res_tmp (P := Tryd.prog) rfl rfl, res_tmp (P := Tryd.prog) rfl rfl, rfl⟩, _, rfl, ?_, lW⟩⟩
          clear lW
          obtain ⟨v1, v2⟩ := d_bad (n := wkN y k d) (wkB_no.2 (show ¬ (1 ≤ d ∧ d ≤ 7 ∧ 1 ≤ k ∧ k ≤ weeks y) by omega))
          rw [v1, v2]
        · refine s_pick rfl rfl rfl rfl rfl ?_
          refine vOrd_nil ?_
          refine Wp.condF rfl rfl ?_
          refine Wp.skip ?_
          refine Wp.seq ?_
          refine Wp.seq ?_
          have hB : wkB y k d = true := wkB_iff.2 (by omega)
          refine Wp.region [0, 1, 2, 3, 4, 5] (by kernel_rfl) (by kernel_rfl) ?_
          refine s_move rfl rfl rfl rfl ?_
          refine p_lss rfl rfl rfl rfl rfl (fun h26 => ?_) (fun h26 => ?_)
          · refine s_move rfl rfl rfl rfl ?_
            refine s_skip rfl rfl rfl ?_
            refine s_skip rfl rfl rfl ?_
            refine s_pick rfl rfl rfl rfl rfl ?_
            refine vOrd_nil ?_
            refine Wp.condT rfl rfl ?_
            refine Wp.seq ?_
            refine Wp.region [0, 1] (by kernel_rfl) (by kernel_rfl) ?_
            refine s_assign rfl rfl rfl rfl ?_
            refine s_assign rfl rfl rfl rfl ?_
            refine vOrd_nil ?_
            refine Wp.ret ⟨.inr rfl, fun lW => ⟨_, ⟨_, _, res_tmp (P := Tryd.prog) rfl rfl, res_tmp (P := Tryd.prog) rfl rfl, rfl⟩, _, rfl, ?_, lW⟩⟩
            clear lW
            obtain ⟨v1, v2⟩ := d_far (n := wkN y k d) hB (wk_far hB (by omega))
            rw [v1, v2]
          · refine s_move rfl rfl rfl rfl ?_
            refine s_move rfl rfl rfl rfl ?_
            refine p_gtr rfl rfl rfl rfl rfl (fun h29 => ?_) (fun h29 => ?_)
            · refine s_pick rfl rfl rfl rfl rfl ?_
              refine vOrd_nil ?_
              refine Wp.condT rfl rfl ?_
              refine Wp.seq ?_
              refine Wp.region [0, 1] (by kernel_rfl) (by kernel_rfl) ?_
              refine s_assign rfl rfl rfl rfl ?_
              refine s_assign rfl rfl rfl rfl ?_
              refine vOrd_nil ?_
              refine Wp.ret ⟨.inr rfl, fun lW => ⟨_, ⟨_, _, res_tmp (P := Tryd.prog) rfl rfl, res_tmp (P := Tryd.prog) rfl rfl, rfl⟩, _, rfl, ?_, lW⟩⟩
              clear lW
              obtain ⟨v1, v2⟩ := d_far (n := wkN y k d) hB (wk_far hB (by omega))
              rw [v1, v2]
            · refine s_pick rfl rfl rfl rfl rfl ?_
              refine vOrd_nil ?_
              refine Wp.condF rfl rfl ?_
              refine Wp.skip ?_
              refine Wp.seq ?_
              have c1 := wOne_in y
              have c2 := first_in (y := y) (by omega) (by omega)
              refine Wp.old (fun lo => ?_)
              have tb := hT.later lo
              clear lo
              refine Wp.region [0, 1, 2, 3, 4, 5, 6, 7, 8, 9] (by kernel_rfl) (by kernel_rfl) ?_
              refine s_move rfl rfl rfl rfl ?_
              refine s_callT rfl rfl rfl (by kernel_rfl) rfl (cweekone_any y (by omega) (by omega) tb) ?_
              rintro v w2 rfl lw2
              replace tb := tb.later lw2
              refine s_move rfl rfl rfl rfl ?_
              refine a_sub (-9223372036854775808) 9223372036854775807 (by decide) rfl rfl rfl rfl rfl (by omega) (by omega) ?_
              refine a_mul (-9223372036854775808) 9223372036854775807 (by decide) rfl rfl rfl rfl rfl (by omega) (by omega) ?_
              refine a_add (-9223372036854775808) 9223372036854775807 (by decide) rfl rfl rfl rfl rfl (by omega) (by omega) ?_
              refine s_move rfl rfl rfl rfl ?_
              refine a_add (-9223372036854775808) 9223372036854775807 (by decide) rfl rfl rfl rfl rfl (by omega) (by omega) ?_
              refine a_sub (-9223372036854775808) 9223372036854775807 (by decide) rfl rfl rfl rfl rfl (by omega) (by omega) ?_
              refine s_assign rfl rfl rfl rfl ?_
              refine vOrd_nil ?_
              refine Wp.seq ?_
              refine Wp.seq ?_
              refine Wp.region [0, 1, 2, 3, 4, 5] (by kernel_rfl) (by kernel_rfl) ?_
              refine s_move rfl rfl rfl rfl ?_
              refine p_lss rfl rfl rfl rfl rfl (fun h41 => ?_) (fun h41 => ?_)
              · refine s_move rfl rfl rfl rfl ?_
                refine s_skip rfl rfl rfl ?_
                refine s_skip rfl rfl rfl ?_
                refine s_pick rfl rfl rfl rfl rfl ?_
                refine vOrd_nil ?_
                refine Wp.condT rfl rfl ?_
                refine Wp.seq ?_
                refine Wp.region [0, 1] (by kernel_rfl) (by kernel_rfl) ?_
                refine s_assign rfl rfl rfl rfl ?_
                refine s_assign rfl rfl rfl rfl ?_
                refine vOrd_nil ?_
                refine Wp.ret ⟨.inr rfl, fun lW => ⟨_, ⟨_, _, res_tmp (P := Tryd.prog) rfl rfl, res_tmp (P := Tryd.prog) rfl rfl, rfl⟩, _, rfl, ?_, lW⟩⟩
                clear lW
                obtain ⟨v1, v2⟩ := d_far (n := wkN y k d) hB (inB_no.2 (by unfold wkN; omega))
                rw [v1, v2]
              · refine s_move rfl rfl rfl rfl ?_
                refine s_move rfl rfl rfl rfl ?_
                refine p_gtr rfl rfl rfl rfl rfl (fun h44 => ?_) (fun h44 => ?_)
                · refine s_pick rfl rfl rfl rfl rfl ?_
                  refine vOrd_nil ?_
                  refine Wp.condT rfl rfl ?_
                  refine Wp.seq ?_
                  refine Wp.region [0, 1] (by kernel_rfl) (by kernel_rfl) ?_
                  refine s_assign rfl rfl rfl rfl ?_
                  refine s_assign rfl rfl rfl rfl ?_
                  refine vOrd_nil ?_
                  refine Wp.ret ⟨.inr rfl, fun lW => ⟨_, ⟨_, _, res_tmp (P := Tryd.prog) rfl rfl, res_tmp (P := Tryd.prog) rfl rfl, rfl⟩, _, rfl, ?_, lW⟩⟩
                  clear lW
                  obtain ⟨v1, v2⟩ := d_far (n := wkN y k d) hB (inB_no.2 (by unfold wkN; omega))
                  rw [v1, v2]
                · refine s_pick rfl rfl rfl rfl rfl ?_
                  refine vOrd_nil ?_
                  refine Wp.condF rfl rfl ?_
                  refine Wp.skip ?_
                  refine Wp.seq ?_
                  refine Wp.region [0, 1, 2] (by kernel_rfl) (by kernel_rfl) ?_
                  refine s_move rfl rfl rfl rfl ?_
                  refine s_assign rfl rfl rfl rfl ?_
                  refine s_assign rfl rfl rfl rfl ?_
                  refine vOrd_nil ?_
                  refine Wp.ret ⟨.inr rfl, fun lW => ⟨_, ⟨_, _, res_tmp (P := Tryd.prog) rfl rfl, res_tmp (P := Tryd.prog) rfl rfl, rfl⟩, _, rfl, ?_, lW⟩⟩
                  clear lW
                  obtain ⟨v1, v2⟩ := d_ok (n := wkN y k d) hB (inB_iff.2 (by unfold wkN; omega))
                  rw [v1, v2]; rfl
end Go.Proofs.YtephjnnhfelkkaaDoor
