/-
  The contracts of the calendar's reference (P5.1, P5.2): Floor, Long, Length, Valid, First, In, Day, Date. No conditions but that numbers are of the sizes that they are called with.
-/
import Derived.Test.YtephjnnhfelkkaaDoorGregB
namespace Go.Proofs.YtephjnnhfelkkaaDoor
open Go.RowKit
set_option maxRecDepth 100000

def tabV : List Value := [.int .i64 31, .int .i64 28, .int .i64 31, .int .i64 30, .int .i64 31, .int .i64 30, .int .i64 31, .int .i64 31, .int .i64 30, .int .i64 31, .int .i64 30, .int .i64 31]
theorem row_at {w : World} {c : Nat} {e : TypeId} (h : RowIs w c e tabV) {j : Int} (h0 : 0 ≤ j) (h1 : j < 12) : w.cell? ⟨c, j.toNat, none⟩ = some (.int .i64 (tabL.getD j.toNat 0)) := by
  have hj : j.toNat < 12 := by omega
  have hb : w.heap[c]? = some (.cells tabV.toArray e (0, 0)) := h
  simp only [World.cell?, hb]
  match j.toNat, hj with
  | 0, _ | 1, _ | 2, _ | 3, _ | 4, _ | 5, _ | 6, _ | 7, _ | 8, _ | 9, _ | 10, _ | 11, _ => rfl
theorem row_keep {w w' : World} {c : Nat} {e : TypeId} {cs : List Value} (h : RowIs w c e cs) (l : Later w w') : RowIs w' c e cs := by
  have hb : w.heap[c]? = some (.cells cs.toArray e (0, 0)) := h
  show w'.heap[c]? = _
  rw [l.block c (Array.getElem?_eq_some_iff.1 hb).1]; exact hb
theorem rlong_any (y : Int) (w : World) : Calls Tryd.prog 15 #[.int .i64 y] w fun e w' => ∃ r, e = .returned r ∧ r = .bool (lpB y) ∧ Below w.heap.size w w' := by
  have t4 := tmod_zero y 4
  have t100 := tmod_zero y 100
  have t400 := tmod_zero y 400
  refine calls_Wp (args := [_]) (n := 16) Tryd.func15 rfl rfl (by simp) ?_
  refine Wp.seq ?_
  refine Wp.region [0] (by kernel_rfl) (by kernel_rfl) ?_
  refine s_assign rfl rfl rfl rfl ?_
  refine vOrd_nil ?_
  refine Wp.seq ?_
  refine Wp.region [0, 1, 2, 3, 4, 5, 6, 7, 8, 9, 10, 11, 12, 13] (by kernel_rfl) (by kernel_rfl) ?_
  refine s_move rfl rfl rfl rfl ?_
  refine a_tmod rfl rfl rfl rfl rfl (by omega) ?_
  refine p_eql rfl rfl rfl rfl rfl (fun h5 => ?_) (fun h5 => ?_)
  · refine s_move rfl rfl rfl rfl ?_
    refine s_skip rfl rfl rfl ?_
    refine s_skip rfl rfl rfl ?_
    refine s_skip rfl rfl rfl ?_
    refine s_skip rfl rfl rfl ?_
    refine s_skip rfl rfl rfl ?_
    refine s_skip rfl rfl rfl ?_
    refine s_skip rfl rfl rfl ?_
    refine s_skip rfl rfl rfl ?_
    refine s_pick rfl rfl rfl rfl rfl ?_
    refine s_assign rfl rfl rfl rfl ?_
    refine vOrd_nil ?_
    refine Wp.ret ⟨.inr rfl, fun lW => ⟨_, res_tmp (P := Tryd.prog) rfl rfl, _, rfl, ?_, lW⟩⟩
    clear lW
    rw [lpB_iff.2 (by omega)]
  · refine s_move rfl rfl rfl rfl ?_
    refine s_move rfl rfl rfl rfl ?_
    refine a_tmod rfl rfl rfl rfl rfl (by omega) ?_
    refine p_eql rfl rfl rfl rfl rfl (fun h9 => ?_) (fun h9 => ?_)
    · refine s_move rfl rfl rfl rfl ?_
      refine s_move rfl rfl rfl rfl ?_
      refine a_tmod rfl rfl rfl rfl rfl (by omega) ?_
      refine p_neq rfl rfl rfl rfl rfl (fun h13 => ?_) (fun h13 => ?_)
      · refine s_pick rfl rfl rfl rfl rfl ?_
        refine s_pick rfl rfl rfl rfl rfl ?_
        refine s_assign rfl rfl rfl rfl ?_
        refine vOrd_nil ?_
        refine Wp.ret ⟨.inr rfl, fun lW => ⟨_, res_tmp (P := Tryd.prog) rfl rfl, _, rfl, ?_, lW⟩⟩
        clear lW
        rw [lpB_iff.2 (by omega)]
      · refine s_pick rfl rfl rfl rfl rfl ?_
        refine s_pick rfl rfl rfl rfl rfl ?_
        refine s_assign rfl rfl rfl rfl ?_
        refine vOrd_nil ?_
        refine Wp.ret ⟨.inr rfl, fun lW => ⟨_, res_tmp (P := Tryd.prog) rfl rfl, _, rfl, ?_, lW⟩⟩
        clear lW
        rw [lpB_no.2 (by omega)]
    · refine s_move rfl rfl rfl rfl ?_
      refine s_skip rfl rfl rfl ?_
      refine s_skip rfl rfl rfl ?_
      refine s_skip rfl rfl rfl ?_
      refine s_pick rfl rfl rfl rfl rfl ?_
      refine s_pick rfl rfl rfl rfl rfl ?_
      refine s_assign rfl rfl rfl rfl ?_
      refine vOrd_nil ?_
      refine Wp.ret ⟨.inr rfl, fun lW => ⟨_, res_tmp (P := Tryd.prog) rfl rfl, _, rfl, ?_, lW⟩⟩
      clear lW
      rw [lpB_no.2 (by omega)]
theorem rlength_any (y m : Int) (w : World) : Calls Tryd.prog 34 #[.int .i64 y, .int .i64 m] w fun e w' => ∃ r, e = .returned r ∧ r = .int .i64 (mlen y m) ∧ Below w.heap.size w w' := by
  refine calls_Wp (args := [_, _]) (n := 24) Tryd.func34 rfl rfl (by simp) ?_
  refine Wp.seq ?_
  refine Wp.region [0] (by kernel_rfl) (by kernel_rfl) ?_
  refine s_assign rfl rfl rfl rfl ?_
  refine vOrd_nil ?_
  refine Wp.seq ?_
  refine Wp.region [0, 1] (by kernel_rfl) (by kernel_rfl) ?_
  refine s_bs (e := 3) (cs := tabV) rfl rfl rfl (fun w => by kernel_rfl) ?_
  rintro c9 w9 k9 l9 r9
  refine s_assign rfl rfl rfl rfl ?_
  refine vOrd_nil ?_
  refine Wp.seq ?_
  refine Wp.seq ?_
  refine Wp.region [0, 1, 2, 3, 4, 5] (by kernel_rfl) (by kernel_rfl) ?_
  refine s_move rfl rfl rfl rfl ?_
  refine p_lss rfl rfl rfl rfl rfl (fun h8 => ?_) (fun h8 => ?_)
  · refine s_move rfl rfl rfl rfl ?_
    refine s_skip rfl rfl rfl ?_
    refine s_skip rfl rfl rfl ?_
    refine s_pick rfl rfl rfl rfl rfl ?_
    refine vOrd_nil ?_
    refine Wp.condT rfl rfl ?_
    refine Wp.seq ?_
    refine Wp.region [0] (by kernel_rfl) (by kernel_rfl) ?_
    refine s_assign rfl rfl rfl rfl ?_
    refine vOrd_nil ?_
    refine Wp.ret ⟨.inr rfl, fun lW => ⟨_, res_tmp (P := Tryd.prog) rfl rfl, _, rfl, ?_, lW⟩⟩
    clear lW
    rw [mlen_out (by omega)]
  · refine s_move rfl rfl rfl rfl ?_
    refine s_move rfl rfl rfl rfl ?_
    refine p_gtr rfl rfl rfl rfl rfl (fun h11 => ?_) (fun h11 => ?_)
    · refine s_pick rfl rfl rfl rfl rfl ?_
      refine vOrd_nil ?_
      refine Wp.condT rfl rfl ?_
      refine Wp.seq ?_
      refine Wp.region [0] (by kernel_rfl) (by kernel_rfl) ?_
      refine s_assign rfl rfl rfl rfl ?_
      refine vOrd_nil ?_
      refine Wp.ret ⟨.inr rfl, fun lW => ⟨_, res_tmp (P := Tryd.prog) rfl rfl, _, rfl, ?_, lW⟩⟩
      clear lW
      rw [mlen_out (by omega)]
    · refine s_pick rfl rfl rfl rfl rfl ?_
      refine vOrd_nil ?_
      refine Wp.condF rfl rfl ?_
      refine Wp.skip ?_
      refine Wp.seq ?_
      refine Wp.seq ?_
      refine Wp.region [0, 1, 2, 3, 4, 5] (by kernel_rfl) (by kernel_rfl) ?_
      refine s_move rfl rfl rfl rfl ?_
      refine p_eql rfl rfl rfl rfl rfl (fun h14 => ?_) (fun h14 => ?_)
      · refine s_move rfl rfl rfl rfl ?_
        refine s_move rfl rfl rfl rfl ?_
        refine s_callT rfl rfl rfl (by kernel_rfl) rfl (rlong_any y _) ?_
        rintro v w3 rfl lw3
        replace r9 := row_keep r9 lw3
        refine s_pick rfl rfl rfl rfl rfl ?_
        refine vOrd_nil ?_
        refine Wp.cond rfl (okOpd_spec rfl) (fun c18 => ?_) (fun c18 => ?_)
        · refine Wp.seq ?_
          refine Wp.region [0] (by kernel_rfl) (by kernel_rfl) ?_
          refine s_assign rfl rfl rfl rfl ?_
          refine vOrd_nil ?_
          refine Wp.ret ⟨.inr rfl, fun lW => ⟨_, res_tmp (P := Tryd.prog) rfl rfl, _, rfl, ?_, lW⟩⟩
          clear lW
          rw [h14, mlen_two, lp_yes c18]; rfl
        · refine Wp.skip ?_
          refine Wp.seq ?_
          refine Wp.region [0, 1, 2, 3, 4, 5] (by kernel_rfl) (by kernel_rfl) ?_
          refine s_move rfl rfl rfl rfl ?_
          refine s_move rfl rfl rfl rfl ?_
          refine a_sub (-9223372036854775808) 9223372036854775807 (by decide) rfl rfl rfl rfl rfl (by omega) (by omega) ?_
          refine s_idx (sz := 1) (m - 1).toNat rfl rfl rfl rfl rfl rfl rfl (by omega) (by show (m - 1 : Int) < ((12 : Nat) : Int); omega) (by omega) ?_
          refine x_ldc rfl rfl rfl rfl rfl (row_at r9 (by omega) (by omega)) ?_
          refine s_assign rfl rfl rfl rfl ?_
          refine vOrd_nil ?_
          refine Wp.ret ⟨.inr rfl, fun lW => ⟨_, res_tmp (P := Tryd.prog) rfl rfl, _, rfl, ?_, lW⟩⟩
          clear lW
          rw [h14, mlen_two, lp_no c18]; rfl
      · refine s_move rfl rfl rfl rfl ?_
        refine s_skip rfl rfl rfl ?_
        refine s_skip rfl rfl rfl ?_
        refine s_pick rfl rfl rfl rfl rfl ?_
        refine vOrd_nil ?_
        refine Wp.condF rfl rfl ?_
        refine Wp.skip ?_
        refine Wp.seq ?_
        refine Wp.region [0, 1, 2, 3, 4, 5] (by kernel_rfl) (by kernel_rfl) ?_
        refine s_move rfl rfl rfl rfl ?_
        refine s_move rfl rfl rfl rfl ?_
        refine a_sub (-9223372036854775808) 9223372036854775807 (by decide) rfl rfl rfl rfl rfl (by omega) (by omega) ?_
        refine s_idx (sz := 1) (m - 1).toNat rfl rfl rfl rfl rfl rfl rfl (by omega) (by show (m - 1 : Int) < ((12 : Nat) : Int); omega) (by omega) ?_
        refine x_ldc rfl rfl rfl rfl rfl (row_at r9 (by omega) (by omega)) ?_
        refine s_assign rfl rfl rfl rfl ?_
        refine vOrd_nil ?_
        refine Wp.ret ⟨.inr rfl, fun lW => ⟨_, res_tmp (P := Tryd.prog) rfl rfl, _, rfl, ?_, lW⟩⟩
        clear lW
        rw [mlen_tab (by omega) (by omega) h14]
theorem rin_any (n : Int) (w : World) : Calls Tryd.prog 12 #[.int .i64 n] w fun e w' => ∃ r, e = .returned r ∧ r = .bool (inB n) ∧ Below w.heap.size w w' := by
  refine calls_Wp (args := [_]) (n := 9) Tryd.func12 rfl rfl (by simp) ?_
  refine Wp.seq ?_
  refine Wp.region [0] (by kernel_rfl) (by kernel_rfl) ?_
  refine s_assign rfl rfl rfl rfl ?_
  refine vOrd_nil ?_
  refine Wp.seq ?_
  refine Wp.region [0, 1, 2, 3, 4, 5, 6] (by kernel_rfl) (by kernel_rfl) ?_
  refine s_move rfl rfl rfl rfl ?_
  refine p_geq rfl rfl rfl rfl rfl (fun h4 => ?_) (fun h4 => ?_)
  · refine s_move rfl rfl rfl rfl ?_
    refine s_move rfl rfl rfl rfl ?_
    refine p_leq rfl rfl rfl rfl rfl (fun h7 => ?_) (fun h7 => ?_)
    · refine s_pick rfl rfl rfl rfl rfl ?_
      refine s_assign rfl rfl rfl rfl ?_
      refine vOrd_nil ?_
      refine Wp.ret ⟨.inr rfl, fun lW => ⟨_, res_tmp (P := Tryd.prog) rfl rfl, _, rfl, ?_, lW⟩⟩
      clear lW
      rw [inB_iff.2 (by omega)]
    · refine s_pick rfl rfl rfl rfl rfl ?_
      refine s_assign rfl rfl rfl rfl ?_
      refine vOrd_nil ?_
      refine Wp.ret ⟨.inr rfl, fun lW => ⟨_, res_tmp (P := Tryd.prog) rfl rfl, _, rfl, ?_, lW⟩⟩
      clear lW
      rw [inB_no.2 (by omega)]
  · refine s_move rfl rfl rfl rfl ?_
    refine s_skip rfl rfl rfl ?_
    refine s_skip rfl rfl rfl ?_
    refine s_pick rfl rfl rfl rfl rfl ?_
    refine s_assign rfl rfl rfl rfl ?_
    refine vOrd_nil ?_
    refine Wp.ret ⟨.inr rfl, fun lW => ⟨_, res_tmp (P := Tryd.prog) rfl rfl, _, rfl, ?_, lW⟩⟩
    clear lW
    rw [inB_no.2 (by omega)]
theorem tdiv_over (n d : Int) : n < n.tdiv d * d ↔ n.tmod d < 0 := by
  have e := Int.mul_tdiv_add_tmod n d
  have c := Int.mul_comm (n.tdiv d) d
  omega
theorem floor_any (n d : Int) (hd : 0 < d) (h0 : -4611686018427387904 ≤ n) (h1 : n ≤ 4611686018427387904) (hd1 : d ≤ 2147483648) (w : World) : Calls Tryd.prog 26 #[.int .i64 n, .int .i64 d] w fun e w' => ∃ r, e = .returned r ∧ r = .int .i64 (n / d) ∧ Below w.heap.size w w' := by
  have hq := tdiv_le (n := n) hd
  have hm := tmod_in (n := n) hd
  have ho := tdiv_over n d
  have e := Int.mul_tdiv_add_tmod n d
  have c := Int.mul_comm (n.tdiv d) d
  refine calls_Wp (args := [_, _]) (n := 17) Tryd.func26 rfl rfl (by simp) ?_
  refine Wp.seq ?_
  refine Wp.region [0] (by kernel_rfl) (by kernel_rfl) ?_
  refine s_assign rfl rfl rfl rfl ?_
  refine vOrd_nil ?_
  refine Wp.seq ?_
  refine Wp.region [0, 1, 2, 3] (by kernel_rfl) (by kernel_rfl) ?_
  refine s_move rfl rfl rfl rfl ?_
  refine s_move rfl rfl rfl rfl ?_
  refine a_tquo rfl rfl rfl rfl rfl (by omega) (by show (-9223372036854775808 : Int) ≤ _; omega) (by show _ ≤ (9223372036854775807 : Int); omega) ?_
  refine s_assign rfl rfl rfl rfl ?_
  refine vOrd_nil ?_
  refine Wp.seq ?_
  refine Wp.seq ?_
  refine Wp.region [0, 1, 2, 3, 4] (by kernel_rfl) (by kernel_rfl) ?_
  refine s_move rfl rfl rfl rfl ?_
  refine s_move rfl rfl rfl rfl ?_
  refine a_mul (-9223372036854775808) 9223372036854775807 (by decide) rfl rfl rfl rfl rfl (by omega) (by omega) ?_
  refine s_move rfl rfl rfl rfl ?_
  refine p_gtr rfl rfl rfl rfl rfl (fun h13 => ?_) (fun h13 => ?_)
  · refine vOrd_nil ?_
    refine Wp.condT rfl rfl ?_
    refine Wp.region [0, 1, 2] (by kernel_rfl) (by kernel_rfl) ?_
    refine s_move rfl rfl rfl rfl ?_
    refine a_sub (-9223372036854775808) 9223372036854775807 (by decide) rfl rfl rfl rfl rfl (by omega) (by omega) ?_
    refine s_assign rfl rfl rfl rfl ?_
    refine vOrd_nil ?_
    refine Wp.seq ?_
    refine Wp.region [0, 1] (by kernel_rfl) (by kernel_rfl) ?_
    refine s_move rfl rfl rfl rfl ?_
    refine s_assign rfl rfl rfl rfl ?_
    refine vOrd_nil ?_
    refine Wp.ret ⟨.inr rfl, fun lW => ⟨_, res_tmp (P := Tryd.prog) rfl rfl, _, rfl, ?_, lW⟩⟩
    clear lW
    have q := tdiv_low hd (ho.1 h13)
    rw [q.1]
  · refine vOrd_nil ?_
    refine Wp.condF rfl rfl ?_
    refine Wp.skip ?_
    refine Wp.seq ?_
    refine Wp.region [0, 1] (by kernel_rfl) (by kernel_rfl) ?_
    refine s_move rfl rfl rfl rfl ?_
    refine s_assign rfl rfl rfl rfl ?_
    refine vOrd_nil ?_
    refine Wp.ret ⟨.inr rfl, fun lW => ⟨_, res_tmp (P := Tryd.prog) rfl rfl, _, rfl, ?_, lW⟩⟩
    clear lW
    have q := tdiv_high hd (by omega : 0 ≤ n.tmod d)
    rw [q.1]
theorem rfirst_any (y : Int) (h0 : -17179869184 ≤ y) (h1 : y ≤ 17179869184) (w : World) : Calls Tryd.prog 16 #[.int .i64 y] w fun e w' => ∃ r, e = .returned r ∧ r = .int .i64 (firstD y) ∧ Below w.heap.size w w' := by
  refine calls_Wp (args := [_]) (n := 18) Tryd.func16 rfl rfl (by simp) ?_
  refine Wp.seq ?_
  refine Wp.region [0] (by kernel_rfl) (by kernel_rfl) ?_
  refine s_assign rfl rfl rfl rfl ?_
  refine vOrd_nil ?_
  refine Wp.seq ?_
  refine Wp.region [0, 1, 2, 3, 4, 5, 6, 7, 8, 9, 10, 11, 12, 13, 14, 15] (by kernel_rfl) (by kernel_rfl) ?_
  refine s_move rfl rfl rfl rfl ?_
  refine a_mul (-9223372036854775808) 9223372036854775807 (by decide) rfl rfl rfl rfl rfl (by omega) (by omega) ?_
  refine s_move rfl rfl rfl rfl ?_
  refine a_add (-9223372036854775808) 9223372036854775807 (by decide) rfl rfl rfl rfl rfl (by omega) (by omega) ?_
  refine s_callT rfl rfl rfl (by kernel_rfl) rfl (floor_any (y + 3) 4 (by omega) (by omega) (by omega) (by omega) _) ?_
  rintro v w1 rfl lw1
  refine a_add (-9223372036854775808) 9223372036854775807 (by decide) rfl rfl rfl rfl rfl (by omega) (by omega) ?_
  refine s_move rfl rfl rfl rfl ?_
  refine a_add (-9223372036854775808) 9223372036854775807 (by decide) rfl rfl rfl rfl rfl (by omega) (by omega) ?_
  refine s_callT rfl rfl rfl (by kernel_rfl) rfl (floor_any (y + 99) 100 (by omega) (by omega) (by omega) (by omega) _) ?_
  rintro v w2 rfl lw2
  refine a_sub (-9223372036854775808) 9223372036854775807 (by decide) rfl rfl rfl rfl rfl (by omega) (by omega) ?_
  refine s_move rfl rfl rfl rfl ?_
  refine a_add (-9223372036854775808) 9223372036854775807 (by decide) rfl rfl rfl rfl rfl (by omega) (by omega) ?_
  refine s_callT rfl rfl rfl (by kernel_rfl) rfl (floor_any (y + 399) 400 (by omega) (by omega) (by omega) (by omega) _) ?_
  rintro v w3 rfl lw3
  refine a_add (-9223372036854775808) 9223372036854775807 (by decide) rfl rfl rfl rfl rfl (by omega) (by omega) ?_
  refine a_sub (-9223372036854775808) 9223372036854775807 (by decide) rfl rfl rfl rfl rfl (by omega) (by omega) ?_
  refine s_assign rfl rfl rfl rfl ?_
  refine vOrd_nil ?_
  refine Wp.ret ⟨.inr rfl, fun lW => ⟨_, res_tmp (P := Tryd.prog) rfl rfl, _, rfl, ?_, lW⟩⟩
  clear lW
  rfl
theorem rdate_any (n : Int) (hI : inB n = true) (w : World) : Calls Tryd.prog 23 #[.int .i64 n] w fun e w' => ∃ r, e = .returned r ∧ (∃ y m d, r = .agg #[.int .i64 y, .int .i64 m, .int .i64 d] ∧ isD y m d = true ∧ dayOf y m d = n) ∧ Below w.heap.size w w' := by
  have hi := inB_iff.1 hI
  have hyl := year_low n
  refine calls_Wp (args := [_]) (n := 38) Tryd.func23 rfl rfl (by simp) ?_
  refine Wp.seq ?_
  refine Wp.region [0] (by kernel_rfl) (by kernel_rfl) ?_
  refine s_alloc rfl rfl rfl rfl rfl (fun bk1 w1 kb1 lw1 => ?_)
  refine vOrd_nil ?_
  refine Wp.seq ?_
  refine Wp.region [0, 1, 2, 3, 4, 5] (by kernel_rfl) (by kernel_rfl) ?_
  refine s_move rfl rfl rfl rfl ?_
  refine a_add (-9223372036854775808) 9223372036854775807 (by decide) rfl rfl rfl rfl rfl (by omega) (by omega) ?_
  refine a_mul (-9223372036854775808) 9223372036854775807 (by decide) rfl rfl rfl rfl rfl (by omega) (by omega) ?_
  refine s_callT rfl rfl rfl (by kernel_rfl) rfl (floor_any ((n + 678941) * 400) 146097 (by omega) (by omega) (by omega) (by omega) _) ?_
  rintro v w2 rfl lw2
  refine a_sub (-9223372036854775808) 9223372036854775807 (by decide) rfl rfl rfl rfl rfl (by omega) (by omega) ?_
  refine s_assign rfl rfl rfl rfl ?_
  refine vOrd_nil ?_
  refine Wp.seq ?_
  refine Wp.block ?_
  refine Wp.loop (fun k st _ => ∃ (y : Int) (b2 : Nat), st = St.of [(0, .v (.int .i64 n)), (2, .p 2 b2 0), (3, .v (.int .i64 y))] [(2, b2, [.int .i64 0, .int .i64 0, .int .i64 0])] ∧ firstD y ≤ n ∧ -8589934592 ≤ y ∧ k = (n - firstD y).toNat) ?_ ?_
  · exact ⟨_, _, (St.of_le' (env := [(0, .v _), (2, .p 2 _ 0), (3, .v _)]) (mem := [(2, _, [_, _, _])]) ⟨rfl, rfl, rfl, trivial⟩ ⟨rfl, trivial⟩), _, _, rfl, hyl, by omega, rfl⟩
  · rintro k st w3 ⟨y, b2, rfl, hy, y0, rfl⟩
    refine Wp.seq ?_
    refine Wp.seq ?_
    have y1 := year_in hy hi.2
    refine Wp.region [0, 1, 2, 3, 4] (by kernel_rfl) (by kernel_rfl) ?_
    refine s_move rfl rfl rfl rfl ?_
    refine a_add (-9223372036854775808) 9223372036854775807 (by decide) rfl rfl rfl rfl rfl (by omega) (by omega) ?_
    refine s_callT rfl rfl rfl (by kernel_rfl) rfl (rfirst_any (y + 1) (by omega) (by omega) _) ?_
    rintro v w4 rfl lw4
    refine s_move rfl rfl rfl rfl ?_
    refine p_leq rfl rfl rfl rfl rfl (fun h14 => ?_) (fun h14 => ?_)
    · refine vOrd_nil ?_
      refine Wp.condT rfl rfl ?_
      refine Wp.skip ?_
      refine Wp.block ?_
      refine Wp.region [0, 1, 2] (by kernel_rfl) (by kernel_rfl) ?_
      refine s_move rfl rfl rfl rfl ?_
      refine a_add (-9223372036854775808) 9223372036854775807 (by decide) rfl rfl rfl rfl rfl (by omega) (by omega) ?_
      refine s_assign rfl rfl rfl rfl ?_
      refine vOrd_nil ?_
      have hnx := first_next y
      have hlp := lp_or y
      exact ⟨_, _, by omega, (St.of_le' (env := [(0, .v _), (2, .p 2 _ 0), (3, .v _)]) (mem := [(2, _, [_, _, _])]) ⟨rfl, rfl, rfl, trivial⟩ ⟨rfl, trivial⟩), y + 1, _, rfl, by omega, by omega, rfl⟩
    · refine vOrd_nil ?_
      refine Wp.condF rfl rfl ?_
      refine Wp.exit ?_
      refine Wp.seq ?_
      have hnx := first_next y
      have hlp := lp_or y
      have hF := first_in (y := y) (by omega) (by omega)
      refine Wp.region [0, 1, 2, 3, 4] (by kernel_rfl) (by kernel_rfl) ?_
      refine s_move rfl rfl rfl rfl ?_
      refine s_move rfl rfl rfl rfl ?_
      refine s_callT rfl rfl rfl (by kernel_rfl) rfl (rfirst_any y (by omega) (by omega) _) ?_
      rintro v w5 rfl lw5
      refine a_sub (-9223372036854775808) 9223372036854775807 (by decide) rfl rfl rfl rfl rfl (by omega) (by omega) ?_
      refine s_assign rfl rfl rfl rfl ?_
      refine vOrd_nil ?_
      refine Wp.seq ?_
      refine Wp.region [0] (by kernel_rfl) (by kernel_rfl) ?_
      refine s_assign rfl rfl rfl rfl ?_
      refine vOrd_nil ?_
      refine Wp.seq ?_
      refine Wp.block ?_
      refine Wp.loop (fun k st _ => ∃ (j N : Int) (b2 : Nat), st = St.of [(0, .v (.int .i64 N)), (2, .p 2 b2 0), (3, .v (.int .i64 y)), (4, .v (.int .i64 j))] [(2, b2, [.int .i64 0, .int .i64 0, .int .i64 0])] ∧ n = firstD y + cum y j + N ∧ 0 ≤ N ∧ 1 ≤ j ∧ j ≤ 12 ∧ k = (12 - j).toNat) ?_ ?_
      · exact ⟨_, _, (St.of_le' (env := [(0, .v _), (2, .p 2 _ 0), (3, .v _), (4, .v _)]) (mem := [(2, _, [_, _, _])]) ⟨rfl, rfl, rfl, rfl, trivial⟩ ⟨rfl, trivial⟩), 1, _, _, rfl, by have := cum_one y; omega, by omega, by omega, by omega, rfl⟩
      · rintro k st w6 ⟨j, N, b2, rfl, hN, N0, j1, j2, rfl⟩
        refine Wp.seq ?_
        refine Wp.seq ?_
        have hcj := cum_le (y := y) (m := j) (by omega) (by omega)
        have hlj := mlen_le y j
        refine Wp.region [0, 1, 2, 3, 4] (by kernel_rfl) (by kernel_rfl) ?_
        refine s_move rfl rfl rfl rfl ?_
        refine s_move rfl rfl rfl rfl ?_
        refine s_move rfl rfl rfl rfl ?_
        refine s_callT rfl rfl rfl (by kernel_rfl) rfl (rlength_any y j _) ?_
        rintro v w7 rfl lw7
        refine p_geq rfl rfl rfl rfl rfl (fun h25 => ?_) (fun h25 => ?_)
        · refine vOrd_nil ?_
          refine Wp.condT rfl rfl ?_
          refine Wp.skip ?_
          refine Wp.block ?_
          refine Wp.seq ?_
          refine Wp.region [0, 1, 2, 3, 4, 5] (by kernel_rfl) (by kernel_rfl) ?_
          refine s_move rfl rfl rfl rfl ?_
          refine s_move rfl rfl rfl rfl ?_
          refine s_move rfl rfl rfl rfl ?_
          refine s_callT rfl rfl rfl (by kernel_rfl) rfl (rlength_any y j _) ?_
          rintro v w8 rfl lw8
          refine a_sub (-9223372036854775808) 9223372036854775807 (by decide) rfl rfl rfl rfl rfl (by omega) (by omega) ?_
          refine s_assign rfl rfl rfl rfl ?_
          refine vOrd_nil ?_
          refine Wp.region [0, 1, 2] (by kernel_rfl) (by kernel_rfl) ?_
          refine s_move rfl rfl rfl rfl ?_
          refine a_add (-9223372036854775808) 9223372036854775807 (by decide) rfl rfl rfl rfl rfl (by omega) (by omega) ?_
          refine s_assign rfl rfl rfl rfl ?_
          refine vOrd_nil ?_
          have hn := cum_next (y := y) (m := j) (by omega) (by omega)
          have hj12 : j ≠ 12 := fun e => by subst e; have h13 := cum_13 y; rw [show (12 : Int) + 1 = 13 from rfl] at hn; omega
          exact ⟨_, _, by omega, (St.of_le' (env := [(0, .v _), (2, .p 2 _ 0), (3, .v _), (4, .v _)]) (mem := [(2, _, [_, _, _])]) ⟨rfl, rfl, rfl, rfl, trivial⟩ ⟨rfl, trivial⟩), j + 1, _, _, rfl, by omega, by omega, by omega, by omega, rfl⟩
        · refine vOrd_nil ?_
          refine Wp.condF rfl rfl ?_
          refine Wp.exit ?_
          refine Wp.seq ?_
          refine Wp.region [0, 1, 2, 3, 4, 5] (by kernel_rfl) (by kernel_rfl) ?_
          refine s_move rfl rfl rfl rfl ?_
          refine s_move rfl rfl rfl rfl ?_
          refine s_move rfl rfl rfl rfl ?_
          refine a_add (-9223372036854775808) 9223372036854775807 (by decide) rfl rfl rfl rfl rfl (by omega) (by omega) ?_
          refine s_build rfl rfl rfl rfl rfl (by kernel_rfl) ?_
          refine s_store rfl rfl rfl rfl rfl rfl rfl (fun w9 sw9 vw9 => ?_)
          refine vOrd_nil ?_
          refine Wp.ret ⟨.inr rfl, fun lW => ⟨_, res_cell rfl rfl rfl rfl, _, rfl, ?_, lW⟩⟩
          clear lW
          exact ⟨_, _, _, rfl, isD_iff.2 ⟨by omega, by omega⟩, by unfold dayOf; omega⟩
end Go.Proofs.YtephjnnhfelkkaaDoor
