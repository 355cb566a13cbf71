/-
  The contracts of dec.tenfold, dec.number and dec.Parse (P4.1): what a text is the number of, or why of none. Of texts below 2^62 bytes.
-/
import Derived.Test.YtpglfepkbkfgoaaDoorDecC
namespace Go.Proofs.YtpglfepkbkfgoaaDoor
open Go.RowKit
set_option maxRecDepth 100000

theorem fitE_zero {z : Int} (h : fitE z = 0) : (-170141183460469231731687303715884105728 ≤ z ∧ z < 170141183460469231731687303715884105728) ∧ fitV z = z := by
  by_cases c : -170141183460469231731687303715884105728 ≤ z ∧ z < 170141183460469231731687303715884105728
  · exact ⟨c, (inW_yes c.1 c.2).2.1⟩
  · rw [(inW_no c).2.2] at h; omega
theorem fitE_over {z : Int} (h : fitE z ≠ 0) : ¬ (-170141183460469231731687303715884105728 ≤ z ∧ z < 170141183460469231731687303715884105728) := fun c => h (inW_yes c.1 c.2).2.2
theorem fitE_two {z : Int} (h : fitE z ≠ 0) : fitE z = 2 := (inW_no (fitE_over h)).2.2
theorem tenfold_any {nh nl a d : Int} (hn : WideIs nh nl a) (hs : (0 ≤ a ∧ 0 ≤ d) ∨ (a ≤ 0 ∧ d ≤ 0)) (h0 : -9 ≤ d) (h1 : d ≤ 9) (w : World) :
    Calls Tryd.prog 39 #[.agg #[.int .i64 nh, .int .u64 nl], .int .i64 d] w fun e w' => ∃ r, e = .returned r ∧ (∃ s, r = .tuple #[s, .int .i64 (fitE (a * 10 + d))] ∧ IsW (fitV (a * 10 + d)) s) ∧ Below w.heap.size w w' := by
  refine calls_Wp (args := [_, _]) (n := 24) Tryd.func39 rfl rfl (by simp) ?_
  refine Wp.seq ?_
  refine Wp.region [0, 1, 2] (by kernel_rfl) (by kernel_rfl) ?_
  refine s_box rfl rfl rfl rfl rfl rfl (fun bk1 w1 kb1 lw1 => ?_)
  refine s_alloc rfl rfl rfl rfl rfl (fun bk2 w2 kb2 lw2 => ?_)
  refine s_assign rfl rfl rfl rfl ?_
  refine vOrd_nil ?_
  refine Wp.seq ?_
  refine (Wp.drawn (by kernel_rfl) (by kernel_rfl) [0, 6, 1, 2, 3, 4, 5, 7, 8] [66, 63, 0, 0, 0, 111, 223, 0, 0] (by kernel_rfl) (by kernel_rfl) (fun | 1 => fun v _ => IsW 10 v | 2 => fun v _ => ∃ s, v = .tuple #[s, .int .i64 (fitE (a * 10))] ∧ IsW (fitV (a * 10)) s | _ => fun _ _ => True) (fun _ _ => ?_))
  refine s_load rfl rfl rfl rfl rfl rfl rfl ?_
  refine s_alloc rfl rfl rfl rfl rfl (fun bk3 w3 kb3 lw3 => ?_)
  refine s_callD rfl rfl rfl (by kernel_rfl) rfl (fun wc lc => c_wof 10 (by decide) (by decide) wc) ?_
  rintro v w4 u4 ⟨th, tl, rfl, ht⟩ lw4 mw4
  refine s_callD rfl rfl rfl (by kernel_rfl) rfl (fun wc lc => c_wmul ⟨_, _, rfl, hn⟩ ⟨_, _, rfl, ht⟩ wc) ?_
  rintro v w5 u5 ⟨s, rfl, mh, ml, rfl, hm⟩ lw5 mw5
  refine s_move rfl rfl rfl rfl ?_
  refine s_extract rfl rfl rfl rfl rfl ?_
  refine s_extract rfl rfl rfl rfl rfl ?_
  refine s_store rfl rfl rfl rfl rfl rfl rfl (fun w6 sw6 vw6 => ?_)
  refine s_assign rfl rfl rfl rfl ?_
  refine vOrd_nil ?_
  refine Wp.seq ?_
  refine Wp.seq ?_
  refine Wp.region [0, 1] (by kernel_rfl) (by kernel_rfl) ?_
  refine s_move rfl rfl rfl rfl ?_
  refine p_neq rfl rfl rfl rfl rfl (fun h15 => ?_) (fun h15 => ?_)
  · refine vOrd_nil ?_
    refine Wp.condT rfl rfl ?_
    refine Wp.seq ?_
    refine Wp.region [0, 1, 2, 3] (by kernel_rfl) (by kernel_rfl) ?_
    refine s_build rfl rfl rfl rfl rfl (by kernel_rfl) ?_
    refine s_move rfl rfl rfl rfl ?_
    refine s_store rfl rfl rfl rfl rfl rfl rfl (fun w7 sw7 vw7 => ?_)
    refine s_assign rfl rfl rfl rfl ?_
    refine vOrd_nil ?_
    refine Wp.ret ⟨.inr rfl, fun lW => ⟨_, ⟨_, _, res_cell rfl rfl rfl rfl, res_tmp (P := Tryd.prog) rfl rfl, rfl⟩, _, rfl, ?_, lW⟩⟩
    clear lW
    have ho := fitE_over h15
    have hN := inW_no (z := a * 10 + d) (by omega)
    rw [hN.2.1, hN.2.2]
    exact ⟨_, by rw [fitE_two h15], _, _, rfl, wide_0⟩
  · have hin := fitE_zero h15
    rw [hin.2] at hm
    refine vOrd_nil ?_
    refine Wp.condF rfl rfl ?_
    refine Wp.skip ?_
    refine Wp.seq ?_
    refine (Wp.drawn (by kernel_rfl) (by kernel_rfl) [0, 1, 2, 3, 4, 5, 6, 7] [6, 0, 0, 0, 47, 0, 0, 0] (by kernel_rfl) (by kernel_rfl) (fun | 2 => fun v _ => IsW d v | 3 => fun v _ => ∃ s, v = .tuple #[s, .int .i64 (fitE (a * 10 + d))] ∧ IsW (fitV (a * 10 + d)) s | _ => fun _ _ => True) (fun _ _ => ?_))
    refine s_load rfl rfl rfl rfl rfl rfl rfl ?_
    refine s_move rfl rfl rfl rfl ?_
    refine s_callD rfl rfl rfl (by kernel_rfl) rfl (fun wc lc => c_wof d (by omega) (by omega) wc) ?_
    rintro v w8 u8 ⟨dh, dl, rfl, hd⟩ lw8 mw8
    refine s_callD rfl rfl rfl (by kernel_rfl) rfl (fun wc lc => c_wadd ⟨_, _, rfl, hm⟩ ⟨_, _, rfl, hd⟩ wc) ?_
    rintro v w9 u9 ⟨s, rfl, rh, rl, rfl, hr⟩ lw9 mw9
    refine s_extract rfl rfl rfl rfl rfl ?_
    refine s_extract rfl rfl rfl rfl rfl ?_
    refine s_store rfl rfl rfl rfl rfl rfl rfl (fun w10 sw10 vw10 => ?_)
    refine s_assign rfl rfl rfl rfl ?_
    refine vOrd_nil ?_
    refine Wp.ret ⟨.inr rfl, fun lW => ⟨_, ⟨_, _, res_cell rfl rfl rfl rfl, res_tmp (P := Tryd.prog) rfl rfl, rfl⟩, _, rfl, ?_, lW⟩⟩
    clear lW
    exact ⟨_, rfl, _, _, rfl, hr⟩
theorem numD_prefix {l : List UInt8} (hd : l.all isDig = true) (i : Nat) : numD (l.take i) 0 ≤ numD l 0 := by
  have e := numD_append (l.take i) (l.drop i) 0
  rw [List.take_append_drop] at e
  rw [e]
  exact numD_up _ _ (List.all_eq_true.2 (fun b hb => List.all_eq_true.1 hd b (List.mem_of_mem_drop hb))) (numD_up _ 0 (all_take_of hd i) (by omega))
theorem number_any (l : List UInt8) (m : Bool) (hd : l.all isDig = true) (hl : l.length ≤ 4611686018427387904) (w : World) :
    Calls Tryd.prog 19 #[.string ⟨⟨l⟩⟩, .bool m] w fun e w' => ∃ r, e = .returned r ∧ (∃ s, r = .tuple #[s, .int .i64 (fitE (sgnI m (numD l 0)))] ∧ IsW (fitV (sgnI m (numD l 0))) s) ∧ Below w.heap.size w w' := by
  have hn0 := numD_up l 0 hd (by omega)
  cases m with
  | false =>
    refine calls_Wp (args := [_, _]) (n := 33) Tryd.func19 rfl rfl (by simp) ?_
    refine Wp.seq ?_
    refine Wp.region [0, 1] (by kernel_rfl) (by kernel_rfl) ?_
    refine s_alloc rfl rfl rfl rfl rfl (fun bk1 w1 kb1 lw1 => ?_)
    refine s_assign rfl rfl rfl rfl ?_
    refine vOrd_nil ?_
    refine Wp.seq ?_
    refine Wp.seq ?_
    refine Wp.region [0, 1, 2] (by kernel_rfl) (by kernel_rfl) ?_
    refine s_move rfl rfl rfl rfl ?_
    refine b_len rfl rfl rfl rfl rfl ?_
    refine s_move rfl rfl rfl rfl ?_
    refine vOrd_nil ?_
    refine Wp.block ?_
    refine Wp.loop (fun k st _ => ∃ (i b4 : Nat) (h lo : Int), st = St.of [(0, .v (.string ⟨⟨l⟩⟩)), (1, .v (.bool false)), (4, .p 4 b4 0), (9, .v (.int .i64 l.length)), (10, .v (.int .i64 i))] [(4, b4, [.int .i64 h, .int .u64 lo])] ∧ i ≤ l.length ∧ WideIs h lo (sgnI false (numD (l.take i) 0)) ∧ k = l.length - i) ?_ ?_
    · exact ⟨_, _, (St.of_le' (env := [(0, .v _), (1, .v _), (4, .p 4 _ 0), (9, .v _), (10, .v _)]) (mem := [(4, _, [_, _])]) ⟨rfl, rfl, rfl, rfl, rfl, trivial⟩ ⟨rfl, trivial⟩), 0, _, _, _, rfl, by omega, wide_0, rfl⟩
    · rintro k st w2 ⟨i, b4, h, lo, rfl, hi, hw, rfl⟩
      refine Wp.seq ?_
      refine Wp.region [0] (by kernel_rfl) (by kernel_rfl) ?_
      refine p_lss rfl rfl rfl rfl rfl (fun h11 => ?_) (fun h11 => ?_)
      · refine vOrd_nil ?_
        refine Wp.seq ?_
        refine Wp.condT rfl rfl ?_
        refine Wp.skip ?_
        refine Wp.seq ?_
        refine Wp.block ?_
        refine Wp.seq ?_
        refine Wp.region [0, 1] (by kernel_rfl) (by kernel_rfl) ?_
        refine s_move rfl rfl rfl rfl ?_
        refine s_assign rfl rfl rfl rfl ?_
        refine vOrd_nil ?_
        refine Wp.seq ?_
        obtain ⟨b, hb⟩ := get_some (l := l) (i := i) (by omega)
        have hbd := isDig_iff.1 (all_get hd hb)
        have hp0 := numD_up (l.take i) 0 (all_take_of hd i) (by omega)
        have hZ : sgnI false (numD (l.take (i + 1)) 0) = sgnI false (numD (l.take i) 0) * 10 + (b.toNat - 48) := by rw [take_succ_get hb, numD_snoc]; rfl
        have hp1 := numD_up (l.take (i + 1)) 0 (all_take_of hd _) (by omega)
        have hle := numD_prefix hd (i + 1)
        refine Wp.region [0, 1, 2, 3, 4, 5] (by kernel_rfl) (by kernel_rfl) ?_
        refine s_move rfl rfl rfl rfl ?_
        refine s_move rfl rfl rfl rfl ?_
        refine b_byte rfl rfl rfl rfl rfl rfl (by omega) (hb) ?_
        refine a_sub (0) 255 (by decide) rfl rfl rfl rfl rfl (by omega) (by omega) ?_
        refine a_conv (-9223372036854775808) 9223372036854775807 (by decide) rfl rfl rfl rfl rfl rfl (by omega) (by omega) ?_
        refine s_assign rfl rfl rfl rfl ?_
        refine vOrd_nil ?_
        refine Wp.seq ?_
        refine Wp.seq ?_
        refine Wp.region [0] (by kernel_rfl) (by kernel_rfl) ?_
        refine s_move rfl rfl rfl rfl ?_
        refine vOrd_nil ?_
        refine Wp.condF rfl rfl ?_
        refine Wp.skip ?_
        refine Wp.seq ?_
        refine Wp.region [0, 1, 2, 3, 4, 5, 6, 7] (by kernel_rfl) (by kernel_rfl) ?_
        refine s_load rfl rfl rfl rfl rfl rfl rfl ?_
        refine s_move rfl rfl rfl rfl ?_
        refine s_callT rfl rfl rfl (by kernel_rfl) rfl (tenfold_any hw (.inl ⟨by simp only [sgnI, cond_false]; omega, by omega⟩) (by omega) (by omega) _) ?_
        rintro v w3 ⟨s, rfl, rh, rl, rfl, hr⟩ lw3
        refine s_move rfl rfl rfl rfl ?_
        refine s_extract rfl rfl rfl rfl rfl ?_
        refine s_extract rfl rfl rfl rfl rfl ?_
        refine s_store rfl rfl rfl rfl rfl rfl rfl (fun w4 sw4 vw4 => ?_)
        refine s_assign rfl rfl rfl rfl ?_
        refine vOrd_nil ?_
        refine Wp.seq ?_
        refine Wp.region [0, 1] (by kernel_rfl) (by kernel_rfl) ?_
        refine s_move rfl rfl rfl rfl ?_
        refine p_neq rfl rfl rfl rfl rfl (fun h28 => ?_) (fun h28 => ?_)
        · refine vOrd_nil ?_
          refine Wp.condT rfl rfl ?_
          refine Wp.seq ?_
          refine Wp.region [0, 1, 2, 3] (by kernel_rfl) (by kernel_rfl) ?_
          refine s_build rfl rfl rfl rfl rfl (by kernel_rfl) ?_
          refine s_move rfl rfl rfl rfl ?_
          refine s_store rfl rfl rfl rfl rfl rfl rfl (fun w5 sw5 vw5 => ?_)
          refine s_assign rfl rfl rfl rfl ?_
          refine vOrd_nil ?_
          refine Wp.ret ⟨.inr rfl, fun lW => ⟨_, ⟨_, _, res_cell rfl rfl rfl rfl, res_tmp (P := Tryd.prog) rfl rfl, rfl⟩, _, rfl, ?_, lW⟩⟩
          clear lW
          have ho := fitE_over h28
          rw [← hZ] at ho
          have hN := inW_no (z := sgnI false (numD l 0)) (by simp only [sgnI, cond_false] at ho ⊢; omega)
          rw [hN.2.1, hN.2.2]
          exact ⟨_, by rw [fitE_two h28], _, _, rfl, wide_0⟩
        · refine vOrd_nil ?_
          refine Wp.condF rfl rfl ?_
          refine Wp.skip ?_
          refine Wp.region [0, 1] (by kernel_rfl) (by kernel_rfl) ?_
          refine a_add (-9223372036854775808) 9223372036854775807 (by decide) rfl rfl rfl rfl rfl (by omega) (by omega) ?_
          refine s_move rfl rfl rfl rfl ?_
          refine vOrd_nil ?_
          have hin := fitE_zero h28
          rw [hin.2] at hr
          exact ⟨_, _, by omega, (St.of_le' (env := [(0, .v _), (1, .v _), (4, .p 4 _ 0), (9, .v _), (10, .v _)]) (mem := [(4, _, [_, _])]) ⟨rfl, rfl, rfl, rfl, rfl, trivial⟩ ⟨rfl, trivial⟩), i + 1, _, _, _, rfl, by omega, hr.eq (by rw [hZ]), rfl⟩
      · refine vOrd_nil ?_
        refine Wp.seq ?_
        refine Wp.condF rfl rfl ?_
        refine Wp.exit ?_
        refine Wp.seq ?_
        refine Wp.region [0, 1, 2] (by kernel_rfl) (by kernel_rfl) ?_
        refine s_load rfl rfl rfl rfl rfl rfl rfl ?_
        refine s_store rfl rfl rfl rfl rfl rfl rfl (fun w6 sw6 vw6 => ?_)
        refine s_assign rfl rfl rfl rfl ?_
        refine vOrd_nil ?_
        refine Wp.ret ⟨.inr rfl, fun lW => ⟨_, ⟨_, _, res_cell rfl rfl rfl rfl, res_tmp (P := Tryd.prog) rfl rfl, rfl⟩, _, rfl, ?_, lW⟩⟩
        clear lW
        rw [show i = l.length by omega, List.take_length] at hw
        have hN := inW_yes (z := sgnI false (numD l 0)) hw.range.1 hw.range.2
        rw [hN.2.1, hN.2.2]
        exact ⟨_, rfl, _, _, rfl, hw⟩
  | true =>
    refine calls_Wp (args := [_, _]) (n := 33) Tryd.func19 rfl rfl (by simp) ?_
    refine Wp.seq ?_
    refine Wp.region [0, 1] (by kernel_rfl) (by kernel_rfl) ?_
    refine s_alloc rfl rfl rfl rfl rfl (fun bk1 w1 kb1 lw1 => ?_)
    refine s_assign rfl rfl rfl rfl ?_
    refine vOrd_nil ?_
    refine Wp.seq ?_
    refine Wp.seq ?_
    refine Wp.region [0, 1, 2] (by kernel_rfl) (by kernel_rfl) ?_
    refine s_move rfl rfl rfl rfl ?_
    refine b_len rfl rfl rfl rfl rfl ?_
    refine s_move rfl rfl rfl rfl ?_
    refine vOrd_nil ?_
    refine Wp.block ?_
    refine Wp.loop (fun k st _ => ∃ (i b4 : Nat) (h lo : Int), st = St.of [(0, .v (.string ⟨⟨l⟩⟩)), (1, .v (.bool true)), (4, .p 4 b4 0), (9, .v (.int .i64 l.length)), (10, .v (.int .i64 i))] [(4, b4, [.int .i64 h, .int .u64 lo])] ∧ i ≤ l.length ∧ WideIs h lo (sgnI true (numD (l.take i) 0)) ∧ k = l.length - i) ?_ ?_
    · exact ⟨_, _, (St.of_le' (env := [(0, .v _), (1, .v _), (4, .p 4 _ 0), (9, .v _), (10, .v _)]) (mem := [(4, _, [_, _])]) ⟨rfl, rfl, rfl, rfl, rfl, trivial⟩ ⟨rfl, trivial⟩), 0, _, _, _, rfl, by omega, wide_0, rfl⟩
    · rintro k st w2 ⟨i, b4, h, lo, rfl, hi, hw, rfl⟩
      refine Wp.seq ?_
      refine Wp.region [0] (by kernel_rfl) (by kernel_rfl) ?_
      refine p_lss rfl rfl rfl rfl rfl (fun h11 => ?_) (fun h11 => ?_)
      · refine vOrd_nil ?_
        refine Wp.seq ?_
        refine Wp.condT rfl rfl ?_
        refine Wp.skip ?_
        refine Wp.seq ?_
        refine Wp.block ?_
        refine Wp.seq ?_
        refine Wp.region [0, 1] (by kernel_rfl) (by kernel_rfl) ?_
        refine s_move rfl rfl rfl rfl ?_
        refine s_assign rfl rfl rfl rfl ?_
        refine vOrd_nil ?_
        refine Wp.seq ?_
        obtain ⟨b, hb⟩ := get_some (l := l) (i := i) (by omega)
        have hbd := isDig_iff.1 (all_get hd hb)
        have hp0 := numD_up (l.take i) 0 (all_take_of hd i) (by omega)
        have hZ : sgnI true (numD (l.take (i + 1)) 0) = sgnI true (numD (l.take i) 0) * 10 + -(b.toNat - 48) := by rw [take_succ_get hb, numD_snoc]; simp only [sgnI, cond_true]; omega
        have hp1 := numD_up (l.take (i + 1)) 0 (all_take_of hd _) (by omega)
        have hle := numD_prefix hd (i + 1)
        refine Wp.region [0, 1, 2, 3, 4, 5] (by kernel_rfl) (by kernel_rfl) ?_
        refine s_move rfl rfl rfl rfl ?_
        refine s_move rfl rfl rfl rfl ?_
        refine b_byte rfl rfl rfl rfl rfl rfl (by omega) (hb) ?_
        refine a_sub (0) 255 (by decide) rfl rfl rfl rfl rfl (by omega) (by omega) ?_
        refine a_conv (-9223372036854775808) 9223372036854775807 (by decide) rfl rfl rfl rfl rfl rfl (by omega) (by omega) ?_
        refine s_assign rfl rfl rfl rfl ?_
        refine vOrd_nil ?_
        refine Wp.seq ?_
        refine Wp.seq ?_
        refine Wp.region [0] (by kernel_rfl) (by kernel_rfl) ?_
        refine s_move rfl rfl rfl rfl ?_
        refine vOrd_nil ?_
        refine Wp.condT rfl rfl ?_
        refine Wp.region [0, 1, 2] (by kernel_rfl) (by kernel_rfl) ?_
        refine s_move rfl rfl rfl rfl ?_
        refine a_neg (-9223372036854775808) 9223372036854775807 (by decide) rfl rfl rfl rfl (by omega) (by omega) ?_
        refine s_assign rfl rfl rfl rfl ?_
        refine vOrd_nil ?_
        refine Wp.seq ?_
        refine Wp.region [0, 1, 2, 3, 4, 5, 6, 7] (by kernel_rfl) (by kernel_rfl) ?_
        refine s_load rfl rfl rfl rfl rfl rfl rfl ?_
        refine s_move rfl rfl rfl rfl ?_
        refine s_callT rfl rfl rfl (by kernel_rfl) rfl (tenfold_any hw (.inr ⟨by simp only [sgnI, cond_true]; omega, by omega⟩) (by omega) (by omega) _) ?_
        rintro v w3 ⟨s, rfl, rh, rl, rfl, hr⟩ lw3
        refine s_move rfl rfl rfl rfl ?_
        refine s_extract rfl rfl rfl rfl rfl ?_
        refine s_extract rfl rfl rfl rfl rfl ?_
        refine s_store rfl rfl rfl rfl rfl rfl rfl (fun w4 sw4 vw4 => ?_)
        refine s_assign rfl rfl rfl rfl ?_
        refine vOrd_nil ?_
        refine Wp.seq ?_
        refine Wp.region [0, 1] (by kernel_rfl) (by kernel_rfl) ?_
        refine s_move rfl rfl rfl rfl ?_
        refine p_neq rfl rfl rfl rfl rfl (fun h28 => ?_) (fun h28 => ?_)
        · refine vOrd_nil ?_
          refine Wp.condT rfl rfl ?_
          refine Wp.seq ?_
          refine Wp.region [0, 1, 2, 3] (by kernel_rfl) (by kernel_rfl) ?_
          refine s_build rfl rfl rfl rfl rfl (by kernel_rfl) ?_
          refine s_move rfl rfl rfl rfl ?_
          refine s_store rfl rfl rfl rfl rfl rfl rfl (fun w5 sw5 vw5 => ?_)
          refine s_assign rfl rfl rfl rfl ?_
          refine vOrd_nil ?_
          refine Wp.ret ⟨.inr rfl, fun lW => ⟨_, ⟨_, _, res_cell rfl rfl rfl rfl, res_tmp (P := Tryd.prog) rfl rfl, rfl⟩, _, rfl, ?_, lW⟩⟩
          clear lW
          have ho := fitE_over h28
          rw [← hZ] at ho
          have hN := inW_no (z := sgnI true (numD l 0)) (by simp only [sgnI, cond_true] at ho ⊢; omega)
          rw [hN.2.1, hN.2.2]
          exact ⟨_, by rw [fitE_two h28], _, _, rfl, wide_0⟩
        · refine vOrd_nil ?_
          refine Wp.condF rfl rfl ?_
          refine Wp.skip ?_
          refine Wp.region [0, 1] (by kernel_rfl) (by kernel_rfl) ?_
          refine a_add (-9223372036854775808) 9223372036854775807 (by decide) rfl rfl rfl rfl rfl (by omega) (by omega) ?_
          refine s_move rfl rfl rfl rfl ?_
          refine vOrd_nil ?_
          have hin := fitE_zero h28
          rw [hin.2] at hr
          exact ⟨_, _, by omega, (St.of_le' (env := [(0, .v _), (1, .v _), (4, .p 4 _ 0), (9, .v _), (10, .v _)]) (mem := [(4, _, [_, _])]) ⟨rfl, rfl, rfl, rfl, rfl, trivial⟩ ⟨rfl, trivial⟩), i + 1, _, _, _, rfl, by omega, hr.eq (by rw [hZ]), rfl⟩
      · refine vOrd_nil ?_
        refine Wp.seq ?_
        refine Wp.condF rfl rfl ?_
        refine Wp.exit ?_
        refine Wp.seq ?_
        refine Wp.region [0, 1, 2] (by kernel_rfl) (by kernel_rfl) ?_
        refine s_load rfl rfl rfl rfl rfl rfl rfl ?_
        refine s_store rfl rfl rfl rfl rfl rfl rfl (fun w6 sw6 vw6 => ?_)
        refine s_assign rfl rfl rfl rfl ?_
        refine vOrd_nil ?_
        refine Wp.ret ⟨.inr rfl, fun lW => ⟨_, ⟨_, _, res_cell rfl rfl rfl rfl, res_tmp (P := Tryd.prog) rfl rfl, rfl⟩, _, rfl, ?_, lW⟩⟩
        clear lW
        rw [show i = l.length by omega, List.take_length] at hw
        have hN := inW_yes (z := sgnI true (numD l 0)) hw.range.1 hw.range.2
        rw [hN.2.1, hN.2.2]
        exact ⟨_, rfl, _, _, rfl, hw⟩
theorem cut45 (l : List UInt8) (w : World) :
    Calls Tryd.prog 17 #[.string ⟨⟨l⟩⟩, .string ⟨⟨[45]⟩⟩] w fun e w' => ∃ r, e = .returned r ∧ r = .tuple #[.string ⟨⟨bodyL l⟩⟩, .bool (minusL l)] ∧ Below w.heap.size w w' := by
  refine (cutPrefix_any l [45] w).mono ?_
  rintro e w' ⟨r, rfl, rfl, hb⟩
  have hh : l.take [(45 : UInt8)].length = [45] ↔ l.head? = some 45 := by cases l <;> simp
  refine ⟨_, rfl, ?_, hb⟩
  unfold bodyL minusL
  by_cases c : l.head? = some 45
  · rw [if_pos (hh.2 c), if_pos c, decide_eq_true (hh.2 c), decide_eq_true c]; rfl
  · rw [if_neg (fun q => c (hh.1 q)), if_neg c, decide_eq_false (fun q => c (hh.1 q)), decide_eq_false c]
def parseE (l : List UInt8) : Int := if isNum l = true then fitE (numOf l) else 4
def parseV (l : List UInt8) : Int := if isNum l = true then fitV (numOf l) else 0
theorem bodyL_len (l : List UInt8) : (bodyL l).length ≤ l.length := by unfold bodyL; split <;> simp
theorem parse_any (l : List UInt8) (hl : l.length ≤ 4611686018427387904) (w : World) :
    Calls Tryd.prog 7 #[.string ⟨⟨l⟩⟩] w fun e w' => ∃ r, e = .returned r ∧ (∃ s, r = .tuple #[s, .int .i64 (parseE l)] ∧ IsW (parseV l) s) ∧ Below w.heap.size w w' := by
  have hlb := bodyL_len l
  cases hA : ((bodyL l).all isDig && !(bodyL l).isEmpty) with
  | false =>
    have hN : isNum l = false := by unfold isNum; rw [hA]; rfl
    refine calls_Wp (args := [_]) (n := 29) Tryd.func7 rfl rfl (by simp) ?_
    refine Wp.seq ?_
    refine Wp.region [0, 1] (by kernel_rfl) (by kernel_rfl) ?_
    refine s_alloc rfl rfl rfl rfl rfl (fun bk1 w1 kb1 lw1 => ?_)
    refine s_assign rfl rfl rfl rfl ?_
    refine vOrd_nil ?_
    refine Wp.seq ?_
    refine Wp.region [0, 1, 2, 3, 4, 5, 6] (by kernel_rfl) (by kernel_rfl) ?_
    refine s_move rfl rfl rfl rfl ?_
    refine s_callT rfl rfl rfl (by kernel_rfl) rfl (cut45 l _) ?_
    rintro v w2 rfl lw2
    refine s_move rfl rfl rfl rfl ?_
    refine s_extract rfl rfl rfl rfl rfl ?_
    refine s_extract rfl rfl rfl rfl rfl ?_
    refine s_assign rfl rfl rfl rfl ?_
    refine s_assign rfl rfl rfl rfl ?_
    refine vOrd_nil ?_
    refine Wp.seq ?_
    refine Wp.seq ?_
    refine Wp.region [0, 1, 2, 3, 4, 5, 6, 7, 8, 9, 10, 11] (by kernel_rfl) (by kernel_rfl) ?_
    refine s_move rfl rfl rfl rfl ?_
    refine s_callT rfl rfl rfl (by kernel_rfl) rfl (areDigits_any (bodyL l) (by omega) _) ?_
    rintro v w3 rfl lw3
    rw [hA]
    refine s_not rfl rfl rfl rfl ?_
    refine s_move rfl rfl rfl rfl ?_
    refine s_skip rfl rfl rfl ?_
    refine s_skip rfl rfl rfl ?_
    refine s_skip rfl rfl rfl ?_
    refine s_skip rfl rfl rfl ?_
    refine s_skip rfl rfl rfl ?_
    refine s_skip rfl rfl rfl ?_
    refine s_skip rfl rfl rfl ?_
    refine s_pick rfl rfl rfl rfl rfl ?_
    refine vOrd_nil ?_
    refine Wp.condT rfl rfl ?_
    refine Wp.seq ?_
    refine Wp.region [0, 1, 2] (by kernel_rfl) (by kernel_rfl) ?_
    refine s_build rfl rfl rfl rfl rfl (by kernel_rfl) ?_
    refine s_store rfl rfl rfl rfl rfl rfl rfl (fun w4 sw4 vw4 => ?_)
    refine s_assign rfl rfl rfl rfl ?_
    refine vOrd_nil ?_
    refine Wp.ret ⟨.inr rfl, fun lW => ⟨_, ⟨_, _, res_cell rfl rfl rfl rfl, res_tmp (P := Tryd.prog) rfl rfl, rfl⟩, _, rfl, ?_, lW⟩⟩
    clear lW
    unfold parseE parseV; rw [if_neg (by rw [hN]; simp), if_neg (by rw [hN]; simp)]
    exact ⟨_, rfl, _, _, rfl, wide_0⟩
  | true =>
    have hA2 := hA
    simp only [Bool.and_eq_true, Bool.not_eq_true', List.isEmpty_eq_false_iff] at hA2
    obtain ⟨hd, hne⟩ := hA2
    obtain ⟨b, r, hbr⟩ := List.exists_cons_of_ne_nil hne
    have hb : (bodyL l)[0]? = some b := by rw [hbr]; rfl
    have hhd : (bodyL l).head? = some b := by rw [hbr]; rfl
    refine calls_Wp (args := [_]) (n := 29) Tryd.func7 rfl rfl (by simp) ?_
    refine Wp.seq ?_
    refine Wp.region [0, 1] (by kernel_rfl) (by kernel_rfl) ?_
    refine s_alloc rfl rfl rfl rfl rfl (fun bk1 w1 kb1 lw1 => ?_)
    refine s_assign rfl rfl rfl rfl ?_
    refine vOrd_nil ?_
    refine Wp.seq ?_
    refine Wp.region [0, 1, 2, 3, 4, 5, 6] (by kernel_rfl) (by kernel_rfl) ?_
    refine s_move rfl rfl rfl rfl ?_
    refine s_callT rfl rfl rfl (by kernel_rfl) rfl (cut45 l _) ?_
    rintro v w2 rfl lw2
    refine s_move rfl rfl rfl rfl ?_
    refine s_extract rfl rfl rfl rfl rfl ?_
    refine s_extract rfl rfl rfl rfl rfl ?_
    refine s_assign rfl rfl rfl rfl ?_
    refine s_assign rfl rfl rfl rfl ?_
    refine vOrd_nil ?_
    refine Wp.seq ?_
    refine Wp.seq ?_
    refine Wp.region [0, 1, 2, 3, 4, 5, 6, 7, 8, 9, 10, 11] (by kernel_rfl) (by kernel_rfl) ?_
    refine s_move rfl rfl rfl rfl ?_
    refine s_callT rfl rfl rfl (by kernel_rfl) rfl (areDigits_any (bodyL l) (by omega) _) ?_
    rintro v w3 rfl lw3
    rw [hA]
    refine s_not rfl rfl rfl rfl ?_
    refine s_move rfl rfl rfl rfl ?_
    refine s_move rfl rfl rfl rfl ?_
    refine b_byte rfl rfl rfl rfl rfl rfl (by omega) (hb) ?_
    refine p_eql rfl rfl rfl rfl rfl (fun h17 => ?_) (fun h17 => ?_)
    · have hb48 : b = 48 := UInt8.toNat_inj.1 (by have : (48 : UInt8).toNat = 48 := rfl; omega)
      refine s_move rfl rfl rfl rfl ?_
      refine s_move rfl rfl rfl rfl ?_
      refine b_ne rfl rfl rfl rfl rfl (fun h20 => ?_) (fun h20 => ?_)
      · refine s_pick rfl rfl rfl rfl rfl ?_
        refine s_pick rfl rfl rfl rfl rfl ?_
        refine vOrd_nil ?_
        refine Wp.condT rfl rfl ?_
        refine Wp.seq ?_
        refine Wp.region [0, 1, 2] (by kernel_rfl) (by kernel_rfl) ?_
        refine s_build rfl rfl rfl rfl rfl (by kernel_rfl) ?_
        refine s_store rfl rfl rfl rfl rfl rfl rfl (fun w4 sw4 vw4 => ?_)
        refine s_assign rfl rfl rfl rfl ?_
        refine vOrd_nil ?_
        refine Wp.ret ⟨.inr rfl, fun lW => ⟨_, ⟨_, _, res_cell rfl rfl rfl rfl, res_tmp (P := Tryd.prog) rfl rfl, rfl⟩, _, rfl, ?_, lW⟩⟩
        clear lW
        have hN : isNum l = false := by unfold isNum; rw [hA, hhd]; simp [h20, hb48]
        unfold parseE parseV; rw [if_neg (by rw [hN]; simp), if_neg (by rw [hN]; simp)]
        exact ⟨_, rfl, _, _, rfl, wide_0⟩
      · refine s_pick rfl rfl rfl rfl rfl ?_
        refine s_pick rfl rfl rfl rfl rfl ?_
        refine vOrd_nil ?_
        refine Wp.condF rfl rfl ?_
        refine Wp.skip ?_
        refine Wp.seq ?_
        refine Wp.region [0, 1, 2, 3, 4, 5, 6] (by kernel_rfl) (by kernel_rfl) ?_
        refine s_move rfl rfl rfl rfl ?_
        refine s_move rfl rfl rfl rfl ?_
        refine s_callT rfl rfl rfl (by kernel_rfl) rfl (number_any (bodyL l) (minusL l) hd (by omega) _) ?_
        rintro v w5 ⟨s, rfl, rh, rl, rfl, hr⟩ lw5
        refine s_extract rfl rfl rfl rfl rfl ?_
        refine s_extract rfl rfl rfl rfl rfl ?_
        refine s_store rfl rfl rfl rfl rfl rfl rfl (fun w6 sw6 vw6 => ?_)
        refine s_assign rfl rfl rfl rfl ?_
        refine vOrd_nil ?_
        refine Wp.ret ⟨.inr rfl, fun lW => ⟨_, ⟨_, _, res_cell rfl rfl rfl rfl, res_tmp (P := Tryd.prog) rfl rfl, rfl⟩, _, rfl, ?_, lW⟩⟩
        clear lW
        have hN : isNum l = true := by unfold isNum; rw [hA, hhd]; simp [h20]
        unfold parseE parseV; rw [if_pos hN, if_pos hN]
        exact ⟨_, rfl, _, _, rfl, hr⟩
    · have hb48 : b ≠ 48 := fun e => h17 (by subst e; rfl)
      refine s_move rfl rfl rfl rfl ?_
      refine s_skip rfl rfl rfl ?_
      refine s_skip rfl rfl rfl ?_
      refine s_pick rfl rfl rfl rfl rfl ?_
      refine s_pick rfl rfl rfl rfl rfl ?_
      refine vOrd_nil ?_
      refine Wp.condF rfl rfl ?_
      refine Wp.skip ?_
      refine Wp.seq ?_
      refine Wp.region [0, 1, 2, 3, 4, 5, 6] (by kernel_rfl) (by kernel_rfl) ?_
      refine s_move rfl rfl rfl rfl ?_
      refine s_move rfl rfl rfl rfl ?_
      refine s_callT rfl rfl rfl (by kernel_rfl) rfl (number_any (bodyL l) (minusL l) hd (by omega) _) ?_
      rintro v w7 ⟨s, rfl, rh, rl, rfl, hr⟩ lw7
      refine s_extract rfl rfl rfl rfl rfl ?_
      refine s_extract rfl rfl rfl rfl rfl ?_
      refine s_store rfl rfl rfl rfl rfl rfl rfl (fun w8 sw8 vw8 => ?_)
      refine s_assign rfl rfl rfl rfl ?_
      refine vOrd_nil ?_
      refine Wp.ret ⟨.inr rfl, fun lW => ⟨_, ⟨_, _, res_cell rfl rfl rfl rfl, res_tmp (P := Tryd.prog) rfl rfl, rfl⟩, _, rfl, ?_, lW⟩⟩
      clear lW
      have hN : isNum l = true := by unfold isNum; rw [hA, hhd]; simp [hb48]
      unfold parseE parseV; rw [if_pos hN, if_pos hN]
      exact ⟨_, rfl, _, _, rfl, hr⟩
end Go.Proofs.YtpglfepkbkfgoaaDoor
