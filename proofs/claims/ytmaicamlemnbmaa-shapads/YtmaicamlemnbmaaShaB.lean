/-
  The walks of the laws ShaSums, ShaPads (P9.1). Conditions: the bytes that are handed in are at most 140,737,488,351,232.
-/
import Derived.Test.YtmaicamlemnbmaaShaS
import Derived.Test.YtmaicamlemnbmaaShaE
namespace Go.Proofs.Ytmaicamlemnbmaa
open Go.RowKit
set_option maxRecDepth 100000

theorem sanswers_any (w : World) : Calls Try.prog 6 #[] w fun e w' => ∃ r, e = .returned r ∧ r = .bool true ∧ Below w.heap.size w w' := by
  have a1 : wAt (3661210606, 1584089869, 844480495, 2506102928, 2950170377) 0 = 3661210606 := rfl
  have a2 : wAt (3661210606, 1584089869, 844480495, 2506102928, 2950170377) 4 = 2950170377 := rfl
  have a3 : bt (2845392438, 1191608682, 3124634993, 2018558572, 2630932637) 0 = 169 := by decide
  have a4 : bt (2845392438, 1191608682, 3124634993, 2018558572, 2630932637) 19 = 157 := by decide
  refine calls_Wp (args := []) (n := 25) Try.func6 rfl rfl (by simp) ?_
  refine Wp.seq ?_
  refine Wp.region [0] (by kernel_rfl) (by kernel_rfl) ?_
  refine s_assign rfl rfl rfl rfl ?_
  refine vOrd_nil ?_
  refine Wp.seq ?_
  refine Wp.region [0, 1, 2] (by kernel_rfl) (by kernel_rfl) ?_
  refine s_callT rfl rfl rfl (by kernel_rfl) rfl (swords_any (l := []) (.inr ⟨rfl, rfl⟩) (by decide)) ?_
  rintro v w1 rfl lw1
  rw [nil_sum]
  refine s_alloc rfl rfl rfl rfl rfl (fun bk2 w2 kb2 lw2 => ?_)
  refine s_store rfl rfl rfl rfl rfl rfl rfl (fun w3 sw3 vw3 => ?_)
  refine vOrd_nil ?_
  refine Wp.seq ?_
  refine Wp.old (fun lo => ?_)
  have zo := lo.size
  refine Wp.var (h := 1) rfl (fun v1 => ?_)
  have z1 := v1.lt
  refine Wp.region [0, 1, 2, 3, 4] (by kernel_rfl) (by kernel_rfl) ?_
  refine s_bs (e := 5) (cs := [.int .u8 97, .int .u8 98, .int .u8 99]) rfl rfl rfl (fun _ => by kernel_rfl) ?_
  intro c1 w4 hc1 l4 hrow1
  refine x_bytesConst rfl rfl rfl rfl rfl rfl hrow1 (by omega) (by repeat (first | exact AllMem.args | exact AllMem.of (by simp only [AllL, and_true]; omega) | refine AllMem.put ?_ | refine AllMem.new ?_ (by omega) | refine AllMem.set ?_ (by omega))) ?_
  intro w5 hg5 hcell
  refine s_callT rfl rfl rfl (by kernel_rfl) rfl (ssum_any (l := [97, 98, 99]) (bytes_of_cells (l := [97, 98, 99]) (by decide) hcell) (by decide)) ?_
  rintro v w8 rfl lw8
  rw [abc_sum]
  refine s_alloc rfl rfl rfl rfl rfl (fun bk9 w9 kb9 lw9 => ?_)
  refine s_store rfl rfl rfl rfl rfl rfl rfl (fun w10 sw10 vw10 => ?_)
  refine vOrd_nil ?_
  refine Wp.seq ?_
  refine Wp.region [0, 1, 2, 3, 4, 5, 6, 7, 8, 9, 10, 11, 12, 13, 14, 15, 16, 17, 18] (by kernel_rfl) (by kernel_rfl) ?_
  refine s_idxO (sz := 1) 0 rfl rfl rfl rfl rfl rfl rfl (by decide) (by decide) rfl ?_
  refine s_load rfl rfl rfl rfl rfl rfl rfl ?_
  refine t_eql rfl rfl rfl rfl rfl (by exact a1) ?_
  refine s_move rfl rfl rfl rfl ?_
  refine s_idxO (sz := 1) 4 rfl rfl rfl rfl rfl rfl rfl (by decide) (by decide) rfl ?_
  refine s_load rfl rfl rfl rfl rfl rfl rfl ?_
  refine t_eql rfl rfl rfl rfl rfl (by exact a2) ?_
  refine s_pick rfl rfl rfl rfl rfl ?_
  refine s_move rfl rfl rfl rfl ?_
  refine s_idxO (sz := 1) 0 rfl rfl rfl rfl rfl rfl rfl (by decide) (by decide) rfl ?_
  refine s_load rfl rfl rfl rfl rfl rfl rfl ?_
  refine t_eql rfl rfl rfl rfl rfl (by exact a3) ?_
  refine s_pick rfl rfl rfl rfl rfl ?_
  refine s_move rfl rfl rfl rfl ?_
  refine s_idxO (sz := 1) 19 rfl rfl rfl rfl rfl rfl rfl (by decide) (by decide) rfl ?_
  refine s_load rfl rfl rfl rfl rfl rfl rfl ?_
  refine t_eql rfl rfl rfl rfl rfl (by exact a4) ?_
  refine s_pick rfl rfl rfl rfl rfl ?_
  refine s_assign rfl rfl rfl rfl ?_
  refine vOrd_nil ?_
  refine Wp.ret ⟨.inr rfl, fun lW => ⟨_, res_tmp (P := Try.prog) rfl rfl, _, rfl, ?_, lW⟩⟩
  clear lW
  rfl
theorem is_any {l : List UInt8} {u : Value} {w : World} (hu : BytesAt w u l) (hl : l.length ≤ 140737488351232) : Calls Try.prog 7 #[u] w fun e w' => ∃ r, e = .returned r ∧ r = .bool true ∧ Below w.heap.size w w' := by
  obtain ⟨ua, uc, rfl⟩ := hu.slice
  obtain ⟨s, hs⟩ : ∃ s, shaF l = s := ⟨_, rfl⟩
  have ok : ok5 s := by rw [← hs]; exact hAt_in _ _
  refine calls_Wp (args := [_]) (n := 62) Try.func7 rfl rfl (by simp) ?_
  refine Wp.seq ?_
  refine Wp.region [0] (by kernel_rfl) (by kernel_rfl) ?_
  refine s_assign rfl rfl rfl rfl ?_
  refine vOrd_nil ?_
  refine Wp.seq ?_
  refine Wp.region [0, 1, 2, 3] (by kernel_rfl) (by kernel_rfl) ?_
  refine s_move rfl rfl rfl rfl ?_
  refine s_callT rfl rfl rfl (by kernel_rfl) rfl (rwords_any hu hl) ?_
  rintro v w1 rfl lw1
  rw [hs, fiveV_eq]
  refine s_alloc rfl rfl rfl rfl rfl (fun b3 w3 kb3 lw3 => ?_)
  refine s_store rfl rfl rfl rfl rfl rfl rfl (fun w3 sw3 vw3 => ?_)
  refine vOrd_nil ?_
  refine Wp.seq ?_
  refine Wp.old (fun lo => ?_)
  have hu2 := hu.later lo
  refine Wp.region [0, 1, 2, 3, 4, 5, 6, 7] (by kernel_rfl) (by kernel_rfl) ?_
  refine s_move rfl rfl rfl rfl ?_
  refine s_callT rfl rfl rfl (by kernel_rfl) rfl (swords_any hu2 hl) ?_
  rintro v w4 rfl lw4
  rw [hs]
  have hu3 := hu2.later lw4
  refine s_move rfl rfl rfl rfl ?_
  refine s_callT rfl rfl rfl (by kernel_rfl) rfl (ssum_any hu3 hl) ?_
  rintro v w5 rfl lw5
  rw [hs]
  refine s_alloc rfl rfl rfl rfl rfl (fun b4 w4 kb4 lw4 => ?_)
  refine s_alloc rfl rfl rfl rfl rfl (fun b5 w5 kb5 lw5 => ?_)
  refine s_store rfl rfl rfl rfl rfl rfl rfl (fun w8 sw8 vw8 => ?_)
  refine s_store rfl rfl rfl rfl rfl rfl rfl (fun w9 sw9 vw9 => ?_)
  refine vOrd_nil ?_
  refine Wp.seq ?_
  refine Wp.seq ?_
  refine Wp.region [0] (by kernel_rfl) (by kernel_rfl) ?_
  refine s_assign rfl rfl rfl rfl ?_
  refine vOrd_nil ?_
  refine Wp.block ?_
  refine Wp.loop (fun k st W => ∃ (i : Nat) (ii : Int), st = St.of [(3, .p 3 b3 0), (4, .p 4 b4 0), (5, .p 5 b5 0), (6, .v (.int .i64 ii))] [(3, b3, fiveC s), (4, b4, wordsC s), (5, b5, sumC s)] ∧ ii = i ∧ i ≤ 5 ∧ k = 5 - i) ?_ ?_
  · exact ⟨_, _, (St.of_le' (env := [(3, .p 3 _ 0), (4, .p 4 _ 0), (5, .p 5 _ 0), (6, .v _)]) (mem := [(3, _, _), (4, _, _), (5, _, _)]) ⟨rfl, rfl, rfl, rfl, trivial⟩ ⟨rfl, rfl, rfl, trivial⟩), 0, _, rfl, rfl, by omega, rfl⟩
  · rintro k st w10 ⟨i, ii, rfl, hii, hi5, rfl⟩
    refine Wp.seq ?_
    refine Wp.seq ?_
    refine Wp.region [0, 1] (by kernel_rfl) (by kernel_rfl) ?_
    refine s_move rfl rfl rfl rfl ?_
    refine p_lss rfl rfl rfl rfl rfl (fun h15 => ?_) (fun h15 => ?_)
    · refine vOrd_nil ?_
      refine Wp.condT rfl rfl ?_
      refine Wp.skip ?_
      refine Wp.seq ?_
      refine Wp.block ?_
      refine Wp.seq ?_
      have b0 := bt_in s (4 * i)
      have b1 := bt_in s (4 * i + 1)
      have b2 := bt_in s (4 * i + 2)
      have b3 := bt_in s (4 * i + 3)
      have hw := wAt_in ok i
      unfold inW32 at hw
      have hj := bt_join ok i
      refine (Wp.drawn (by kernel_rfl) (by kernel_rfl) [0, 1, 2, 3, 4, 5, 6, 7, 8, 9, 10, 11, 12, 13, 14, 15, 16, 17, 18, 19, 20, 21, 22, 23, 24, 25, 26, 27, 28, 29] [266330048, 266330049, 266330051, 266330055, 266330063, 266330079, 266321983, 266322047, 266322175, 266322431, 266322943, 266323967, 266326015, 266330111, 264257535, 264273919, 264306687, 264372223, 264503295, 264765439, 265289727, 266338303, 0, 0, 0, 0, 0, 0, 0, 0] (by kernel_rfl) (by kernel_rfl) (fun _ _ _ => True) (fun _ _ => ?_))
      refine s_move rfl rfl rfl rfl ?_
      refine a_mul (-9223372036854775808) 9223372036854775807 (by decide) rfl rfl rfl rfl rfl (by omega) (by omega) ?_
      refine s_idxO (sz := 1) (0 + (4 * i) * 1) rfl rfl rfl rfl rfl rfl rfl (by omega) (by omega) (by omega) ?_
      refine s_loadS rfl rfl rfl rfl rfl (read_sum s (i := 4 * i) (by omega) (by omega) rfl) ?_
      refine a_conv (-9223372036854775808) 9223372036854775807 (by decide) rfl rfl rfl rfl rfl rfl (by omega) (by omega) ?_
      refine a_shl (16777216) (-9223372036854775808) 9223372036854775807 (by decide) rfl rfl rfl rfl rfl (by omega) (by decide) (by omega) (by omega) ?_
      refine s_move rfl rfl rfl rfl ?_
      refine a_mul (-9223372036854775808) 9223372036854775807 (by decide) rfl rfl rfl rfl rfl (by omega) (by omega) ?_
      refine a_add (-9223372036854775808) 9223372036854775807 (by decide) rfl rfl rfl rfl rfl (by omega) (by omega) ?_
      refine s_idxO (sz := 1) (0 + (4 * i + 1) * 1) rfl rfl rfl rfl rfl rfl rfl (by omega) (by omega) (by omega) ?_
      refine s_loadS rfl rfl rfl rfl rfl (read_sum s (i := 4 * i + 1) (by omega) (by omega) rfl) ?_
      refine a_conv (-9223372036854775808) 9223372036854775807 (by decide) rfl rfl rfl rfl rfl rfl (by omega) (by omega) ?_
      refine a_shl (65536) (-9223372036854775808) 9223372036854775807 (by decide) rfl rfl rfl rfl rfl (by omega) (by decide) (by omega) (by omega) ?_
      refine a_add (-9223372036854775808) 9223372036854775807 (by decide) rfl rfl rfl rfl rfl (by omega) (by omega) ?_
      refine s_move rfl rfl rfl rfl ?_
      refine a_mul (-9223372036854775808) 9223372036854775807 (by decide) rfl rfl rfl rfl rfl (by omega) (by omega) ?_
      refine a_add (-9223372036854775808) 9223372036854775807 (by decide) rfl rfl rfl rfl rfl (by omega) (by omega) ?_
      refine s_idxO (sz := 1) (0 + (4 * i + 2) * 1) rfl rfl rfl rfl rfl rfl rfl (by omega) (by omega) (by omega) ?_
      refine s_loadS rfl rfl rfl rfl rfl (read_sum s (i := 4 * i + 2) (by omega) (by omega) rfl) ?_
      refine a_conv (-9223372036854775808) 9223372036854775807 (by decide) rfl rfl rfl rfl rfl rfl (by omega) (by omega) ?_
      refine a_shl (256) (-9223372036854775808) 9223372036854775807 (by decide) rfl rfl rfl rfl rfl (by omega) (by decide) (by omega) (by omega) ?_
      refine a_add (-9223372036854775808) 9223372036854775807 (by decide) rfl rfl rfl rfl rfl (by omega) (by omega) ?_
      refine s_move rfl rfl rfl rfl ?_
      refine a_mul (-9223372036854775808) 9223372036854775807 (by decide) rfl rfl rfl rfl rfl (by omega) (by omega) ?_
      refine a_add (-9223372036854775808) 9223372036854775807 (by decide) rfl rfl rfl rfl rfl (by omega) (by omega) ?_
      refine s_idxO (sz := 1) (0 + (4 * i + 3) * 1) rfl rfl rfl rfl rfl rfl rfl (by omega) (by omega) (by omega) ?_
      refine s_loadS rfl rfl rfl rfl rfl (read_sum s (i := 4 * i + 3) (by omega) (by omega) rfl) ?_
      refine a_conv (-9223372036854775808) 9223372036854775807 (by decide) rfl rfl rfl rfl rfl rfl (by omega) (by omega) ?_
      refine a_add (-9223372036854775808) 9223372036854775807 (by decide) rfl rfl rfl rfl rfl (by omega) (by omega) ?_
      refine s_assign rfl rfl rfl rfl ?_
      refine vOrd_nil ?_
      refine Wp.seq ?_
      refine (Wp.drawn (by kernel_rfl) (by kernel_rfl) [0, 1, 2, 3, 4, 5, 6, 7, 8, 9, 10, 11, 12, 13, 14] [112, 113, 115, 119, 0, 0, 0, 0, 0, 7679, 0, 0, 0, 0, 0] (by kernel_rfl) (by kernel_rfl) (fun _ _ _ => True) (fun _ _ => ?_))
      refine s_move rfl rfl rfl rfl ?_
      refine s_idxO (sz := 1) (0 + (i) * 1) rfl rfl rfl rfl rfl rfl rfl (by omega) (by omega) (by omega) ?_
      refine s_loadS rfl rfl rfl rfl rfl (read_words s (i := i) (by omega) (by omega) rfl) ?_
      refine a_conv (-9223372036854775808) 9223372036854775807 (by decide) rfl rfl rfl rfl rfl rfl (by omega) (by omega) ?_
      refine s_move rfl rfl rfl rfl ?_
      refine s_idxO (sz := 1) (0 + (i) * 1) rfl rfl rfl rfl rfl rfl rfl (by omega) (by omega) (by omega) ?_
      refine s_loadS rfl rfl rfl rfl rfl (read_five s (i := i) (by omega) (by omega) rfl) ?_
      refine f_neq rfl rfl rfl rfl rfl (by omega) ?_
      refine s_move rfl rfl rfl rfl ?_
      refine s_move rfl rfl rfl rfl ?_
      refine s_move rfl rfl rfl rfl ?_
      refine s_idxO (sz := 1) (0 + (i) * 1) rfl rfl rfl rfl rfl rfl rfl (by omega) (by omega) (by omega) ?_
      refine s_loadS rfl rfl rfl rfl rfl (read_five s (i := i) (by omega) (by omega) rfl) ?_
      refine f_neq rfl rfl rfl rfl rfl (by omega) ?_
      refine s_pick rfl rfl rfl rfl rfl ?_
      refine vOrd_nil ?_
      refine Wp.condF rfl rfl ?_
      refine Wp.skip ?_
      refine Wp.region [0, 1, 2] (by kernel_rfl) (by kernel_rfl) ?_
      refine s_move rfl rfl rfl rfl ?_
      refine a_add (-9223372036854775808) 9223372036854775807 (by decide) rfl rfl rfl rfl rfl (by omega) (by omega) ?_
      refine s_assign rfl rfl rfl rfl ?_
      refine vOrd_nil ?_
      exact ⟨_, _, by omega, (St.of_le' (env := [(3, .p 3 _ 0), (4, .p 4 _ 0), (5, .p 5 _ 0), (6, .v _)]) (mem := [(3, _, _), (4, _, _), (5, _, _)]) ⟨rfl, rfl, rfl, rfl, trivial⟩ ⟨rfl, rfl, rfl, trivial⟩), i + 1, _, rfl, by omega, by omega, rfl⟩
    · refine vOrd_nil ?_
      refine Wp.condF rfl rfl ?_
      refine Wp.exit ?_
      refine Wp.seq ?_
      refine Wp.region [0] (by kernel_rfl) (by kernel_rfl) ?_
      refine s_assign rfl rfl rfl rfl ?_
      refine vOrd_nil ?_
      refine Wp.ret ⟨.inr rfl, fun lW => ⟨_, res_tmp (P := Try.prog) rfl rfl, _, rfl, ?_, lW⟩⟩
      clear lW
      rfl
theorem law_sums {l : List UInt8} {u : Value} {w : World} (hu : BytesAt w u l) (hl : l.length ≤ 140737488351232) : Calls Try.prog 3 #[u] w fun e w' => ∃ r, e = .returned r ∧ r = .bool true ∧ Below w.heap.size w w' := by
  refine calls_Wp (args := [_]) (n := 8) Try.func3 rfl rfl (by simp) ?_
  refine Wp.seq ?_
  refine Wp.region [0] (by kernel_rfl) (by kernel_rfl) ?_
  refine s_assign rfl rfl rfl rfl ?_
  refine vOrd_nil ?_
  refine Wp.seq ?_
  refine Wp.region [0, 1, 2, 3, 4, 5] (by kernel_rfl) (by kernel_rfl) ?_
  refine s_callT rfl rfl rfl (by kernel_rfl) rfl (sanswers_any _) ?_
  rintro v w1 rfl lw1
  refine s_move rfl rfl rfl rfl ?_
  refine s_move rfl rfl rfl rfl ?_
  refine s_callT rfl rfl rfl (by kernel_rfl) rfl (is_any (hu.later (by assumption)) hl) ?_
  rintro v w2 rfl lw2
  refine s_pick rfl rfl rfl rfl rfl ?_
  refine s_assign rfl rfl rfl rfl ?_
  refine vOrd_nil ?_
  refine Wp.ret ⟨.inr rfl, fun lW => ⟨_, res_tmp (P := Try.prog) rfl rfl, _, rfl, ?_, lW⟩⟩
  clear lW
  rfl
theorem wrap8_in (x : Int) : 0 ≤ IntKind.u8.wrap x ∧ IntKind.u8.wrap x < 256 := by rw [IntKind.wrap_u8']; omega
theorem law_pads {N : Nat} (hN : N < 256) (c p : Int) (w : World) : Calls Try.prog 4 #[.int .u8 (N : Int), .int .u8 c, .int .u8 p] w fun e w' => ∃ r, e = .returned r ∧ r = .bool true ∧ Below w.heap.size w w' := by
  refine calls_Wp (args := [_, _, _]) (n := 32) Try.func4 rfl rfl (by simp) ?_
  refine Wp.seq ?_
  refine Wp.region [0] (by kernel_rfl) (by kernel_rfl) ?_
  refine s_assign rfl rfl rfl rfl ?_
  refine vOrd_nil ?_
  refine Wp.seq ?_
  refine Wp.region [0, 1, 2, 3] (by kernel_rfl) (by kernel_rfl) ?_
  refine s_move rfl rfl rfl rfl ?_
  refine a_conv (-9223372036854775808) 9223372036854775807 (by decide) rfl rfl rfl rfl rfl rfl (by omega) (by omega) ?_
  refine s_make (k1 := .i64) (k2 := .i64) (n := N) (e := 5) rfl rfl rfl rfl rfl rfl rfl rfl (by show (1 : Int) * _ ≤ _; omega) (by omega) ?_
  intro cw ww hcw lww hroww
  have vw0 : Var ww cw (rowB N fun _ => 0) := by rw [← made_rowB N (.int .u8 0) rfl]; exact RowIs.var hroww
  refine s_assign rfl rfl rfl rfl ?_
  refine vOrd_nil ?_
  refine Wp.seq ?_
  refine Wp.seq ?_
  refine Wp.adopt 1007 vw0 (by omega) rfl (show AllMem (fun d => d ≠ cw) _ from (by repeat (first | exact AllMem.args | exact AllMem.of (by simp only [AllL, and_true]; omega) | refine AllMem.put ?_ | refine AllMem.new ?_ (by omega) | refine AllMem.set ?_ (by omega)))) ?_
  refine Wp.region [0] (by kernel_rfl) (by kernel_rfl) ?_
  refine s_assign rfl rfl rfl rfl ?_
  refine vOrd_nil ?_
  refine Wp.block ?_
  refine Wp.loop (fun k st W => ∃ (i : Nat) (ii : Int) (f : Nat → Int), st = St.of [(1, .v (.int .u8 c)), (2, .v (.int .u8 p)), (7, .v (.slice (some ⟨cw, 0, none⟩) N N)), (8, .v (.int .i64 ii))] [(1007, cw, rowB N f)] ∧ ii = i ∧ i ≤ N ∧ (∀ j, 0 ≤ f j ∧ f j < 256) ∧ k = N - i) ?_ ?_
  · exact ⟨_, _, (St.of_le' (env := [(1, .v _), (2, .v _), (7, .v _), (8, .v _)]) (mem := [(1007, _, _)]) ⟨rfl, rfl, rfl, rfl, trivial⟩ ⟨rfl, trivial⟩), 0, _, _, rfl, rfl, by omega, fun _ => ⟨by decide, by decide⟩, rfl⟩
  · rintro k st w4 ⟨i, ii, f, rfl, hii, hi1, hf, rfl⟩
    refine Wp.seq ?_
    refine Wp.seq ?_
    refine Wp.region [0, 1, 2, 3] (by kernel_rfl) (by kernel_rfl) ?_
    refine s_move rfl rfl rfl rfl ?_
    refine s_move rfl rfl rfl rfl ?_
    refine x_len rfl rfl rfl rfl rfl ?_
    refine p_lss rfl rfl rfl rfl rfl (fun h15 => ?_) (fun h15 => ?_)
    · refine vOrd_nil ?_
      refine Wp.condT rfl rfl ?_
      refine Wp.skip ?_
      refine Wp.seq ?_
      refine Wp.block ?_
      refine Wp.region [0, 1, 2, 3, 4, 5, 6, 7, 8, 9] (by kernel_rfl) (by kernel_rfl) ?_
      refine s_move rfl rfl rfl rfl ?_
      refine s_move rfl rfl rfl rfl ?_
      refine s_move rfl rfl rfl rfl ?_
      refine s_move rfl rfl rfl rfl ?_
      refine a_wconv rfl rfl rfl rfl rfl rfl ?_
      refine s_move rfl rfl rfl rfl ?_
      refine s_arith rfl rfl rfl rfl rfl rfl ?_
      refine s_arith rfl rfl rfl rfl rfl rfl ?_
      refine s_idx (sz := 1) (i) rfl rfl rfl rfl rfl rfl rfl (by omega) (by omega) (by omega) ?_
      refine s_storeR 1007 rfl rfl rfl rfl rfl rfl (write_rowB f (j := i) (by omega) _ rfl) (fun w5 sw5 vw5 => ?_)
      refine vOrd_nil ?_
      refine Wp.region [0, 1, 2] (by kernel_rfl) (by kernel_rfl) ?_
      refine s_move rfl rfl rfl rfl ?_
      refine a_add (-9223372036854775808) 9223372036854775807 (by decide) rfl rfl rfl rfl rfl (by omega) (by omega) ?_
      refine s_assign rfl rfl rfl rfl ?_
      refine vOrd_nil ?_
      exact ⟨_, _, by omega, (St.of_le' (env := [(1, .v _), (2, .v _), (7, .v _), (8, .v _)]) (mem := [(1007, _, _)]) ⟨rfl, rfl, rfl, rfl, trivial⟩ ⟨rfl, trivial⟩), i + 1, _, _, rfl, by omega, by omega, updF_byte hf (wrap8_in _), rfl⟩
    · refine vOrd_nil ?_
      refine Wp.condF rfl rfl ?_
      refine Wp.exit ?_
      refine Wp.seq ?_
      refine Wp.var (h := 1007) rfl (fun q7 => ?_)
      have hL := bytesF_len N f
      obtain ⟨L, hL2⟩ : ∃ L, bytesF N f = L := ⟨_, rfl⟩
      rw [rowB_bytes hf, hL2] at q7
      rw [hL2] at hL
      have hq : ∀ W, Var W cw (bytesV L) → BytesAt W (.slice (some ⟨cw, 0, none⟩) N N) L := fun W h => by have := row_bytes (cap := N) h (by omega) (List.take_of_length_le (by rw [bytesV_len]; omega)); rwa [hL] at this
      refine Wp.region [0, 1, 2, 3, 4, 5] (by kernel_rfl) (by kernel_rfl) ?_
      refine s_callT rfl rfl rfl (by kernel_rfl) rfl (sanswers_any _) ?_
      rintro v w6 rfl lw6
      refine s_move rfl rfl rfl rfl ?_
      refine s_move rfl rfl rfl rfl ?_
      refine s_callT rfl rfl rfl (by kernel_rfl) rfl (is_any (hq _ (by repeat (first | exact q7 | refine Var.later ?_ (by assumption)))) (by omega)) ?_
      rintro v w7 rfl lw7
      refine s_pick rfl rfl rfl rfl rfl ?_
      refine s_assign rfl rfl rfl rfl ?_
      refine vOrd_nil ?_
      refine Wp.ret ⟨.inr rfl, fun lW => ⟨_, res_tmp (P := Try.prog) rfl rfl, _, rfl, ?_, lW⟩⟩
      clear lW
      rfl
end Go.Proofs.Ytmaicamlemnbmaa
