/-
  The contracts of the program's own functions of layer 9: RotateLeft32, choose, mix, read, end, Words, Sum (of any bytes that are handed in). Conditions: the bytes are at most 140,737,488,351,232.
-/
import Derived.Test.YthjgilocbfhffaaDoorRows
import Derived.Test.YthjgilocbfhffaaDoorShaM
namespace Go.Proofs.YthjgilocbfhffaaDoor
open Go.RowKit
set_option maxRecDepth 100000

set_option maxHeartbeats 4000000 in
theorem rotl1_any {n : Int} (h : inW32 n) (w : World) : Calls Tryd.prog 71 #[.int .u32 n, .int .i64 1] w fun e w' => ∃ r, e = .returned r ∧ r = .int .u32 (rot 2 2147483648 n) ∧ Below w.heap.size w w' := by
  unfold inW32 at h
  have hz : bAnd 1 31 = 1 := rfl
  have hwr := wrap32_in (n * 2)
  refine calls_Wp (args := [_, _]) (n := 17) Tryd.func71 rfl rfl (by simp) ?_
  refine Wp.seq ?_
  refine Wp.region [0] (by kernel_rfl) (by kernel_rfl) ?_
  refine s_assign rfl rfl rfl rfl ?_
  refine vOrd_nil ?_
  refine Wp.seq ?_
  refine Wp.region [0, 1, 2, 3] (by kernel_rfl) (by kernel_rfl) ?_
  refine s_move rfl rfl rfl rfl ?_
  refine a_conv (0) 18446744073709551615 (by decide) rfl rfl rfl rfl rfl rfl (by omega) (by omega) ?_
  refine a_and 64 18446744073709551615 (by decide) rfl rfl rfl rfl rfl (by omega) (by omega) (by omega) (by omega) ?_
  refine s_assign rfl rfl rfl rfl ?_
  refine vOrd_nil ?_
  refine Wp.seq ?_
  refine Wp.region [0, 1, 2, 3, 4, 5, 6, 7, 8] (by kernel_rfl) (by kernel_rfl) ?_
  refine s_move rfl rfl rfl rfl ?_
  refine s_move rfl rfl rfl rfl ?_
  refine a_wshl (2) rfl rfl rfl rfl rfl (by omega) (by decide) ?_
  refine s_move rfl rfl rfl rfl ?_
  refine s_move rfl rfl rfl rfl ?_
  refine a_sub (0) 18446744073709551615 (by decide) rfl rfl rfl rfl rfl (by omega) (by omega) ?_
  refine a_shr (2147483648) rfl rfl rfl rfl rfl (by omega) (by decide) ?_
  refine a_or 32 4294967295 (by decide) rfl rfl rfl rfl rfl (by omega) (by omega) (by omega) (by omega) ?_
  refine s_assign rfl rfl rfl rfl ?_
  refine vOrd_nil ?_
  refine Wp.ret ⟨.inr rfl, fun lW => ⟨_, res_tmp (P := Tryd.prog) rfl rfl, _, rfl, ?_, lW⟩⟩
  clear lW
  rw [rot_or1 h.1 h.2]
  rfl
set_option maxHeartbeats 4000000 in
theorem rotl5_any {n : Int} (h : inW32 n) (w : World) : Calls Tryd.prog 71 #[.int .u32 n, .int .i64 5] w fun e w' => ∃ r, e = .returned r ∧ r = .int .u32 (rot 32 134217728 n) ∧ Below w.heap.size w w' := by
  unfold inW32 at h
  have hz : bAnd 5 31 = 5 := rfl
  have hwr := wrap32_in (n * 32)
  refine calls_Wp (args := [_, _]) (n := 17) Tryd.func71 rfl rfl (by simp) ?_
  refine Wp.seq ?_
  refine Wp.region [0] (by kernel_rfl) (by kernel_rfl) ?_
  refine s_assign rfl rfl rfl rfl ?_
  refine vOrd_nil ?_
  refine Wp.seq ?_
  refine Wp.region [0, 1, 2, 3] (by kernel_rfl) (by kernel_rfl) ?_
  refine s_move rfl rfl rfl rfl ?_
  refine a_conv (0) 18446744073709551615 (by decide) rfl rfl rfl rfl rfl rfl (by omega) (by omega) ?_
  refine a_and 64 18446744073709551615 (by decide) rfl rfl rfl rfl rfl (by omega) (by omega) (by omega) (by omega) ?_
  refine s_assign rfl rfl rfl rfl ?_
  refine vOrd_nil ?_
  refine Wp.seq ?_
  refine Wp.region [0, 1, 2, 3, 4, 5, 6, 7, 8] (by kernel_rfl) (by kernel_rfl) ?_
  refine s_move rfl rfl rfl rfl ?_
  refine s_move rfl rfl rfl rfl ?_
  refine a_wshl (32) rfl rfl rfl rfl rfl (by omega) (by decide) ?_
  refine s_move rfl rfl rfl rfl ?_
  refine s_move rfl rfl rfl rfl ?_
  refine a_sub (0) 18446744073709551615 (by decide) rfl rfl rfl rfl rfl (by omega) (by omega) ?_
  refine a_shr (134217728) rfl rfl rfl rfl rfl (by omega) (by decide) ?_
  refine a_or 32 4294967295 (by decide) rfl rfl rfl rfl rfl (by omega) (by omega) (by omega) (by omega) ?_
  refine s_assign rfl rfl rfl rfl ?_
  refine vOrd_nil ?_
  refine Wp.ret ⟨.inr rfl, fun lW => ⟨_, res_tmp (P := Tryd.prog) rfl rfl, _, rfl, ?_, lW⟩⟩
  clear lW
  rw [rot_or5 h.1 h.2]
  rfl
set_option maxHeartbeats 4000000 in
theorem rotl30_any {n : Int} (h : inW32 n) (w : World) : Calls Tryd.prog 71 #[.int .u32 n, .int .i64 30] w fun e w' => ∃ r, e = .returned r ∧ r = .int .u32 (rot 1073741824 4 n) ∧ Below w.heap.size w w' := by
  unfold inW32 at h
  have hz : bAnd 30 31 = 30 := rfl
  have hwr := wrap32_in (n * 1073741824)
  refine calls_Wp (args := [_, _]) (n := 17) Tryd.func71 rfl rfl (by simp) ?_
  refine Wp.seq ?_
  refine Wp.region [0] (by kernel_rfl) (by kernel_rfl) ?_
  refine s_assign rfl rfl rfl rfl ?_
  refine vOrd_nil ?_
  refine Wp.seq ?_
  refine Wp.region [0, 1, 2, 3] (by kernel_rfl) (by kernel_rfl) ?_
  refine s_move rfl rfl rfl rfl ?_
  refine a_conv (0) 18446744073709551615 (by decide) rfl rfl rfl rfl rfl rfl (by omega) (by omega) ?_
  refine a_and 64 18446744073709551615 (by decide) rfl rfl rfl rfl rfl (by omega) (by omega) (by omega) (by omega) ?_
  refine s_assign rfl rfl rfl rfl ?_
  refine vOrd_nil ?_
  refine Wp.seq ?_
  refine Wp.region [0, 1, 2, 3, 4, 5, 6, 7, 8] (by kernel_rfl) (by kernel_rfl) ?_
  refine s_move rfl rfl rfl rfl ?_
  refine s_move rfl rfl rfl rfl ?_
  refine a_wshl (1073741824) rfl rfl rfl rfl rfl (by omega) (by decide) ?_
  refine s_move rfl rfl rfl rfl ?_
  refine s_move rfl rfl rfl rfl ?_
  refine a_sub (0) 18446744073709551615 (by decide) rfl rfl rfl rfl rfl (by omega) (by omega) ?_
  refine a_shr (4) rfl rfl rfl rfl rfl (by omega) (by decide) ?_
  refine a_or 32 4294967295 (by decide) rfl rfl rfl rfl rfl (by omega) (by omega) (by omega) (by omega) ?_
  refine s_assign rfl rfl rfl rfl ?_
  refine vOrd_nil ?_
  refine Wp.ret ⟨.inr rfl, fun lW => ⟨_, res_tmp (P := Tryd.prog) rfl rfl, _, rfl, ?_, lW⟩⟩
  clear lW
  rw [rot_or30 h.1 h.2]
  rfl
set_option maxHeartbeats 4000000 in
theorem choose_any {t : Nat} {b c d : Int} (hb : inW32 b) (hc : inW32 c) (hd : inW32 d) (w : World) : Calls Tryd.prog 70 #[.int .i64 (t : Int), .int .u32 b, .int .u32 c, .int .u32 d] w fun e w' => ∃ r, e = .returned r ∧ r = .tuple #[.int .u32 (fT t b c d), .int .u32 (kT t)] ∧ Below w.heap.size w w' := by
  unfold inW32 at hb hc hd
  have x1 := bXor32 hb.2 hc.2
  have a1 := bAnd_in (b := c) hb.1
  have a2 := bAnd_in (a := 4294967295 - b) (b := d) (by omega)
  have a3 := bAnd_in (b := d) hb.1
  have a4 := bAnd_in (b := d) hc.1
  have o1 := bOr32 (a := bAnd b c) (b := bAnd b d) (by omega) (by omega)
  refine calls_Wp (args := [_, _, _, _]) (n := 48) Tryd.func70 rfl rfl (by simp) ?_
  refine Wp.seq ?_
  refine Wp.region [0, 1] (by kernel_rfl) (by kernel_rfl) ?_
  refine s_assign rfl rfl rfl rfl ?_
  refine s_assign rfl rfl rfl rfl ?_
  refine vOrd_nil ?_
  refine Wp.seq ?_
  refine Wp.block ?_
  refine Wp.seq ?_
  refine Wp.region [0, 1, 2] (by kernel_rfl) (by kernel_rfl) ?_
  refine s_move rfl rfl rfl rfl ?_
  refine p_lss rfl rfl rfl rfl rfl (fun h12 => ?_) (fun h12 => ?_)
  · refine s_assign rfl rfl rfl rfl ?_
    refine vOrd_nil ?_
    refine Wp.condT rfl rfl ?_
    refine Wp.seq ?_
    refine Wp.region [0, 1, 2, 3, 4, 5, 6, 7, 8, 9] (by kernel_rfl) (by kernel_rfl) ?_
    refine s_move rfl rfl rfl rfl ?_
    refine s_move rfl rfl rfl rfl ?_
    refine a_and 32 4294967295 (by decide) rfl rfl rfl rfl rfl (by omega) (by omega) (by omega) (by omega) ?_
    refine s_move rfl rfl rfl rfl ?_
    refine a_com32 rfl rfl rfl rfl (by omega) (by omega) ?_
    refine s_move rfl rfl rfl rfl ?_
    refine a_and 32 4294967295 (by decide) rfl rfl rfl rfl rfl (by omega) (by omega) (by omega) (by omega) ?_
    refine a_or 32 4294967295 (by decide) rfl rfl rfl rfl rfl (by omega) (by omega) (by omega) (by omega) ?_
    refine s_assign rfl rfl rfl rfl ?_
    refine s_assign rfl rfl rfl rfl ?_
    refine vOrd_nil ?_
    refine Wp.ret ⟨.inr rfl, fun lW => ⟨_, ⟨_, _, res_tmp (P := Tryd.prog) rfl rfl, res_tmp (P := Tryd.prog) rfl rfl, rfl⟩, _, rfl, ?_, lW⟩⟩
    clear lW
    rw [show fT t b c d = bAnd b c + bAnd (4294967295 - b) d by unfold fT; rw [if_pos (by omega)], show kT t = 1518500249 by unfold kT; rw [if_pos (by omega)]]
    rw [or_choose (by omega) (by omega) (by omega) (by omega) (by omega) (by omega)]
  · refine s_assign rfl rfl rfl rfl ?_
    refine vOrd_nil ?_
    refine Wp.condF rfl rfl ?_
    refine Wp.seq ?_
    refine Wp.region [0, 1, 2] (by kernel_rfl) (by kernel_rfl) ?_
    refine s_move rfl rfl rfl rfl ?_
    refine p_lss rfl rfl rfl rfl rfl (fun h23 => ?_) (fun h23 => ?_)
    · refine s_assign rfl rfl rfl rfl ?_
      refine vOrd_nil ?_
      refine Wp.condT rfl rfl ?_
      refine Wp.seq ?_
      refine Wp.region [0, 1, 2, 3, 4, 5, 6] (by kernel_rfl) (by kernel_rfl) ?_
      refine s_move rfl rfl rfl rfl ?_
      refine s_move rfl rfl rfl rfl ?_
      refine a_xor 32 4294967295 (by decide) rfl rfl rfl rfl rfl (by omega) (by omega) (by omega) (by omega) ?_
      refine s_move rfl rfl rfl rfl ?_
      refine a_xor 32 4294967295 (by decide) rfl rfl rfl rfl rfl (by omega) (by omega) (by omega) (by omega) ?_
      refine s_assign rfl rfl rfl rfl ?_
      refine s_assign rfl rfl rfl rfl ?_
      refine vOrd_nil ?_
      refine Wp.ret ⟨.inr rfl, fun lW => ⟨_, ⟨_, _, res_tmp (P := Tryd.prog) rfl rfl, res_tmp (P := Tryd.prog) rfl rfl, rfl⟩, _, rfl, ?_, lW⟩⟩
      clear lW
      rw [show fT t b c d = bXor (bXor b c) d by unfold fT; rw [if_neg (by omega), if_pos (by omega)], show kT t = 1859775393 by unfold kT; rw [if_neg (by omega), if_pos (by omega)]]
    · refine s_assign rfl rfl rfl rfl ?_
      refine vOrd_nil ?_
      refine Wp.condF rfl rfl ?_
      refine Wp.seq ?_
      refine Wp.region [0, 1, 2] (by kernel_rfl) (by kernel_rfl) ?_
      refine s_move rfl rfl rfl rfl ?_
      refine p_lss rfl rfl rfl rfl rfl (fun h31 => ?_) (fun h31 => ?_)
      · refine s_assign rfl rfl rfl rfl ?_
        refine vOrd_nil ?_
        refine Wp.condT rfl rfl ?_
        refine Wp.seq ?_
        refine Wp.region [0, 1, 2, 3, 4, 5, 6, 7, 8, 9, 10, 11, 12] (by kernel_rfl) (by kernel_rfl) ?_
        refine s_move rfl rfl rfl rfl ?_
        refine s_move rfl rfl rfl rfl ?_
        refine a_and 32 4294967295 (by decide) rfl rfl rfl rfl rfl (by omega) (by omega) (by omega) (by omega) ?_
        refine s_move rfl rfl rfl rfl ?_
        refine s_move rfl rfl rfl rfl ?_
        refine a_and 32 4294967295 (by decide) rfl rfl rfl rfl rfl (by omega) (by omega) (by omega) (by omega) ?_
        refine a_or 32 4294967295 (by decide) rfl rfl rfl rfl rfl (by omega) (by omega) (by omega) (by omega) ?_
        refine s_move rfl rfl rfl rfl ?_
        refine s_move rfl rfl rfl rfl ?_
        refine a_and 32 4294967295 (by decide) rfl rfl rfl rfl rfl (by omega) (by omega) (by omega) (by omega) ?_
        refine a_or 32 4294967295 (by decide) rfl rfl rfl rfl rfl (by omega) (by omega) (by omega) (by omega) ?_
        refine s_assign rfl rfl rfl rfl ?_
        refine s_assign rfl rfl rfl rfl ?_
        refine vOrd_nil ?_
        refine Wp.ret ⟨.inr rfl, fun lW => ⟨_, ⟨_, _, res_tmp (P := Tryd.prog) rfl rfl, res_tmp (P := Tryd.prog) rfl rfl, rfl⟩, _, rfl, ?_, lW⟩⟩
        clear lW
        rw [show fT t b c d = bOr (bOr (bAnd b c) (bAnd b d)) (bAnd c d) by unfold fT; rw [if_neg (by omega), if_neg (by omega), if_pos (by omega)], show kT t = 2400959708 by unfold kT; rw [if_neg (by omega), if_neg (by omega), if_pos (by omega)]]
      · refine s_assign rfl rfl rfl rfl ?_
        refine vOrd_nil ?_
        refine Wp.condF rfl rfl ?_
        refine Wp.skip ?_
        refine Wp.seq ?_
        refine Wp.region [0, 1, 2, 3, 4, 5, 6] (by kernel_rfl) (by kernel_rfl) ?_
        refine s_move rfl rfl rfl rfl ?_
        refine s_move rfl rfl rfl rfl ?_
        refine a_xor 32 4294967295 (by decide) rfl rfl rfl rfl rfl (by omega) (by omega) (by omega) (by omega) ?_
        refine s_move rfl rfl rfl rfl ?_
        refine a_xor 32 4294967295 (by decide) rfl rfl rfl rfl rfl (by omega) (by omega) (by omega) (by omega) ?_
        refine s_assign rfl rfl rfl rfl ?_
        refine s_assign rfl rfl rfl rfl ?_
        refine vOrd_nil ?_
        refine Wp.ret ⟨.inr rfl, fun lW => ⟨_, ⟨_, _, res_tmp (P := Tryd.prog) rfl rfl, res_tmp (P := Tryd.prog) rfl rfl, rfl⟩, _, rfl, ?_, lW⟩⟩
        clear lW
        rw [show fT t b c d = bXor (bXor b c) d by unfold fT; rw [if_neg (by omega), if_neg (by omega), if_neg (by omega)], show kT t = 3395469782 by unfold kT; rw [if_neg (by omega), if_neg (by omega), if_neg (by omega)]]
set_option maxHeartbeats 4000000 in
theorem mix_any {x0 x1 x2 x3 x4 y0 y1 y2 y3 y4 : Int} {W : Nat → Int} (ok0 : ok5 (x0, x1, x2, x3, x4)) (_hW : ∀ t, inW32 (W t)) (w : World) (hy : addF (x0, x1, x2, x3, x4) (rnds W 80 (x0, x1, x2, x3, x4)) = (y0, y1, y2, y3, y4)) : Calls Tryd.prog 50 #[.agg #[.int .u32 x0, .int .u32 x1, .int .u32 x2, .int .u32 x3, .int .u32 x4], .agg (rowW W).toArray] w fun e w' => ∃ r, e = .returned r ∧ r = .agg #[.int .u32 y0, .int .u32 y1, .int .u32 y2, .int .u32 y3, .int .u32 y4] ∧ Below w.heap.size w w' := by
  refine calls_Wp (args := [_, _]) (n := 75) Tryd.func50 rfl rfl (by simp) ?_
  refine Wp.seq ?_
  refine Wp.region [0, 1, 2] (by kernel_rfl) (by kernel_rfl) ?_
  refine s_box rfl rfl rfl rfl rfl rfl (fun b2 w2 kb2 lw2 => ?_)
  refine s_boxS (cs := rowW W) rfl rfl rfl rfl rfl (fun b3 w3 kb3 lw3 => ?_)
  refine s_alloc rfl rfl rfl rfl rfl (fun b4 w4 kb4 lw4 => ?_)
  refine vOrd_nil ?_
  refine Wp.seq ?_
  refine (Wp.drawn (by kernel_rfl) (by kernel_rfl) [0, 1, 2, 3, 4, 5, 6, 7, 8, 9, 10, 11, 12, 13, 14] [1020, 1021, 2035, 2039, 4047, 4063, 7999, 8063, 15615, 15871, 0, 0, 0, 0, 0] (by kernel_rfl) (by kernel_rfl) (fun _ _ _ => True) (fun _ _ => ?_))
  refine s_idxO (sz := 1) 0 rfl rfl rfl rfl rfl rfl rfl (by decide) (by decide) rfl ?_
  refine s_load rfl rfl rfl rfl rfl rfl rfl ?_
  refine s_idxO (sz := 1) 1 rfl rfl rfl rfl rfl rfl rfl (by decide) (by decide) rfl ?_
  refine s_load rfl rfl rfl rfl rfl rfl rfl ?_
  refine s_idxO (sz := 1) 2 rfl rfl rfl rfl rfl rfl rfl (by decide) (by decide) rfl ?_
  refine s_load rfl rfl rfl rfl rfl rfl rfl ?_
  refine s_idxO (sz := 1) 3 rfl rfl rfl rfl rfl rfl rfl (by decide) (by decide) rfl ?_
  refine s_load rfl rfl rfl rfl rfl rfl rfl ?_
  refine s_idxO (sz := 1) 4 rfl rfl rfl rfl rfl rfl rfl (by decide) (by decide) rfl ?_
  refine s_load rfl rfl rfl rfl rfl rfl rfl ?_
  refine s_assign rfl rfl rfl rfl ?_
  refine s_assign rfl rfl rfl rfl ?_
  refine s_assign rfl rfl rfl rfl ?_
  refine s_assign rfl rfl rfl rfl ?_
  refine s_assign rfl rfl rfl rfl ?_
  refine vOrd_nil ?_
  refine Wp.seq ?_
  refine Wp.seq ?_
  refine Wp.region [0] (by kernel_rfl) (by kernel_rfl) ?_
  refine s_move rfl rfl rfl rfl ?_
  refine vOrd_nil ?_
  refine Wp.block ?_
  refine Wp.loop (fun k st _ => ∃ (t : Nat) (ti a b c d e : Int), st = St.of [(2, .p 2 b2 0), (3, .p 3 b3 0), (4, .p 4 b4 0), (5, .v (.int .u32 a)), (6, .v (.int .u32 b)), (7, .v (.int .u32 c)), (8, .v (.int .u32 d)), (9, .v (.int .u32 e)), (24, .v (.int .i64 ti))] [(2, b2, [.int .u32 x0, .int .u32 x1, .int .u32 x2, .int .u32 x3, .int .u32 x4]), (3, b3, rowW W), (4, b4, [.int .u32 0, .int .u32 0, .int .u32 0, .int .u32 0, .int .u32 0])] ∧ ti = t ∧ t ≤ 80 ∧ rnds W t (x0, x1, x2, x3, x4) = (a, b, c, d, e) ∧ k = 80 - t) ?_ ?_
  · exact ⟨_, _, (St.of_le' (env := [(2, .p 2 _ 0), (3, .p 3 _ 0), (4, .p 4 _ 0), (5, .v _), (6, .v _), (7, .v _), (8, .v _), (9, .v _), (24, .v _)]) (mem := [(2, _, [_, _, _, _, _]), (3, _, _), (4, _, [_, _, _, _, _])]) ⟨rfl, rfl, rfl, rfl, rfl, rfl, rfl, rfl, rfl, trivial⟩ ⟨rfl, rfl, rfl, trivial⟩), 0, _, _, _, _, _, _, rfl, rfl, by omega, rfl, rfl⟩
  · rintro k st w4 ⟨t, ti, a, b, c, d, e, rfl, hti, ht1, hr, rfl⟩
    refine Wp.seq ?_
    refine Wp.region [0] (by kernel_rfl) (by kernel_rfl) ?_
    refine p_lss rfl rfl rfl rfl rfl (fun h25 => ?_) (fun h25 => ?_)
    · subst hti
      have ok1 := rnds_in (W := W) ok0 t
      rw [hr] at ok1
      obtain ⟨ha, hb, hc, hd, he⟩ := ok1
      refine vOrd_nil ?_
      refine Wp.seq ?_
      refine Wp.condT rfl rfl ?_
      refine Wp.skip ?_
      refine Wp.seq ?_
      refine Wp.block ?_
      refine Wp.seq ?_
      refine Wp.region [0, 1] (by kernel_rfl) (by kernel_rfl) ?_
      refine s_move rfl rfl rfl rfl ?_
      refine s_assign rfl rfl rfl rfl ?_
      refine vOrd_nil ?_
      refine Wp.seq ?_
      refine Wp.region [0, 1, 2, 3, 4, 5, 6, 7, 8, 9] (by kernel_rfl) (by kernel_rfl) ?_
      refine s_move rfl rfl rfl rfl ?_
      refine s_move rfl rfl rfl rfl ?_
      refine s_move rfl rfl rfl rfl ?_
      refine s_move rfl rfl rfl rfl ?_
      refine s_callT rfl rfl rfl (by kernel_rfl) rfl (choose_any (t := t) hb hc hd _) ?_
      rintro v w5 rfl lw5
      refine s_move rfl rfl rfl rfl ?_
      refine s_extract rfl rfl rfl rfl rfl ?_
      refine s_extract rfl rfl rfl rfl rfl ?_
      refine s_assign rfl rfl rfl rfl ?_
      refine s_assign rfl rfl rfl rfl ?_
      refine vOrd_nil ?_
      refine Wp.seq ?_
      refine (Wp.drawn (by kernel_rfl) (by kernel_rfl) [0, 2, 4, 6, 8, 9, 10, 1, 3, 5, 7, 11, 12] [1876, 1875, 1871, 1855, 255, 511, 1023, 0, 0, 0, 0, 0, 0] (by kernel_rfl) (by kernel_rfl) (fun | 1 => fun v _ => v = .int .u32 (rot 32 134217728 a) | _ => fun _ _ => True) (fun _ _ => ?_))
      refine s_move rfl rfl rfl rfl ?_
      refine s_move rfl rfl rfl rfl ?_
      refine s_move rfl rfl rfl rfl ?_
      refine s_move rfl rfl rfl rfl ?_
      refine s_move rfl rfl rfl rfl ?_
      refine s_idxO (sz := 1) (t) rfl rfl rfl rfl rfl rfl rfl (by omega) (by omega) (by omega) ?_
      refine s_loadS rfl rfl rfl rfl rfl (read_rowW W (j := t) (by omega) rfl) ?_
      refine s_callD rfl rfl rfl (by kernel_rfl) rfl (fun wc lc => rotl5_any ha wc) ?_
      rintro v w8 u8 rfl lw8 mw8
      refine s_arith rfl rfl rfl rfl rfl rfl ?_
      refine s_arith rfl rfl rfl rfl rfl rfl ?_
      refine s_arith rfl rfl rfl rfl rfl rfl ?_
      refine s_arith rfl rfl rfl rfl rfl rfl ?_
      refine s_assign rfl rfl rfl rfl ?_
      refine vOrd_nil ?_
      refine Wp.region [0, 1, 2, 3, 4, 5, 6, 7, 8, 9, 10] (by kernel_rfl) (by kernel_rfl) ?_
      refine s_move rfl rfl rfl rfl ?_
      refine s_move rfl rfl rfl rfl ?_
      refine s_move rfl rfl rfl rfl ?_
      refine s_callT rfl rfl rfl (by kernel_rfl) rfl (rotl30_any hb _) ?_
      rintro v w9 rfl lw9
      refine s_move rfl rfl rfl rfl ?_
      refine s_move rfl rfl rfl rfl ?_
      refine s_assign rfl rfl rfl rfl ?_
      refine s_assign rfl rfl rfl rfl ?_
      refine s_assign rfl rfl rfl rfl ?_
      refine s_assign rfl rfl rfl rfl ?_
      refine s_assign rfl rfl rfl rfl ?_
      refine vOrd_nil ?_
      refine Wp.region [0, 1] (by kernel_rfl) (by kernel_rfl) ?_
      refine a_add (-9223372036854775808) 9223372036854775807 (by decide) rfl rfl rfl rfl rfl (by omega) (by omega) ?_
      refine s_move rfl rfl rfl rfl ?_
      refine vOrd_nil ?_
      have hnx : rnds W (t + 1) (x0, x1, x2, x3, x4) = (IntKind.u32.wrap (IntKind.u32.wrap (IntKind.u32.wrap (IntKind.u32.wrap (rot 32 134217728 a + fT t b c d) + e) + kT t) + W t), a, rot 1073741824 4 b, c, d) := by rw [rnds, hr, rnd, sum5]
      exact ⟨_, _, by omega, (St.of_le' (env := [(2, .p 2 _ 0), (3, .p 3 _ 0), (4, .p 4 _ 0), (5, .v _), (6, .v _), (7, .v _), (8, .v _), (9, .v _), (24, .v _)]) (mem := [(2, _, [_, _, _, _, _]), (3, _, _), (4, _, [_, _, _, _, _])]) ⟨rfl, rfl, rfl, rfl, rfl, rfl, rfl, rfl, rfl, trivial⟩ ⟨rfl, rfl, rfl, trivial⟩), t + 1, _, _, _, _, _, _, rfl, by omega, by omega, hnx, rfl⟩
    · have ht80 : t = 80 := by omega
      subst ht80
      rw [hr] at hy
      simp only [addF, Prod.mk.injEq] at hy
      obtain ⟨q0, q1, q2, q3, q4⟩ := hy
      refine vOrd_nil ?_
      refine Wp.seq ?_
      refine Wp.condF rfl rfl ?_
      refine Wp.exit ?_
      refine Wp.seq ?_
      refine Wp.region [0, 1, 2, 3, 4, 5, 6, 7, 8, 9, 10, 11, 12, 13, 14, 15, 16, 17, 18, 19, 20, 21] (by kernel_rfl) (by kernel_rfl) ?_
      refine s_idxO (sz := 1) 0 rfl rfl rfl rfl rfl rfl rfl (by decide) (by decide) rfl ?_
      refine s_load rfl rfl rfl rfl rfl rfl rfl ?_
      refine s_move rfl rfl rfl rfl ?_
      refine s_arith rfl rfl rfl rfl rfl rfl ?_
      refine s_idxO (sz := 1) 1 rfl rfl rfl rfl rfl rfl rfl (by decide) (by decide) rfl ?_
      refine s_load rfl rfl rfl rfl rfl rfl rfl ?_
      refine s_move rfl rfl rfl rfl ?_
      refine s_arith rfl rfl rfl rfl rfl rfl ?_
      refine s_idxO (sz := 1) 2 rfl rfl rfl rfl rfl rfl rfl (by decide) (by decide) rfl ?_
      refine s_load rfl rfl rfl rfl rfl rfl rfl ?_
      refine s_move rfl rfl rfl rfl ?_
      refine s_arith rfl rfl rfl rfl rfl rfl ?_
      refine s_idxO (sz := 1) 3 rfl rfl rfl rfl rfl rfl rfl (by decide) (by decide) rfl ?_
      refine s_load rfl rfl rfl rfl rfl rfl rfl ?_
      refine s_move rfl rfl rfl rfl ?_
      refine s_arith rfl rfl rfl rfl rfl rfl ?_
      refine s_idxO (sz := 1) 4 rfl rfl rfl rfl rfl rfl rfl (by decide) (by decide) rfl ?_
      refine s_load rfl rfl rfl rfl rfl rfl rfl ?_
      refine s_move rfl rfl rfl rfl ?_
      refine s_arith rfl rfl rfl rfl rfl rfl ?_
      refine s_build rfl rfl rfl rfl rfl (by kernel_rfl) ?_
      refine s_store rfl rfl rfl rfl rfl rfl rfl (fun w10 sw10 vw10 => ?_)
      refine vOrd_nil ?_
      refine Wp.ret ⟨.inr rfl, fun lW => ⟨_, res_cell rfl rfl rfl rfl, _, rfl, ?_, lW⟩⟩
      clear lW
      simp only [IntKind.wrap_u32', q0, q1, q2, q3, q4]
set_option maxHeartbeats 4000000 in
theorem read_any {l : List UInt8} {u : Value} {w : World} (hu : BytesAt w u l) (hl : 64 ≤ l.length) : Calls Tryd.prog 51 #[u] w fun e w' => ∃ r, e = .returned r ∧ r = .agg (rowW (wf l 0 64)).toArray ∧ Below w.heap.size w w' := by
  obtain ⟨b, off, c, rfl, hcap, hc⟩ := hu.at (by omega)
  refine calls_Wp (args := [_]) (n := 69) Tryd.func51 rfl rfl (by simp) ?_
  refine Wp.seq ?_
  refine Wp.region [0] (by kernel_rfl) (by kernel_rfl) ?_
  refine s_allocS (rowW fun _ => 0) rfl rfl rfl rfl (by kernel_rfl) (fun b2 wb2 kb2 lb2 => ?_)
  refine vOrd_nil ?_
  refine Wp.seq ?_
  refine Wp.region [0] (by kernel_rfl) (by kernel_rfl) ?_
  refine s_allocS (rowW fun _ => 0) rfl rfl rfl rfl (by kernel_rfl) (fun b3 wb3 kb3 lb3 => ?_)
  refine vOrd_nil ?_
  refine Wp.seq ?_
  refine Wp.seq ?_
  refine Wp.region [0] (by kernel_rfl) (by kernel_rfl) ?_
  refine s_move rfl rfl rfl rfl ?_
  refine vOrd_nil ?_
  refine Wp.block ?_
  refine Wp.loop (fun k st _ => ∃ (t : Nat) (ti : Int), st = St.of [(0, .v (.slice (some ⟨b, off, none⟩) l.length c)), (2, .p 2 b2 0), (3, .p 3 b3 0), (5, .v (.int .i64 ti))] [(2, b2, rowW fun _ => 0), (3, b3, rowW (rdF l t))] ∧ ti = t ∧ t ≤ 80 ∧ k = 80 - t) ?_ ?_
  · exact ⟨_, _, (St.of_le' (env := [(0, .v _), (2, .p 2 _ 0), (3, .p 3 _ 0), (5, .v _)]) (mem := [(2, _, _), (3, _, _)]) ⟨rfl, rfl, rfl, rfl, trivial⟩ ⟨rfl, rfl, trivial⟩), 0, _, rfl, rfl, by omega, rfl⟩
  · rintro k st w3 ⟨t, ti, rfl, hti, ht1, rfl⟩
    refine Wp.seq ?_
    refine Wp.region [0] (by kernel_rfl) (by kernel_rfl) ?_
    refine p_lss rfl rfl rfl rfl rfl (fun h6 => ?_) (fun h6 => ?_)
    · refine vOrd_nil ?_
      refine Wp.seq ?_
      refine Wp.condT rfl rfl ?_
      refine Wp.skip ?_
      refine Wp.seq ?_
      refine Wp.block ?_
      refine Wp.seq ?_
      refine Wp.region [0, 1] (by kernel_rfl) (by kernel_rfl) ?_
      refine s_move rfl rfl rfl rfl ?_
      refine s_assign rfl rfl rfl rfl ?_
      refine vOrd_nil ?_
      refine Wp.seq ?_
      refine Wp.region [0, 1] (by kernel_rfl) (by kernel_rfl) ?_
      refine s_move rfl rfl rfl rfl ?_
      refine p_lss rfl rfl rfl rfl rfl (fun h9 => ?_) (fun h9 => ?_)
      · refine vOrd_nil ?_
        refine Wp.condT rfl rfl ?_
        refine Wp.old (fun lo => ?_)
        have c0 := cell_after lo (hc (4 * t + 0) (by omega))
        have c1 := cell_after lo (hc (4 * t + 1) (by omega))
        have c2 := cell_after lo (hc (4 * t + 2) (by omega))
        have c3 := cell_after lo (hc (4 * t + 3) (by omega))
        have y0 := byteF_in l (4 * t + 0)
        have y1 := byteF_in l (4 * t + 1)
        have y2 := byteF_in l (4 * t + 2)
        have y3 := byteF_in l (4 * t + 3)
        obtain ⟨p1, p2, p3⟩ := or_bytes y0 y1 y2 y3
        rw [← p2, ← p1] at p3
        rw [← p1] at p2
        have hnx : updF (rdF l t) t (bOr (bOr (bOr (byteF l (4 * t + 0) * 16777216) (byteF l (4 * t + 1) * 65536)) (byteF l (4 * t + 2) * 256)) (byteF l (4 * t + 3))) = rdF l (t + 1) := by rw [rdF_low (by omega), p3, p2, p1]; rfl
        refine (Wp.drawn (by kernel_rfl) (by kernel_rfl) [0, 1, 2, 3, 4, 5, 6, 7, 8, 9, 10, 11, 12, 13, 14, 15, 16, 17, 18, 19, 20, 21, 22, 23, 24, 25, 26, 27, 28, 29, 30, 31, 32, 33, 34, 35] [17179869182, 8556314381, 8556314371, 8556314375, 8556314383, 8556314399, 8556314431, 8556314495, 8556252927, 8556249599, 8556250111, 8556251135, 8556253183, 8556257279, 8556265471, 8556281855, 8556314623, 8524791807, 8523087871, 8523350015, 8523874303, 8524922879, 8527020031, 8531214335, 8539602943, 8556380159, 1006632959, 0, 0, 0, 0, 0, 0, 0, 0, 0] (by kernel_rfl) (by kernel_rfl) (fun _ _ _ => True) (fun _ _ => ?_))
        refine s_move rfl rfl rfl rfl ?_
        refine s_move rfl rfl rfl rfl ?_
        refine s_move rfl rfl rfl rfl ?_
        refine a_mul (-9223372036854775808) 9223372036854775807 (by decide) rfl rfl rfl rfl rfl (by omega) (by omega) ?_
        refine s_idx (sz := 1) (off + (4 * t + 0)) rfl rfl rfl rfl rfl rfl rfl (by omega) (by omega) (by omega) ?_
        refine x_ldc rfl rfl rfl rfl rfl (by first | exact c0 | exact cell_after (by assumption) c0) ?_
        refine a_conv (0) 4294967295 (by decide) rfl rfl rfl rfl rfl rfl (by omega) (by omega) ?_
        refine a_shl (16777216) (0) 4294967295 (by decide) rfl rfl rfl rfl rfl (by omega) (by decide) (by omega) (by omega) ?_
        refine s_move rfl rfl rfl rfl ?_
        refine s_move rfl rfl rfl rfl ?_
        refine a_mul (-9223372036854775808) 9223372036854775807 (by decide) rfl rfl rfl rfl rfl (by omega) (by omega) ?_
        refine a_add (-9223372036854775808) 9223372036854775807 (by decide) rfl rfl rfl rfl rfl (by omega) (by omega) ?_
        refine s_idx (sz := 1) (off + (4 * t + 1)) rfl rfl rfl rfl rfl rfl rfl (by omega) (by omega) (by omega) ?_
        refine x_ldc rfl rfl rfl rfl rfl (by first | exact c1 | exact cell_after (by assumption) c1) ?_
        refine a_conv (0) 4294967295 (by decide) rfl rfl rfl rfl rfl rfl (by omega) (by omega) ?_
        refine a_shl (65536) (0) 4294967295 (by decide) rfl rfl rfl rfl rfl (by omega) (by decide) (by omega) (by omega) ?_
        refine a_or 32 4294967295 (by decide) rfl rfl rfl rfl rfl (by omega) (by omega) (by omega) (by omega) ?_
        refine s_move rfl rfl rfl rfl ?_
        refine s_move rfl rfl rfl rfl ?_
        refine a_mul (-9223372036854775808) 9223372036854775807 (by decide) rfl rfl rfl rfl rfl (by omega) (by omega) ?_
        refine a_add (-9223372036854775808) 9223372036854775807 (by decide) rfl rfl rfl rfl rfl (by omega) (by omega) ?_
        refine s_idx (sz := 1) (off + (4 * t + 2)) rfl rfl rfl rfl rfl rfl rfl (by omega) (by omega) (by omega) ?_
        refine x_ldc rfl rfl rfl rfl rfl (by first | exact c2 | exact cell_after (by assumption) c2) ?_
        refine a_conv (0) 4294967295 (by decide) rfl rfl rfl rfl rfl rfl (by omega) (by omega) ?_
        refine a_shl (256) (0) 4294967295 (by decide) rfl rfl rfl rfl rfl (by omega) (by decide) (by omega) (by omega) ?_
        refine a_or 32 4294967295 (by decide) rfl rfl rfl rfl rfl (by omega) (by omega) (by omega) (by omega) ?_
        refine s_move rfl rfl rfl rfl ?_
        refine s_move rfl rfl rfl rfl ?_
        refine a_mul (-9223372036854775808) 9223372036854775807 (by decide) rfl rfl rfl rfl rfl (by omega) (by omega) ?_
        refine a_add (-9223372036854775808) 9223372036854775807 (by decide) rfl rfl rfl rfl rfl (by omega) (by omega) ?_
        refine s_idx (sz := 1) (off + (4 * t + 3)) rfl rfl rfl rfl rfl rfl rfl (by omega) (by omega) (by omega) ?_
        refine x_ldc rfl rfl rfl rfl rfl (by first | exact c3 | exact cell_after (by assumption) c3) ?_
        refine a_conv (0) 4294967295 (by decide) rfl rfl rfl rfl rfl rfl (by omega) (by omega) ?_
        refine a_or 32 4294967295 (by decide) rfl rfl rfl rfl rfl (by omega) (by omega) (by omega) (by omega) ?_
        refine s_idxO (sz := 1) (t) rfl rfl rfl rfl rfl rfl rfl (by omega) (by omega) (by omega) ?_
        refine s_storeS rfl rfl rfl rfl rfl rfl (write_rowW (rdF l t) (j := t) (by omega) _ rfl) (fun ws13 ss13 vs13 => ?_)
        refine vOrd_nil ?_
        rw [hnx]
        refine Wp.region [0, 1] (by kernel_rfl) (by kernel_rfl) ?_
        refine a_add (-9223372036854775808) 9223372036854775807 (by decide) rfl rfl rfl rfl rfl (by omega) (by omega) ?_
        refine s_move rfl rfl rfl rfl ?_
        refine vOrd_nil ?_
        exact ⟨_, _, by omega, (St.of_le' (env := [(0, .v _), (2, .p 2 _ 0), (3, .p 3 _ 0), (5, .v _)]) (mem := [(2, _, _), (3, _, _)]) ⟨rfl, rfl, rfl, rfl, trivial⟩ ⟨rfl, rfl, trivial⟩), t + 1, _, rfl, by omega, by omega, rfl⟩
      · refine vOrd_nil ?_
        refine Wp.condF rfl rfl ?_
        have y3 := rdF_in (m := l) (t := t) (by omega) (t - 3)
        have y8 := rdF_in (m := l) (t := t) (by omega) (t - 8)
        have y14 := rdF_in (m := l) (t := t) (by omega) (t - 14)
        have y16 := rdF_in (m := l) (t := t) (by omega) (t - 16)
        obtain ⟨t1, t2, t3⟩ := xor4_in y3 y8 y14 y16
        have t4 := t3
        unfold inW32 at y3 y8 y14 y16 t1 t2 t3
        refine (Wp.drawn (by kernel_rfl) (by kernel_rfl) [0, 1, 2, 3, 4, 5, 6, 7, 8, 9, 10, 11, 12, 13, 14, 15, 16, 17, 18, 19, 20, 21, 22] [2097150, 507361, 507363, 507367, 507375, 506911, 506943, 507007, 507135, 507391, 492543, 493567, 495615, 499711, 507903, 0, 0, 0, 0, 0, 0, 0, 0] (by kernel_rfl) (by kernel_rfl) (fun | 20 => fun v _ => v = .int .u32 (nextW (rdF l t) t) | _ => fun _ _ => True) (fun _ _ => ?_))
        refine s_move rfl rfl rfl rfl ?_
        refine s_move rfl rfl rfl rfl ?_
        refine a_sub (-9223372036854775808) 9223372036854775807 (by decide) rfl rfl rfl rfl rfl (by omega) (by omega) ?_
        refine s_idxO (sz := 1) (t - 3) rfl rfl rfl rfl rfl rfl rfl (by omega) (by omega) (by omega) ?_
        refine s_loadS rfl rfl rfl rfl rfl (read_rowW (rdF l t) (j := t - 3) (by omega) rfl) ?_
        refine s_move rfl rfl rfl rfl ?_
        refine a_sub (-9223372036854775808) 9223372036854775807 (by decide) rfl rfl rfl rfl rfl (by omega) (by omega) ?_
        refine s_idxO (sz := 1) (t - 8) rfl rfl rfl rfl rfl rfl rfl (by omega) (by omega) (by omega) ?_
        refine s_loadS rfl rfl rfl rfl rfl (read_rowW (rdF l t) (j := t - 8) (by omega) rfl) ?_
        refine a_xor 32 4294967295 (by decide) rfl rfl rfl rfl rfl (by omega) (by omega) (by omega) (by omega) ?_
        refine s_move rfl rfl rfl rfl ?_
        refine a_sub (-9223372036854775808) 9223372036854775807 (by decide) rfl rfl rfl rfl rfl (by omega) (by omega) ?_
        refine s_idxO (sz := 1) (t - 14) rfl rfl rfl rfl rfl rfl rfl (by omega) (by omega) (by omega) ?_
        refine s_loadS rfl rfl rfl rfl rfl (read_rowW (rdF l t) (j := t - 14) (by omega) rfl) ?_
        refine a_xor 32 4294967295 (by decide) rfl rfl rfl rfl rfl (by omega) (by omega) (by omega) (by omega) ?_
        refine s_move rfl rfl rfl rfl ?_
        refine a_sub (-9223372036854775808) 9223372036854775807 (by decide) rfl rfl rfl rfl rfl (by omega) (by omega) ?_
        refine s_idxO (sz := 1) (t - 16) rfl rfl rfl rfl rfl rfl rfl (by omega) (by omega) (by omega) ?_
        refine s_loadS rfl rfl rfl rfl rfl (read_rowW (rdF l t) (j := t - 16) (by omega) rfl) ?_
        refine a_xor 32 4294967295 (by decide) rfl rfl rfl rfl rfl (by omega) (by omega) (by omega) (by omega) ?_
        refine s_callD rfl rfl rfl (by kernel_rfl) rfl (fun wc lc => rotl1_any t4 wc) ?_
        rintro v w22 u22 rfl lw22 mw22
        refine s_idxO (sz := 1) (t) rfl rfl rfl rfl rfl rfl rfl (by omega) (by omega) (by omega) ?_
        refine s_storeS rfl rfl rfl rfl rfl rfl (write_rowW (rdF l t) (j := t) (by omega) _ rfl) (fun ws24 ss24 vs24 => ?_)
        refine vOrd_nil ?_
        rw [← rdF_high (by omega)]
        refine Wp.region [0, 1] (by kernel_rfl) (by kernel_rfl) ?_
        refine a_add (-9223372036854775808) 9223372036854775807 (by decide) rfl rfl rfl rfl rfl (by omega) (by omega) ?_
        refine s_move rfl rfl rfl rfl ?_
        refine vOrd_nil ?_
        exact ⟨_, _, by omega, (St.of_le' (env := [(0, .v _), (2, .p 2 _ 0), (3, .p 3 _ 0), (5, .v _)]) (mem := [(2, _, _), (3, _, _)]) ⟨rfl, rfl, rfl, rfl, trivial⟩ ⟨rfl, rfl, trivial⟩), t + 1, _, rfl, by omega, by omega, rfl⟩
    · have ht80 : t = 80 := by omega
      subst ht80
      refine vOrd_nil ?_
      refine Wp.seq ?_
      refine Wp.condF rfl rfl ?_
      refine Wp.exit ?_
      refine Wp.seq ?_
      refine Wp.region [0, 1] (by kernel_rfl) (by kernel_rfl) ?_
      refine s_loadS rfl rfl rfl rfl rfl (read_all rfl rfl (rowW_len _)) ?_
      refine s_storeS rfl rfl rfl rfl rfl rfl (write_all rfl (rowW_len _) (rowW_len _) (rowW_one _)) (fun ws26 ss26 vs26 => ?_)
      refine vOrd_nil ?_
      refine Wp.ret ⟨.inr rfl, fun lW => ⟨_, res_cellS rfl rfl (read_all rfl rfl (rowW_len _)), _, rfl, ?_, lW⟩⟩
      clear lW
      rw [rdF_wf (by omega)]
set_option maxHeartbeats 4000000 in
theorem end_any {l : List UInt8} {u : Value} {w : World} {n : Nat} (hu : BytesAt w u l) (hl : l.length < 64) (hn : n ≤ 140737488351232) : Calls Tryd.prog 52 #[u, .int .i64 (n : Int)] w fun e w' => ∃ r, e = .returned r ∧ r = .tuple #[.agg (rowB 128 (tlF l n (kN l.length) 8)).toArray, .int .i64 (kN l.length : Int)] ∧ Below w.heap.size w w' := by
  obtain ⟨ua, uc, rfl⟩ := hu.slice
  refine calls_Wp (args := [_, _]) (n := 37) Tryd.func52 rfl rfl (by simp) ?_
  refine Wp.seq ?_
  refine Wp.region [0, 1] (by kernel_rfl) (by kernel_rfl) ?_
  refine s_allocS (rowB 128 fun _ => 0) rfl rfl rfl rfl (by kernel_rfl) (fun b4 wb4 kb4 lb4 => ?_)
  refine s_assign rfl rfl rfl rfl ?_
  refine vOrd_nil ?_
  refine Wp.seq ?_
  refine Wp.old (fun lo => ?_)
  refine Wp.var (h := 4) rfl (fun v4 => ?_)
  refine Wp.le ?_ (St.of_le' (env := [(0, .v _), (1, .v _), (4, .p 4 _ 0), (5, .v _)]) (mem := []) ⟨rfl, rfl, rfl, rfl, trivial⟩ trivial)
  refine Wp.region [0, 1, 2] (by kernel_rfl) (by kernel_rfl) ?_
  refine s_sliceO rfl rfl rfl rfl rfl rfl ?_
  refine s_move rfl rfl rfl rfl ?_
  refine x_copyB rfl rfl rfl rfl rfl rfl rfl v4 (rowB_len _ _) (hu.later lo) (by omega) (by omega) (by repeat (first | exact AllMem.of trivial | refine AllMem.put ?_)) ?_
  intro w5 v5 g5
  rw [copied l (by omega)] at v5
  refine vOrd_nil ?_
  refine Wp.seq ?_
  refine Wp.adopt 4 v5 (by omega) rfl (show AllMem (fun d => d ≠ b4) _ from (by repeat (first | exact AllMem.of trivial | refine AllMem.put ?_))) ?_
  refine Wp.region [0, 1, 2, 3] (by kernel_rfl) (by kernel_rfl) ?_
  refine s_move rfl rfl rfl rfl ?_
  refine x_len rfl rfl rfl rfl rfl ?_
  refine s_idxO (sz := 1) (l.length) rfl rfl rfl rfl rfl rfl rfl (by omega) (by omega) (by omega) ?_
  refine s_storeS rfl rfl rfl rfl rfl rfl (write_rowB (byteF l) (j := l.length) (by omega) _ rfl) (fun ws7 ss7 vs7 => ?_)
  refine vOrd_nil ?_
  refine Wp.seq ?_
  refine Wp.region [0] (by kernel_rfl) (by kernel_rfl) ?_
  refine s_assign rfl rfl rfl rfl ?_
  refine vOrd_nil ?_
  refine Wp.seq ?_
  refine Wp.seq ?_
  refine Wp.region [0, 1, 2] (by kernel_rfl) (by kernel_rfl) ?_
  refine s_move rfl rfl rfl rfl ?_
  refine x_len rfl rfl rfl rfl rfl ?_
  refine p_geq rfl rfl rfl rfl rfl (fun h16 => ?_) (fun h16 => ?_)
  · have hk : kN l.length = 2 := by unfold kN; rw [if_pos (by omega)]
    refine vOrd_nil ?_
    refine Wp.condT rfl rfl ?_
    refine Wp.region [0] (by kernel_rfl) (by kernel_rfl) ?_
    refine s_assign rfl rfl rfl rfl ?_
    refine vOrd_nil ?_
    refine Wp.seq ?_
    refine Wp.region [0, 1, 2, 3] (by kernel_rfl) (by kernel_rfl) ?_
    refine s_move rfl rfl rfl rfl ?_
    refine a_conv (0) 18446744073709551615 (by decide) rfl rfl rfl rfl rfl rfl (by omega) (by omega) ?_
    refine a_mul (0) 18446744073709551615 (by decide) rfl rfl rfl rfl rfl (by omega) (by omega) ?_
    refine s_assign rfl rfl rfl rfl ?_
    refine vOrd_nil ?_
    refine Wp.seq ?_
    refine Wp.seq ?_
    refine Wp.region [0] (by kernel_rfl) (by kernel_rfl) ?_
    refine s_move rfl rfl rfl rfl ?_
    refine vOrd_nil ?_
    refine Wp.block ?_
    refine Wp.loop (fun k st _ => ∃ (i : Nat) (ii : Int), st = St.of [(4, .p 4 b4 0), (5, .v (.int .i64 2)), (6, .v (.int .u64 ((n : Int) * 8))), (20, .v (.int .i64 ii))] [(4, b4, rowB 128 (tlF l n 2 i))] ∧ ii = i ∧ i ≤ 8 ∧ k = 8 - i) ?_ ?_
    · exact ⟨_, _, (St.of_le' (env := [(4, .p 4 _ 0), (5, .v _), (6, .v _), (20, .v _)]) (mem := [(4, _, _)]) ⟨rfl, rfl, rfl, rfl, trivial⟩ ⟨rfl, trivial⟩), 0, _, rfl, rfl, by omega, rfl⟩
    · rintro k st w8 ⟨i, ii, rfl, hii, hi1, rfl⟩
      refine Wp.seq ?_
      refine Wp.region [0] (by kernel_rfl) (by kernel_rfl) ?_
      refine p_lss rfl rfl rfl rfl rfl (fun h21 => ?_) (fun h21 => ?_)
      · refine vOrd_nil ?_
        refine Wp.seq ?_
        refine Wp.condT rfl rfl ?_
        refine Wp.skip ?_
        refine Wp.seq ?_
        refine Wp.block ?_
        refine Wp.seq ?_
        refine Wp.region [0, 1] (by kernel_rfl) (by kernel_rfl) ?_
        refine s_move rfl rfl rfl rfl ?_
        refine s_assign rfl rfl rfl rfl ?_
        refine vOrd_nil ?_
        refine Wp.region [0, 1, 2, 3, 4, 5, 6, 7, 8, 9, 10, 11] (by kernel_rfl) (by kernel_rfl) ?_
        refine s_move rfl rfl rfl rfl ?_
        refine a_mul (-9223372036854775808) 9223372036854775807 (by decide) rfl rfl rfl rfl rfl (by omega) (by omega) ?_
        refine a_sub (-9223372036854775808) 9223372036854775807 (by decide) rfl rfl rfl rfl rfl (by omega) (by omega) ?_
        refine s_move rfl rfl rfl rfl ?_
        refine a_sub (-9223372036854775808) 9223372036854775807 (by decide) rfl rfl rfl rfl rfl (by omega) (by omega) ?_
        refine s_move rfl rfl rfl rfl ?_
        refine s_move rfl rfl rfl rfl ?_
        refine a_mul (-9223372036854775808) 9223372036854775807 (by decide) rfl rfl rfl rfl rfl (by omega) (by omega) ?_
        refine a_shr (2 ^ (8 * i)) rfl rfl rfl rfl rfl (by omega) (by show (2 : Int) ^ min (8 * ii).toNat 64 = 2 ^ (8 * i); congr 1; omega) ?_
        refine a_wconv rfl rfl rfl rfl rfl rfl ?_
        refine s_idxO (sz := 1) (64 * 2 - 1 - i) rfl rfl rfl rfl rfl rfl rfl (by omega) (by omega) (by omega) ?_
        refine s_storeS rfl rfl rfl rfl rfl rfl (write_rowB (tlF l n 2 i) (j := 64 * 2 - 1 - i) (by omega) _ rfl) (fun ws10 ss10 vs10 => ?_)
        refine vOrd_nil ?_
        refine Wp.region [0, 1] (by kernel_rfl) (by kernel_rfl) ?_
        refine a_add (-9223372036854775808) 9223372036854775807 (by decide) rfl rfl rfl rfl rfl (by omega) (by omega) ?_
        refine s_move rfl rfl rfl rfl ?_
        refine vOrd_nil ?_
        exact ⟨_, _, by omega, (St.of_le' (env := [(4, .p 4 _ 0), (5, .v _), (6, .v _), (20, .v _)]) (mem := [(4, _, _)]) ⟨rfl, rfl, rfl, rfl, trivial⟩ ⟨rfl, trivial⟩), i + 1, _, rfl, by omega, by omega, rfl⟩
      · have hi8 : i = 8 := by omega
        subst hi8
        refine vOrd_nil ?_
        refine Wp.seq ?_
        refine Wp.condF rfl rfl ?_
        refine Wp.exit ?_
        refine Wp.seq ?_
        refine Wp.region [0, 1, 2, 3] (by kernel_rfl) (by kernel_rfl) ?_
        refine s_loadS rfl rfl rfl rfl rfl (read_all rfl rfl (rowB_len _ _)) ?_
        refine s_move rfl rfl rfl rfl ?_
        refine s_storeS rfl rfl rfl rfl rfl rfl (write_all rfl (rowB_len _ _) (rowB_len _ _) (rowB_one _ _)) (fun ws12 ss12 vs12 => ?_)
        refine s_assign rfl rfl rfl rfl ?_
        refine vOrd_nil ?_
        refine Wp.ret ⟨.inr rfl, fun lW => ⟨_, ⟨_, _, res_cellS rfl rfl (read_all rfl rfl (rowB_len _ _)), res_tmp (P := Tryd.prog) rfl rfl, rfl⟩, _, rfl, ?_, lW⟩⟩
        clear lW
        first | (rw [hk]; done) | (rw [hk]; rfl)
  · have hk : kN l.length = 1 := by unfold kN; rw [if_neg (by omega)]
    refine vOrd_nil ?_
    refine Wp.condF rfl rfl ?_
    refine Wp.skip ?_
    refine Wp.seq ?_
    refine Wp.region [0, 1, 2, 3] (by kernel_rfl) (by kernel_rfl) ?_
    refine s_move rfl rfl rfl rfl ?_
    refine a_conv (0) 18446744073709551615 (by decide) rfl rfl rfl rfl rfl rfl (by omega) (by omega) ?_
    refine a_mul (0) 18446744073709551615 (by decide) rfl rfl rfl rfl rfl (by omega) (by omega) ?_
    refine s_assign rfl rfl rfl rfl ?_
    refine vOrd_nil ?_
    refine Wp.seq ?_
    refine Wp.seq ?_
    refine Wp.region [0] (by kernel_rfl) (by kernel_rfl) ?_
    refine s_move rfl rfl rfl rfl ?_
    refine vOrd_nil ?_
    refine Wp.block ?_
    refine Wp.loop (fun k st _ => ∃ (i : Nat) (ii : Int), st = St.of [(4, .p 4 b4 0), (5, .v (.int .i64 1)), (6, .v (.int .u64 ((n : Int) * 8))), (20, .v (.int .i64 ii))] [(4, b4, rowB 128 (tlF l n 1 i))] ∧ ii = i ∧ i ≤ 8 ∧ k = 8 - i) ?_ ?_
    · exact ⟨_, _, (St.of_le' (env := [(4, .p 4 _ 0), (5, .v _), (6, .v _), (20, .v _)]) (mem := [(4, _, _)]) ⟨rfl, rfl, rfl, rfl, trivial⟩ ⟨rfl, trivial⟩), 0, _, rfl, rfl, by omega, rfl⟩
    · rintro k st w13 ⟨i, ii, rfl, hii, hi1, rfl⟩
      refine Wp.seq ?_
      refine Wp.region [0] (by kernel_rfl) (by kernel_rfl) ?_
      refine p_lss rfl rfl rfl rfl rfl (fun h21 => ?_) (fun h21 => ?_)
      · refine vOrd_nil ?_
        refine Wp.seq ?_
        refine Wp.condT rfl rfl ?_
        refine Wp.skip ?_
        refine Wp.seq ?_
        refine Wp.block ?_
        refine Wp.seq ?_
        refine Wp.region [0, 1] (by kernel_rfl) (by kernel_rfl) ?_
        refine s_move rfl rfl rfl rfl ?_
        refine s_assign rfl rfl rfl rfl ?_
        refine vOrd_nil ?_
        refine Wp.region [0, 1, 2, 3, 4, 5, 6, 7, 8, 9, 10, 11] (by kernel_rfl) (by kernel_rfl) ?_
        refine s_move rfl rfl rfl rfl ?_
        refine a_mul (-9223372036854775808) 9223372036854775807 (by decide) rfl rfl rfl rfl rfl (by omega) (by omega) ?_
        refine a_sub (-9223372036854775808) 9223372036854775807 (by decide) rfl rfl rfl rfl rfl (by omega) (by omega) ?_
        refine s_move rfl rfl rfl rfl ?_
        refine a_sub (-9223372036854775808) 9223372036854775807 (by decide) rfl rfl rfl rfl rfl (by omega) (by omega) ?_
        refine s_move rfl rfl rfl rfl ?_
        refine s_move rfl rfl rfl rfl ?_
        refine a_mul (-9223372036854775808) 9223372036854775807 (by decide) rfl rfl rfl rfl rfl (by omega) (by omega) ?_
        refine a_shr (2 ^ (8 * i)) rfl rfl rfl rfl rfl (by omega) (by show (2 : Int) ^ min (8 * ii).toNat 64 = 2 ^ (8 * i); congr 1; omega) ?_
        refine a_wconv rfl rfl rfl rfl rfl rfl ?_
        refine s_idxO (sz := 1) (64 * 1 - 1 - i) rfl rfl rfl rfl rfl rfl rfl (by omega) (by omega) (by omega) ?_
        refine s_storeS rfl rfl rfl rfl rfl rfl (write_rowB (tlF l n 1 i) (j := 64 * 1 - 1 - i) (by omega) _ rfl) (fun ws15 ss15 vs15 => ?_)
        refine vOrd_nil ?_
        refine Wp.region [0, 1] (by kernel_rfl) (by kernel_rfl) ?_
        refine a_add (-9223372036854775808) 9223372036854775807 (by decide) rfl rfl rfl rfl rfl (by omega) (by omega) ?_
        refine s_move rfl rfl rfl rfl ?_
        refine vOrd_nil ?_
        exact ⟨_, _, by omega, (St.of_le' (env := [(4, .p 4 _ 0), (5, .v _), (6, .v _), (20, .v _)]) (mem := [(4, _, _)]) ⟨rfl, rfl, rfl, rfl, trivial⟩ ⟨rfl, trivial⟩), i + 1, _, rfl, by omega, by omega, rfl⟩
      · have hi8 : i = 8 := by omega
        subst hi8
        refine vOrd_nil ?_
        refine Wp.seq ?_
        refine Wp.condF rfl rfl ?_
        refine Wp.exit ?_
        refine Wp.seq ?_
        refine Wp.region [0, 1, 2, 3] (by kernel_rfl) (by kernel_rfl) ?_
        refine s_loadS rfl rfl rfl rfl rfl (read_all rfl rfl (rowB_len _ _)) ?_
        refine s_move rfl rfl rfl rfl ?_
        refine s_storeS rfl rfl rfl rfl rfl rfl (write_all rfl (rowB_len _ _) (rowB_len _ _) (rowB_one _ _)) (fun ws17 ss17 vs17 => ?_)
        refine s_assign rfl rfl rfl rfl ?_
        refine vOrd_nil ?_
        refine Wp.ret ⟨.inr rfl, fun lW => ⟨_, ⟨_, _, res_cellS rfl rfl (read_all rfl rfl (rowB_len _ _)), res_tmp (P := Tryd.prog) rfl rfl, rfl⟩, _, rfl, ?_, lW⟩⟩
        clear lW
        first | (rw [hk]; done) | (rw [hk]; rfl)
set_option maxHeartbeats 4000000 in
theorem swords_any {l : List UInt8} {u : Value} {w : World} (hu : BytesAt w u l) (hl : l.length ≤ 140737488351232) : Calls Tryd.prog 35 #[u] w fun e w' => ∃ r, e = .returned r ∧ r = wordsV (shaF l) ∧ Below w.heap.size w w' := by
  obtain ⟨ua, uc, rfl⟩ := hu.slice
  obtain ⟨M, hM⟩ : ∃ M, padL l = M := ⟨_, rfl⟩
  have hdl : (l.drop (64 * (l.length / 64))).length = l.length % 64 := by rw [List.length_drop]; omega
  obtain ⟨F, hF⟩ : ∃ F, tlF (l.drop (64 * (l.length / 64))) l.length (kN (l.length % 64)) 8 = F := ⟨_, rfl⟩
  obtain ⟨K, hK⟩ : ∃ K, kN (l.length % 64) = K := ⟨_, rfl⟩
  have hK2 : K = 1 ∨ K = 2 := by rw [← hK]; unfold kN; split <;> simp
  have hFb : ∀ j, 0 ≤ F j ∧ F j < 256 := by rw [← hF]; exact tlF_byte _ _ _ _
  have hE : ∀ {v : Value} {w : World}, BytesAt w v (l.drop (64 * (l.length / 64))) → Calls Tryd.prog 52 #[v, .int .i64 (l.length : Int)] w fun e w' => ∃ r, e = .returned r ∧ r = .tuple #[.agg (rowB 128 F).toArray, .int .i64 (K : Int)] ∧ Below w.heap.size w w' := fun h => by
    have e := end_any h (by rw [hdl]; omega) hl
    rw [hdl, hF, hK] at e
    exact e
  refine calls_Wp (args := [_]) (n := 47) Tryd.func35 rfl rfl (by simp) ?_
  refine Wp.seq ?_
  refine Wp.region [0] (by kernel_rfl) (by kernel_rfl) ?_
  refine s_alloc rfl rfl rfl rfl rfl (fun b2 w2 kb2 lw2 => ?_)
  refine vOrd_nil ?_
  refine Wp.seq ?_
  refine Wp.region [0, 1, 2] (by kernel_rfl) (by kernel_rfl) ?_
  refine s_build rfl rfl rfl rfl rfl (by kernel_rfl) ?_
  refine s_alloc rfl rfl rfl rfl rfl (fun b3 w3 kb3 lw3 => ?_)
  refine s_store rfl rfl rfl rfl rfl rfl rfl (fun w3 sw3 vw3 => ?_)
  refine vOrd_nil ?_
  refine Wp.seq ?_
  refine Wp.region [0, 1, 2, 3] (by kernel_rfl) (by kernel_rfl) ?_
  refine s_move rfl rfl rfl rfl ?_
  refine x_len rfl rfl rfl rfl rfl ?_
  refine a_quo rfl rfl rfl rfl rfl (by omega) (by omega) (by show _ ≤ (9223372036854775807 : Int); omega) ?_
  refine s_assign rfl rfl rfl rfl ?_
  refine vOrd_nil ?_
  refine Wp.seq ?_
  refine Wp.seq ?_
  refine Wp.region [0, 1] (by kernel_rfl) (by kernel_rfl) ?_
  refine s_move rfl rfl rfl rfl ?_
  refine s_move rfl rfl rfl rfl ?_
  refine vOrd_nil ?_
  refine Wp.block ?_
  refine Wp.loop (fun k st _ => ∃ (i : Nat) (ii x0 x1 x2 x3 x4 : Int), st = St.of [(0, .v (.slice ua l.length uc)), (2, .p 2 b2 0), (3, .p 3 b3 0), (4, .v (.int .i64 ((l.length : Int) / 64))), (13, .v (.int .i64 ((l.length : Int) / 64))), (14, .v (.int .i64 ii))] [(2, b2, [.int .u32 0, .int .u32 0, .int .u32 0, .int .u32 0, .int .u32 0]), (3, b3, [.int .u32 x0, .int .u32 x1, .int .u32 x2, .int .u32 x3, .int .u32 x4])] ∧ ii = i ∧ hAt M i = (x0, x1, x2, x3, x4) ∧ i ≤ l.length / 64 ∧ k = l.length / 64 - i) ?_ ?_
  · exact ⟨_, _, (St.of_le' (env := [(0, .v _), (2, .p 2 _ 0), (3, .p 3 _ 0), (4, .v _), (13, .v _), (14, .v _)]) (mem := [(2, _, [_, _, _, _, _]), (3, _, [_, _, _, _, _])]) ⟨rfl, rfl, rfl, rfl, rfl, rfl, trivial⟩ ⟨rfl, rfl, trivial⟩), 0, _, _, _, _, _, _, rfl, rfl, rfl, by omega, rfl⟩
  · rintro k st w4 ⟨i, ii, x0, x1, x2, x3, x4, rfl, hii, hh, hi1, rfl⟩
    refine Wp.seq ?_
    refine Wp.region [0] (by kernel_rfl) (by kernel_rfl) ?_
    refine p_lss rfl rfl rfl rfl rfl (fun h15 => ?_) (fun h15 => ?_)
    · have ok0 := hAt_in M i
      rw [hh] at ok0
      obtain ⟨Y, hY⟩ : ∃ Y, addF (x0, x1, x2, x3, x4) (rnds (wf (l.drop (64 * i)) 0 64) 80 (x0, x1, x2, x3, x4)) = Y := ⟨_, rfl⟩
      obtain ⟨y0, y1, y2, y3, y4⟩ := Y
      refine vOrd_nil ?_
      refine Wp.seq ?_
      refine Wp.condT rfl rfl ?_
      refine Wp.skip ?_
      refine Wp.seq ?_
      refine Wp.block ?_
      refine Wp.seq ?_
      refine Wp.region [0, 1] (by kernel_rfl) (by kernel_rfl) ?_
      refine s_move rfl rfl rfl rfl ?_
      refine s_assign rfl rfl rfl rfl ?_
      refine vOrd_nil ?_
      refine Wp.old (fun lo => ?_)
      have hu2 := hu.later lo
      refine (Wp.drawn (by kernel_rfl) (by kernel_rfl) [0, 1, 2, 3, 4, 5, 6, 7] [62, 13, 0, 0, 0, 0, 0, 0] (by kernel_rfl) (by kernel_rfl) (fun | 5 => fun v _ => v = .agg (rowW (wf (l.drop (64 * i)) 0 64)).toArray | 6 => fun v _ => v = .agg #[.int .u32 y0, .int .u32 y1, .int .u32 y2, .int .u32 y3, .int .u32 y4] | _ => fun _ _ => True) (fun _ _ => ?_))
      refine s_load rfl rfl rfl rfl rfl rfl rfl ?_
      refine s_move rfl rfl rfl rfl ?_
      refine s_move rfl rfl rfl rfl ?_
      refine a_mul (-9223372036854775808) 9223372036854775807 (by decide) rfl rfl rfl rfl rfl (by omega) (by omega) ?_
      refine x_fromB (l := l) rfl rfl rfl rfl (by repeat (first | exact hu2 | refine BytesAt.later ?_ (by assumption))) rfl rfl rfl (by omega) (by omega) ?_
      intro vs hvs
      rw [show (ii * 64).toNat = 64 * i by omega] at hvs
      refine s_callD rfl rfl rfl (by kernel_rfl) rfl (fun wc lc => read_any (w := wc) (l := l.drop (64 * i)) (by repeat (first | exact hvs | refine BytesAt.later ?_ (by assumption))) (by rw [List.length_drop]; omega)) ?_
      rintro v w8 u8 rfl lw8 mw8
      refine s_callD rfl rfl rfl (by kernel_rfl) rfl (fun wc lc => mix_any ok0 (wf_in _ _ _) wc hY) ?_
      rintro v w9 u9 rfl lw9 mw9
      refine s_store rfl rfl rfl rfl rfl rfl rfl (fun w10 sw10 vw10 => ?_)
      refine vOrd_nil ?_
      refine Wp.region [0, 1] (by kernel_rfl) (by kernel_rfl) ?_
      refine a_add (-9223372036854775808) 9223372036854775807 (by decide) rfl rfl rfl rfl rfl (by omega) (by omega) ?_
      refine s_move rfl rfl rfl rfl ?_
      refine vOrd_nil ?_
      have ew := whole_pad (l := l) (p := 64 * i) (by omega)
      rw [hM] at ew
      have hnx : hAt M (i + 1) = (y0, y1, y2, y3, y4) := by rw [hAt, hh, blk, ← ew, hY]
      exact ⟨_, _, by omega, (St.of_le' (env := [(0, .v _), (2, .p 2 _ 0), (3, .p 3 _ 0), (4, .v _), (13, .v _), (14, .v _)]) (mem := [(2, _, [_, _, _, _, _]), (3, _, [_, _, _, _, _])]) ⟨rfl, rfl, rfl, rfl, rfl, rfl, trivial⟩ ⟨rfl, rfl, trivial⟩), i + 1, _, _, _, _, _, _, rfl, by omega, hnx, by omega, rfl⟩
    · have hi2 : i = l.length / 64 := by omega
      subst hi2
      refine vOrd_nil ?_
      refine Wp.seq ?_
      refine Wp.condF rfl rfl ?_
      refine Wp.exit ?_
      refine Wp.seq ?_
      refine Wp.old (fun lo => ?_)
      have hu2 := hu.later lo
      refine Wp.region [0, 1, 2, 3, 4, 5, 6, 7, 8, 9, 10, 11, 12] (by kernel_rfl) (by kernel_rfl) ?_
      refine s_move rfl rfl rfl rfl ?_
      refine s_move rfl rfl rfl rfl ?_
      refine a_mul (-9223372036854775808) 9223372036854775807 (by decide) rfl rfl rfl rfl rfl (by omega) (by omega) ?_
      refine x_fromB rfl rfl rfl rfl hu2 rfl rfl rfl (by omega) (by omega) ?_
      intro vr hvr
      rw [show (((l.length : Int) / 64) * 64).toNat = 64 * (l.length / 64) by omega] at hvr
      refine s_move rfl rfl rfl rfl ?_
      refine x_len rfl rfl rfl rfl rfl ?_
      refine s_callT rfl rfl rfl (by kernel_rfl) rfl (hE hvr) ?_
      rintro v w14 rfl lw14
      refine s_move rfl rfl rfl rfl ?_
      refine s_extract rfl rfl rfl rfl rfl ?_
      refine s_extract rfl rfl rfl rfl rfl ?_
      refine s_allocS (rowB 128 fun _ => 0) rfl rfl rfl rfl (by kernel_rfl) (fun b6 wb6 kb6 lb6 => ?_)
      refine s_storeS rfl rfl rfl rfl rfl rfl (write_all rfl (rowB_len _ _) (rowB_len _ _) (rowB_one _ _)) (fun ws16 ss16 vs16 => ?_)
      refine s_assign rfl rfl rfl rfl ?_
      refine vOrd_nil ?_
      refine Wp.seq ?_
      refine Wp.seq ?_
      refine Wp.region [0, 1] (by kernel_rfl) (by kernel_rfl) ?_
      refine s_move rfl rfl rfl rfl ?_
      refine s_move rfl rfl rfl rfl ?_
      refine vOrd_nil ?_
      refine Wp.block ?_
      refine Wp.loop (fun k st _ => ∃ (i : Nat) (ii x0 x1 x2 x3 x4 : Int), st = St.of [(2, .p 2 b2 0), (3, .p 3 b3 0), (6, .p 6 b6 0), (35, .v (.int .i64 (K : Int))), (36, .v (.int .i64 ii))] [(2, b2, [.int .u32 0, .int .u32 0, .int .u32 0, .int .u32 0, .int .u32 0]), (3, b3, [.int .u32 x0, .int .u32 x1, .int .u32 x2, .int .u32 x3, .int .u32 x4]), (6, b6, rowB 128 F)] ∧ ii = i ∧ hAt M (l.length / 64 + i) = (x0, x1, x2, x3, x4) ∧ i ≤ K ∧ k = K - i) ?_ ?_
      · exact ⟨_, _, (St.of_le' (env := [(2, .p 2 _ 0), (3, .p 3 _ 0), (6, .p 6 _ 0), (35, .v _), (36, .v _)]) (mem := [(2, _, [_, _, _, _, _]), (3, _, [_, _, _, _, _]), (6, _, _)]) ⟨rfl, rfl, rfl, rfl, rfl, trivial⟩ ⟨rfl, rfl, rfl, trivial⟩), 0, _, _, _, _, _, _, rfl, rfl, hh, by omega, rfl⟩
      · rintro k st w17 ⟨i, ii, x0, x1, x2, x3, x4, rfl, hii, hh, hi1, rfl⟩
        refine Wp.seq ?_
        refine Wp.region [0] (by kernel_rfl) (by kernel_rfl) ?_
        refine p_lss rfl rfl rfl rfl rfl (fun h37 => ?_) (fun h37 => ?_)
        · have ok0 := hAt_in M (l.length / 64 + i)
          rw [hh] at ok0
          obtain ⟨Y, hY⟩ : ∃ Y, addF (x0, x1, x2, x3, x4) (rnds (wf ((bytesF 128 F).drop (64 * i)) 0 64) 80 (x0, x1, x2, x3, x4)) = Y := ⟨_, rfl⟩
          obtain ⟨y0, y1, y2, y3, y4⟩ := Y
          refine vOrd_nil ?_
          refine Wp.seq ?_
          refine Wp.condT rfl rfl ?_
          refine Wp.skip ?_
          refine Wp.seq ?_
          refine Wp.block ?_
          refine Wp.seq ?_
          refine Wp.region [0, 1] (by kernel_rfl) (by kernel_rfl) ?_
          refine s_move rfl rfl rfl rfl ?_
          refine s_assign rfl rfl rfl rfl ?_
          refine vOrd_nil ?_
          refine Wp.var (h := 6) rfl (fun v6 => ?_)
          rw [rowB_bytes hFb] at v6
          refine (Wp.drawn (by kernel_rfl) (by kernel_rfl) [0, 1, 2, 3, 4, 5, 6] [30, 0, 0, 0, 0, 0, 0] (by kernel_rfl) (by kernel_rfl) (fun | 4 => fun v _ => v = .agg (rowW (wf ((bytesF 128 F).drop (64 * i)) 0 64)).toArray | 5 => fun v _ => v = .agg #[.int .u32 y0, .int .u32 y1, .int .u32 y2, .int .u32 y3, .int .u32 y4] | _ => fun _ _ => True) (fun _ _ => ?_))
          refine s_load rfl rfl rfl rfl rfl rfl rfl ?_
          refine s_move rfl rfl rfl rfl ?_
          refine a_mul (-9223372036854775808) 9223372036854775807 (by decide) rfl rfl rfl rfl rfl (by omega) (by omega) ?_
          refine s_sliceF rfl rfl rfl rfl rfl rfl rfl (by omega) (by omega) ?_
          rw [show (ii * 64).toNat = 64 * i by omega]
          refine s_callD rfl rfl rfl (by kernel_rfl) rfl (fun wc lc => read_any (w := wc) (bytes_off (T := bytesF 128 F) (by repeat (first | exact v6 | refine Var.later ?_ (by assumption))) (by rw [bytesF_len]; omega) (by rw [bytesF_len]) (by omega)) (by rw [List.length_drop, bytesF_len]; omega)) ?_
          rintro v w20 u20 rfl lw20 mw20
          refine s_callD rfl rfl rfl (by kernel_rfl) rfl (fun wc lc => mix_any ok0 (wf_in _ _ _) wc hY) ?_
          rintro v w21 u21 rfl lw21 mw21
          refine s_store rfl rfl rfl rfl rfl rfl rfl (fun w22 sw22 vw22 => ?_)
          refine vOrd_nil ?_
          refine Wp.region [0, 1] (by kernel_rfl) (by kernel_rfl) ?_
          refine a_add (-9223372036854775808) 9223372036854775807 (by decide) rfl rfl rfl rfl rfl (by omega) (by omega) ?_
          refine s_move rfl rfl rfl rfl ?_
          refine vOrd_nil ?_
          have ew := tail_pad (l := l) (i := i) (by rw [hK]; omega)
          rw [hF, hM] at ew
          have hnx : hAt M (l.length / 64 + (i + 1)) = (y0, y1, y2, y3, y4) := by rw [← Nat.add_assoc, hAt, hh, blk, ← ew, hY]
          exact ⟨_, _, by omega, (St.of_le' (env := [(2, .p 2 _ 0), (3, .p 3 _ 0), (6, .p 6 _ 0), (35, .v _), (36, .v _)]) (mem := [(2, _, [_, _, _, _, _]), (3, _, [_, _, _, _, _]), (6, _, _)]) ⟨rfl, rfl, rfl, rfl, rfl, trivial⟩ ⟨rfl, rfl, rfl, trivial⟩), i + 1, _, _, _, _, _, _, rfl, by omega, hnx, by omega, rfl⟩
        · have hi2 : i = K := by omega
          subst hi2
          refine vOrd_nil ?_
          refine Wp.seq ?_
          refine Wp.condF rfl rfl ?_
          refine Wp.exit ?_
          refine Wp.seq ?_
          refine Wp.region [0, 1] (by kernel_rfl) (by kernel_rfl) ?_
          refine s_load rfl rfl rfl rfl rfl rfl rfl ?_
          refine s_store rfl rfl rfl rfl rfl rfl rfl (fun w23 sw23 vw23 => ?_)
          refine vOrd_nil ?_
          refine Wp.ret ⟨.inr rfl, fun lW => ⟨_, res_cell rfl rfl rfl rfl, _, rfl, ?_, lW⟩⟩
          clear lW
          rw [← wordsV_eq, show shaF l = (x0, x1, x2, x3, x4) by unfold shaF; rw [pad_blocks', hK, hM]; exact hh]
          rfl
end Go.Proofs.YthjgilocbfhffaaDoor
