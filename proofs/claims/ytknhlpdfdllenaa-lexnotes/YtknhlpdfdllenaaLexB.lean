/-
  The walks of the laws LexScans, LexNotes and LexData of layer 10, and what they share. Of lines of no more than 2^63 - 1 bytes, notes of no more than 2^47.
-/
import Derived.Test.YtknhlpdfdllenaaLexT
import Derived.Test.YtknhlpdfdllenaaLexL
import Derived.Test.YtknhlpdfdllenaaLexQ
namespace Go.Proofs.Ytknhlpdfdllenaa
open Go.RowKit
set_option maxRecDepth 100000

theorem run_eql_words (v0 v1 v2 v3 v4 : Int) (w : World) : (Op.equalIn 9999 23 (.agg #[.int .u32 v0, .int .u32 v1, .int .u32 v2, .int .u32 v3, .int .u32 v4]) (.agg #[.int .u32 v0, .int .u32 v1, .int .u32 v2, .int .u32 v3, .int .u32 v4])).run Try.prog w = .ok true w :=
  run_eql_ints (P := Try.prog) (t := 23) (e := 22) (len := 5) (d := 9997) (k := .u32) rfl rfl rfl rfl (fun i hi => by
    match i, hi with
    | 0, _ => exact ⟨v0, rfl⟩
    | 1, _ => exact ⟨v1, rfl⟩
    | 2, _ => exact ⟨v2, rfl⟩
    | 3, _ => exact ⟨v3, rfl⟩
    | 4, _ => exact ⟨v4, rfl⟩) w
theorem run_eql_ws (v0 v1 v2 v3 v4 : Int) (w : World) : (binOp .eql 23 (.agg #[.int .u32 v0, .int .u32 v1, .int .u32 v2, .int .u32 v3, .int .u32 v4]) (.agg #[.int .u32 v0, .int .u32 v1, .int .u32 v2, .int .u32 v3, .int .u32 v4])).run Try.prog w = .ok (.bool true) w := by
  have h := run_eql_ints (P := Try.prog) (t := 23) (e := 22) (len := 5) (d := 9998) (k := .u32) (xs := #[.int .u32 v0, .int .u32 v1, .int .u32 v2, .int .u32 v3, .int .u32 v4]) rfl rfl rfl rfl (fun i hi => by
    match i, hi with
    | 0, _ => exact ⟨v0, rfl⟩
    | 1, _ => exact ⟨v1, rfl⟩
    | 2, _ => exact ⟨v2, rfl⟩
    | 3, _ => exact ⟨v3, rfl⟩
    | 4, _ => exact ⟨v4, rfl⟩) w
  show (do pure (.bool (← Op.equal 23 (.agg #[.int .u32 v0, .int .u32 v1, .int .u32 v2, .int .u32 v3, .int .u32 v4]) (.agg #[.int .u32 v0, .int .u32 v1, .int .u32 v2, .int .u32 v3, .int .u32 v4]))) : Sem Value).run Try.prog w = _
  simp only [Op.equal, Op.maxDepth, Sem.run_bind]
  rw [h]
  rfl
theorem run_eql_line (k a b v0 v1 v2 v3 v4 : Int) (w : World) : (binOp .eql 25 (.agg (lineC k a b [v0, v1, v2, v3, v4]).toArray) (.agg (lineC k a b [v0, v1, v2, v3, v4]).toArray)).run Try.prog w = .ok (.bool true) w := by
  have hw := run_eql_words v0 v1 v2 v3 v4
  have hi : ∀ (n : Int) (w : World), (Op.equalIn 9999 3 (.int .i64 n) (.int .i64 n)).run Try.prog w = .ok true w := fun n w => by rw [run_equalIn_int w 9998 3 .i64 .i64 n n rfl]; simp
  show (do pure (.bool (← Op.equal 25 (.agg (lineC k a b [v0, v1, v2, v3, v4]).toArray) (.agg (lineC k a b [v0, v1, v2, v3, v4]).toArray))) : Sem Value).run Try.prog w = _
  simp only [Op.equal, Op.maxDepth, Sem.run_bind]
  rw [run_equalIn_struct (P := Try.prog) w 9999 25 _ _ (by kernel_rfl) (by kernel_rfl)]
  have hk : ∀ w, (Op.eqFields 9999 (lineC k a b [v0, v1, v2, v3, v4]).toArray (lineC k a b [v0, v1, v2, v3, v4]).toArray (Try.prog.fieldsOf 25).toList).run Try.prog w = .ok true w := fun w => by
    have e : (Try.prog.fieldsOf 25).toList = [⟨ "Kind", 3, 0, false, "", "", 0⟩, ⟨ "A", 3, 1, false, "", "", 8⟩, ⟨ "B", 3, 2, false, "", "", 16⟩, ⟨ "Words", 23, 3, false, "", "", 24⟩] := by kernel_rfl
    rw [e]
    simp only [Op.eqFields]
    simp [hi, hw, part, isAgg, run_underlying, lineC]
  rw [hk]
  rfl
theorem same_any (k a b v0 v1 v2 v3 v4 : Int) (w : World) :
    Calls Try.prog 11 #[.agg (lineC k a b [v0, v1, v2, v3, v4]).toArray, .agg (lineC k a b [v0, v1, v2, v3, v4]).toArray] w fun e w' => ∃ r, e = .returned r ∧ r = .bool true ∧ Below w.heap.size w w' := by
  refine calls_Wp (args := [_, _]) (n := 31) Try.func11 rfl rfl (by simp) ?_
  refine Wp.seq ?_
  refine Wp.region [0, 1, 2] (by kernel_rfl) (by kernel_rfl) ?_
  refine s_box rfl rfl rfl rfl rfl rfl (fun bk1 w1 kb1 lw1 => ?_)
  refine s_box rfl rfl rfl rfl rfl rfl (fun bk2 w2 kb2 lw2 => ?_)
  refine s_assign rfl rfl rfl rfl ?_
  refine vOrd_nil ?_
  refine Wp.seq ?_
  refine Wp.region [0, 1, 2, 3, 4, 5, 6, 7, 8, 9, 10, 11, 12, 13, 14, 15, 16, 17, 18, 19, 20, 21, 22, 23, 24, 25, 26] (by kernel_rfl) (by kernel_rfl) ?_
  refine s_field 0 rfl rfl rfl rfl rfl ?_
  refine s_load rfl rfl rfl rfl rfl rfl rfl ?_
  refine s_field 0 rfl rfl rfl rfl rfl ?_
  refine s_load rfl rfl rfl rfl rfl rfl rfl ?_
  refine t_eql rfl rfl rfl rfl rfl (by omega) ?_
  refine s_move rfl rfl rfl rfl ?_
  refine s_field 1 rfl rfl rfl rfl rfl ?_
  refine s_load rfl rfl rfl rfl rfl rfl rfl ?_
  refine s_field 1 rfl rfl rfl rfl rfl ?_
  refine s_load rfl rfl rfl rfl rfl rfl rfl ?_
  refine t_eql rfl rfl rfl rfl rfl (by omega) ?_
  refine s_pick rfl rfl rfl rfl rfl ?_
  refine s_move rfl rfl rfl rfl ?_
  refine s_field 2 rfl rfl rfl rfl rfl ?_
  refine s_load rfl rfl rfl rfl rfl rfl rfl ?_
  refine s_field 2 rfl rfl rfl rfl rfl ?_
  refine s_load rfl rfl rfl rfl rfl rfl rfl ?_
  refine t_eql rfl rfl rfl rfl rfl (by omega) ?_
  refine s_pick rfl rfl rfl rfl rfl ?_
  refine s_move rfl rfl rfl rfl ?_
  refine s_field 3 rfl rfl rfl rfl rfl ?_
  refine s_load rfl rfl rfl rfl rfl rfl rfl ?_
  refine s_field 3 rfl rfl rfl rfl rfl ?_
  refine s_load rfl rfl rfl rfl rfl rfl rfl ?_
  refine s_eqv (c := true) rfl rfl rfl rfl rfl (fun _ => by kernel_rfl) (fun w => run_eql_ws v0 v1 v2 v3 v4 w) ?_
  refine s_pick rfl rfl rfl rfl rfl ?_
  refine s_assign rfl rfl rfl rfl ?_
  refine vOrd_nil ?_
  refine Wp.ret ⟨.inr rfl, fun lW => ⟨_, res_tmp (P := Try.prog) rfl rfl, _, rfl, ?_, lW⟩⟩
  clear lW
  rfl
theorem answers_any (w : World) :
    Calls Try.prog 10 #[] w fun e w' => ∃ r, e = .returned r ∧ r = .bool true ∧ Below w.heap.size w w' := by
  refine calls_Wp (args := []) (n := 57) Try.func10 rfl rfl (by simp) ?_
  refine Wp.seq ?_
  refine Wp.region [0] (by kernel_rfl) (by kernel_rfl) ?_
  refine s_assign rfl rfl rfl rfl ?_
  refine vOrd_nil ?_
  refine Wp.seq ?_
  refine Wp.region [0, 1, 2, 3, 4, 5, 6] (by kernel_rfl) (by kernel_rfl) ?_
  refine s_callT rfl rfl rfl (by kernel_rfl) rfl (scan_any [35, 36, 9, 51, 54, 55, 54, 57, 50, 52, 56, 48, 48] (by decide) _) ?_
  rintro v w1 rfl lw1
  rw [show scanL [35, 36, 9, 51, 54, 55, 54, 57, 50, 52, 56, 48, 48] = some (lineC 2 3676924800 0 z5) by kernel_rfl]
  refine s_move rfl rfl rfl rfl ?_
  refine s_extract rfl rfl rfl rfl rfl ?_
  refine s_extract rfl rfl rfl rfl rfl ?_
  refine s_alloc rfl rfl rfl rfl rfl (fun bk2 w2 kb2 lw2 => ?_)
  refine s_store rfl rfl rfl rfl rfl rfl rfl (fun w3 sw3 vw3 => ?_)
  refine s_assign rfl rfl rfl rfl ?_
  refine vOrd_nil ?_
  refine Wp.seq ?_
  refine Wp.region [0, 1, 2, 3, 4, 5, 6] (by kernel_rfl) (by kernel_rfl) ?_
  refine s_callT rfl rfl rfl (by kernel_rfl) rfl (scan_any [50, 50, 55, 50, 48, 54, 48, 56, 48, 48, 32, 49, 48, 9, 35, 32, 49, 32, 74, 97, 110, 32, 49, 57, 55, 50] (by decide) _) ?_
  rintro v w4 rfl lw4
  rw [show scanL [50, 50, 55, 50, 48, 54, 48, 56, 48, 48, 32, 49, 48, 9, 35, 32, 49, 32, 74, 97, 110, 32, 49, 57, 55, 50] = some (lineC 5 2272060800 10 z5) by kernel_rfl]
  refine s_move rfl rfl rfl rfl ?_
  refine s_extract rfl rfl rfl rfl rfl ?_
  refine s_extract rfl rfl rfl rfl rfl ?_
  refine s_alloc rfl rfl rfl rfl rfl (fun bk5 w5 kb5 lw5 => ?_)
  refine s_store rfl rfl rfl rfl rfl rfl rfl (fun w6 sw6 vw6 => ?_)
  refine s_assign rfl rfl rfl rfl ?_
  refine vOrd_nil ?_
  refine Wp.seq ?_
  refine Wp.region [0, 1, 2, 3, 4, 5, 6] (by kernel_rfl) (by kernel_rfl) ?_
  refine s_callT rfl rfl rfl (by kernel_rfl) rfl (scan_any [35, 104, 101, 108, 108, 111] (by decide) _) ?_
  rintro v w7 rfl lw7
  rw [show scanL [35, 104, 101, 108, 108, 111] = none by kernel_rfl]
  refine s_move rfl rfl rfl rfl ?_
  refine s_extract rfl rfl rfl rfl rfl ?_
  refine s_extract rfl rfl rfl rfl rfl ?_
  refine s_alloc rfl rfl rfl rfl rfl (fun bk8 w8 kb8 lw8 => ?_)
  refine s_store rfl rfl rfl rfl rfl rfl rfl (fun w9 sw9 vw9 => ?_)
  refine s_assign rfl rfl rfl rfl ?_
  refine vOrd_nil ?_
  refine Wp.seq ?_
  refine Wp.region [0, 1, 2, 3, 4, 5, 6, 7, 8, 9, 10, 11, 12, 13, 14, 15, 16, 17, 18, 19, 20, 21, 22, 23, 24, 25, 26, 27, 28, 29, 30, 31, 32, 33, 34, 35, 36, 37, 38] (by kernel_rfl) (by kernel_rfl) ?_
  refine s_move rfl rfl rfl rfl ?_
  refine s_move rfl rfl rfl rfl ?_
  refine s_field 0 rfl rfl rfl rfl rfl ?_
  refine s_load rfl rfl rfl rfl rfl rfl rfl ?_
  refine t_eql rfl rfl rfl rfl rfl (by omega) ?_
  refine s_pick rfl rfl rfl rfl rfl ?_
  refine s_move rfl rfl rfl rfl ?_
  refine s_field 1 rfl rfl rfl rfl rfl ?_
  refine s_load rfl rfl rfl rfl rfl rfl rfl ?_
  refine t_eql rfl rfl rfl rfl rfl (by omega) ?_
  refine s_pick rfl rfl rfl rfl rfl ?_
  refine s_move rfl rfl rfl rfl ?_
  refine s_move rfl rfl rfl rfl ?_
  refine s_pick rfl rfl rfl rfl rfl ?_
  refine s_move rfl rfl rfl rfl ?_
  refine s_field 0 rfl rfl rfl rfl rfl ?_
  refine s_load rfl rfl rfl rfl rfl rfl rfl ?_
  refine t_eql rfl rfl rfl rfl rfl (by omega) ?_
  refine s_pick rfl rfl rfl rfl rfl ?_
  refine s_move rfl rfl rfl rfl ?_
  refine s_field 1 rfl rfl rfl rfl rfl ?_
  refine s_load rfl rfl rfl rfl rfl rfl rfl ?_
  refine t_eql rfl rfl rfl rfl rfl (by omega) ?_
  refine s_pick rfl rfl rfl rfl rfl ?_
  refine s_move rfl rfl rfl rfl ?_
  refine s_field 2 rfl rfl rfl rfl rfl ?_
  refine s_load rfl rfl rfl rfl rfl rfl rfl ?_
  refine t_eql rfl rfl rfl rfl rfl (by omega) ?_
  refine s_pick rfl rfl rfl rfl rfl ?_
  refine s_move rfl rfl rfl rfl ?_
  refine s_move rfl rfl rfl rfl ?_
  refine s_not rfl rfl rfl rfl ?_
  refine s_pick rfl rfl rfl rfl rfl ?_
  refine s_move rfl rfl rfl rfl ?_
  refine s_callT rfl rfl rfl (by kernel_rfl) rfl (lines_any [97, 10, 10, 98] (by decide) _) ?_
  rintro v w10 hown lw10
  obtain ⟨sa, sc, rfl⟩ := own_slice hown
  refine x_len rfl rfl rfl rfl rfl ?_
  refine t_eql rfl rfl rfl rfl rfl (by decide) ?_
  refine s_pick rfl rfl rfl rfl rfl ?_
  refine s_assign rfl rfl rfl rfl ?_
  refine vOrd_nil ?_
  refine Wp.ret ⟨.inr rfl, fun lW => ⟨_, res_tmp (P := Try.prog) rfl rfl, _, rfl, ?_, lW⟩⟩
  clear lW
  rfl
theorem law_scans (l : List UInt8) (hl : l.length ≤ 9223372036854775807) (w : World) :
    Calls Try.prog 3 #[.string ⟨⟨l⟩⟩] w fun e w' => ∃ r, e = .returned r ∧ r = .bool true ∧ Below w.heap.size w w' := by
  cases hX : scanL l with
  | none =>
    refine calls_Wp (args := [_]) (n := 38) Try.func3 rfl rfl (by simp) ?_
    refine Wp.seq ?_
    refine Wp.region [0] (by kernel_rfl) (by kernel_rfl) ?_
    refine s_assign rfl rfl rfl rfl ?_
    refine vOrd_nil ?_
    refine Wp.seq ?_
    refine Wp.region [0, 1, 2, 3, 4, 5, 6, 7] (by kernel_rfl) (by kernel_rfl) ?_
    refine s_move rfl rfl rfl rfl ?_
    refine s_callT rfl rfl rfl (by kernel_rfl) rfl (scan_any l hl _) ?_
    rintro v w1 rfl lw1
    rw [hX]
    refine s_move rfl rfl rfl rfl ?_
    refine s_extract rfl rfl rfl rfl rfl ?_
    refine s_extract rfl rfl rfl rfl rfl ?_
    refine s_alloc rfl rfl rfl rfl rfl (fun bk2 w2 kb2 lw2 => ?_)
    refine s_store rfl rfl rfl rfl rfl rfl rfl (fun w3 sw3 vw3 => ?_)
    refine s_assign rfl rfl rfl rfl ?_
    refine vOrd_nil ?_
    refine Wp.seq ?_
    refine Wp.region [0, 1, 2, 3, 4, 5, 6, 7] (by kernel_rfl) (by kernel_rfl) ?_
    refine s_move rfl rfl rfl rfl ?_
    refine s_callT rfl rfl rfl (by kernel_rfl) rfl (refscan_any l hl _) ?_
    rintro v w4 ⟨cs, ok, rfl, hok, hcs, x0, x1, x2, y0, y1, y2, y3, y4, rfl⟩ lw4
    rw [hX] at hok
    subst hok
    refine s_move rfl rfl rfl rfl ?_
    refine s_extract rfl rfl rfl rfl rfl ?_
    refine s_extract rfl rfl rfl rfl rfl ?_
    refine s_alloc rfl rfl rfl rfl rfl (fun bk5 w5 kb5 lw5 => ?_)
    refine s_store rfl rfl rfl rfl rfl rfl rfl (fun w6 sw6 vw6 => ?_)
    refine s_assign rfl rfl rfl rfl ?_
    refine vOrd_nil ?_
    refine Wp.seq ?_
    refine Wp.seq ?_
    refine Wp.region [0, 1] (by kernel_rfl) (by kernel_rfl) ?_
    refine s_move rfl rfl rfl rfl ?_
    refine s_not rfl rfl rfl rfl ?_
    refine vOrd_nil ?_
    refine Wp.condT rfl rfl ?_
    refine Wp.seq ?_
    refine Wp.region [0, 1, 2, 3, 4, 5, 6, 7, 8, 9, 10] (by kernel_rfl) (by kernel_rfl) ?_
    refine s_callT rfl rfl rfl (by kernel_rfl) rfl (answers_any _) ?_
    rintro v w7 rfl lw7
    refine s_move rfl rfl rfl rfl ?_
    refine s_move rfl rfl rfl rfl ?_
    refine s_not rfl rfl rfl rfl ?_
    refine s_pick rfl rfl rfl rfl rfl ?_
    refine s_move rfl rfl rfl rfl ?_
    refine s_load rfl rfl rfl rfl rfl rfl rfl ?_
    refine s_build rfl rfl rfl rfl rfl (by kernel_rfl) ?_
    refine s_eqv (c := true) rfl rfl rfl rfl rfl (fun _ => by kernel_rfl) (fun w => run_eql_line 0 0 0 0 0 0 0 0 w) ?_
    refine s_pick rfl rfl rfl rfl rfl ?_
    refine s_assign rfl rfl rfl rfl ?_
    refine vOrd_nil ?_
    refine Wp.ret ⟨.inr rfl, fun lW => ⟨_, res_tmp (P := Try.prog) rfl rfl, _, rfl, ?_, lW⟩⟩
    clear lW
    rfl
  | some cs0 =>
    obtain ⟨k, a, b, v0, v1, v2, v3, v4, rfl⟩ := scanL_form hX
    refine calls_Wp (args := [_]) (n := 38) Try.func3 rfl rfl (by simp) ?_
    refine Wp.seq ?_
    refine Wp.region [0] (by kernel_rfl) (by kernel_rfl) ?_
    refine s_assign rfl rfl rfl rfl ?_
    refine vOrd_nil ?_
    refine Wp.seq ?_
    refine Wp.region [0, 1, 2, 3, 4, 5, 6, 7] (by kernel_rfl) (by kernel_rfl) ?_
    refine s_move rfl rfl rfl rfl ?_
    refine s_callT rfl rfl rfl (by kernel_rfl) rfl (scan_any l hl _) ?_
    rintro v w1 rfl lw1
    rw [hX]
    refine s_move rfl rfl rfl rfl ?_
    refine s_extract rfl rfl rfl rfl rfl ?_
    refine s_extract rfl rfl rfl rfl rfl ?_
    refine s_alloc rfl rfl rfl rfl rfl (fun bk2 w2 kb2 lw2 => ?_)
    refine s_store rfl rfl rfl rfl rfl rfl rfl (fun w3 sw3 vw3 => ?_)
    refine s_assign rfl rfl rfl rfl ?_
    refine vOrd_nil ?_
    refine Wp.seq ?_
    refine Wp.region [0, 1, 2, 3, 4, 5, 6, 7] (by kernel_rfl) (by kernel_rfl) ?_
    refine s_move rfl rfl rfl rfl ?_
    refine s_callT rfl rfl rfl (by kernel_rfl) rfl (refscan_any l hl _) ?_
    rintro v w4 ⟨cs, ok, rfl, hok, hcs, _⟩ lw4
    rw [hX] at hok hcs
    subst hok
    have hcs := hcs rfl
    rw [Option.some.injEq] at hcs
    subst hcs
    refine s_move rfl rfl rfl rfl ?_
    refine s_extract rfl rfl rfl rfl rfl ?_
    refine s_extract rfl rfl rfl rfl rfl ?_
    refine s_alloc rfl rfl rfl rfl rfl (fun bk5 w5 kb5 lw5 => ?_)
    refine s_store rfl rfl rfl rfl rfl rfl rfl (fun w6 sw6 vw6 => ?_)
    refine s_assign rfl rfl rfl rfl ?_
    refine vOrd_nil ?_
    refine Wp.seq ?_
    refine Wp.seq ?_
    refine Wp.region [0, 1] (by kernel_rfl) (by kernel_rfl) ?_
    refine s_move rfl rfl rfl rfl ?_
    refine s_not rfl rfl rfl rfl ?_
    refine vOrd_nil ?_
    refine Wp.condF rfl rfl ?_
    refine Wp.skip ?_
    refine Wp.seq ?_
    refine Wp.region [0, 1, 2, 3, 4, 5, 6, 7, 8, 9] (by kernel_rfl) (by kernel_rfl) ?_
    refine s_callT rfl rfl rfl (by kernel_rfl) rfl (answers_any _) ?_
    rintro v w7 rfl lw7
    refine s_move rfl rfl rfl rfl ?_
    refine s_move rfl rfl rfl rfl ?_
    refine s_pick rfl rfl rfl rfl rfl ?_
    refine s_move rfl rfl rfl rfl ?_
    refine s_load rfl rfl rfl rfl rfl rfl rfl ?_
    refine s_load rfl rfl rfl rfl rfl rfl rfl ?_
    refine s_callT rfl rfl rfl (by kernel_rfl) rfl (same_any k a b v0 v1 v2 v3 v4 _) ?_
    rintro v w8 rfl lw8
    refine s_pick rfl rfl rfl rfl rfl ?_
    refine s_assign rfl rfl rfl rfl ?_
    refine vOrd_nil ?_
    refine Wp.ret ⟨.inr rfl, fun lW => ⟨_, res_tmp (P := Try.prog) rfl rfl, _, rfl, ?_, lW⟩⟩
    clear lW
    rfl
theorem scan_notes (l : List UInt8) : scanL ([35, 32] ++ l) = some (lineC 1 0 0 z5) := by
  have h1 : aB ([35, 32] ++ l) = [35, 32] ++ l := rfl
  unfold scanL
  rw [if_neg (by rw [h1]; simp), if_neg (by simp), if_neg (by simp), if_neg (by simp), if_pos (by rfl)]
theorem law_notes (l : List UInt8) (hl : l.length ≤ 140737488355328) (w : World) :
    Calls Try.prog 7 #[.string ⟨⟨l⟩⟩] w fun e w' => ∃ r, e = .returned r ∧ r = .bool true ∧ Below w.heap.size w w' := by
  refine calls_Wp (args := [_]) (n := 20) Try.func7 rfl rfl (by simp) ?_
  refine Wp.seq ?_
  refine Wp.region [0] (by kernel_rfl) (by kernel_rfl) ?_
  refine s_assign rfl rfl rfl rfl ?_
  refine vOrd_nil ?_
  refine Wp.seq ?_
  refine Wp.region [0, 1, 2, 3, 4, 5, 6, 7, 8] (by kernel_rfl) (by kernel_rfl) ?_
  refine s_move rfl rfl rfl rfl ?_
  refine b_cat rfl rfl rfl rfl rfl (by simp; omega) ?_
  refine s_callT rfl rfl rfl (by kernel_rfl) rfl (scan_any ([35, 32] ++ l) (by simp; omega) _) ?_
  rintro v w1 rfl lw1
  rw [scan_notes l]
  refine s_move rfl rfl rfl rfl ?_
  refine s_extract rfl rfl rfl rfl rfl ?_
  refine s_extract rfl rfl rfl rfl rfl ?_
  refine s_alloc rfl rfl rfl rfl rfl (fun bk2 w2 kb2 lw2 => ?_)
  refine s_store rfl rfl rfl rfl rfl rfl rfl (fun w3 sw3 vw3 => ?_)
  refine s_assign rfl rfl rfl rfl ?_
  refine vOrd_nil ?_
  refine Wp.seq ?_
  refine Wp.region [0, 1, 2, 3, 4, 5, 6, 7, 8, 9] (by kernel_rfl) (by kernel_rfl) ?_
  refine s_callT rfl rfl rfl (by kernel_rfl) rfl (answers_any _) ?_
  rintro v w4 rfl lw4
  refine s_move rfl rfl rfl rfl ?_
  refine s_move rfl rfl rfl rfl ?_
  refine s_pick rfl rfl rfl rfl rfl ?_
  refine s_move rfl rfl rfl rfl ?_
  refine s_load rfl rfl rfl rfl rfl rfl rfl ?_
  refine s_build rfl rfl rfl rfl rfl (by kernel_rfl) ?_
  refine s_eqv (c := true) rfl rfl rfl rfl rfl (fun _ => by kernel_rfl) (fun w => run_eql_line 1 0 0 0 0 0 0 0 w) ?_
  refine s_pick rfl rfl rfl rfl rfl ?_
  refine s_assign rfl rfl rfl rfl ?_
  refine vOrd_nil ?_
  refine Wp.ret ⟨.inr rfl, fun lW => ⟨_, res_tmp (P := Try.prog) rfl rfl, _, rfl, ?_, lW⟩⟩
  clear lW
  rfl
end Go.Proofs.Ytknhlpdfdllenaa
