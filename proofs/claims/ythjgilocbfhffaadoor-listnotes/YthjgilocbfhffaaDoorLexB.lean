/-
  The walks of the laws LexScans, LexNotes and LexData of layer 10, and what they share. Of lines of no more than 2^63 - 1 bytes, notes of no more than 2^47.
-/
import Derived.Test.YthjgilocbfhffaaDoorLexT
import Derived.Test.YthjgilocbfhffaaDoorLexL
import Derived.Test.YthjgilocbfhffaaDoorLexQ
namespace Go.Proofs.YthjgilocbfhffaaDoor
open Go.RowKit
set_option maxRecDepth 100000

theorem run_eql_words (v0 v1 v2 v3 v4 : Int) (w : World) : (Op.equalIn 9999 50 (.agg #[.int .u32 v0, .int .u32 v1, .int .u32 v2, .int .u32 v3, .int .u32 v4]) (.agg #[.int .u32 v0, .int .u32 v1, .int .u32 v2, .int .u32 v3, .int .u32 v4])).run Tryd.prog w = .ok true w :=
  run_eql_ints (P := Tryd.prog) (t := 50) (e := 49) (len := 5) (d := 9997) (k := .u32) rfl rfl rfl rfl (fun i hi => by
    match i, hi with
    | 0, _ => exact ⟨v0, rfl⟩
    | 1, _ => exact ⟨v1, rfl⟩
    | 2, _ => exact ⟨v2, rfl⟩
    | 3, _ => exact ⟨v3, rfl⟩
    | 4, _ => exact ⟨v4, rfl⟩) w
theorem run_eql_ws (v0 v1 v2 v3 v4 : Int) (w : World) : (binOp .eql 50 (.agg #[.int .u32 v0, .int .u32 v1, .int .u32 v2, .int .u32 v3, .int .u32 v4]) (.agg #[.int .u32 v0, .int .u32 v1, .int .u32 v2, .int .u32 v3, .int .u32 v4])).run Tryd.prog w = .ok (.bool true) w := by
  have h := run_eql_ints (P := Tryd.prog) (t := 50) (e := 49) (len := 5) (d := 9998) (k := .u32) (xs := #[.int .u32 v0, .int .u32 v1, .int .u32 v2, .int .u32 v3, .int .u32 v4]) rfl rfl rfl rfl (fun i hi => by
    match i, hi with
    | 0, _ => exact ⟨v0, rfl⟩
    | 1, _ => exact ⟨v1, rfl⟩
    | 2, _ => exact ⟨v2, rfl⟩
    | 3, _ => exact ⟨v3, rfl⟩
    | 4, _ => exact ⟨v4, rfl⟩) w
  show (do pure (.bool (← Op.equal 50 (.agg #[.int .u32 v0, .int .u32 v1, .int .u32 v2, .int .u32 v3, .int .u32 v4]) (.agg #[.int .u32 v0, .int .u32 v1, .int .u32 v2, .int .u32 v3, .int .u32 v4]))) : Sem Value).run Tryd.prog w = _
  simp only [Op.equal, Op.maxDepth, Sem.run_bind]
  rw [h]
  rfl
theorem run_eql_line (k a b v0 v1 v2 v3 v4 : Int) (w : World) : (binOp .eql 75 (.agg (lineC k a b [v0, v1, v2, v3, v4]).toArray) (.agg (lineC k a b [v0, v1, v2, v3, v4]).toArray)).run Tryd.prog w = .ok (.bool true) w := by
  have hw := run_eql_words v0 v1 v2 v3 v4
  have hi : ∀ (n : Int) (w : World), (Op.equalIn 9999 3 (.int .i64 n) (.int .i64 n)).run Tryd.prog w = .ok true w := fun n w => by rw [run_equalIn_int w 9998 3 .i64 .i64 n n rfl]; simp
  show (do pure (.bool (← Op.equal 75 (.agg (lineC k a b [v0, v1, v2, v3, v4]).toArray) (.agg (lineC k a b [v0, v1, v2, v3, v4]).toArray))) : Sem Value).run Tryd.prog w = _
  simp only [Op.equal, Op.maxDepth, Sem.run_bind]
  rw [run_equalIn_struct (P := Tryd.prog) w 9999 75 _ _ (by kernel_rfl) (by kernel_rfl)]
  have hk : ∀ w, (Op.eqFields 9999 (lineC k a b [v0, v1, v2, v3, v4]).toArray (lineC k a b [v0, v1, v2, v3, v4]).toArray (Tryd.prog.fieldsOf 75).toList).run Tryd.prog w = .ok true w := fun w => by
    have e : (Tryd.prog.fieldsOf 75).toList = [⟨ "Kind", 3, 0, false, "", "", 0⟩, ⟨ "A", 3, 1, false, "", "", 8⟩, ⟨ "B", 3, 2, false, "", "", 16⟩, ⟨ "Words", 50, 3, false, "", "", 24⟩] := by kernel_rfl
    rw [e]
    simp only [Op.eqFields]
    simp [hi, hw, part, isAgg, run_underlying, lineC]
  rw [hk]
  rfl
theorem scan_notes (l : List UInt8) : scanL ([35, 32] ++ l) = some (lineC 1 0 0 z5) := by
  have h1 : aB ([35, 32] ++ l) = [35, 32] ++ l := rfl
  unfold scanL
  rw [if_neg (by rw [h1]; simp), if_neg (by simp), if_neg (by simp), if_neg (by simp), if_pos (by rfl)]
end Go.Proofs.YthjgilocbfhffaaDoor
