/-
  Times of day in plain numbers (wiB, isT, secOf), and the contracts of face's functions and of the reference's Time (P6.1, P6.2). No conditions.
-/
import Derived.Test.YtganhgafhhkepaaRows
import Derived.Test.YtganhgafhhkepaaVcX
namespace Go.Proofs.Ytganhgafhhkepaa
open Go.RowKit
set_option maxRecDepth 100000

def wiB (n l : Int) : Bool := decide (0 ≤ n ∧ n ≤ l)
theorem wiB_iff {n l : Int} : wiB n l = true ↔ 0 ≤ n ∧ n ≤ l := by unfold wiB; exact decide_eq_true_iff
theorem wiB_no {n l : Int} : wiB n l = false ↔ ¬ (0 ≤ n ∧ n ≤ l) := by unfold wiB; exact decide_eq_false_iff_not
def lastS (h m : Int) : Int := if h = 23 ∧ m = 59 then 60 else 59
theorem lastS_yes {h m : Int} (x : h = 23) (y : m = 59) : lastS h m = 60 := if_pos ⟨x, y⟩
theorem lastS_no {h m : Int} (x : ¬ (h = 23 ∧ m = 59)) : lastS h m = 59 := if_neg x
theorem lastS_or (h m : Int) : (h = 23 ∧ m = 59 ∧ lastS h m = 60) ∨ (¬ (h = 23 ∧ m = 59) ∧ lastS h m = 59) := by
  by_cases c : h = 23 ∧ m = 59
  · exact .inl ⟨c.1, c.2, lastS_yes c.1 c.2⟩
  · exact .inr ⟨c, lastS_no c⟩
def isT (h m s a : Int) : Bool := decide (0 ≤ h ∧ h ≤ 23 ∧ 0 ≤ m ∧ m ≤ 59 ∧ 0 ≤ s ∧ s ≤ lastS h m ∧ 0 ≤ a ∧ a ≤ 999999999999999999)
theorem isT_iff {h m s a : Int} : isT h m s a = true ↔ 0 ≤ h ∧ h ≤ 23 ∧ 0 ≤ m ∧ m ≤ 59 ∧ 0 ≤ s ∧ s ≤ lastS h m ∧ 0 ≤ a ∧ a ≤ 999999999999999999 := by unfold isT; exact decide_eq_true_iff
theorem isT_no {h m s a : Int} : isT h m s a = false ↔ ¬ (0 ≤ h ∧ h ≤ 23 ∧ 0 ≤ m ∧ m ≤ 59 ∧ 0 ≤ s ∧ s ≤ lastS h m ∧ 0 ≤ a ∧ a ≤ 999999999999999999) := by unfold isT; exact decide_eq_false_iff_not
def eqT (a b c d x y z u : Int) : Bool := decide (a = x ∧ b = y ∧ c = z ∧ d = u)
theorem eqT_same (a b c d : Int) : eqT a b c d a b c d = true := by simp [eqT]
theorem run_eql_time (a b c d x y z u : Int) (w : World) : (binOp .eql 23 (.agg #[.int .i64 a, .int .i64 b, .int .i64 c, .int .i64 d]) (.agg #[.int .i64 x, .int .i64 y, .int .i64 z, .int .i64 u])).run Try.prog w = .ok (.bool (eqT a b c d x y z u)) w := by
  unfold eqT
  by_cases h1 : a = x <;> by_cases h2 : b = y <;> by_cases h3 : c = z <;> by_cases h4 : d = u <;> simp [go_sem, h1, h2, h3, h4]
theorem run_eqlB (a b : Bool) (w : World) : (binOp .eql 4 (.bool a) (.bool b)).run Try.prog w = .ok (.bool (a == b)) w := by
  cases a <;> cases b <;> simp [go_sem]

theorem within_any (n l : Int) (w : World) : Calls Try.prog 11 #[.int .i64 n, .int .i64 l] w fun e w' => ∃ r, e = .returned r ∧ r = .bool (wiB n l) ∧ Below w.heap.size w w' := by
  refine calls_Wp (args := [_, _]) (n := 12) Try.func11 rfl rfl (by simp) ?_
  refine Wp.seq ?_
  refine Wp.region [0] (by kernel_rfl) (by kernel_rfl) ?_
  refine s_assign rfl rfl rfl rfl ?_
  refine vOrd_nil ?_
  refine Wp.seq ?_
  refine Wp.region [0, 1, 2, 3, 4, 5, 6, 7] (by kernel_rfl) (by kernel_rfl) ?_
  refine s_move rfl rfl rfl rfl ?_
  refine p_geq rfl rfl rfl rfl rfl (fun h6 => ?_) (fun h6 => ?_)
  · refine s_move rfl rfl rfl rfl ?_
    refine s_move rfl rfl rfl rfl ?_
    refine s_move rfl rfl rfl rfl ?_
    refine p_leq rfl rfl rfl rfl rfl (fun h10 => ?_) (fun h10 => ?_)
    · refine s_pick rfl rfl rfl rfl rfl ?_
      refine s_assign rfl rfl rfl rfl ?_
      refine vOrd_nil ?_
      refine Wp.ret ⟨.inr rfl, fun lW => ⟨_, res_tmp (P := Try.prog) rfl rfl, _, rfl, ?_, lW⟩⟩
      clear lW
      rw [wiB_iff.2 (by omega)]
    · refine s_pick rfl rfl rfl rfl rfl ?_
      refine s_assign rfl rfl rfl rfl ?_
      refine vOrd_nil ?_
      refine Wp.ret ⟨.inr rfl, fun lW => ⟨_, res_tmp (P := Try.prog) rfl rfl, _, rfl, ?_, lW⟩⟩
      clear lW
      rw [wiB_no.2 (by omega)]
  · refine s_move rfl rfl rfl rfl ?_
    refine s_skip rfl rfl rfl ?_
    refine s_skip rfl rfl rfl ?_
    refine s_skip rfl rfl rfl ?_
    refine s_pick rfl rfl rfl rfl rfl ?_
    refine s_assign rfl rfl rfl rfl ?_
    refine vOrd_nil ?_
    refine Wp.ret ⟨.inr rfl, fun lW => ⟨_, res_tmp (P := Try.prog) rfl rfl, _, rfl, ?_, lW⟩⟩
    clear lW
    rw [wiB_no.2 (by omega)]
theorem lastSecond_any (h m s a : Int) (w : World) : Calls Try.prog 12 #[.agg #[.int .i64 h, .int .i64 m, .int .i64 s, .int .i64 a]] w fun e w' => ∃ r, e = .returned r ∧ r = .int .i64 (lastS h m) ∧ Below w.heap.size w w' := by
  refine calls_Wp (args := [_]) (n := 11) Try.func12 rfl rfl (by simp) ?_
  refine Wp.seq ?_
  refine Wp.region [0, 1] (by kernel_rfl) (by kernel_rfl) ?_
  refine s_box rfl rfl rfl rfl rfl rfl (fun bk1 w1 kb1 lw1 => ?_)
  refine s_assign rfl rfl rfl rfl ?_
  refine vOrd_nil ?_
  refine Wp.seq ?_
  refine Wp.seq ?_
  refine Wp.region [0, 1, 2, 3, 4, 5, 6, 7] (by kernel_rfl) (by kernel_rfl) ?_
  refine s_field 0 rfl rfl rfl rfl rfl ?_
  refine s_load rfl rfl rfl rfl rfl rfl rfl ?_
  refine p_eql rfl rfl rfl rfl rfl (fun h5 => ?_) (fun h5 => ?_)
  · refine s_move rfl rfl rfl rfl ?_
    refine s_field 1 rfl rfl rfl rfl rfl ?_
    refine s_load rfl rfl rfl rfl rfl rfl rfl ?_
    refine p_eql rfl rfl rfl rfl rfl (fun h9 => ?_) (fun h9 => ?_)
    · refine s_pick rfl rfl rfl rfl rfl ?_
      refine vOrd_nil ?_
      refine Wp.condT rfl rfl ?_
      refine Wp.seq ?_
      refine Wp.region [0] (by kernel_rfl) (by kernel_rfl) ?_
      refine s_assign rfl rfl rfl rfl ?_
      refine vOrd_nil ?_
      refine Wp.ret ⟨.inr rfl, fun lW => ⟨_, res_tmp (P := Try.prog) rfl rfl, _, rfl, ?_, lW⟩⟩
      clear lW
      rw [lastS_yes h5 h9]
    · refine s_pick rfl rfl rfl rfl rfl ?_
      refine vOrd_nil ?_
      refine Wp.condF rfl rfl ?_
      refine Wp.skip ?_
      refine Wp.seq ?_
      refine Wp.region [0] (by kernel_rfl) (by kernel_rfl) ?_
      refine s_assign rfl rfl rfl rfl ?_
      refine vOrd_nil ?_
      refine Wp.ret ⟨.inr rfl, fun lW => ⟨_, res_tmp (P := Try.prog) rfl rfl, _, rfl, ?_, lW⟩⟩
      clear lW
      rw [lastS_no (by omega)]
  · refine s_move rfl rfl rfl rfl ?_
    refine s_skip rfl rfl rfl ?_
    refine s_skip rfl rfl rfl ?_
    refine s_skip rfl rfl rfl ?_
    refine s_pick rfl rfl rfl rfl rfl ?_
    refine vOrd_nil ?_
    refine Wp.condF rfl rfl ?_
    refine Wp.skip ?_
    refine Wp.seq ?_
    refine Wp.region [0] (by kernel_rfl) (by kernel_rfl) ?_
    refine s_assign rfl rfl rfl rfl ?_
    refine vOrd_nil ?_
    refine Wp.ret ⟨.inr rfl, fun lW => ⟨_, res_tmp (P := Try.prog) rfl rfl, _, rfl, ?_, lW⟩⟩
    clear lW
    rw [lastS_no (by omega)]
theorem fvalid_any (h m s a : Int) (w : World) : Calls Try.prog 7 #[.agg #[.int .i64 h, .int .i64 m, .int .i64 s, .int .i64 a]] w fun e w' => ∃ r, e = .returned r ∧ r = .bool (isT h m s a) ∧ Below w.heap.size w w' := by
  refine calls_Wp (args := [_]) (n := 23) Try.func7 rfl rfl (by simp) ?_
  refine Wp.seq ?_
  refine Wp.region [0, 1] (by kernel_rfl) (by kernel_rfl) ?_
  refine s_box rfl rfl rfl rfl rfl rfl (fun bk1 w1 kb1 lw1 => ?_)
  refine s_assign rfl rfl rfl rfl ?_
  refine vOrd_nil ?_
  refine Wp.seq ?_
  refine (Wp.drawn (by kernel_rfl) (by kernel_rfl) [0, 1, 2, 3, 4, 5, 6, 7, 8, 9, 10, 11, 12, 13, 14, 15, 16, 17, 18, 19, 20] [0, 0, 0, 0, 0, 0, 0, 0, 0, 6655, 7167, 0, 0, 0, 0, 0, 0, 0, 0, 0, 0] (by kernel_rfl) (by kernel_rfl) (fun | 2 => fun v _ => v = .bool (wiB (h) (23)) | 6 => fun v _ => v = .bool (wiB (m) (59)) | 12 => fun v _ => v = .int .i64 (lastS h m) | 13 => fun v _ => v = .bool (wiB (s) (lastS h m)) | 18 => fun v _ => v = .bool (wiB (a) (999999999999999999)) | _ => fun _ _ => True) (fun _ _ => ?_))
  refine s_field 0 rfl rfl rfl rfl rfl ?_
  refine s_load rfl rfl rfl rfl rfl rfl rfl ?_
  refine s_callD rfl rfl rfl (by kernel_rfl) rfl (fun wc lc => within_any (h) (23) wc) ?_
  rintro v w2 u2 rfl lw2 mw2
  rcases Bool.eq_false_or_eq_true (wiB (h) (23)) with h5 | h5
  · rw [h5]
    have q5 := wiB_iff.1 h5
    refine s_move rfl rfl rfl rfl ?_
    refine s_field 1 rfl rfl rfl rfl rfl ?_
    refine s_load rfl rfl rfl rfl rfl rfl rfl ?_
    refine s_callD rfl rfl rfl (by kernel_rfl) rfl (fun wc lc => within_any (m) (59) wc) ?_
    rintro v w3 u3 rfl lw3 mw3
    rcases Bool.eq_false_or_eq_true (wiB (m) (59)) with h9 | h9
    · rw [h9]
      have q9 := wiB_iff.1 h9
      refine s_pick rfl rfl rfl rfl rfl ?_
      refine s_move rfl rfl rfl rfl ?_
      refine s_field 2 rfl rfl rfl rfl rfl ?_
      refine s_load rfl rfl rfl rfl rfl rfl rfl ?_
      refine s_load rfl rfl rfl rfl rfl rfl rfl ?_
      refine s_callD rfl rfl rfl (by kernel_rfl) rfl (fun wc lc => lastSecond_any h m s a wc) ?_
      rintro v w4 u4 rfl lw4 mw4
      refine s_callD rfl rfl rfl (by kernel_rfl) rfl (fun wc lc => within_any (s) (lastS h m) wc) ?_
      rintro v w5 u5 rfl lw5 mw5
      rcases Bool.eq_false_or_eq_true (wiB (s) (lastS h m)) with h16 | h16
      · rw [h16]
        have q16 := wiB_iff.1 h16
        refine s_pick rfl rfl rfl rfl rfl ?_
        refine s_move rfl rfl rfl rfl ?_
        refine s_field 3 rfl rfl rfl rfl rfl ?_
        refine s_load rfl rfl rfl rfl rfl rfl rfl ?_
        refine s_callD rfl rfl rfl (by kernel_rfl) rfl (fun wc lc => within_any (a) (999999999999999999) wc) ?_
        rintro v w6 u6 rfl lw6 mw6
        rcases Bool.eq_false_or_eq_true (wiB (a) (999999999999999999)) with h21 | h21
        · rw [h21]
          have q21 := wiB_iff.1 h21
          refine s_pick rfl rfl rfl rfl rfl ?_
          refine s_assign rfl rfl rfl rfl ?_
          refine vOrd_nil ?_
          refine Wp.ret ⟨.inr rfl, fun lW => ⟨_, res_tmp (P := Try.prog) rfl rfl, _, rfl, ?_, lW⟩⟩
          clear lW
          rw [isT_iff.2 (by omega)]
        · rw [h21]
          have q21 := wiB_no.1 h21
          refine s_pick rfl rfl rfl rfl rfl ?_
          refine s_assign rfl rfl rfl rfl ?_
          refine vOrd_nil ?_
          refine Wp.ret ⟨.inr rfl, fun lW => ⟨_, res_tmp (P := Try.prog) rfl rfl, _, rfl, ?_, lW⟩⟩
          clear lW
          rw [isT_no.2 (by omega)]
      · rw [h16]
        have q16 := wiB_no.1 h16
        refine s_pick rfl rfl rfl rfl rfl ?_
        refine s_move rfl rfl rfl rfl ?_
        refine s_skip rfl rfl rfl ?_
        refine s_skip rfl rfl rfl ?_
        refine s_skip rfl rfl rfl ?_
        refine s_pick rfl rfl rfl rfl rfl ?_
        refine s_assign rfl rfl rfl rfl ?_
        refine vOrd_nil ?_
        refine Wp.ret ⟨.inr rfl, fun lW => ⟨_, res_tmp (P := Try.prog) rfl rfl, _, rfl, ?_, lW⟩⟩
        clear lW
        rw [isT_no.2 (by omega)]
    · rw [h9]
      have q9 := wiB_no.1 h9
      refine s_pick rfl rfl rfl rfl rfl ?_
      refine s_move rfl rfl rfl rfl ?_
      refine s_skip rfl rfl rfl ?_
      refine s_skip rfl rfl rfl ?_
      refine s_skip rfl rfl rfl ?_
      refine s_skip rfl rfl rfl ?_
      refine s_skip rfl rfl rfl ?_
      refine s_pick rfl rfl rfl rfl rfl ?_
      refine s_move rfl rfl rfl rfl ?_
      refine s_skip rfl rfl rfl ?_
      refine s_skip rfl rfl rfl ?_
      refine s_skip rfl rfl rfl ?_
      refine s_pick rfl rfl rfl rfl rfl ?_
      refine s_assign rfl rfl rfl rfl ?_
      refine vOrd_nil ?_
      refine Wp.ret ⟨.inr rfl, fun lW => ⟨_, res_tmp (P := Try.prog) rfl rfl, _, rfl, ?_, lW⟩⟩
      clear lW
      rw [isT_no.2 (by omega)]
  · rw [h5]
    have q5 := wiB_no.1 h5
    refine s_move rfl rfl rfl rfl ?_
    refine s_skip rfl rfl rfl ?_
    refine s_skip rfl rfl rfl ?_
    refine s_skip rfl rfl rfl ?_
    refine s_pick rfl rfl rfl rfl rfl ?_
    refine s_move rfl rfl rfl rfl ?_
    refine s_skip rfl rfl rfl ?_
    refine s_skip rfl rfl rfl ?_
    refine s_skip rfl rfl rfl ?_
    refine s_skip rfl rfl rfl ?_
    refine s_skip rfl rfl rfl ?_
    refine s_pick rfl rfl rfl rfl rfl ?_
    refine s_move rfl rfl rfl rfl ?_
    refine s_skip rfl rfl rfl ?_
    refine s_skip rfl rfl rfl ?_
    refine s_skip rfl rfl rfl ?_
    refine s_pick rfl rfl rfl rfl rfl ?_
    refine s_assign rfl rfl rfl rfl ?_
    refine vOrd_nil ?_
    refine Wp.ret ⟨.inr rfl, fun lW => ⟨_, res_tmp (P := Try.prog) rfl rfl, _, rfl, ?_, lW⟩⟩
    clear lW
    rw [isT_no.2 (by omega)]
theorem rtime_any (h m s a : Int) (w : World) : Calls Try.prog 8 #[.agg #[.int .i64 h, .int .i64 m, .int .i64 s, .int .i64 a]] w fun e w' => ∃ r, e = .returned r ∧ r = .bool (isT h m s a) ∧ Below w.heap.size w w' := by
  have hl := lastS_or h m
  refine calls_Wp (args := [_]) (n := 54) Try.func8 rfl rfl (by simp) ?_
  refine Wp.seq ?_
  refine Wp.region [0, 1] (by kernel_rfl) (by kernel_rfl) ?_
  refine s_box rfl rfl rfl rfl rfl rfl (fun bk1 w1 kb1 lw1 => ?_)
  refine s_assign rfl rfl rfl rfl ?_
  refine vOrd_nil ?_
  refine Wp.seq ?_
  refine Wp.seq ?_
  refine Wp.region [0, 1, 2, 3, 4, 5, 6, 7, 8, 9, 10, 11, 12, 13, 14, 15, 16, 17, 18, 19, 20, 21, 22, 23, 24, 25, 26, 27, 28, 29, 30, 31, 32] (by kernel_rfl) (by kernel_rfl) ?_
  refine s_field 0 rfl rfl rfl rfl rfl ?_
  refine s_load rfl rfl rfl rfl rfl rfl rfl ?_
  refine p_lss rfl rfl rfl rfl rfl (fun h5 => ?_) (fun h5 => ?_)
  · refine s_move rfl rfl rfl rfl ?_
    refine s_skip rfl rfl rfl ?_
    refine s_skip rfl rfl rfl ?_
    refine s_skip rfl rfl rfl ?_
    refine s_pick rfl rfl rfl rfl rfl ?_
    refine s_move rfl rfl rfl rfl ?_
    refine s_skip rfl rfl rfl ?_
    refine s_skip rfl rfl rfl ?_
    refine s_skip rfl rfl rfl ?_
    refine s_pick rfl rfl rfl rfl rfl ?_
    refine s_move rfl rfl rfl rfl ?_
    refine s_skip rfl rfl rfl ?_
    refine s_skip rfl rfl rfl ?_
    refine s_skip rfl rfl rfl ?_
    refine s_pick rfl rfl rfl rfl rfl ?_
    refine s_move rfl rfl rfl rfl ?_
    refine s_skip rfl rfl rfl ?_
    refine s_skip rfl rfl rfl ?_
    refine s_skip rfl rfl rfl ?_
    refine s_pick rfl rfl rfl rfl rfl ?_
    refine s_move rfl rfl rfl rfl ?_
    refine s_skip rfl rfl rfl ?_
    refine s_skip rfl rfl rfl ?_
    refine s_skip rfl rfl rfl ?_
    refine s_pick rfl rfl rfl rfl rfl ?_
    refine s_move rfl rfl rfl rfl ?_
    refine s_skip rfl rfl rfl ?_
    refine s_skip rfl rfl rfl ?_
    refine s_skip rfl rfl rfl ?_
    refine s_pick rfl rfl rfl rfl rfl ?_
    refine vOrd_nil ?_
    refine Wp.condT rfl rfl ?_
    refine Wp.seq ?_
    refine Wp.region [0] (by kernel_rfl) (by kernel_rfl) ?_
    refine s_assign rfl rfl rfl rfl ?_
    refine vOrd_nil ?_
    refine Wp.ret ⟨.inr rfl, fun lW => ⟨_, res_tmp (P := Try.prog) rfl rfl, _, rfl, ?_, lW⟩⟩
    clear lW
    rw [isT_no.2 (by omega)]
  · refine s_move rfl rfl rfl rfl ?_
    refine s_field 0 rfl rfl rfl rfl rfl ?_
    refine s_load rfl rfl rfl rfl rfl rfl rfl ?_
    refine p_gtr rfl rfl rfl rfl rfl (fun h9 => ?_) (fun h9 => ?_)
    · refine s_pick rfl rfl rfl rfl rfl ?_
      refine s_move rfl rfl rfl rfl ?_
      refine s_skip rfl rfl rfl ?_
      refine s_skip rfl rfl rfl ?_
      refine s_skip rfl rfl rfl ?_
      refine s_pick rfl rfl rfl rfl rfl ?_
      refine s_move rfl rfl rfl rfl ?_
      refine s_skip rfl rfl rfl ?_
      refine s_skip rfl rfl rfl ?_
      refine s_skip rfl rfl rfl ?_
      refine s_pick rfl rfl rfl rfl rfl ?_
      refine s_move rfl rfl rfl rfl ?_
      refine s_skip rfl rfl rfl ?_
      refine s_skip rfl rfl rfl ?_
      refine s_skip rfl rfl rfl ?_
      refine s_pick rfl rfl rfl rfl rfl ?_
      refine s_move rfl rfl rfl rfl ?_
      refine s_skip rfl rfl rfl ?_
      refine s_skip rfl rfl rfl ?_
      refine s_skip rfl rfl rfl ?_
      refine s_pick rfl rfl rfl rfl rfl ?_
      refine s_move rfl rfl rfl rfl ?_
      refine s_skip rfl rfl rfl ?_
      refine s_skip rfl rfl rfl ?_
      refine s_skip rfl rfl rfl ?_
      refine s_pick rfl rfl rfl rfl rfl ?_
      refine vOrd_nil ?_
      refine Wp.condT rfl rfl ?_
      refine Wp.seq ?_
      refine Wp.region [0] (by kernel_rfl) (by kernel_rfl) ?_
      refine s_assign rfl rfl rfl rfl ?_
      refine vOrd_nil ?_
      refine Wp.ret ⟨.inr rfl, fun lW => ⟨_, res_tmp (P := Try.prog) rfl rfl, _, rfl, ?_, lW⟩⟩
      clear lW
      rw [isT_no.2 (by omega)]
    · refine s_pick rfl rfl rfl rfl rfl ?_
      refine s_move rfl rfl rfl rfl ?_
      refine s_field 1 rfl rfl rfl rfl rfl ?_
      refine s_load rfl rfl rfl rfl rfl rfl rfl ?_
      refine p_lss rfl rfl rfl rfl rfl (fun h14 => ?_) (fun h14 => ?_)
      · refine s_pick rfl rfl rfl rfl rfl ?_
        refine s_move rfl rfl rfl rfl ?_
        refine s_skip rfl rfl rfl ?_
        refine s_skip rfl rfl rfl ?_
        refine s_skip rfl rfl rfl ?_
        refine s_pick rfl rfl rfl rfl rfl ?_
        refine s_move rfl rfl rfl rfl ?_
        refine s_skip rfl rfl rfl ?_
        refine s_skip rfl rfl rfl ?_
        refine s_skip rfl rfl rfl ?_
        refine s_pick rfl rfl rfl rfl rfl ?_
        refine s_move rfl rfl rfl rfl ?_
        refine s_skip rfl rfl rfl ?_
        refine s_skip rfl rfl rfl ?_
        refine s_skip rfl rfl rfl ?_
        refine s_pick rfl rfl rfl rfl rfl ?_
        refine s_move rfl rfl rfl rfl ?_
        refine s_skip rfl rfl rfl ?_
        refine s_skip rfl rfl rfl ?_
        refine s_skip rfl rfl rfl ?_
        refine s_pick rfl rfl rfl rfl rfl ?_
        refine vOrd_nil ?_
        refine Wp.condT rfl rfl ?_
        refine Wp.seq ?_
        refine Wp.region [0] (by kernel_rfl) (by kernel_rfl) ?_
        refine s_assign rfl rfl rfl rfl ?_
        refine vOrd_nil ?_
        refine Wp.ret ⟨.inr rfl, fun lW => ⟨_, res_tmp (P := Try.prog) rfl rfl, _, rfl, ?_, lW⟩⟩
        clear lW
        rw [isT_no.2 (by omega)]
      · refine s_pick rfl rfl rfl rfl rfl ?_
        refine s_move rfl rfl rfl rfl ?_
        refine s_field 1 rfl rfl rfl rfl rfl ?_
        refine s_load rfl rfl rfl rfl rfl rfl rfl ?_
        refine p_gtr rfl rfl rfl rfl rfl (fun h19 => ?_) (fun h19 => ?_)
        · refine s_pick rfl rfl rfl rfl rfl ?_
          refine s_move rfl rfl rfl rfl ?_
          refine s_skip rfl rfl rfl ?_
          refine s_skip rfl rfl rfl ?_
          refine s_skip rfl rfl rfl ?_
          refine s_pick rfl rfl rfl rfl rfl ?_
          refine s_move rfl rfl rfl rfl ?_
          refine s_skip rfl rfl rfl ?_
          refine s_skip rfl rfl rfl ?_
          refine s_skip rfl rfl rfl ?_
          refine s_pick rfl rfl rfl rfl rfl ?_
          refine s_move rfl rfl rfl rfl ?_
          refine s_skip rfl rfl rfl ?_
          refine s_skip rfl rfl rfl ?_
          refine s_skip rfl rfl rfl ?_
          refine s_pick rfl rfl rfl rfl rfl ?_
          refine vOrd_nil ?_
          refine Wp.condT rfl rfl ?_
          refine Wp.seq ?_
          refine Wp.region [0] (by kernel_rfl) (by kernel_rfl) ?_
          refine s_assign rfl rfl rfl rfl ?_
          refine vOrd_nil ?_
          refine Wp.ret ⟨.inr rfl, fun lW => ⟨_, res_tmp (P := Try.prog) rfl rfl, _, rfl, ?_, lW⟩⟩
          clear lW
          rw [isT_no.2 (by omega)]
        · refine s_pick rfl rfl rfl rfl rfl ?_
          refine s_move rfl rfl rfl rfl ?_
          refine s_field 2 rfl rfl rfl rfl rfl ?_
          refine s_load rfl rfl rfl rfl rfl rfl rfl ?_
          refine p_lss rfl rfl rfl rfl rfl (fun h24 => ?_) (fun h24 => ?_)
          · refine s_pick rfl rfl rfl rfl rfl ?_
            refine s_move rfl rfl rfl rfl ?_
            refine s_skip rfl rfl rfl ?_
            refine s_skip rfl rfl rfl ?_
            refine s_skip rfl rfl rfl ?_
            refine s_pick rfl rfl rfl rfl rfl ?_
            refine s_move rfl rfl rfl rfl ?_
            refine s_skip rfl rfl rfl ?_
            refine s_skip rfl rfl rfl ?_
            refine s_skip rfl rfl rfl ?_
            refine s_pick rfl rfl rfl rfl rfl ?_
            refine vOrd_nil ?_
            refine Wp.condT rfl rfl ?_
            refine Wp.seq ?_
            refine Wp.region [0] (by kernel_rfl) (by kernel_rfl) ?_
            refine s_assign rfl rfl rfl rfl ?_
            refine vOrd_nil ?_
            refine Wp.ret ⟨.inr rfl, fun lW => ⟨_, res_tmp (P := Try.prog) rfl rfl, _, rfl, ?_, lW⟩⟩
            clear lW
            rw [isT_no.2 (by omega)]
          · refine s_pick rfl rfl rfl rfl rfl ?_
            refine s_move rfl rfl rfl rfl ?_
            refine s_field 3 rfl rfl rfl rfl rfl ?_
            refine s_load rfl rfl rfl rfl rfl rfl rfl ?_
            refine p_lss rfl rfl rfl rfl rfl (fun h29 => ?_) (fun h29 => ?_)
            · refine s_pick rfl rfl rfl rfl rfl ?_
              refine s_move rfl rfl rfl rfl ?_
              refine s_skip rfl rfl rfl ?_
              refine s_skip rfl rfl rfl ?_
              refine s_skip rfl rfl rfl ?_
              refine s_pick rfl rfl rfl rfl rfl ?_
              refine vOrd_nil ?_
              refine Wp.condT rfl rfl ?_
              refine Wp.seq ?_
              refine Wp.region [0] (by kernel_rfl) (by kernel_rfl) ?_
              refine s_assign rfl rfl rfl rfl ?_
              refine vOrd_nil ?_
              refine Wp.ret ⟨.inr rfl, fun lW => ⟨_, res_tmp (P := Try.prog) rfl rfl, _, rfl, ?_, lW⟩⟩
              clear lW
              rw [isT_no.2 (by omega)]
            · refine s_pick rfl rfl rfl rfl rfl ?_
              refine s_move rfl rfl rfl rfl ?_
              refine s_field 3 rfl rfl rfl rfl rfl ?_
              refine s_load rfl rfl rfl rfl rfl rfl rfl ?_
              refine p_geq rfl rfl rfl rfl rfl (fun h34 => ?_) (fun h34 => ?_)
              · refine s_pick rfl rfl rfl rfl rfl ?_
                refine vOrd_nil ?_
                refine Wp.condT rfl rfl ?_
                refine Wp.seq ?_
                refine Wp.region [0] (by kernel_rfl) (by kernel_rfl) ?_
                refine s_assign rfl rfl rfl rfl ?_
                refine vOrd_nil ?_
                refine Wp.ret ⟨.inr rfl, fun lW => ⟨_, res_tmp (P := Try.prog) rfl rfl, _, rfl, ?_, lW⟩⟩
                clear lW
                rw [isT_no.2 (by omega)]
              · refine s_pick rfl rfl rfl rfl rfl ?_
                refine vOrd_nil ?_
                refine Wp.condF rfl rfl ?_
                refine Wp.skip ?_
                refine Wp.seq ?_
                refine Wp.region [0, 1, 2, 3, 4, 5, 6, 7, 8, 9, 10, 11, 12, 13, 14, 15, 16, 17, 18] (by kernel_rfl) (by kernel_rfl) ?_
                refine s_field 2 rfl rfl rfl rfl rfl ?_
                refine s_load rfl rfl rfl rfl rfl rfl rfl ?_
                refine p_leq rfl rfl rfl rfl rfl (fun h38 => ?_) (fun h38 => ?_)
                · refine s_move rfl rfl rfl rfl ?_
                  refine s_skip rfl rfl rfl ?_
                  refine s_skip rfl rfl rfl ?_
                  refine s_skip rfl rfl rfl ?_
                  refine s_skip rfl rfl rfl ?_
                  refine s_skip rfl rfl rfl ?_
                  refine s_skip rfl rfl rfl ?_
                  refine s_skip rfl rfl rfl ?_
                  refine s_skip rfl rfl rfl ?_
                  refine s_skip rfl rfl rfl ?_
                  refine s_skip rfl rfl rfl ?_
                  refine s_skip rfl rfl rfl ?_
                  refine s_skip rfl rfl rfl ?_
                  refine s_skip rfl rfl rfl ?_
                  refine s_pick rfl rfl rfl rfl rfl ?_
                  refine s_assign rfl rfl rfl rfl ?_
                  refine vOrd_nil ?_
                  refine Wp.ret ⟨.inr rfl, fun lW => ⟨_, res_tmp (P := Try.prog) rfl rfl, _, rfl, ?_, lW⟩⟩
                  clear lW
                  rw [isT_iff.2 (by omega)]
                · refine s_move rfl rfl rfl rfl ?_
                  refine s_field 2 rfl rfl rfl rfl rfl ?_
                  refine s_load rfl rfl rfl rfl rfl rfl rfl ?_
                  refine p_eql rfl rfl rfl rfl rfl (fun h42 => ?_) (fun h42 => ?_)
                  · refine s_move rfl rfl rfl rfl ?_
                    refine s_field 0 rfl rfl rfl rfl rfl ?_
                    refine s_load rfl rfl rfl rfl rfl rfl rfl ?_
                    refine p_eql rfl rfl rfl rfl rfl (fun h46 => ?_) (fun h46 => ?_)
                    · refine s_pick rfl rfl rfl rfl rfl ?_
                      refine s_move rfl rfl rfl rfl ?_
                      refine s_field 1 rfl rfl rfl rfl rfl ?_
                      refine s_load rfl rfl rfl rfl rfl rfl rfl ?_
                      refine p_eql rfl rfl rfl rfl rfl (fun h51 => ?_) (fun h51 => ?_)
                      · refine s_pick rfl rfl rfl rfl rfl ?_
                        refine s_pick rfl rfl rfl rfl rfl ?_
                        refine s_assign rfl rfl rfl rfl ?_
                        refine vOrd_nil ?_
                        refine Wp.ret ⟨.inr rfl, fun lW => ⟨_, res_tmp (P := Try.prog) rfl rfl, _, rfl, ?_, lW⟩⟩
                        clear lW
                        rw [isT_iff.2 (by omega)]
                      · refine s_pick rfl rfl rfl rfl rfl ?_
                        refine s_pick rfl rfl rfl rfl rfl ?_
                        refine s_assign rfl rfl rfl rfl ?_
                        refine vOrd_nil ?_
                        refine Wp.ret ⟨.inr rfl, fun lW => ⟨_, res_tmp (P := Try.prog) rfl rfl, _, rfl, ?_, lW⟩⟩
                        clear lW
                        rw [isT_no.2 (by omega)]
                    · refine s_pick rfl rfl rfl rfl rfl ?_
                      refine s_move rfl rfl rfl rfl ?_
                      refine s_skip rfl rfl rfl ?_
                      refine s_skip rfl rfl rfl ?_
                      refine s_skip rfl rfl rfl ?_
                      refine s_pick rfl rfl rfl rfl rfl ?_
                      refine s_pick rfl rfl rfl rfl rfl ?_
                      refine s_assign rfl rfl rfl rfl ?_
                      refine vOrd_nil ?_
                      refine Wp.ret ⟨.inr rfl, fun lW => ⟨_, res_tmp (P := Try.prog) rfl rfl, _, rfl, ?_, lW⟩⟩
                      clear lW
                      rw [isT_no.2 (by omega)]
                  · refine s_move rfl rfl rfl rfl ?_
                    refine s_skip rfl rfl rfl ?_
                    refine s_skip rfl rfl rfl ?_
                    refine s_skip rfl rfl rfl ?_
                    refine s_pick rfl rfl rfl rfl rfl ?_
                    refine s_move rfl rfl rfl rfl ?_
                    refine s_skip rfl rfl rfl ?_
                    refine s_skip rfl rfl rfl ?_
                    refine s_skip rfl rfl rfl ?_
                    refine s_pick rfl rfl rfl rfl rfl ?_
                    refine s_pick rfl rfl rfl rfl rfl ?_
                    refine s_assign rfl rfl rfl rfl ?_
                    refine vOrd_nil ?_
                    refine Wp.ret ⟨.inr rfl, fun lW => ⟨_, res_tmp (P := Try.prog) rfl rfl, _, rfl, ?_, lW⟩⟩
                    clear lW
                    rw [isT_no.2 (by omega)]
def secE (h m s a : Int) : Int := if isT h m s a = true then 0 else 5
def secV (h m s a : Int) : Int := if isT h m s a = true then h * 3600 + m * 60 + s else 0
def secA (h m s a : Int) : Int := if isT h m s a = true then a else 0
theorem sec_bad {h m s a : Int} (x : isT h m s a = false) : secV h m s a = 0 ∧ secA h m s a = 0 ∧ secE h m s a = 5 := by simp [secE, secV, secA, x]
theorem sec_ok {h m s a : Int} (x : isT h m s a = true) : secV h m s a = h * 3600 + m * 60 + s ∧ secA h m s a = a ∧ secE h m s a = 0 := by simp [secE, secV, secA, x]
theorem fsec_any (h m s a : Int) (w : World) : Calls Try.prog 9 #[.agg #[.int .i64 h, .int .i64 m, .int .i64 s, .int .i64 a]] w fun e w' => ∃ r, e = .returned r ∧ r = .tuple #[.int .i64 (secV h m s a), .int .i64 (secA h m s a), .int .i64 (secE h m s a)] ∧ Below w.heap.size w w' := by
  have hl := lastS_or h m
  refine calls_Wp (args := [_]) (n := 20) Try.func9 rfl rfl (by simp) ?_
  refine Wp.seq ?_
  refine Wp.region [0, 1, 2, 3] (by kernel_rfl) (by kernel_rfl) ?_
  refine s_box rfl rfl rfl rfl rfl rfl (fun bk1 w1 kb1 lw1 => ?_)
  refine s_assign rfl rfl rfl rfl ?_
  refine s_assign rfl rfl rfl rfl ?_
  refine s_assign rfl rfl rfl rfl ?_
  refine vOrd_nil ?_
  refine Wp.seq ?_
  refine Wp.seq ?_
  refine Wp.region [0, 1, 2] (by kernel_rfl) (by kernel_rfl) ?_
  refine s_load rfl rfl rfl rfl rfl rfl rfl ?_
  refine s_callT rfl rfl rfl (by kernel_rfl) rfl (fvalid_any h m s a _) ?_
  rintro v w2 rfl lw2
  rcases Bool.eq_false_or_eq_true (isT h m s a) with h6 | h6
  · rw [h6]
    have q := isT_iff.1 h6
    obtain ⟨e1, e2, e3⟩ := sec_ok h6
    refine s_not rfl rfl rfl rfl ?_
    refine vOrd_nil ?_
    refine Wp.condF rfl rfl ?_
    refine Wp.skip ?_
    refine Wp.seq ?_
    refine (Wp.drawn (by kernel_rfl) (by kernel_rfl) [0, 1, 2, 3, 4, 5, 6, 7, 8, 9, 10, 11, 12, 13, 14] [3512, 3513, 3515, 3463, 3471, 3487, 3519, 3199, 3327, 3583, 5119, 6143, 0, 0, 0] (by kernel_rfl) (by kernel_rfl) (fun _ _ _ => True) (fun _ _ => ?_))
    refine s_field 0 rfl rfl rfl rfl rfl ?_
    refine s_load rfl rfl rfl rfl rfl rfl rfl ?_
    refine a_mul (-9223372036854775808) 9223372036854775807 (by decide) rfl rfl rfl rfl rfl (by omega) (by omega) ?_
    refine s_field 1 rfl rfl rfl rfl rfl ?_
    refine s_load rfl rfl rfl rfl rfl rfl rfl ?_
    refine a_mul (-9223372036854775808) 9223372036854775807 (by decide) rfl rfl rfl rfl rfl (by omega) (by omega) ?_
    refine a_add (-9223372036854775808) 9223372036854775807 (by decide) rfl rfl rfl rfl rfl (by omega) (by omega) ?_
    refine s_field 2 rfl rfl rfl rfl rfl ?_
    refine s_load rfl rfl rfl rfl rfl rfl rfl ?_
    refine a_add (-9223372036854775808) 9223372036854775807 (by decide) rfl rfl rfl rfl rfl (by omega) (by omega) ?_
    refine s_field 3 rfl rfl rfl rfl rfl ?_
    refine s_load rfl rfl rfl rfl rfl rfl rfl ?_
    refine s_assign rfl rfl rfl rfl ?_
    refine s_assign rfl rfl rfl rfl ?_
    refine s_assign rfl rfl rfl rfl ?_
    refine vOrd_nil ?_
    refine Wp.ret ⟨.inr rfl, fun lW => ⟨_, ⟨_, _, _, res_tmp (P := Try.prog) rfl rfl, res_tmp (P := Try.prog) rfl rfl, res_tmp (P := Try.prog) rfl rfl, rfl⟩, _, rfl, ?_, lW⟩⟩
    clear lW
    rw [e1, e2, e3]
  · rw [h6]
    obtain ⟨e1, e2, e3⟩ := sec_bad h6
    refine s_not rfl rfl rfl rfl ?_
    refine vOrd_nil ?_
    refine Wp.condT rfl rfl ?_
    refine Wp.seq ?_
    refine Wp.region [0, 1, 2] (by kernel_rfl) (by kernel_rfl) ?_
    refine s_assign rfl rfl rfl rfl ?_
    refine s_assign rfl rfl rfl rfl ?_
    refine s_assign rfl rfl rfl rfl ?_
    refine vOrd_nil ?_
    refine Wp.ret ⟨.inr rfl, fun lW => ⟨_, ⟨_, _, _, res_tmp (P := Try.prog) rfl rfl, res_tmp (P := Try.prog) rfl rfl, res_tmp (P := Try.prog) rfl rfl, rfl⟩, _, rfl, ?_, lW⟩⟩
    clear lW
    rw [e1, e2, e3]
def okS (n a : Int) : Bool := wiB n 86400 && wiB a 999999999999999999
theorem okS_iff {n a : Int} : okS n a = true ↔ 0 ≤ n ∧ n ≤ 86400 ∧ 0 ≤ a ∧ a ≤ 999999999999999999 := by
  unfold okS; rw [Bool.and_eq_true, wiB_iff, wiB_iff]; omega
theorem okS_no {n a : Int} : okS n a = false ↔ ¬ (0 ≤ n ∧ n ≤ 86400 ∧ 0 ≤ a ∧ a ≤ 999999999999999999) := by
  rw [← okS_iff]; cases okS n a <;> simp
theorem ftime_any (n b : Int) (w : World) : Calls Try.prog 10 #[.int .i64 n, .int .i64 b] w fun e w' => ∃ r, e = .returned r ∧ (∃ h m s a e, r = .tuple #[.agg #[.int .i64 h, .int .i64 m, .int .i64 s, .int .i64 a], .int .i64 e] ∧ (okS n b = false → h = 0 ∧ m = 0 ∧ s = 0 ∧ a = 0 ∧ e = 1) ∧ (okS n b = true → isT h m s a = true ∧ h * 3600 + m * 60 + s = n ∧ a = b ∧ e = 0 ∧ (s = 60 ↔ n = 86400))) ∧ Below w.heap.size w w' := by
  refine calls_Wp (args := [_, _]) (n := 28) Try.func10 rfl rfl (by simp) ?_
  refine Wp.seq ?_
  refine Wp.region [0, 1] (by kernel_rfl) (by kernel_rfl) ?_
  refine s_alloc rfl rfl rfl rfl rfl (fun bk1 w1 kb1 lw1 => ?_)
  refine s_assign rfl rfl rfl rfl ?_
  refine vOrd_nil ?_
  refine Wp.seq ?_
  refine Wp.seq ?_
  refine Wp.region [0, 1, 2, 3, 4, 5, 6, 7] (by kernel_rfl) (by kernel_rfl) ?_
  refine s_move rfl rfl rfl rfl ?_
  refine s_callT rfl rfl rfl (by kernel_rfl) rfl (within_any (n) (86400) _) ?_
  rintro v w2 rfl lw2
  rcases Bool.eq_false_or_eq_true (wiB (n) (86400)) with h7 | h7
  · rw [h7]
    have q7 := wiB_iff.1 h7
    refine s_not rfl rfl rfl rfl ?_
    refine s_move rfl rfl rfl rfl ?_
    refine s_move rfl rfl rfl rfl ?_
    refine s_callT rfl rfl rfl (by kernel_rfl) rfl (within_any (b) (999999999999999999) _) ?_
    rintro v w3 rfl lw3
    rcases Bool.eq_false_or_eq_true (wiB (b) (999999999999999999)) with h11 | h11
    · rw [h11]
      have q11 := wiB_iff.1 h11
      have hz := okS_iff.2 (by omega : 0 ≤ n ∧ n ≤ 86400 ∧ 0 ≤ b ∧ b ≤ 999999999999999999)
      refine s_not rfl rfl rfl rfl ?_
      refine s_pick rfl rfl rfl rfl rfl ?_
      refine vOrd_nil ?_
      refine Wp.condF rfl rfl ?_
      refine Wp.skip ?_
      refine Wp.seq ?_
      refine Wp.seq ?_
      refine Wp.region [0, 1] (by kernel_rfl) (by kernel_rfl) ?_
      refine s_move rfl rfl rfl rfl ?_
      refine p_eql rfl rfl rfl rfl rfl (fun h16 => ?_) (fun h16 => ?_)
      · refine vOrd_nil ?_
        refine Wp.condT rfl rfl ?_
        refine Wp.seq ?_
        refine Wp.region [0, 1, 2, 3] (by kernel_rfl) (by kernel_rfl) ?_
        refine s_move rfl rfl rfl rfl ?_
        refine s_build rfl rfl rfl rfl rfl (by kernel_rfl) ?_
        refine s_store rfl rfl rfl rfl rfl rfl rfl (fun w4 sw4 vw4 => ?_)
        refine s_assign rfl rfl rfl rfl ?_
        refine vOrd_nil ?_
        refine Wp.ret ⟨.inr rfl, fun lW => ⟨_, ⟨_, _, res_cell rfl rfl rfl rfl, res_tmp (P := Try.prog) rfl rfl, rfl⟩, _, rfl, ?_, lW⟩⟩
        clear lW
        have hl := lastS_yes (rfl : (23 : Int) = 23) (rfl : (59 : Int) = 59)
        exact ⟨_, _, _, _, _, rfl, fun h => (by rw [hz] at h; cases h), fun _ => ⟨isT_iff.2 (by omega), by omega, rfl, rfl, by omega⟩⟩
      · refine vOrd_nil ?_
        refine Wp.condF rfl rfl ?_
        refine Wp.skip ?_
        refine Wp.seq ?_
        refine Wp.region [0, 1, 2, 3, 4, 5, 6, 7, 8, 9, 10] (by kernel_rfl) (by kernel_rfl) ?_
        refine s_move rfl rfl rfl rfl ?_
        refine a_quo rfl rfl rfl rfl rfl (by omega) (by omega) (by show _ ≤ (9223372036854775807 : Int); omega) ?_
        refine s_move rfl rfl rfl rfl ?_
        refine a_rem rfl rfl rfl rfl rfl (by omega) (by omega) ?_
        refine a_quo rfl rfl rfl rfl rfl (by omega) (by omega) (by show _ ≤ (9223372036854775807 : Int); omega) ?_
        refine s_move rfl rfl rfl rfl ?_
        refine a_rem rfl rfl rfl rfl rfl (by omega) (by omega) ?_
        refine s_move rfl rfl rfl rfl ?_
        refine s_build rfl rfl rfl rfl rfl (by kernel_rfl) ?_
        refine s_store rfl rfl rfl rfl rfl rfl rfl (fun w5 sw5 vw5 => ?_)
        refine s_assign rfl rfl rfl rfl ?_
        refine vOrd_nil ?_
        refine Wp.ret ⟨.inr rfl, fun lW => ⟨_, ⟨_, _, res_cell rfl rfl rfl rfl, res_tmp (P := Try.prog) rfl rfl, rfl⟩, _, rfl, ?_, lW⟩⟩
        clear lW
        have hl := lastS_or (n / 3600) (n % 3600 / 60)
        exact ⟨_, _, _, _, _, rfl, fun h => (by rw [hz] at h; cases h), fun _ => ⟨isT_iff.2 (by omega), by omega, rfl, rfl, by omega⟩⟩
    · rw [h11]
      have q11 := wiB_no.1 h11
      have hz := okS_no.2 (by omega : ¬ (0 ≤ n ∧ n ≤ 86400 ∧ 0 ≤ b ∧ b ≤ 999999999999999999))
      refine s_not rfl rfl rfl rfl ?_
      refine s_pick rfl rfl rfl rfl rfl ?_
      refine vOrd_nil ?_
      refine Wp.condT rfl rfl ?_
      refine Wp.seq ?_
      refine Wp.region [0, 1, 2] (by kernel_rfl) (by kernel_rfl) ?_
      refine s_build rfl rfl rfl rfl rfl (by kernel_rfl) ?_
      refine s_store rfl rfl rfl rfl rfl rfl rfl (fun w6 sw6 vw6 => ?_)
      refine s_assign rfl rfl rfl rfl ?_
      refine vOrd_nil ?_
      refine Wp.ret ⟨.inr rfl, fun lW => ⟨_, ⟨_, _, res_cell rfl rfl rfl rfl, res_tmp (P := Try.prog) rfl rfl, rfl⟩, _, rfl, ?_, lW⟩⟩
      clear lW
      exact ⟨_, _, _, _, _, rfl, fun _ => ⟨rfl, rfl, rfl, rfl, rfl⟩, fun h => (by rw [hz] at h; cases h)⟩
  · rw [h7]
    have q7 := wiB_no.1 h7
    have hz := okS_no.2 (by omega : ¬ (0 ≤ n ∧ n ≤ 86400 ∧ 0 ≤ b ∧ b ≤ 999999999999999999))
    refine s_not rfl rfl rfl rfl ?_
    refine s_move rfl rfl rfl rfl ?_
    refine s_skip rfl rfl rfl ?_
    refine s_skip rfl rfl rfl ?_
    refine s_skip rfl rfl rfl ?_
    refine s_pick rfl rfl rfl rfl rfl ?_
    refine vOrd_nil ?_
    refine Wp.condT rfl rfl ?_
    refine Wp.seq ?_
    refine Wp.region [0, 1, 2] (by kernel_rfl) (by kernel_rfl) ?_
    refine s_build rfl rfl rfl rfl rfl (by kernel_rfl) ?_
    refine s_store rfl rfl rfl rfl rfl rfl rfl (fun w7 sw7 vw7 => ?_)
    refine s_assign rfl rfl rfl rfl ?_
    refine vOrd_nil ?_
    refine Wp.ret ⟨.inr rfl, fun lW => ⟨_, ⟨_, _, res_cell rfl rfl rfl rfl, res_tmp (P := Try.prog) rfl rfl, rfl⟩, _, rfl, ?_, lW⟩⟩
    clear lW
    exact ⟨_, _, _, _, _, rfl, fun _ => ⟨rfl, rfl, rfl, rfl, rfl⟩, fun h => (by rw [hz] at h; cases h)⟩
theorem one_time {h m s a x y z u : Int} (i : isT h m s a = true) (j : isT x y z u = true) (k : h * 3600 + m * 60 + s = x * 3600 + y * 60 + z) : h = x ∧ m = y ∧ s = z := by
  have p := isT_iff.1 i
  have q := isT_iff.1 j
  have hl := lastS_or h m
  have hk := lastS_or x y
  omega
end Go.Proofs.Ytganhgafhhkepaa
