/-
  The laws' own helpers 'good' (is a fraction one of which the chapter speaks?) and 'answers'. No conditions.
-/
import Derived.Test.YtklankodjjkhiaaRatC
namespace Go.Proofs.Ytklankodjjkhiaa
open Go.RowKit

def eqR (a b c d a' b' c' d' : Int) : Bool := ((a == a') && (b == b')) && ((c == c') && (d == d'))
theorem run_eql_ratio (a b c d a' b' c' d' : Int) (w : World) : (binOp .eql 26 (.agg #[.int .i64 a, .int .u64 b, .int .i64 c, .int .u64 d]) (.agg #[.int .i64 a', .int .u64 b', .int .i64 c', .int .u64 d'])).run Try.prog w = .ok (.bool (eqR a b c d a' b' c' d')) w := by
  unfold eqR
  by_cases h1 : a = a' <;> by_cases h2 : b = b' <;> by_cases h3 : c = c' <;> by_cases h4 : d = d' <;> simp [go_sem, h1, h2, h3, h4]
/-- Is it above 0? -/
def gd (d : Int) : Bool := decide (0 < d)
theorem cmpI_gd (d : Int) : decide (cmpI d 0 > 0) = gd d := by
  unfold gd cmpI
  by_cases h : 0 < d
  · rw [if_neg (by omega), if_pos h]; simp [h]
  · by_cases h' : d < 0
    · rw [if_pos h']; simp; omega
    · rw [if_neg h', if_neg h]; simp; omega
theorem good_any {n d : Int} {u : Value} (hu : IsR n d u) (w : World) :
    Calls Try.prog 13 #[u] w fun e w' => ∃ r, e = .returned r ∧ r = .bool (gd d) ∧ Below w.heap.size w w' := by
  obtain ⟨nh, nl, dh, dl, rfl, hn, hd⟩ := hu
  refine calls_Wp (args := [_]) (n := 9) Try.func13 rfl rfl (by simp) ?_
  repeat refine Wp.seq ?_
  refine (Wp.region [0, 1] (by kernel_rfl) (by kernel_rfl) ?_)
  repeat (first | refine s_load rfl rfl rfl rfl rfl rfl rfl ?_ | (first | refine s_field 0 rfl rfl rfl rfl rfl ?_ | refine s_field 1 rfl rfl rfl rfl rfl ?_ | refine s_field 2 rfl rfl rfl rfl rfl ?_ | refine s_field 3 rfl rfl rfl rfl rfl ?_ | refine s_field 4 rfl rfl rfl rfl rfl ?_ | refine s_field 5 rfl rfl rfl rfl rfl ?_) | refine s_move rfl rfl rfl rfl ?_ | refine s_assign rfl rfl rfl rfl ?_ | refine s_extract rfl rfl rfl rfl rfl ?_ | refine s_box rfl rfl rfl rfl rfl rfl (fun _ _ _ _ => ?_) | refine s_alloc rfl rfl rfl rfl rfl (fun _ _ _ _ => ?_) | refine s_store rfl rfl rfl rfl rfl rfl rfl (fun _ _ _ => ?_) | refine s_cmp rfl rfl rfl rfl rfl rfl ?_ | refine s_not rfl rfl rfl rfl ?_ | refine s_pick rfl rfl rfl rfl rfl ?_ | refine s_skip rfl rfl rfl ?_ | refine s_val rfl rfl rfl rfl (fun _ => rfl) ?_)
  refine vOrd_nil ?_
  repeat refine Wp.seq ?_
  refine (Wp.region [0, 1, 2, 3, 4, 5, 6] (by kernel_rfl) (by kernel_rfl) ?_)
  repeat (first | refine s_load rfl rfl rfl rfl rfl rfl rfl ?_ | (first | refine s_field 0 rfl rfl rfl rfl rfl ?_ | refine s_field 1 rfl rfl rfl rfl rfl ?_ | refine s_field 2 rfl rfl rfl rfl rfl ?_ | refine s_field 3 rfl rfl rfl rfl rfl ?_ | refine s_field 4 rfl rfl rfl rfl rfl ?_ | refine s_field 5 rfl rfl rfl rfl rfl ?_) | refine s_move rfl rfl rfl rfl ?_ | refine s_assign rfl rfl rfl rfl ?_ | refine s_extract rfl rfl rfl rfl rfl ?_ | refine s_box rfl rfl rfl rfl rfl rfl (fun _ _ _ _ => ?_) | refine s_alloc rfl rfl rfl rfl rfl (fun _ _ _ _ => ?_) | refine s_store rfl rfl rfl rfl rfl rfl rfl (fun _ _ _ => ?_) | refine s_cmp rfl rfl rfl rfl rfl rfl ?_ | refine s_not rfl rfl rfl rfl ?_ | refine s_pick rfl rfl rfl rfl rfl ?_ | refine s_skip rfl rfl rfl ?_ | refine s_val rfl rfl rfl rfl (fun _ => rfl) ?_)
  refine s_call rfl rfl rfl (by kernel_rfl) rfl ?_
  refine (c_rof ⟨_, _, rfl, hd⟩ _).mono ?_
  rintro e w1 ⟨u1, rfl, h1, b1⟩
  refine ⟨_, rfl, b1, ?_⟩
  refine s_call rfl rfl rfl (by kernel_rfl) rfl ?_
  refine (c_rint 0 (by decide) (by decide) _).mono ?_
  rintro e w2 ⟨u2, rfl, h2, b2⟩
  refine ⟨_, rfl, b2, ?_⟩
  refine s_call rfl rfl rfl (by kernel_rfl) rfl ?_
  refine (c_cmp (h1.later b2) h2 (by decide) (by decide)).mono ?_
  rintro e w3 ⟨u3, rfl, rfl, b3⟩
  refine ⟨_, rfl, b3, ?_⟩
  repeat (first | refine s_load rfl rfl rfl rfl rfl rfl rfl ?_ | (first | refine s_field 0 rfl rfl rfl rfl rfl ?_ | refine s_field 1 rfl rfl rfl rfl rfl ?_ | refine s_field 2 rfl rfl rfl rfl rfl ?_ | refine s_field 3 rfl rfl rfl rfl rfl ?_ | refine s_field 4 rfl rfl rfl rfl rfl ?_ | refine s_field 5 rfl rfl rfl rfl rfl ?_) | refine s_move rfl rfl rfl rfl ?_ | refine s_assign rfl rfl rfl rfl ?_ | refine s_extract rfl rfl rfl rfl rfl ?_ | refine s_box rfl rfl rfl rfl rfl rfl (fun _ _ _ _ => ?_) | refine s_alloc rfl rfl rfl rfl rfl (fun _ _ _ _ => ?_) | refine s_store rfl rfl rfl rfl rfl rfl rfl (fun _ _ _ => ?_) | refine s_cmp rfl rfl rfl rfl rfl rfl ?_ | refine s_not rfl rfl rfl rfl ?_ | refine s_pick rfl rfl rfl rfl rfl ?_ | refine s_skip rfl rfl rfl ?_ | refine s_val rfl rfl rfl rfl (fun _ => rfl) ?_)
  refine vOrd_nil ?_
  exact Wp.ret ⟨.inr rfl, fun l => ⟨_, res_tmp (P := Try.prog) rfl rfl, _, rfl, by rw [← cmpI_gd], l⟩⟩
theorem eqW_lit {a b z : Int} (h : WideIs a b z) {u v : Int} (k : WideIs u v z) : eqL a b u v = true := eqW_same h k
theorem answers_any (w : World) :
    Calls Try.prog 11 #[] w fun e w' => ∃ r, e = .returned r ∧ r = .bool true ∧ Below w.heap.size w w' := by
  have g2 : cgcd (-6) 4 = 2 := by decide
  refine calls_Wp (args := []) (n := 30) Try.func11 rfl rfl (by simp) ?_
  repeat refine Wp.seq ?_
  refine (Wp.region [0] (by kernel_rfl) (by kernel_rfl) ?_)
  repeat (first | refine s_load rfl rfl rfl rfl rfl rfl rfl ?_ | (first | refine s_field 0 rfl rfl rfl rfl rfl ?_ | refine s_field 1 rfl rfl rfl rfl rfl ?_ | refine s_field 2 rfl rfl rfl rfl rfl ?_ | refine s_field 3 rfl rfl rfl rfl rfl ?_ | refine s_field 4 rfl rfl rfl rfl rfl ?_ | refine s_field 5 rfl rfl rfl rfl rfl ?_) | refine s_move rfl rfl rfl rfl ?_ | refine s_assign rfl rfl rfl rfl ?_ | refine s_extract rfl rfl rfl rfl rfl ?_ | refine s_box rfl rfl rfl rfl rfl rfl (fun _ _ _ _ => ?_) | refine s_alloc rfl rfl rfl rfl rfl (fun _ _ _ _ => ?_) | refine s_store rfl rfl rfl rfl rfl rfl rfl (fun _ _ _ => ?_) | refine s_cmp rfl rfl rfl rfl rfl rfl ?_ | refine s_not rfl rfl rfl rfl ?_ | refine s_pick rfl rfl rfl rfl rfl ?_ | refine s_skip rfl rfl rfl ?_ | refine s_val rfl rfl rfl rfl (fun _ => rfl) ?_)
  refine vOrd_nil ?_
  repeat refine Wp.seq ?_
  refine (Wp.region [0, 1, 2, 3, 4, 5, 6, 7, 8] (by kernel_rfl) (by kernel_rfl) ?_)
  refine s_call rfl rfl rfl (by kernel_rfl) rfl ?_
  refine (wof_any (-6) (by decide) (by decide) _).mono ?_
  rintro e w1 ⟨ah, al, ha, rfl, b1⟩
  refine ⟨_, rfl, b1, ?_⟩
  refine s_call rfl rfl rfl (by kernel_rfl) rfl ?_
  refine (wof_any 4 (by decide) (by decide) _).mono ?_
  rintro e w2 ⟨bh, bl, hb, rfl, b2⟩
  refine ⟨_, rfl, b2, ?_⟩
  refine s_call rfl rfl rfl (by kernel_rfl) rfl ?_
  refine (make_any ha hb (by decide) _).mono ?_
  rintro e w3 ⟨u, rfl, ⟨s, rfl, nh, nl, dh, dl, rfl, hn, hd⟩, b3⟩
  refine ⟨_, rfl, b3, ?_⟩
  have hn := hn.eq (by rw [g2]; decide : (-6 : Int) / cgcd (-6) 4 = -3)
  have hd := hd.eq (by rw [g2]; decide : (4 : Int) / cgcd (-6) 4 = 2)
  repeat (first | refine s_load rfl rfl rfl rfl rfl rfl rfl ?_ | (first | refine s_field 0 rfl rfl rfl rfl rfl ?_ | refine s_field 1 rfl rfl rfl rfl rfl ?_ | refine s_field 2 rfl rfl rfl rfl rfl ?_ | refine s_field 3 rfl rfl rfl rfl rfl ?_ | refine s_field 4 rfl rfl rfl rfl rfl ?_ | refine s_field 5 rfl rfl rfl rfl rfl ?_) | refine s_move rfl rfl rfl rfl ?_ | refine s_assign rfl rfl rfl rfl ?_ | refine s_extract rfl rfl rfl rfl rfl ?_ | refine s_box rfl rfl rfl rfl rfl rfl (fun _ _ _ _ => ?_) | refine s_alloc rfl rfl rfl rfl rfl (fun _ _ _ _ => ?_) | refine s_store rfl rfl rfl rfl rfl rfl rfl (fun _ _ _ => ?_) | refine s_cmp rfl rfl rfl rfl rfl rfl ?_ | refine s_not rfl rfl rfl rfl ?_ | refine s_pick rfl rfl rfl rfl rfl ?_ | refine s_skip rfl rfl rfl ?_ | refine s_val rfl rfl rfl rfl (fun _ => rfl) ?_)
  refine vOrd_nil ?_
  repeat refine Wp.seq ?_
  refine (Wp.drawn (by kernel_rfl) (by kernel_rfl) [0, 1, 2, 3, 4, 5, 6, 7, 8, 9, 10, 11, 12, 13, 14, 15, 16, 17, 18, 19, 20, 21] [0, 0, 0, 119, 0, 0, 0, 0, 0, 0, 0, 0, 0, 0, 0, 0, 0, 0, 0, 0, 0, 0] (by kernel_rfl) (by kernel_rfl) (fun | 4 => fun v _ => IsW (-3) v | 5 => fun v _ => IsW 2 v | 11 => fun v _ => IsW (-2) v | 12 => fun v _ => IsW (-2) v | 17 => fun v _ => IsW (-1) v | 18 => fun v _ => IsW (-1) v | _ => fun _ _ => True) (fun _ _ => ?_))
  refine s_move rfl rfl rfl rfl ?_
  refine s_cmp (c := true) rfl rfl rfl rfl rfl rfl ?_
  repeat (first | refine s_load rfl rfl rfl rfl rfl rfl rfl ?_ | (first | refine s_field 0 rfl rfl rfl rfl rfl ?_ | refine s_field 1 rfl rfl rfl rfl rfl ?_ | refine s_field 2 rfl rfl rfl rfl rfl ?_ | refine s_field 3 rfl rfl rfl rfl rfl ?_ | refine s_field 4 rfl rfl rfl rfl rfl ?_ | refine s_field 5 rfl rfl rfl rfl rfl ?_) | refine s_move rfl rfl rfl rfl ?_ | refine s_assign rfl rfl rfl rfl ?_ | refine s_extract rfl rfl rfl rfl rfl ?_ | refine s_box rfl rfl rfl rfl rfl rfl (fun _ _ _ _ => ?_) | refine s_alloc rfl rfl rfl rfl rfl (fun _ _ _ _ => ?_) | refine s_store rfl rfl rfl rfl rfl rfl rfl (fun _ _ _ => ?_) | refine s_cmp rfl rfl rfl rfl rfl rfl ?_ | refine s_not rfl rfl rfl rfl ?_ | refine s_pick rfl rfl rfl rfl rfl ?_ | refine s_skip rfl rfl rfl ?_ | refine s_val rfl rfl rfl rfl (fun _ => rfl) ?_)
  refine s_callD rfl rfl rfl (by kernel_rfl) rfl (fun wc lc => c_wof (-3) (by decide) (by decide) wc) ?_
  rintro v w4 w5 ⟨ch, cl, rfl, hc⟩ - -
  refine s_callD rfl rfl rfl (by kernel_rfl) rfl (fun wc lc => c_wof 2 (by decide) (by decide) wc) ?_
  rintro v w6 w7 ⟨fh, fl, rfl, hf⟩ - -
  refine s_val rfl rfl rfl rfl (v := .agg #[.int .i64 ch, .int .u64 cl, .int .i64 fh, .int .u64 fl]) (fun _ => by kernel_rfl) ?_
  refine s_eqv (c := true) rfl rfl rfl rfl rfl (fun _ => by kernel_rfl) (fun w => by rw [run_eql_ratio]; obtain ⟨rfl, rfl⟩ := hn.same hc; obtain ⟨rfl, rfl⟩ := hd.same hf; simp [eqR]) ?_
  repeat (first | refine s_load rfl rfl rfl rfl rfl rfl rfl ?_ | (first | refine s_field 0 rfl rfl rfl rfl rfl ?_ | refine s_field 1 rfl rfl rfl rfl rfl ?_ | refine s_field 2 rfl rfl rfl rfl rfl ?_ | refine s_field 3 rfl rfl rfl rfl rfl ?_ | refine s_field 4 rfl rfl rfl rfl rfl ?_ | refine s_field 5 rfl rfl rfl rfl rfl ?_) | refine s_move rfl rfl rfl rfl ?_ | refine s_assign rfl rfl rfl rfl ?_ | refine s_extract rfl rfl rfl rfl rfl ?_ | refine s_box rfl rfl rfl rfl rfl rfl (fun _ _ _ _ => ?_) | refine s_alloc rfl rfl rfl rfl rfl (fun _ _ _ _ => ?_) | refine s_store rfl rfl rfl rfl rfl rfl rfl (fun _ _ _ => ?_) | refine s_cmp rfl rfl rfl rfl rfl rfl ?_ | refine s_not rfl rfl rfl rfl ?_ | refine s_pick rfl rfl rfl rfl rfl ?_ | refine s_skip rfl rfl rfl ?_ | refine s_val rfl rfl rfl rfl (fun _ => rfl) ?_)
  refine s_callD rfl rfl rfl (by kernel_rfl) rfl (fun wc lc => floor_any hn hd (by decide) wc) ?_
  rintro v w8 w9 ⟨jh, jl, rfl, hj⟩ - -
  refine s_callD rfl rfl rfl (by kernel_rfl) rfl (fun wc lc => c_wof (-2) (by decide) (by decide) wc) ?_
  rintro v w10 w11 ⟨kh, kl, rfl, hk⟩ - -
  refine s_eqv (c := true) rfl rfl rfl rfl rfl (fun _ => by kernel_rfl) (fun w => by rw [run_eql_wide, eqW_same hj hk]) ?_
  repeat (first | refine s_load rfl rfl rfl rfl rfl rfl rfl ?_ | (first | refine s_field 0 rfl rfl rfl rfl rfl ?_ | refine s_field 1 rfl rfl rfl rfl rfl ?_ | refine s_field 2 rfl rfl rfl rfl rfl ?_ | refine s_field 3 rfl rfl rfl rfl rfl ?_ | refine s_field 4 rfl rfl rfl rfl rfl ?_ | refine s_field 5 rfl rfl rfl rfl rfl ?_) | refine s_move rfl rfl rfl rfl ?_ | refine s_assign rfl rfl rfl rfl ?_ | refine s_extract rfl rfl rfl rfl rfl ?_ | refine s_box rfl rfl rfl rfl rfl rfl (fun _ _ _ _ => ?_) | refine s_alloc rfl rfl rfl rfl rfl (fun _ _ _ _ => ?_) | refine s_store rfl rfl rfl rfl rfl rfl rfl (fun _ _ _ => ?_) | refine s_cmp rfl rfl rfl rfl rfl rfl ?_ | refine s_not rfl rfl rfl rfl ?_ | refine s_pick rfl rfl rfl rfl rfl ?_ | refine s_skip rfl rfl rfl ?_ | refine s_val rfl rfl rfl rfl (fun _ => rfl) ?_)
  refine s_callD rfl rfl rfl (by kernel_rfl) rfl (fun wc lc => ceil_any hn hd (by decide) wc) ?_
  rintro v w12 w13 ⟨ph, pl, rfl, hp⟩ - -
  refine s_callD rfl rfl rfl (by kernel_rfl) rfl (fun wc lc => c_wof (-1) (by decide) (by decide) wc) ?_
  rintro v w14 w15 ⟨qh, ql, rfl, hq⟩ - -
  refine s_eqv (c := true) rfl rfl rfl rfl rfl (fun _ => by kernel_rfl) (fun w => by rw [run_eql_wide, eqW_same hp hq]) ?_
  repeat (first | refine s_load rfl rfl rfl rfl rfl rfl rfl ?_ | (first | refine s_field 0 rfl rfl rfl rfl rfl ?_ | refine s_field 1 rfl rfl rfl rfl rfl ?_ | refine s_field 2 rfl rfl rfl rfl rfl ?_ | refine s_field 3 rfl rfl rfl rfl rfl ?_ | refine s_field 4 rfl rfl rfl rfl rfl ?_ | refine s_field 5 rfl rfl rfl rfl rfl ?_) | refine s_move rfl rfl rfl rfl ?_ | refine s_assign rfl rfl rfl rfl ?_ | refine s_extract rfl rfl rfl rfl rfl ?_ | refine s_box rfl rfl rfl rfl rfl rfl (fun _ _ _ _ => ?_) | refine s_alloc rfl rfl rfl rfl rfl (fun _ _ _ _ => ?_) | refine s_store rfl rfl rfl rfl rfl rfl rfl (fun _ _ _ => ?_) | refine s_cmp rfl rfl rfl rfl rfl rfl ?_ | refine s_not rfl rfl rfl rfl ?_ | refine s_pick rfl rfl rfl rfl rfl ?_ | refine s_skip rfl rfl rfl ?_ | refine s_val rfl rfl rfl rfl (fun _ => rfl) ?_)
  refine vOrd_nil ?_
  exact Wp.ret ⟨.inr rfl, fun l => ⟨_, res_tmp (P := Try.prog) rfl rfl, _, rfl, rfl, l⟩⟩
end Go.Proofs.Ytklankodjjkhiaa
