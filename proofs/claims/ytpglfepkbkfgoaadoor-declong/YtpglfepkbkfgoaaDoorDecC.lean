/-
  The contracts of dec.lastDigits, dec.size and dec.Print (P4.1): the text of any number. No conditions.
-/
import Derived.Test.YtpglfepkbkfgoaaDoorDecB
import Derived.Test.YtpglfepkbkfgoaaDoorVcX
namespace Go.Proofs.YtpglfepkbkfgoaaDoor
open Go.RowKit
set_option maxRecDepth 100000

theorem made_one (v : Value) (n : Nat) : (madeCells #[v] (n * 1)).toList = List.replicate n v := by
  apply List.ext_getElem?
  intro j
  simp only [madeCells, Array.getElem?_toList, Array.getElem?_map, List.getElem?_replicate, Nat.mul_one]
  by_cases h : j < n
  · simp [h, Nat.mod_one]
  · simp [h]
theorem set_last {α : Type} (a x : α) (L : List α) : ∀ r, (List.replicate (r + 1) a ++ L).set r x = List.replicate r a ++ x :: L
  | 0 => rfl
  | r + 1 => by
    rw [List.replicate_succ, List.cons_append, List.set_cons_succ, set_last a x L r, ← List.cons_append, ← List.replicate_succ]
theorem digits_set {n i m q : Nat} (hq : q = n / 10 ^ i) (hi : i < m) :
    (List.replicate (m - i) (Value.int .u8 0) ++ bytesV (pad i n)).set (m - 1 - i) (.int .u8 (48 + (q : Int) % 10)) = List.replicate (m - (i + 1)) (Value.int .u8 0) ++ bytesV (pad (i + 1) n) := by
  have e : m - i = (m - 1 - i) + 1 := by omega
  rw [e, set_last, pad_front, show m - (i + 1) = m - 1 - i by omega]
  have h : ((UInt8.ofNat (48 + n / 10 ^ i % 10)).toNat : Int) = 48 + (q : Int) % 10 := by rw [dig_nat, ← hq]; omega
  simp only [bytesV, List.map_cons, h]
theorem lastDigits_any (n m : Nat) (hn : n ≤ 18446744073709551615) (hm : m ≤ 1000) (w : World) :
    Calls Tryd.prog 16 #[.int .u64 n, .int .i64 m] w fun e w' => ∃ r, e = .returned r ∧ r = .string ⟨⟨pad m n⟩⟩ ∧ Below w.heap.size w w' := by
  refine calls_Wp (args := [_, _]) (n := 28) Tryd.func16 rfl rfl (by simp) ?_
  refine Wp.seq ?_
  refine Wp.region [0] (by kernel_rfl) (by kernel_rfl) ?_
  refine s_assign rfl rfl rfl rfl ?_
  refine vOrd_nil ?_
  refine Wp.seq ?_
  refine Wp.region [0, 1, 2] (by kernel_rfl) (by kernel_rfl) ?_
  refine s_move rfl rfl rfl rfl ?_
  refine s_make (k1 := .i64) (k2 := .i64) (n := m) (e := 5) rfl rfl rfl rfl rfl rfl rfl rfl (by show (1 : Int) * _ ≤ _; omega) (by omega) ?_
  intro c w1 hc l1 hrow
  have hrow : RowIs w1 c 5 (List.replicate m (.int .u8 0)) := by rw [← made_one]; exact hrow
  refine s_assign rfl rfl rfl rfl ?_
  refine vOrd_nil ?_
  refine Wp.seq ?_
  refine Wp.seq ?_
  refine Wp.region [0, 1] (by kernel_rfl) (by kernel_rfl) ?_
  refine s_move rfl rfl rfl rfl ?_
  refine s_move rfl rfl rfl rfl ?_
  refine vOrd_nil ?_
  refine Wp.block ?_
  refine Wp.loop (fun k st w2 => ∃ i q : Nat, st = St.of [(0, .v (.int .u64 q)), (1, .v (.int .i64 m)), (5, .v (.slice (some ⟨c, 0, none⟩) m m)), (9, .v (.int .i64 m)), (10, .v (.int .i64 i))] [] ∧ i ≤ m ∧ q = n / 10 ^ i ∧ q ≤ n ∧ RowIs w2 c 5 (List.replicate (m - i) (.int .u8 0) ++ bytesV (pad i n)) ∧ k = m - i) ?_ ?_
  · exact ⟨_, _, (St.of_le' (env := [(0, .v _), (1, .v _), (5, .v _), (9, .v _), (10, .v _)]) (mem := []) ⟨rfl, rfl, rfl, rfl, rfl, trivial⟩ trivial), 0, n, rfl, by omega, by simp, Nat.le_refl _, by simpa [pad, bytesV] using hrow, rfl⟩
  · rintro k st w4 ⟨i, q, rfl, hi, hq, hqn, hrow2, rfl⟩
    refine Wp.seq ?_
    refine Wp.region [0] (by kernel_rfl) (by kernel_rfl) ?_
    refine p_lss rfl rfl rfl rfl rfl (fun h11 => ?_) (fun h11 => ?_)
    · refine vOrd_nil ?_
      refine Wp.seq ?_
      refine Wp.condT rfl rfl ?_
      refine Wp.skip ?_
      refine Wp.seq ?_
      refine Wp.block ?_
      refine Wp.seq ?_
      refine Wp.region [0, 1] (by kernel_rfl) (by kernel_rfl) ?_
      refine s_move rfl rfl rfl rfl ?_
      refine s_assign rfl rfl rfl rfl ?_
      refine vOrd_nil ?_
      refine Wp.seq ?_
      refine Wp.region [0, 1, 2, 3, 4, 5, 6, 7, 8, 9, 10] (by kernel_rfl) (by kernel_rfl) ?_
      refine s_move rfl rfl rfl rfl ?_
      refine s_move rfl rfl rfl rfl ?_
      refine a_sub (-9223372036854775808) 9223372036854775807 (by decide) rfl rfl rfl rfl rfl (by omega) (by omega) ?_
      refine s_move rfl rfl rfl rfl ?_
      refine a_sub (-9223372036854775808) 9223372036854775807 (by decide) rfl rfl rfl rfl rfl (by omega) (by omega) ?_
      refine s_move rfl rfl rfl rfl ?_
      refine a_rem rfl rfl rfl rfl rfl (by omega) (by omega) ?_
      refine a_conv (0) 255 (by decide) rfl rfl rfl rfl rfl rfl (by omega) (by omega) ?_
      refine a_add (0) 255 (by decide) rfl rfl rfl rfl rfl (by omega) (by omega) ?_
      refine s_idx (sz := 1) (m - 1 - i) rfl rfl rfl rfl rfl rfl rfl (by omega) (by omega) (by omega) ?_
      refine s_stU rfl rfl rfl rfl rfl hrow2 (write_one (by kernel_rfl) rfl rfl (by simp [bytesV_len, pad_len]; omega)) hc (by repeat (first | exact Avoid.nil _ _ | refine Avoid.put ?_)) ?_
      intro w4 s4 hr4
      refine vOrd_nil ?_
      refine Wp.region [0, 1, 2] (by kernel_rfl) (by kernel_rfl) ?_
      refine s_move rfl rfl rfl rfl ?_
      refine a_quo rfl rfl rfl rfl rfl (by omega) (by omega) (by show _ ≤ (18446744073709551615 : Int); omega) ?_
      refine s_assign rfl rfl rfl rfl ?_
      refine vOrd_nil ?_
      refine Wp.region [0, 1] (by kernel_rfl) (by kernel_rfl) ?_
      refine a_add (-9223372036854775808) 9223372036854775807 (by decide) rfl rfl rfl rfl rfl (by omega) (by omega) ?_
      refine s_move rfl rfl rfl rfl ?_
      refine vOrd_nil ?_
      exact ⟨_, _, by omega, (St.of_le' (env := [(0, .v _), (1, .v _), (5, .v _), (9, .v _), (10, .v _)]) (mem := []) ⟨rfl, rfl, rfl, rfl, rfl, trivial⟩ trivial), i + 1, q / 10, rfl, by omega, by rw [hq, Nat.div_div_eq_div_mul, Nat.pow_succ], Nat.le_trans (Nat.div_le_self _ _) hqn, by rw [← digits_set hq (by omega)]; exact hr4, rfl⟩
    · refine vOrd_nil ?_
      refine Wp.seq ?_
      refine Wp.condF rfl rfl ?_
      refine Wp.exit ?_
      rw [show i = m by omega, Nat.sub_self, List.replicate_zero, List.nil_append] at hrow2
      refine Wp.seq ?_
      refine Wp.region [0, 1, 2] (by kernel_rfl) (by kernel_rfl) ?_
      refine s_move rfl rfl rfl rfl ?_
      refine x_str rfl rfl rfl rfl rfl rfl rfl (own_of_row (base := 0) (sz := 1) hrow2 (Nat.zero_le _) (by rw [bytesV_len, pad_len, Nat.mul_one]) (by omega)) ?_
      refine s_assign rfl rfl rfl rfl ?_
      refine vOrd_nil ?_
      refine Wp.ret ⟨.inr rfl, fun lW => ⟨_, res_tmp (P := Tryd.prog) rfl rfl, _, rfl, ?_, lW⟩⟩
      clear lW
      rfl
theorem dsize_any {h l z : Int} (k : WideIs h l z) (w : World) : Calls Tryd.prog 14 #[.agg #[.int .i64 h, .int .u64 l]] w fun e w' => ∃ r, e = .returned r ∧ IsLb (ab z) r ∧ Below w.heap.size w w' := by
  have k0 := k
  obtain ⟨k1, k2, k3, k4, k5⟩ := k
  have hw : IntKind.u64.wrap h = h % 18446744073709551616 := IntKind.wrap_u64 h
  have hL : LimbIs (IntKind.u64.wrap h) l (z % 340282366920938463463374607431768211456) := by rw [hw]; exact ⟨by omega, by omega, k3, k4, by omega⟩
  refine calls_Wp (args := [_]) (n := 20) Tryd.func14 rfl rfl (by simp) ?_
  refine Wp.seq ?_
  refine Wp.region [0, 1] (by kernel_rfl) (by kernel_rfl) ?_
  refine s_box rfl rfl rfl rfl rfl rfl (fun bk1 w1 kb1 lw1 => ?_)
  refine s_alloc rfl rfl rfl rfl rfl (fun bk2 w2 kb2 lw2 => ?_)
  refine vOrd_nil ?_
  refine Wp.seq ?_
  refine Wp.region [0, 1, 2, 3, 4, 5, 6, 7] (by kernel_rfl) (by kernel_rfl) ?_
  refine s_field 0 rfl rfl rfl rfl rfl ?_
  refine s_load rfl rfl rfl rfl rfl rfl rfl ?_
  refine a_wconv rfl rfl rfl rfl rfl rfl ?_
  refine s_field 1 rfl rfl rfl rfl rfl ?_
  refine s_load rfl rfl rfl rfl rfl rfl rfl ?_
  refine s_build rfl rfl rfl rfl rfl (by kernel_rfl) ?_
  refine s_alloc rfl rfl rfl rfl rfl (fun bk3 w3 kb3 lw3 => ?_)
  refine s_store rfl rfl rfl rfl rfl rfl rfl (fun w4 sw4 vw4 => ?_)
  refine vOrd_nil ?_
  refine Wp.seq ?_
  refine Wp.seq ?_
  refine Wp.region [0, 1, 2] (by kernel_rfl) (by kernel_rfl) ?_
  refine s_field 0 rfl rfl rfl rfl rfl ?_
  refine s_load rfl rfl rfl rfl rfl rfl rfl ?_
  refine p_lss rfl rfl rfl rfl rfl (fun h12 => ?_) (fun h12 => ?_)
  · refine vOrd_nil ?_
    refine Wp.condT rfl rfl ?_
    refine Wp.region [0, 1, 2, 3, 4, 5, 6] (by kernel_rfl) (by kernel_rfl) ?_
    refine s_build rfl rfl rfl rfl rfl (by kernel_rfl) ?_
    refine s_load rfl rfl rfl rfl rfl rfl rfl ?_
    refine s_callT rfl rfl rfl (by kernel_rfl) rfl (c_lsub ⟨_, _, rfl, limb_0⟩ ⟨_, _, rfl, hL⟩ _) ?_
    rintro v w5 ⟨s, o, rfl, sh, sl, rfl, hs⟩ lw5
    refine s_move rfl rfl rfl rfl ?_
    refine s_extract rfl rfl rfl rfl rfl ?_
    refine s_extract rfl rfl rfl rfl rfl ?_
    refine s_store rfl rfl rfl rfl rfl rfl rfl (fun w6 sw6 vw6 => ?_)
    refine vOrd_nil ?_
    refine Wp.seq ?_
    refine Wp.region [0, 1] (by kernel_rfl) (by kernel_rfl) ?_
    refine s_load rfl rfl rfl rfl rfl rfl rfl ?_
    refine s_store rfl rfl rfl rfl rfl rfl rfl (fun w7 sw7 vw7 => ?_)
    refine vOrd_nil ?_
    refine Wp.ret ⟨.inr rfl, fun lW => ⟨_, res_cell rfl rfl rfl rfl, _, rfl, ?_, lW⟩⟩
    clear lW
    refine ⟨_, _, rfl, hs.eq ?_⟩
    have hz : z < 0 := by omega
    rw [ab_neg hz]; omega
  · refine vOrd_nil ?_
    refine Wp.condF rfl rfl ?_
    refine Wp.skip ?_
    refine Wp.seq ?_
    refine Wp.region [0, 1] (by kernel_rfl) (by kernel_rfl) ?_
    refine s_load rfl rfl rfl rfl rfl rfl rfl ?_
    refine s_store rfl rfl rfl rfl rfl rfl rfl (fun w8 sw8 vw8 => ?_)
    refine vOrd_nil ?_
    refine Wp.ret ⟨.inr rfl, fun lW => ⟨_, res_cell rfl rfl rfl rfl, _, rfl, ?_, lW⟩⟩
    clear lW
    refine ⟨_, _, rfl, hL.eq ?_⟩
    have hz : 0 ≤ z := by omega
    rw [ab_pos hz]; omega
theorem pad_mod : ∀ k n : Nat, pad k (n % 10 ^ k) = pad k n
  | 0, _ => rfl
  | k + 1, n => by
    have h : n % 10 ^ (k + 1) = n % 10 + 10 * (n / 10 % 10 ^ k) := by rw [Nat.pow_succ, Nat.mul_comm (10 ^ k) 10, Nat.mod_mul]
    rw [pad, pad, h, show (n % 10 + 10 * (n / 10 % 10 ^ k)) / 10 = n / 10 % 10 ^ k by omega, show (n % 10 + 10 * (n / 10 % 10 ^ k)) % 10 = n % 10 by omega, pad_mod k]
theorem pad_app (j : Nat) : ∀ k n : Nat, pad (j + k) n = pad j (n / 10 ^ k) ++ pad k n
  | 0, n => by simp [pad]
  | k + 1, n => by
    rw [← Nat.add_assoc, pad, pad_app j k, pad, List.append_assoc, Nat.div_div_eq_div_mul, Nat.pow_succ, Nat.mul_comm 10]
theorem pad39 (n : Nat) : pad 20 (n / 10000000000000000000) ++ pad 19 (n % 10000000000000000000) = pad 39 n := by
  have e : (10000000000000000000 : Nat) = 10 ^ 19 := by decide
  rw [e, pad_mod, ← pad_app]
theorem text_zero {n : Nat} (h : n < 10 ^ 39) (hd : (pad 39 n).dropWhile is48 = []) : n = 0 ∧ decN n = [48] := by
  have e := numD_pad 39 n
  rw [Nat.mod_eq_of_lt h, ← numD_drop, hd] at e
  have : numD [] 0 = 0 := rfl
  refine ⟨by omega, ?_⟩
  unfold decN; rw [if_pos hd]
theorem natAbs_ab (z : Int) : (ab z).toNat = z.natAbs := by unfold ab; split <;> omega
theorem print_any {z : Int} {u : Value} (hu : IsW z u) (w : World) :
    Calls Tryd.prog 6 #[u] w fun e w' => ∃ r, e = .returned r ∧ r = .string ⟨⟨decText z⟩⟩ ∧ Below w.heap.size w w' := by
  obtain ⟨h, l, rfl, k⟩ := hu
  have kr := k.range
  have ha : 0 ≤ ab z ∧ ab z ≤ 170141183460469231731687303715884105728 := by unfold ab; split <;> omega
  have hn : z.natAbs < 10 ^ 39 := by have := pow39; omega
  refine calls_Wp (args := [_]) (n := 32) Tryd.func6 rfl rfl (by simp) ?_
  refine Wp.seq ?_
  refine Wp.region [0, 1] (by kernel_rfl) (by kernel_rfl) ?_
  refine s_box rfl rfl rfl rfl rfl rfl (fun bk1 w1 kb1 lw1 => ?_)
  refine s_assign rfl rfl rfl rfl ?_
  refine vOrd_nil ?_
  refine Wp.seq ?_
  refine Wp.region [0, 1, 2, 3, 4, 5, 6, 7, 8, 9, 10, 11, 12, 13] (by kernel_rfl) (by kernel_rfl) ?_
  refine s_build rfl rfl rfl rfl rfl (by kernel_rfl) ?_
  refine s_load rfl rfl rfl rfl rfl rfl rfl ?_
  refine s_callT rfl rfl rfl (by kernel_rfl) rfl (dsize_any k _) ?_
  rintro v w2 ⟨sh, sl, rfl, hs⟩ lw2
  refine s_build rfl rfl rfl rfl rfl (by kernel_rfl) ?_
  refine s_callT rfl rfl rfl (by kernel_rfl) rfl (c_ldiv (P := ab z) (d := 10000000000000000000) (limb_0.eq (by omega)) (hs.eq (by omega)) ⟨by omega, by omega, by omega, by omega, by omega⟩ ha.1 (by omega) _) ?_
  rintro v w3 ⟨q, p, rfl, ⟨qh, ql, rfl, hq⟩, ⟨ph, pl, rfl, hp⟩⟩ lw3
  have eq : ql = ((z.natAbs / 10000000000000000000 : Nat) : Int) := by have := natAbs_ab z; obtain ⟨q1, q2, q3, q4, q5⟩ := hq; omega
  have ep : pl = ((z.natAbs % 10000000000000000000 : Nat) : Int) := by have := natAbs_ab z; obtain ⟨q1, q2, q3, q4, q5⟩ := hp; omega
  subst eq ep
  refine s_move rfl rfl rfl rfl ?_
  refine s_extract rfl rfl rfl rfl rfl ?_
  refine s_extract rfl rfl rfl rfl rfl ?_
  refine s_extract rfl rfl rfl rfl rfl ?_
  refine s_alloc rfl rfl rfl rfl rfl (fun bk4 w4 kb4 lw4 => ?_)
  refine s_alloc rfl rfl rfl rfl rfl (fun bk5 w5 kb5 lw5 => ?_)
  refine s_store rfl rfl rfl rfl rfl rfl rfl (fun w6 sw6 vw6 => ?_)
  refine s_store rfl rfl rfl rfl rfl rfl rfl (fun w7 sw7 vw7 => ?_)
  refine s_assign rfl rfl rfl rfl ?_
  refine vOrd_nil ?_
  refine Wp.seq ?_
  refine (Wp.drawn (by kernel_rfl) (by kernel_rfl) [0, 1, 3, 4, 2, 5, 6, 7, 8] [24, 25, 7, 15, 0, 0, 0, 0, 0] (by kernel_rfl) (by kernel_rfl) (fun | 2 => fun v _ => v = .string ⟨⟨pad 20 (z.natAbs / 10000000000000000000)⟩⟩ | 5 => fun v _ => v = .string ⟨⟨pad 19 (z.natAbs % 10000000000000000000)⟩⟩ | 7 => fun v _ => v = .string ⟨⟨(pad 20 (z.natAbs / 10000000000000000000) ++ pad 19 (z.natAbs % 10000000000000000000)).dropWhile is48⟩⟩ | _ => fun _ _ => True) (fun _ _ => ?_))
  refine s_field 1 rfl rfl rfl rfl rfl ?_
  refine s_load rfl rfl rfl rfl rfl rfl rfl ?_
  refine s_field 1 rfl rfl rfl rfl rfl ?_
  refine s_load rfl rfl rfl rfl rfl rfl rfl ?_
  refine s_callD rfl rfl rfl (by kernel_rfl) rfl (fun wc lc => lastDigits_any (z.natAbs / 10000000000000000000) 20 (by omega) (by decide) wc) ?_
  rintro v w8 u8 rfl lw8 mw8
  refine s_callD rfl rfl rfl (by kernel_rfl) rfl (fun wc lc => lastDigits_any (z.natAbs % 10000000000000000000) 19 (by omega) (by decide) wc) ?_
  rintro v w9 u9 rfl lw9 mw9
  refine b_cat rfl rfl rfl rfl rfl (by rw [pad_len, pad_len]; decide) ?_
  refine s_callD rfl rfl rfl (by kernel_rfl) rfl (fun wc lc => trimLeft_any _ wc) ?_
  rintro v w10 u10 rfl lw10 mw10
  rw [pad39]
  refine s_assign rfl rfl rfl rfl ?_
  refine vOrd_nil ?_
  refine Wp.seq ?_
  refine Wp.seq ?_
  refine Wp.region [0, 1] (by kernel_rfl) (by kernel_rfl) ?_
  refine s_move rfl rfl rfl rfl ?_
  refine b_eq rfl rfl rfl rfl rfl (fun h25 => ?_) (fun h25 => ?_)
  · refine vOrd_nil ?_
    refine Wp.condT rfl rfl ?_
    refine Wp.seq ?_
    refine Wp.region [0] (by kernel_rfl) (by kernel_rfl) ?_
    refine s_assign rfl rfl rfl rfl ?_
    refine vOrd_nil ?_
    refine Wp.ret ⟨.inr rfl, fun lW => ⟨_, res_tmp (P := Tryd.prog) rfl rfl, _, rfl, ?_, lW⟩⟩
    clear lW
    obtain ⟨z0, e0⟩ := text_zero hn h25
    unfold decText; rw [if_neg (by omega), e0]
  · refine vOrd_nil ?_
    refine Wp.condF rfl rfl ?_
    refine Wp.skip ?_
    refine Wp.seq ?_
    refine Wp.seq ?_
    refine Wp.region [0, 1, 2] (by kernel_rfl) (by kernel_rfl) ?_
    refine s_field 0 rfl rfl rfl rfl rfl ?_
    refine s_load rfl rfl rfl rfl rfl rfl rfl ?_
    refine p_lss rfl rfl rfl rfl rfl (fun h28 => ?_) (fun h28 => ?_)
    · refine vOrd_nil ?_
      refine Wp.condT rfl rfl ?_
      refine Wp.seq ?_
      refine Wp.region [0, 1, 2] (by kernel_rfl) (by kernel_rfl) ?_
      refine s_move rfl rfl rfl rfl ?_
      refine b_cat rfl rfl rfl rfl rfl (by have := (List.dropWhile_sublist is48 (l := pad 39 z.natAbs)).length_le; rw [pad_len] at this; simp only [List.length_cons, List.length_nil]; omega) ?_
      refine s_assign rfl rfl rfl rfl ?_
      refine vOrd_nil ?_
      refine Wp.ret ⟨.inr rfl, fun lW => ⟨_, res_tmp (P := Tryd.prog) rfl rfl, _, rfl, ?_, lW⟩⟩
      clear lW
      have hz : z < 0 := by obtain ⟨_, _, _, _, _⟩ := k; omega
      unfold decText decN; rw [if_pos hz, if_neg h25]; rfl
    · refine vOrd_nil ?_
      refine Wp.condF rfl rfl ?_
      refine Wp.skip ?_
      refine Wp.seq ?_
      refine Wp.region [0, 1] (by kernel_rfl) (by kernel_rfl) ?_
      refine s_move rfl rfl rfl rfl ?_
      refine s_assign rfl rfl rfl rfl ?_
      refine vOrd_nil ?_
      refine Wp.ret ⟨.inr rfl, fun lW => ⟨_, res_tmp (P := Tryd.prog) rfl rfl, _, rfl, ?_, lW⟩⟩
      clear lW
      have hz : ¬ z < 0 := by obtain ⟨_, _, _, _, _⟩ := k; omega
      unfold decText decN; rw [if_neg hz, if_neg h25]
end Go.Proofs.YtpglfepkbkfgoaaDoor
