/-
  The contracts of dec.areDigits, strings.CutPrefix (of a prefix of one byte and any other), strings.TrimLeft (of the cutset "0") and what they call. Of texts below 2^62 bytes.
-/
import Derived.Test.YtpglfepkbkfgoaaDoorDecA
namespace Go.Proofs.YtpglfepkbkfgoaaDoor
open Go.RowKit
set_option maxRecDepth 100000

theorem areDigits_any (l : List UInt8) (hl : l.length ≤ 4611686018427387904) (w : World) :
    Calls Tryd.prog 18 #[.string ⟨⟨l⟩⟩] w fun e w' => ∃ r, e = .returned r ∧ r = .bool (l.all isDig && !l.isEmpty) ∧ Below w.heap.size w w' := by
  refine calls_Wp (args := [_]) (n := 22) Tryd.func18 rfl rfl (by simp) ?_
  refine Wp.seq ?_
  refine Wp.region [0] (by kernel_rfl) (by kernel_rfl) ?_
  refine s_assign rfl rfl rfl rfl ?_
  refine vOrd_nil ?_
  refine Wp.seq ?_
  refine Wp.seq ?_
  refine Wp.region [0, 1, 2] (by kernel_rfl) (by kernel_rfl) ?_
  refine s_move rfl rfl rfl rfl ?_
  refine b_len rfl rfl rfl rfl rfl ?_
  refine s_move rfl rfl rfl rfl ?_
  refine vOrd_nil ?_
  refine Wp.block ?_
  refine Wp.loop (fun k st _ => ∃ i : Nat, st = St.of [(0, .v (.string ⟨⟨l⟩⟩)), (5, .v (.int .i64 l.length)), (6, .v (.int .i64 i))] [] ∧ i ≤ l.length ∧ (l.take i).all isDig = true ∧ k = l.length - i) ?_ ?_
  · exact ⟨_, _, (St.of_le' (env := [(0, .v _), (5, .v _), (6, .v _)]) (mem := []) ⟨rfl, rfl, rfl, trivial⟩ trivial), 0, rfl, by omega, by simp, rfl⟩
  · rintro k st w1 ⟨i, rfl, hi, hd, rfl⟩
    refine Wp.seq ?_
    refine Wp.region [0] (by kernel_rfl) (by kernel_rfl) ?_
    refine p_lss rfl rfl rfl rfl rfl (fun h7 => ?_) (fun h7 => ?_)
    · refine vOrd_nil ?_
      refine Wp.seq ?_
      refine Wp.condT rfl rfl ?_
      refine Wp.skip ?_
      refine Wp.seq ?_
      refine Wp.block ?_
      refine Wp.seq ?_
      refine Wp.region [0, 1] (by kernel_rfl) (by kernel_rfl) ?_
      refine s_move rfl rfl rfl rfl ?_
      refine s_assign rfl rfl rfl rfl ?_
      refine vOrd_nil ?_
      refine Wp.seq ?_
      obtain ⟨b, hb⟩ := get_some (l := l) (i := i) (by omega)
      refine Wp.region [0, 1, 2, 3, 4, 5, 6, 7, 8, 9] (by kernel_rfl) (by kernel_rfl) ?_
      refine s_move rfl rfl rfl rfl ?_
      refine s_move rfl rfl rfl rfl ?_
      refine b_byte rfl rfl rfl rfl rfl rfl (by omega) (hb) ?_
      refine p_lss rfl rfl rfl rfl rfl (fun h12 => ?_) (fun h12 => ?_)
      · refine s_move rfl rfl rfl rfl ?_
        refine s_skip rfl rfl rfl ?_
        refine s_skip rfl rfl rfl ?_
        refine s_skip rfl rfl rfl ?_
        refine s_skip rfl rfl rfl ?_
        refine s_pick rfl rfl rfl rfl rfl ?_
        refine vOrd_nil ?_
        refine Wp.condT rfl rfl ?_
        refine Wp.seq ?_
        refine Wp.region [0] (by kernel_rfl) (by kernel_rfl) ?_
        refine s_assign rfl rfl rfl rfl ?_
        refine vOrd_nil ?_
        refine Wp.ret ⟨.inr rfl, fun lW => ⟨_, res_tmp (P := Tryd.prog) rfl rfl, _, rfl, ?_, lW⟩⟩
        have hn : isDig b = false := by simp [isDig]; omega
        rw [all_not hb hn]; rfl
      · refine s_move rfl rfl rfl rfl ?_
        refine s_move rfl rfl rfl rfl ?_
        refine s_move rfl rfl rfl rfl ?_
        refine b_byte rfl rfl rfl rfl rfl rfl (by omega) (hb) ?_
        refine p_gtr rfl rfl rfl rfl rfl (fun h17 => ?_) (fun h17 => ?_)
        · refine s_pick rfl rfl rfl rfl rfl ?_
          refine vOrd_nil ?_
          refine Wp.condT rfl rfl ?_
          refine Wp.seq ?_
          refine Wp.region [0] (by kernel_rfl) (by kernel_rfl) ?_
          refine s_assign rfl rfl rfl rfl ?_
          refine vOrd_nil ?_
          refine Wp.ret ⟨.inr rfl, fun lW => ⟨_, res_tmp (P := Tryd.prog) rfl rfl, _, rfl, ?_, lW⟩⟩
          have hn : isDig b = false := by simp [isDig]; omega
          rw [all_not hb hn]; rfl
        · refine s_pick rfl rfl rfl rfl rfl ?_
          refine vOrd_nil ?_
          refine Wp.condF rfl rfl ?_
          refine Wp.skip ?_
          refine Wp.region [0, 1] (by kernel_rfl) (by kernel_rfl) ?_
          refine a_add (-9223372036854775808) 9223372036854775807 (by decide) rfl rfl rfl rfl rfl (by omega) (by omega) ?_
          refine s_move rfl rfl rfl rfl ?_
          refine vOrd_nil ?_
          exact ⟨_, _, by omega, (St.of_le' (env := [(0, .v _), (5, .v _), (6, .v _)]) (mem := []) ⟨rfl, rfl, rfl, trivial⟩ trivial), i + 1, rfl, by omega, all_take hd hb (isDig_iff.2 (by omega)), rfl⟩
    · refine vOrd_nil ?_
      refine Wp.seq ?_
      refine Wp.condF rfl rfl ?_
      refine Wp.exit ?_
      refine Wp.seq ?_
      refine Wp.region [0, 1, 2] (by kernel_rfl) (by kernel_rfl) ?_
      refine s_move rfl rfl rfl rfl ?_
      refine b_ne rfl rfl rfl rfl rfl (fun h21 => ?_) (fun h21 => ?_)
      · refine s_assign rfl rfl rfl rfl ?_
        refine vOrd_nil ?_
        refine Wp.ret ⟨.inr rfl, fun lW => ⟨_, res_tmp (P := Tryd.prog) rfl rfl, _, rfl, ?_, lW⟩⟩
        rw [show i = l.length by omega, List.take_length] at hd
        rw [hd]; simp [h21]
      · refine s_assign rfl rfl rfl rfl ?_
        refine vOrd_nil ?_
        refine Wp.ret ⟨.inr rfl, fun lW => ⟨_, res_tmp (P := Tryd.prog) rfl rfl, _, rfl, ?_, lW⟩⟩
        rw [show i = l.length by omega, List.take_length] at hd
        rw [hd]; simp [h21]
theorem hasPrefix_any (l p : List UInt8) (w : World) :
    Calls Tryd.prog 49 #[.string ⟨⟨l⟩⟩, .string ⟨⟨p⟩⟩] w fun e w' => ∃ r, e = .returned r ∧ r = .bool (decide (l.take p.length = p)) ∧ Below w.heap.size w w' := by
  refine calls_Wp (args := [_, _]) (n := 18) Tryd.func49 rfl rfl (by simp) ?_
  refine Wp.seq ?_
  refine Wp.region [0] (by kernel_rfl) (by kernel_rfl) ?_
  refine s_assign rfl rfl rfl rfl ?_
  refine vOrd_nil ?_
  refine Wp.seq ?_
  refine Wp.region [0, 1, 2, 3, 4, 5, 6, 7, 8, 9, 10, 11, 12, 13] (by kernel_rfl) (by kernel_rfl) ?_
  refine s_move rfl rfl rfl rfl ?_
  refine b_len rfl rfl rfl rfl rfl ?_
  refine s_move rfl rfl rfl rfl ?_
  refine b_len rfl rfl rfl rfl rfl ?_
  refine p_geq rfl rfl rfl rfl rfl (fun h9 => ?_) (fun h9 => ?_)
  · refine s_move rfl rfl rfl rfl ?_
    refine s_move rfl rfl rfl rfl ?_
    refine s_move rfl rfl rfl rfl ?_
    refine b_len rfl rfl rfl rfl rfl ?_
    refine b_to rfl rfl rfl rfl rfl rfl (by omega) (by omega) ?_
    refine s_move rfl rfl rfl rfl ?_
    refine b_eq rfl rfl rfl rfl rfl (fun h16 => ?_) (fun h16 => ?_)
    · refine s_pick rfl rfl rfl rfl rfl ?_
      refine s_assign rfl rfl rfl rfl ?_
      refine vOrd_nil ?_
      refine Wp.ret ⟨.inr rfl, fun lW => ⟨_, res_tmp (P := Tryd.prog) rfl rfl, _, rfl, ?_, lW⟩⟩
      rw [decide_eq_true (by simpa using h16)]
    · refine s_pick rfl rfl rfl rfl rfl ?_
      refine s_assign rfl rfl rfl rfl ?_
      refine vOrd_nil ?_
      refine Wp.ret ⟨.inr rfl, fun lW => ⟨_, res_tmp (P := Tryd.prog) rfl rfl, _, rfl, ?_, lW⟩⟩
      rw [decide_eq_false (by simpa using h16)]
  · refine s_move rfl rfl rfl rfl ?_
    refine s_skip rfl rfl rfl ?_
    refine s_skip rfl rfl rfl ?_
    refine s_skip rfl rfl rfl ?_
    refine s_skip rfl rfl rfl ?_
    refine s_skip rfl rfl rfl ?_
    refine s_skip rfl rfl rfl ?_
    refine s_pick rfl rfl rfl rfl rfl ?_
    refine s_assign rfl rfl rfl rfl ?_
    refine vOrd_nil ?_
    refine Wp.ret ⟨.inr rfl, fun lW => ⟨_, res_tmp (P := Tryd.prog) rfl rfl, _, rfl, ?_, lW⟩⟩
    rw [decide_eq_false (fun e => by have := congrArg List.length e; rw [List.length_take] at this; omega)]
theorem cutPrefixLite_any (l p : List UInt8) (w : World) :
    Calls Tryd.prog 38 #[.string ⟨⟨l⟩⟩, .string ⟨⟨p⟩⟩] w fun e w' => ∃ r, e = .returned r ∧ r = .tuple #[.string ⟨⟨if l.take p.length = p then l.drop p.length else l⟩⟩, .bool (decide (l.take p.length = p))] ∧ Below w.heap.size w w' := by
  by_cases c : l.take p.length = p
  · have hp : p.length ≤ l.length := by have := congrArg List.length c; rw [List.length_take] at this; omega
    rw [if_pos c, decide_eq_true c]
    refine calls_Wp (args := [_, _]) (n := 15) Tryd.func38 rfl rfl (by simp) ?_
    refine Wp.seq ?_
    refine Wp.region [0, 1] (by kernel_rfl) (by kernel_rfl) ?_
    refine s_assign rfl rfl rfl rfl ?_
    refine s_assign rfl rfl rfl rfl ?_
    refine vOrd_nil ?_
    refine Wp.seq ?_
    refine Wp.seq ?_
    refine Wp.region [0, 1, 2, 3] (by kernel_rfl) (by kernel_rfl) ?_
    refine s_move rfl rfl rfl rfl ?_
    refine s_move rfl rfl rfl rfl ?_
    refine s_callT rfl rfl rfl (by kernel_rfl) rfl (hasPrefix_any l p _) ?_
    rintro v w1 rfl l1
    rw [decide_eq_true c]
    refine s_not rfl rfl rfl rfl ?_
    refine vOrd_nil ?_
    refine Wp.condF rfl rfl ?_
    refine Wp.skip ?_
    refine Wp.seq ?_
    refine Wp.region [0, 1, 2, 3, 4, 5] (by kernel_rfl) (by kernel_rfl) ?_
    refine s_move rfl rfl rfl rfl ?_
    refine s_move rfl rfl rfl rfl ?_
    refine b_len rfl rfl rfl rfl rfl ?_
    refine b_from rfl rfl rfl rfl rfl rfl (by omega) (by omega) ?_
    refine s_assign rfl rfl rfl rfl ?_
    refine s_assign rfl rfl rfl rfl ?_
    refine vOrd_nil ?_
    refine Wp.ret ⟨.inr rfl, fun lW => ⟨_, ⟨_, _, res_tmp (P := Tryd.prog) rfl rfl, res_tmp (P := Tryd.prog) rfl rfl, rfl⟩, _, rfl, ?_, lW⟩⟩
    rfl
  · rw [if_neg c, decide_eq_false c]
    refine calls_Wp (args := [_, _]) (n := 15) Tryd.func38 rfl rfl (by simp) ?_
    refine Wp.seq ?_
    refine Wp.region [0, 1] (by kernel_rfl) (by kernel_rfl) ?_
    refine s_assign rfl rfl rfl rfl ?_
    refine s_assign rfl rfl rfl rfl ?_
    refine vOrd_nil ?_
    refine Wp.seq ?_
    refine Wp.seq ?_
    refine Wp.region [0, 1, 2, 3] (by kernel_rfl) (by kernel_rfl) ?_
    refine s_move rfl rfl rfl rfl ?_
    refine s_move rfl rfl rfl rfl ?_
    refine s_callT rfl rfl rfl (by kernel_rfl) rfl (hasPrefix_any l p _) ?_
    rintro v w1 rfl l1
    rw [decide_eq_false c]
    refine s_not rfl rfl rfl rfl ?_
    refine vOrd_nil ?_
    refine Wp.condT rfl rfl ?_
    refine Wp.seq ?_
    refine Wp.region [0, 1, 2] (by kernel_rfl) (by kernel_rfl) ?_
    refine s_move rfl rfl rfl rfl ?_
    refine s_assign rfl rfl rfl rfl ?_
    refine s_assign rfl rfl rfl rfl ?_
    refine vOrd_nil ?_
    refine Wp.ret ⟨.inr rfl, fun lW => ⟨_, ⟨_, _, res_tmp (P := Tryd.prog) rfl rfl, res_tmp (P := Tryd.prog) rfl rfl, rfl⟩, _, rfl, ?_, lW⟩⟩
    rfl
theorem cutPrefix_any (l p : List UInt8) (w : World) :
    Calls Tryd.prog 17 #[.string ⟨⟨l⟩⟩, .string ⟨⟨p⟩⟩] w fun e w' => ∃ r, e = .returned r ∧ r = .tuple #[.string ⟨⟨if l.take p.length = p then l.drop p.length else l⟩⟩, .bool (decide (l.take p.length = p))] ∧ Below w.heap.size w w' := by
  refine calls_Wp (args := [_, _]) (n := 11) Tryd.func17 rfl rfl (by simp) ?_
  refine Wp.seq ?_
  refine Wp.region [0, 1] (by kernel_rfl) (by kernel_rfl) ?_
  refine s_assign rfl rfl rfl rfl ?_
  refine s_assign rfl rfl rfl rfl ?_
  refine vOrd_nil ?_
  refine Wp.seq ?_
  refine Wp.region [0, 1, 2, 3, 4, 5, 6] (by kernel_rfl) (by kernel_rfl) ?_
  refine s_move rfl rfl rfl rfl ?_
  refine s_move rfl rfl rfl rfl ?_
  refine s_callT rfl rfl rfl (by kernel_rfl) rfl (cutPrefixLite_any l p _) ?_
  rintro v w1 rfl l1
  refine s_extract rfl rfl rfl rfl rfl ?_
  refine s_extract rfl rfl rfl rfl rfl ?_
  refine s_assign rfl rfl rfl rfl ?_
  refine s_assign rfl rfl rfl rfl ?_
  refine vOrd_nil ?_
  refine Wp.ret ⟨.inr rfl, fun lW => ⟨_, ⟨_, _, res_tmp (P := Tryd.prog) rfl rfl, res_tmp (P := Tryd.prog) rfl rfl, rfl⟩, _, rfl, ?_, lW⟩⟩
  rfl
theorem trimByte_any (l : List UInt8) (w : World) :
    Calls Tryd.prog 34 #[.string ⟨⟨l⟩⟩, .int .u8 48] w fun e w' => ∃ r, e = .returned r ∧ r = .string ⟨⟨l.dropWhile is48⟩⟩ ∧ Below w.heap.size w w' := by
  refine calls_Wp (args := [_, _]) (n := 17) Tryd.func34 rfl rfl (by simp) ?_
  refine Wp.seq ?_
  refine Wp.region [0] (by kernel_rfl) (by kernel_rfl) ?_
  refine s_assign rfl rfl rfl rfl ?_
  refine vOrd_nil ?_
  refine Wp.seq ?_
  refine Wp.block ?_
  refine Wp.loop (fun k st _ => ∃ m : List UInt8, st = St.of [(0, .v (.string ⟨⟨m⟩⟩)), (1, .v (.int .u8 48))] [] ∧ m.dropWhile is48 = l.dropWhile is48 ∧ k = m.length) ?_ ?_
  · exact ⟨_, _, (St.of_le' (env := [(0, .v _), (1, .v _)]) (mem := []) ⟨rfl, rfl, trivial⟩ trivial), l, rfl, rfl, rfl⟩
  · rintro k st w1 ⟨m, rfl, hm, rfl⟩
    refine Wp.seq ?_
    refine Wp.seq ?_
    refine Wp.region [0, 1, 2, 3, 4, 5, 6, 7, 8] (by kernel_rfl) (by kernel_rfl) ?_
    refine s_move rfl rfl rfl rfl ?_
    refine b_len rfl rfl rfl rfl rfl ?_
    refine p_gtr rfl rfl rfl rfl rfl (fun h7 => ?_) (fun h7 => ?_)
    · cases m with
      | nil => simp at h7
      | cons b r =>
      skip
      refine s_move rfl rfl rfl rfl ?_
      refine s_move rfl rfl rfl rfl ?_
      refine b_byte rfl rfl rfl rfl rfl rfl (by omega) ((rfl : (b :: r)[Int.toNat 0]? = some b)) ?_
      refine s_move rfl rfl rfl rfl ?_
      refine p_eql rfl rfl rfl rfl rfl (fun h12 => ?_) (fun h12 => ?_)
      · have hb48 : b = 48 := UInt8.toNat_inj.1 (by have : (48 : UInt8).toNat = 48 := rfl; omega)
        refine s_pick rfl rfl rfl rfl rfl ?_
        refine vOrd_nil ?_
        refine Wp.condT rfl rfl ?_
        refine Wp.skip ?_
        refine Wp.block ?_
        refine Wp.region [0, 1, 2] (by kernel_rfl) (by kernel_rfl) ?_
        refine s_move rfl rfl rfl rfl ?_
        refine b_from rfl rfl rfl rfl rfl rfl (by omega) (by simp; omega) ?_
        refine s_assign rfl rfl rfl rfl ?_
        refine vOrd_nil ?_
        exact ⟨_, _, by simp, (St.of_le' (env := [(0, .v _), (1, .v _)]) (mem := []) ⟨rfl, rfl, trivial⟩ trivial), r, rfl, by rw [← hm, List.dropWhile_cons_of_pos (by simp [is48, hb48])], rfl⟩
      · have hb48 : b ≠ 48 := fun e => h12 (by subst e; rfl)
        refine s_pick rfl rfl rfl rfl rfl ?_
        refine vOrd_nil ?_
        refine Wp.condF rfl rfl ?_
        refine Wp.exit ?_
        refine Wp.seq ?_
        refine Wp.region [0, 1] (by kernel_rfl) (by kernel_rfl) ?_
        refine s_move rfl rfl rfl rfl ?_
        refine s_assign rfl rfl rfl rfl ?_
        refine vOrd_nil ?_
        refine Wp.ret ⟨.inr rfl, fun lW => ⟨_, res_tmp (P := Tryd.prog) rfl rfl, _, rfl, ?_, lW⟩⟩
        rw [← hm, List.dropWhile_cons_of_neg (by simp [is48, hb48])]
    · refine s_move rfl rfl rfl rfl ?_
      refine s_skip rfl rfl rfl ?_
      refine s_skip rfl rfl rfl ?_
      refine s_skip rfl rfl rfl ?_
      refine s_skip rfl rfl rfl ?_
      refine s_pick rfl rfl rfl rfl rfl ?_
      refine vOrd_nil ?_
      refine Wp.condF rfl rfl ?_
      refine Wp.exit ?_
      refine Wp.seq ?_
      refine Wp.region [0, 1] (by kernel_rfl) (by kernel_rfl) ?_
      refine s_move rfl rfl rfl rfl ?_
      refine s_assign rfl rfl rfl rfl ?_
      refine vOrd_nil ?_
      refine Wp.ret ⟨.inr rfl, fun lW => ⟨_, res_tmp (P := Tryd.prog) rfl rfl, _, rfl, ?_, lW⟩⟩
      have e : m = [] := List.eq_nil_of_length_eq_zero (by omega)
      subst e
      rw [← hm]; rfl
theorem trimLeft_any (l : List UInt8) (w : World) :
    Calls Tryd.prog 15 #[.string ⟨⟨l⟩⟩, .string ⟨⟨[48]⟩⟩] w fun e w' => ∃ r, e = .returned r ∧ r = .string ⟨⟨l.dropWhile is48⟩⟩ ∧ Below w.heap.size w w' := by
  refine calls_Wp (args := [_, _]) (n := 37) Tryd.func15 rfl rfl (by simp) ?_
  refine Wp.seq ?_
  refine Wp.region [0] (by kernel_rfl) (by kernel_rfl) ?_
  refine s_assign rfl rfl rfl rfl ?_
  refine vOrd_nil ?_
  refine Wp.seq ?_
  refine Wp.seq ?_
  refine Wp.region [0, 1, 2, 3, 4, 5] (by kernel_rfl) (by kernel_rfl) ?_
  refine s_move rfl rfl rfl rfl ?_
  refine b_eq rfl rfl rfl rfl rfl (fun h8 => ?_) (fun h8 => ?_)
  · refine s_move rfl rfl rfl rfl ?_
    refine s_skip rfl rfl rfl ?_
    refine s_skip rfl rfl rfl ?_
    refine s_pick rfl rfl rfl rfl rfl ?_
    refine vOrd_nil ?_
    refine Wp.condT rfl rfl ?_
    refine Wp.seq ?_
    refine Wp.region [0, 1] (by kernel_rfl) (by kernel_rfl) ?_
    refine s_move rfl rfl rfl rfl ?_
    refine s_assign rfl rfl rfl rfl ?_
    refine vOrd_nil ?_
    refine Wp.ret ⟨.inr rfl, fun lW => ⟨_, res_tmp (P := Tryd.prog) rfl rfl, _, rfl, ?_, lW⟩⟩
    subst h8; rfl
  · refine s_move rfl rfl rfl rfl ?_
    refine s_move rfl rfl rfl rfl ?_
    refine b_eqF rfl rfl rfl rfl rfl (by decide) ?_
    refine s_pick rfl rfl rfl rfl rfl ?_
    refine vOrd_nil ?_
    refine Wp.condF rfl rfl ?_
    refine Wp.skip ?_
    refine Wp.seq ?_
    refine Wp.seq ?_
    refine Wp.region [0, 1, 2, 3, 4, 5, 6, 7] (by kernel_rfl) (by kernel_rfl) ?_
    refine s_move rfl rfl rfl rfl ?_
    refine b_len rfl rfl rfl rfl rfl ?_
    refine t_eql rfl rfl rfl rfl rfl (by decide) ?_
    refine s_move rfl rfl rfl rfl ?_
    refine s_move rfl rfl rfl rfl ?_
    refine b_byte rfl rfl rfl rfl rfl rfl (by omega) ((rfl : ([48] : List UInt8)[Int.toNat 0]? = some 48)) ?_
    refine t_lss rfl rfl rfl rfl rfl (by decide) ?_
    refine s_pick rfl rfl rfl rfl rfl ?_
    refine vOrd_nil ?_
    refine Wp.condT rfl rfl ?_
    refine Wp.seq ?_
    refine Wp.region [0, 1, 2, 3, 4] (by kernel_rfl) (by kernel_rfl) ?_
    refine s_move rfl rfl rfl rfl ?_
    refine s_move rfl rfl rfl rfl ?_
    refine b_byte rfl rfl rfl rfl rfl rfl (by omega) ((rfl : ([48] : List UInt8)[Int.toNat 0]? = some 48)) ?_
    refine s_callT rfl rfl rfl (by kernel_rfl) rfl (trimByte_any l _) ?_
    rintro v w1 rfl l1
    refine s_assign rfl rfl rfl rfl ?_
    refine vOrd_nil ?_
    refine Wp.ret ⟨.inr rfl, fun lW => ⟨_, res_tmp (P := Tryd.prog) rfl rfl, _, rfl, ?_, lW⟩⟩
    rfl
end Go.Proofs.YtpglfepkbkfgoaaDoor
